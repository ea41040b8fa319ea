/- The walk of BloomHolds. -/
import Derived.Test.YtbmimlplicdheaaB10Awake
import Derived.Test.YtbmimlplicdheaaB10Push
namespace Go.Proofs.Ytbmimlplicdheaa
open Go.RowKit
set_option maxRecDepth 100000 in
set_option maxHeartbeats 1000000 in
theorem bloomHolds_walk (ka : Option Addr) (kn kc : Nat) (keys : List ByteArray) (b : Nat) (s : ByteArray) (w : World) (hk : StAt w ka kn kc keys) (hkb : ka = none → kc = 0) (hkc : kc ≤ 8796093021952) (hks : ∀ s ∈ keys, s.size ≤ 140737488351232) (hs : s.size ≤ 140737488351232) :
    Calls Try.prog 6 #[.slice ka kn kc, .float .f64 b, .string s] w fun e w' => e = .returned (.bool true) ∧ Below w.heap.size w w' := by
  have hkle := hk.le
  cases hok : okB b with
  | false =>
    have hno := fun W => build_no ka kn kc b W hok
    clear hok
    go_enter Try.func6, Try.ntmps6
    go_wp2_with (first
      | (go_at_call 8; refine (awake_any _).mono ?_; rintro e w1 ⟨rfl, hb1⟩)
      | (go_at_call 9; refine (hno _).mono ?_; rintro e w2 ⟨rfl, rfl⟩))
    go_ret
    exact ⟨rfl, hb1⟩
  | true =>
    go_enter Try.func6, Try.ntmps6
    go_wp2_with fail
    refine (awake_any _).mono ?_
    rintro e w1 ⟨rfl, hb1⟩
    have hk1 := hk.below hb1
    go_wp2_with fail
    refine (build_yes ka kn kc b keys w1 hk1 hks (by omega) hok).mono ?_
    rintro e w2 ⟨a2, c2, rfl, ho2, hb2⟩
    obtain ⟨_, _, _, _, _, _, hp100, _⟩ := ok_facts hok kn (by omega)
    have hpr : prN b < 256 := by unfold prN; omega
    have hsz : 8 ≤ szN b kn := by unfold szN; omega
    have hsm := szN_mono b (show kn ≤ kn + 1 by omega)
    have hsz2 : szN b (kn + 1) ≤ 109951162777800 := by
      obtain ⟨_, _, _, _, _, _, _, _, _, _, _, h100, _⟩ := ok_facts hok (kn + 1) (by omega)
      unfold szN
      omega
    have HMAY : Hid (∀ k ∈ keys, mayN (buildN (keys.map fun s => s.data.toList) (prN b) (szN b kn)) k.data.toList = true) := fun k hkm => may_build _ _ _ (by omega) hpr (List.mem_map.2 ⟨k, hkm, rfl⟩)
    have HAND : Hid (szN b (kn + 1) = szN b kn → ∀ i, ((buildN (keys.map fun s => s.data.toList) (prN b) (szN b kn)).getD i 0).toNat &&& ((buildN ((keys ++ [s]).map fun s => s.data.toList) (prN b) (szN b (kn + 1))).getD i 0).toNat = ((buildN (keys.map fun s => s.data.toList) (prN b) (szN b kn)).getD i 0).toNat) := by
      intro e i
      rw [e]
      exact build_sub (by omega) (fun k hkm => by rw [List.map_append]; exact List.mem_append_left _ hkm) i
    generalize hF : buildN (keys.map fun s => s.data.toList) (prN b) (szN b kn) = F at *
    have HB2 : Hid (Below w.heap.size w w2) := hb1.trans (hb2.mono hb1.size)
    have HK : Hid (StAt w ka kn kc keys) := hk
    have HBS : Hid (BsAt w2 a2 (szN b kn + 1) c2 F) := ho2.bs
    have HOK : Hid (okB b = true) := hok
    generalize hZ : szN b kn = sz at *
    have HZ : Hid (szN b kn = sz) := hZ
    clear hF hZ hk hk1 ho2 hb1 hb2 hok hp100
    go_wp2_with fail
    go_loopw [10] (fun i wr => ∃ k : Nat, k ≤ kn ∧ i = .int .i64 (k : Int) ∧ Hid (Below w2.heap.size w2 wr)) (fun i _ => kn - (intOf i).toNat)
    case atStart => exact ⟨0, by omega, rfl, Below.refl _ _⟩
    case round =>
      obtain ⟨k, hkn, rfl, HB⟩ := hrel
      by_cases hlt : k < kn
      · obtain ⟨kb, ko, rfl, hkcell⟩ := HK.out.here (by omega)
        have hkk : k < keys.length := by rw [HK.out.size]; exact hlt
        have hkc1 : wr.cell? ⟨kb, ko + k, none⟩ = some (.string keys[k]) := by
          have := hkcell k hlt
          rw [(HB2.out.trans (HB.out.mono HB2.out.size)).cell (World.block_lt_of_cell? w _ this), this]
          simp [List.getD, hkk]
        have hm := may_any a2 (sz + 1) c2 F keys[k] wr (HBS.out.below (Nat.le_refl _) HB.out) (by omega) (hks _ (List.getElem_mem hkk))
        rw [HMAY.out _ (List.getElem_mem hkk)] at hm
        generalize keys[k] = key at *
        clear hkcell
        go_wp2_with (go_at_call 13; refine hm.mono ?_; rintro e w3 ⟨rfl, hb3⟩)
        go_roundw
        case rel => exact ⟨k + 1, by omega, by go_num, HB.out.trans (hb3.mono HB.out.size)⟩
        case measure => simp [intOf]; omega
      · have HKW : Hid (StAt wr ka kn kc keys) := HK.out.below (HB2.out.trans (HB.out.mono HB2.out.size))
        have HBW : Hid (BsAt wr a2 (sz + 1) c2 F) := HBS.out.below (Nat.le_refl _) HB.out
        have HBLW : Hid (Below w.heap.size w wr) := HB2.out.trans (HB.out.mono HB2.out.size)
        clear HB2 HBS HB HK
        go_wp2_with (first
          | (at_builtin; refine wpList_app0S wr rfl _ _ rfl rfl ka kn kc keys rfl HKW.out hkb (by omega) ?_; intro a3 c3 w3 ho3 hb3)
          | (at_builtin; refine wpList_pushT w3 rfl _ _ rfl wr.heap.size a3 kn c3 keys rfl ho3 s rfl (by omega) hb3.size ?_; intro g4 c4 w4 ho4 hg4))
        have hb4 : Below wr.heap.size wr w4 := (hb3.alloc hb3.size _).trans ((Below.refl wr.heap.size _).grown hg4 (by have := hb3.size; simp; omega) (fun k e => (ho3.ge e)))
        refine (build_yes _ _ _ b (keys ++ [s]) w4 ho4.st (by
          intro x hx
          rcases List.mem_append.1 hx with hx | hx
          · exact hks x hx
          · rw [List.mem_singleton.1 hx]
            exact hs) (by omega) HOK.out).mono ?_
        rintro e w5 ⟨a5, c5, rfl, ho5, hb5⟩
        have HB5 : Hid (Below w.heap.size w w5) := HBLW.out.trans ((hb4.trans (hb5.mono hb4.size)).mono HBLW.out.size)
        have HA5 : Hid (BsAt w5 a2 (sz + 1) c2 F) := HBW.out.below (Nat.le_refl _) (hb4.trans (hb5.mono hb4.size))
        have HC5 := ho5.bs
        generalize hF' : buildN ((keys ++ [s]).map fun s => s.data.toList) (prN b) (szN b (kn + 1)) = F' at *
        generalize szN b (kn + 1) = sz' at *
        have HF5 : Hid (BsAt w5 a5 (sz' + 1) c5 F') := HC5
        clear HC5 ho5 hb5 hb4 hg4 ho4 ho3 hb3 hF' HKW HBW HBLW HMAY
        by_cases hne : sz' = sz
        · subst hne
          have HAN : Hid (∀ i, (F.getD i 0).toNat &&& (F'.getD i 0).toNat = (F.getD i 0).toNat) := HAND.out rfl
          clear HAND
          obtain ⟨b2, o2, rfl, hc2⟩ := HA5.out.here (by omega)
          obtain ⟨b5, o5, rfl, hc5⟩ := HF5.out.here (by omega)
          have HC2 : Hid (∀ j, j < sz' + 1 → w5.cell? ⟨b2, o2 + j, none⟩ = some (.int .u8 ((F.getD j 0).toNat : Int))) := hc2
          have HC5 : Hid (∀ j, j < sz' + 1 → w5.cell? ⟨b5, o5 + j, none⟩ = some (.int .u8 ((F'.getD j 0).toNat : Int))) := hc5
          have hq2 := HA5.out.le
          have hq5 := HF5.out.le
          have hm2 := HA5.out.max
          have hm5 := HF5.out.max
          unfold maxLen at hm2 hm5
          clear hc2 hc5 HA5 HF5
          go_wp2_with fail
          go_loopw [14] (fun i wr => ∃ k : Nat, k ≤ sz' + 1 ∧ i = .int .i64 (k : Int) ∧ Hid (Below w5.heap.size w5 wr)) (fun i _ => sz' + 1 - (intOf i).toNat)
          case atStart => exact ⟨0, by omega, rfl, Below.refl _ _⟩
          case round =>
            obtain ⟨j, hjn, rfl, HB⟩ := hrel
            by_cases hlt : j < sz' + 1
            · have y2 := HC2.out j hlt
              have y5 := HC5.out j hlt
              have z2 : wr.cell? ⟨b2, o2 + j, none⟩ = some (.int .u8 ((F.getD j 0).toNat : Int)) := by rw [HB.out.cell (World.block_lt_of_cell? w5 _ y2)]; exact y2
              have z5 : wr.cell? ⟨b5, o5 + j, none⟩ = some (.int .u8 ((F'.getD j 0).toNat : Int)) := by rw [HB.out.cell (World.block_lt_of_cell? w5 _ y5)]; exact y5
              have hx1 : (F.getD j 0).toNat < 256 := UInt8.toNat_lt _
              have hx2 : (F'.getD j 0).toNat < 256 := UInt8.toNat_lt _
              have han := nbits_and8 _ _ hx1 hx2
              rw [HAN.out j] at han
              generalize (F.getD j 0).toNat = f1 at *
              generalize (F'.getD j 0).toNat = f2 at *
              clear y2 y5
              have hnn : ((f1 : Int) != (f1 : Int)) = false := by simp
              go_wp2
              go_quiet (fail)
              go_wp2
              go_roundw
              case rel => exact ⟨j + 1, by omega, by go_num, below_drewN HB.out _⟩
              case measure => simp [intOf]; omega
            · go_wp2
              go_ret
              exact ⟨rfl, HB5.out.trans (HB.out.mono HB5.out.size)⟩
        · have hq : sz < sz' := by omega
          have hnq : (((sz' : Int) + 1) != ((sz : Int) + 1)) = true := by simp; omega
          go_wp2
          go_ret
          exact ⟨ret1 (by simp), HB5.out⟩
end Go.Proofs.Ytbmimlplicdheaa
