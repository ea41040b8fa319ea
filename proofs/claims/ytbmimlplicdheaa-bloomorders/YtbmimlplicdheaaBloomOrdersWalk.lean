/- The walk of BloomOrders. -/
import Derived.Test.YtbmimlplicdheaaB10Awake
import Derived.Test.YtbmimlplicdheaaB10Push
namespace Go.Proofs.Ytbmimlplicdheaa
open Go.RowKit
theorem rev_take_succ (l : List ByteArray) (k : Nat) (h : k < l.length) : l.reverse.take (k + 1) = l.reverse.take k ++ [l[l.length - 1 - k]'(by omega)] := by
  rw [List.take_succ_eq_append_getElem (by simpa using h)]
  simp
theorem bs_none (w : World) : BsAt w none 0 0 [] := ⟨rfl, Nat.le_refl _, Nat.zero_le _, fun _ => rfl, fun h => absurd h (Nat.lt_irrefl _)⟩
theorem str_of {w : World} {a : Option Addr} {len cap : Nat} {bs : List UInt8} (h : BsAt w a len cap bs) : (convert 25 9 (.slice a len cap)).run Try.prog w = .ok (.string (strOf bs)) w := h.asStr Try.underlying25 Try.underlying5 Try.underlying9
set_option maxRecDepth 100000 in
set_option maxHeartbeats 1000000 in
theorem bloomOrders_walk (ka : Option Addr) (kn kc : Nat) (keys : List ByteArray) (b : Nat) (w : World) (hk : StAt w ka kn kc keys) (_ : ka = none → kc = 0) (hkc : kc ≤ 8796093021952) (hks : ∀ s ∈ keys, s.size ≤ 140737488351232) :
    Calls Try.prog 7 #[.slice ka kn kc, .float .f64 b] w fun e w' => e = .returned (.bool true) ∧ Below w.heap.size w w' := by
  have hkle := hk.le
  have HK : Hid (StAt w ka kn kc keys) := hk
  clear hk
  go_enter Try.func7, Try.ntmps7
  go_wp2_with fail
  refine (awake_any _).mono ?_
  rintro e w1 ⟨rfl, hb1⟩
  have HB1 : Hid (Below w.heap.size w w1) := hb1
  clear hb1
  go_wp2_with fail
  go_loopw [6, 7] (fun t i wr => ∃ (k : Nat) (a : Option Addr) (c : Nat), k ≤ kn ∧ i = .int .i64 ((kn : Int) - 1 - (k : Int)) ∧ t = .slice a k c ∧ Hid (OwnS wr w1.heap.size a k c (keys.reverse.take k)) ∧ Hid (Below w1.heap.size w1 wr)) (fun _ i _ => ((intOf i) + 1).toNat)
  case atStart => exact ⟨0, none, 0, by omega, by simp, rfl, by simpa [Hid] using OwnS.nil w1 _, Below.refl _ _⟩
  case round =>
    obtain ⟨k, a, c, hkn, rfl, rfl, HO, HB⟩ := hrel
    by_cases hlt : k < kn
    · obtain ⟨kb, ko, rfl, hkcell⟩ := HK.out.here (by omega)
      have hkk : k < keys.length := by rw [HK.out.size]; exact hlt
      obtain ⟨j, hj⟩ : ∃ j : Nat, (kn : Int) - 1 - (k : Int) = (j : Int) := ⟨kn - 1 - k, by omega⟩
      have hjn : j < kn := by omega
      have hz := HK.out.size
      have hkc1 : wr.cell? ⟨kb, ko + j, none⟩ = some (.string (keys[j]'(by omega))) := by
        have := hkcell j hjn
        rw [(HB1.out.trans (HB.out.mono HB1.out.size)).cell (World.block_lt_of_cell? w _ this), this]
        simp [List.getD, hz, hjn]
      have HT : Hid (keys.reverse.take (k + 1) = keys.reverse.take k ++ [keys[j]'(by omega)]) := by
        unfold Hid
        rw [rev_take_succ _ _ hkk]
        congr 3
        omega
      generalize keys[j]'(by omega) = key at *
      clear hkcell hkk hz
      rw [hj]
      have HJ : Hid ((kn : Int) - 1 - (k : Int) = (j : Int)) := hj
      clear hj
      go_wp2_with (at_builtin; refine wpList_pushT wr rfl _ _ rfl w1.heap.size a k c _ rfl HO.out key rfl (by omega) HB.out.size ?_; intro g3 c3 w3 ho3 hg3)
      go_roundw
      case rel =>
        refine ⟨k + 1, _, _, by omega, ?_, rfl, by rw [HT.out]; exact ho3, ?_⟩
        · have := HJ.out
          refine congrArg (Value.int .i64) ?_
          omega
        · exact (HB.out.alloc HB.out.size _).trans ((Below.refl w1.heap.size _).grown hg3 (by have := HB.out.size; simp; omega) (fun x e => HO.out.ge e))
      case measure =>
        have := HJ.out
        simp [intOf]
    · obtain rfl : k = kn := by omega
      have HKR : Hid (StAt wr ka k kc keys) := HK.out.below (HB1.out.trans (HB.out.mono HB1.out.size))
      have HBR : Hid (Below w.heap.size w wr) := HB1.out.trans (HB.out.mono HB1.out.size)
      have hz := HK.out.size
      have HOR : Hid (OwnS wr w1.heap.size a k c keys.reverse) := by
        have := HO.out
        rw [List.take_of_length_le (by rw [List.length_reverse]; omega)] at this
        exact this
      have hneg : decide (0 ≤ (k : Int) - 1 - (k : Int)) = false := by simp; omega
      clear HO HB HK HB1
      cases hok : okB b with
      | false =>
        have hn1 := fun W => build_no ka k kc b W hok
        have hn2 := fun W => build_no a k c b W hok
        have hst : ∀ W : World, (convert 25 9 (.slice none 0 0)).run Try.prog W = .ok (.string (strOf [])) W := fun W => str_of (bs_none W)
        clear hok
        go_wp2_with fail
        refine (hn1 _).mono ?_
        rintro e w2 ⟨rfl, rfl⟩
        go_wp2_with fail
        refine (hn2 _).mono ?_
        rintro e w3 ⟨rfl, rfl⟩
        go_wp2
        go_ret
        exact ⟨rfl, HBR.out⟩
      | true =>
        go_wp2_with fail
        refine (build_yes ka k kc b keys wr HKR.out hks (by omega) hok).mono ?_
        rintro e w2 ⟨a2, c2, rfl, ho2, hb2⟩
        have hkr : ∀ s ∈ keys.reverse, s.size ≤ 140737488351232 := fun s hs => hks s (List.mem_reverse.1 hs)
        have HO2 : Hid (StAt w2 a k c keys.reverse) := HOR.out.st.below hb2
        go_wp2_with fail
        refine (build_yes a k c b keys.reverse w2 HO2.out hkr (by omega) hok).mono ?_
        rintro e w3 ⟨a3, c3, rfl, ho3, hb3⟩
        have hsz : 8 ≤ szN b k ∧ szN b k ≤ 109951162777800 := by
          obtain ⟨_, _, _, _, _, _, _, _, _, _, _, h100, _⟩ := ok_facts hok k (by omega)
          unfold szN
          omega
        have hsame : buildN (keys.reverse.map fun s => s.data.toList) (prN b) (szN b k) = buildN (keys.map fun s => s.data.toList) (prN b) (szN b k) := build_same (by omega) (fun x => by simp)
        rw [hsame] at ho3
        have HSUB : Hid (∀ ks : List ByteArray, (∀ s ∈ ks, s ∈ keys) → ∀ i, ((buildN (ks.map fun s => s.data.toList) (prN b) (szN b k)).getD i 0).toNat &&& ((buildN (keys.map fun s => s.data.toList) (prN b) (szN b k)).getD i 0).toNat = ((buildN (ks.map fun s => s.data.toList) (prN b) (szN b k)).getD i 0).toNat) := by
          intro ks hss i
          refine build_sub (by omega) (fun x hx => ?_) i
          obtain ⟨s, hs, rfl⟩ := List.mem_map.1 hx
          exact List.mem_map.2 ⟨s, hss s hs, rfl⟩
        have HLAST : Hid (∀ ks : List ByteArray, (buildN (ks.map fun s => s.data.toList) (prN b) (szN b k)).getD (szN b k) 0 = UInt8.ofNat (prN b)) := fun ks => buildN_last _ _ _ (by omega)
        generalize hF : buildN (keys.map fun s => s.data.toList) (prN b) (szN b k) = F at *
        have HBY := fun (ad : Option Addr) (cd : Nat) (ks : List ByteArray) (W : World) (h1 : StAt W ad k cd ks) (h2 : ∀ s ∈ ks, s.size ≤ 140737488351232) => build_yes ad k cd b ks W h1 h2 (by omega) hok
        generalize szN b k = sz at *
        have HA3 : Hid (BsAt w3 a2 (sz + 1) c2 F) := ho2.bs.below (Nat.le_refl _) hb3
        have s2 := str_of HA3.out
        have s3 := str_of ho3.bs
        have HK3 : Hid (StAt w3 ka k kc keys) := HKR.out.below (hb2.trans (hb3.mono hb2.size))
        have HB3 : Hid (Below w.heap.size w w3) := HBR.out.trans ((hb2.trans (hb3.mono hb2.size)).mono HBR.out.size)
        have HF0 : Hid (F.getD sz 0 = UInt8.ofNat (prN b)) := by have := HLAST.out keys; rw [hF] at this; exact this
        generalize strOf F = sF at *
        clear ho2 ho3 hb2 hb3 hsame HO2 hkr HOR HKR HBR hF
        obtain ⟨hsz1, hsz2⟩ := hsz
        by_cases hk0 : k = 0
        · subst hk0
          clear HBY HSUB HLAST
          go_wp2
          go_ret
          exact ⟨rfl, HB3.out⟩
        · have hke : ((k : Int) == 0) = false := by simp; omega
          obtain ⟨kb, ko, rfl, hkcell⟩ := HK3.out.here (by omega)
          have hkc0 := hkcell 0 (by omega)
          have HKB : Hid (kb < w3.heap.size) := World.block_lt_of_cell? w3 _ hkc0
          have hm0 : keys.getD 0 ⟨#[]⟩ ∈ keys := by
            have h0 : 0 < keys.length := by omega
            simp [List.getD, h0]
          have HK0 : Hid (w3.cell? ⟨kb, ko, none⟩ = some (.string (keys.getD 0 ⟨#[]⟩))) := hkc0
          generalize keys.getD 0 ⟨#[]⟩ = key at *
          clear hkcell hkc0
          go_wp2_with fail
          go_loopw [12, 13] (fun t i wr => ∃ (m : Nat) (a : Option Addr) (c : Nat), m ≤ k ∧ i = .int .i64 (m : Int) ∧ t = .slice a m c ∧ Hid (OwnS wr w3.heap.size a m c (List.replicate m key)) ∧ Hid (Below w3.heap.size w3 wr)) (fun _ i _ => k - (intOf i).toNat)
          case atStart => exact ⟨0, none, 0, by omega, rfl, rfl, by simpa [Hid] using OwnS.nil w3 _, Below.refl _ _⟩
          case round =>
            obtain ⟨m, a4, c4, hmk, rfl, rfl, HO, HB⟩ := hrel
            by_cases hlt : m < k
            · have hc0 : wr.cell? ⟨kb, ko, none⟩ = some (.string key) := by rw [HB.out.cell HKB.out]; exact HK0.out
              go_wp2_with (at_builtin; refine wpList_pushT wr rfl _ _ rfl w3.heap.size a4 m c4 _ rfl HO.out key rfl (by omega) HB.out.size ?_; intro g5 c5 w5 ho5 hg5)
              go_roundw
              case rel =>
                refine ⟨m + 1, _, _, by omega, by go_num, rfl, by rw [List.replicate_succ']; exact ho5, ?_⟩
                exact (HB.out.alloc HB.out.size _).trans ((Below.refl w3.heap.size _).grown hg5 (by have := HB.out.size; simp; omega) (fun x e => HO.out.ge e))
              case measure => simp [intOf]; omega
            · obtain rfl : m = k := by omega
              go_wp2_with fail
              refine (HBY a4 c4 (List.replicate m key) _ HO.out.st (fun s hs => by rw [(List.mem_replicate.1 hs).2]; exact hks _ hm0)).mono ?_
              rintro e w5 ⟨a5, c5, rfl, ho5, hb5⟩
              have HAN : Hid (∀ i, _) := HSUB.out (List.replicate m key) (fun s hs => by rw [(List.mem_replicate.1 hs).2]; exact hm0)
              have HL5 : Hid (_ = _) := HLAST.out (List.replicate m key)
              generalize buildN ((List.replicate m key).map fun s => s.data.toList) (prN b) sz = G at *
              have HF5 : Hid (BsAt w5 a5 (sz + 1) c5 G) := ho5.bs
              have HA5 : Hid (BsAt w5 a2 (sz + 1) c2 F) := HA3.out.below (Nat.le_refl _) (HB.out.trans (hb5.mono HB.out.size))
              have HB5 : Hid (Below w.heap.size w w5) := HB3.out.trans ((HB.out.trans (hb5.mono HB.out.size)).mono HB3.out.size)
              obtain ⟨b2, o2, rfl, hc2⟩ := HA5.out.here (by omega)
              obtain ⟨b5, o5, rfl, hcc5⟩ := HF5.out.here (by omega)
              have HC2 : Hid (∀ j, j < sz + 1 → w5.cell? ⟨b2, o2 + j, none⟩ = some (.int .u8 ((F.getD j 0).toNat : Int))) := hc2
              have HC5 : Hid (∀ j, j < sz + 1 → w5.cell? ⟨b5, o5 + j, none⟩ = some (.int .u8 ((G.getD j 0).toNat : Int))) := hcc5
              have hq2 := HA5.out.le
              have hq5 := HF5.out.le
              have hm2 := HA5.out.max
              have hm5 := HF5.out.max
              unfold maxLen at hm2 hm5
              clear hc2 hcc5 HA5 HF5 ho5 hb5 HA3 HB3 HK0 HKB HBY HSUB HLAST HK3 HO HB
              go_wp2_with fail
              go_loopw [16] (fun i wr => ∃ j : Nat, j ≤ sz ∧ i = .int .i64 (j : Int) ∧ Hid (Below w5.heap.size w5 wr)) (fun i _ => sz - (intOf i).toNat)
              case atStart => exact ⟨0, by omega, rfl, Below.refl _ _⟩
              case round =>
                obtain ⟨j, hjn, rfl, HB⟩ := hrel
                by_cases hlt : j < sz
                · have y2 := HC2.out j (by omega)
                  have y5 := HC5.out j (by omega)
                  have z2 : wr.cell? ⟨b2, o2 + j, none⟩ = some (.int .u8 ((F.getD j 0).toNat : Int)) := by rw [HB.out.cell (World.block_lt_of_cell? w5 _ y2)]; exact y2
                  have z5 : wr.cell? ⟨b5, o5 + j, none⟩ = some (.int .u8 ((G.getD j 0).toNat : Int)) := by rw [HB.out.cell (World.block_lt_of_cell? w5 _ y5)]; exact y5
                  have hx1 : (F.getD j 0).toNat < 256 := UInt8.toNat_lt _
                  have hx2 : (G.getD j 0).toNat < 256 := UInt8.toNat_lt _
                  have han := nbits_and8 _ _ hx1 hx2
                  rw [Nat.and_comm, HAN.out j] at han
                  generalize (F.getD j 0).toNat = f1 at *
                  generalize (G.getD j 0).toNat = f2 at *
                  clear y2 y5
                  have hnn : ((f2 : Int) != (f2 : Int)) = false := by simp
                  go_wp2
                  go_quiet (fail)
                  go_wp2
                  go_roundw
                  case rel => exact ⟨j + 1, by omega, by go_num, below_drewN HB.out _⟩
                  case measure => simp [intOf]; omega
                · have y2 := HC2.out sz (by omega)
                  have y5 := HC5.out sz (by omega)
                  have z2 : wr.cell? ⟨b2, o2 + sz, none⟩ = some (.int .u8 ((F.getD sz 0).toNat : Int)) := by rw [HB.out.cell (World.block_lt_of_cell? w5 _ y2)]; exact y2
                  have z5 : wr.cell? ⟨b5, o5 + sz, none⟩ = some (.int .u8 ((G.getD sz 0).toNat : Int)) := by rw [HB.out.cell (World.block_lt_of_cell? w5 _ y5)]; exact y5
                  rw [HF0.out] at z2
                  rw [HL5.out] at z5
                  generalize (UInt8.ofNat (prN b)).toNat = f1 at *
                  clear y2 y5
                  go_wp2
                  go_quiet (fail)
                  go_wp2
                  go_ret
                  exact ⟨ret1 (by simp), below_drewN (HB5.out.trans (HB.out.mono HB5.out.size)) _⟩
end Go.Proofs.Ytbmimlplicdheaa
