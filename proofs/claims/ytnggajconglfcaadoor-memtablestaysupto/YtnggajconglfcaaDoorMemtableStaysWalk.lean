/- The walk of MemtableStays. -/
import Derived.Test.YtnggajconglfcaaDoorM8PutF
import Derived.Test.YtnggajconglfcaaDoorM8Law
import Derived.Test.YtnggajconglfcaaDoorM8Eq
import Derived.Deep.DeepCutAuto
import Derived.Deep.RegionHeld3
namespace Go.Proofs.YtnggajconglfcaaDoor
open Go.RowKit
set_option linter.unusedVariables false
set_option linter.unusedSimpArgs false
theorem lget_ins {e : KV} {u : ByteArray} {s : Nat} (h : s < e.1.seq) : ∀ {l : List KV}, lget (insKV e l) u s = lget l u s
  | [] => by
    have hn : decide (e.1.user = u ∧ e.1.seq ≤ s) = false := by
      rw [decide_eq_false_iff_not]
      rintro ⟨_, h2⟩
      omega
    unfold lget insKV
    rw [List.find?_cons, hn]
  | x :: r => by
    have hn : decide (e.1.user = u ∧ e.1.seq ≤ s) = false := by
      rw [decide_eq_false_iff_not]
      rintro ⟨_, h2⟩
      omega
    have ih := lget_ins (u := u) h (l := r)
    unfold lget at ih ⊢
    unfold insKV
    split
    · rw [List.find?_cons, hn]
    · rw [List.find?_cons, List.find?_cons, ih]
theorem PT.add_get (T : PT) (k : IK) (v u : ByteArray) (s : Nat) (h : s < k.seq) : lget (T.add k v).kvs u s = lget T.kvs u s := by
  unfold PT.add
  split
  · exact lget_ins h
  · rfl
set_option maxRecDepth 100000 in
set_option maxHeartbeats 2000000 in
theorem memtableStays_walk (a : Option Addr) (len cap : Nat) (l0 : List KV) (a1 : Option Addr) (len1 cap1 : Nat) (m0 : List KV) (u : ByteArray) (s : Nat) (w : World) (h0 : KsAt w a len cap l0) (hr0 : ∀ e ∈ l0, RawOk e) (_hlen : len ≤ 1048576) (h1 : KsAt w a1 len1 cap1 m0) (hr1 : ∀ e ∈ m0, RawOk e) (hlen1 : len1 ≤ 1048576) (hu : u.size ≤ 1048576) (_hs : (Lit.int .u64 (s : Int)).wf = true) (hg : Glob w) : Calls Tryd.prog 6 #[.slice a len cap, .slice a1 len1 cap1, .string u, .int .u64 (s : Int)] w fun e w' => e = .returned (.bool true) ∧ Below w.heap.size w w' := by
  have HS0 : Hid (KsAt w a len cap l0 ∧ ∀ e ∈ l0, RawOk e) := ⟨h0, hr0⟩
  have HM0 : Hid (KsAt w a1 len1 cap1 m0 ∧ (∀ e ∈ m0, RawOk e) ∧ m0.length = len1) := ⟨h1, hr1, h1.size⟩
  have HG : Hid (Glob w) := hg
  have hcm := h0.max
  have hle := h0.le
  have hcm1 := h1.max
  have hle1 := h1.le
  unfold maxLen at hcm hcm1
  clear h0 hr0 hg _hs h1 hr1
  go_enter Tryd.func6, Tryd.ntmps6
  go_wp2_with fail
  refine (awake_any _ HG.out).mono ?_
  rintro _ w1 ⟨rfl, hb1⟩
  have HB1 : Hid (Below w.heap.size w w1) := hb1
  clear hb1
  go_upto_if 19 with fail
  go_cut [0] (fun x wz => ∃ n : Nat, x = .slice a n cap ∧ n ≤ 300 ∧ n ≤ cap ∧ wz = w1 ∧ Hid (∃ l, KsAt w1 a n cap l ∧ ∀ e ∈ l, RawOk e))
  case first =>
    have HI : Hid (KsAt w1 a len cap l0) := HS0.out.1.below HB1.out
    by_cases hq : 300 < len
    · obtain ⟨b, off, hab, _⟩ := HS0.out.1.here (by omega)
      subst hab
      go_wp2_with fail
      go_meet
      exact ⟨300, rfl, by omega, by omega, rfl, l0.take 300, HI.out.upTo (by omega), fun e he => HS0.out.2 e (List.mem_of_mem_take he)⟩
    · have hq' : decide ((300 : Int) < (len : Int)) = false := by simp; omega
      go_wp2_with fail
      go_meet
      exact ⟨len, rfl, by omega, hle, rfl, l0, HI.out, HS0.out.2⟩
  case rest =>
    obtain ⟨n, rfl, hn, hnc, rfl, HL⟩ := hcut
    obtain ⟨l, hl1, hl2⟩ := HL.out
    have hlen := hl1.size
    have HK : Hid (KsAt wc a n cap l ∧ (∀ e ∈ l, RawOk e) ∧ l.length = n ∧ Glob wc) := ⟨hl1, hl2, hlen, HG.out.of_below0 HB1.out⟩
    have HM1 : Hid (KsAt wc a1 len1 cap1 m0) := HM0.out.1.below HB1.out
    clear hl1 hl2 hlen HL HS0 hle _hlen
    go_wp2_with fail
    refine (added_at put_any (by decide) HK.out.1 HK.out.2.1 (by omega) false HK.out.2.2.2).mono ?_
    rintro _ v1 ⟨p, G, rfl, ha⟩
    have HA1 : Hid (Own8 wc v1 p (PT.new.adds (orderOf false l)) G) := ha
    have hTl : (PT.new.adds (orderOf false l)).kvs.length ≤ 300 := by
      have h1 := PT.adds_len (orderOf false l) PT.new
      have h2 : PT.new.kvs.length = 0 := rfl
      have h3 : (orderOf false l).length = l.length := rfl
      have := HK.out.2.2.1
      omega
    generalize PT.new.adds (orderOf false l) = T0 at HA1 hTl
    clear ha
    go_wp2_with fail
    refine (get_at HA1.out.at' u s hu (by omega) (HA1.out.glob HK.out.2.2.2)).mono ?_
    rintro _ v2 ⟨rfl, hb2⟩
    have HA2 : Hid (Own8 wc v2 p T0 G) := HA1.out.below hb2
    clear hb2 HA1
    generalize hgg : told (lget T0.kvs u s) = gg
    have HGG : Hid (told (lget T0.kvs u s) = gg) := hgg
    clear hgg
    obtain ⟨gx, gm⟩ := gg
    go_wp2_with fail
    go_loopw [13] (fun x wr => ∃ i : Nat, i ≤ len1 ∧ x = .int .i64 (i : Int) ∧ Hid (∃ (T : PT) (G : TG), Own8 wc wr p T G ∧ lget T.kvs u s = lget T0.kvs u s ∧ T.kvs.length ≤ 300 + i)) (fun x _ => len1 - (intOf x).toNat)
    case atStart => exact ⟨0, Nat.zero_le _, rfl, T0, G, HA2.out, rfl, by omega⟩
    case round =>
      obtain ⟨i, hi, rfl, HI⟩ := hrel
      obtain ⟨T, G1, hO, hget, hTn⟩ := HI.out
      by_cases hin : i < len1
      · have hil : i < m0.length := by rw [HM0.out.2.2]; exact hin
        have hkb : KsAt wr a1 len1 cap1 m0 := HM1.out.below hO.base
        obtain ⟨b, off, hab, hc⟩ := hkb.cells4 (by omega)
        obtain ⟨c0, c1, c2, c3⟩ := hc i hil
        have hidx := fun W => idxKV W (a := a1) (b := b) (off := off) (n := len1) (c := cap1) hab hin
        have hraw := HM0.out.2.1 _ (List.getElem_mem hil)
        have HCell : Hid (∀ W : World, Below wc.heap.size wc W → W.cell? ⟨b, off + i * 4, none⟩ = some (.string m0[i].1.user) ∧ W.cell? ⟨b, off + i * 4 + 1, none⟩ = some (.int .u64 (m0[i].1.seq : Int)) ∧ W.cell? ⟨b, off + i * 4 + 2, none⟩ = some (.int .i64 m0[i].1.kind) ∧ W.cell? ⟨b, off + i * 4 + 3, none⟩ = some (.string m0[i].2)) := fun W hW => by
          obtain ⟨b', off', hb', hc'⟩ := (HM1.out.below hW).cells4 (by omega)
          rw [hab] at hb'
          simp only [Option.some.injEq, Addr.mk.injEq] at hb'
          obtain ⟨rfl, rfl, _⟩ := hb'
          exact hc' i hil
        have HRaw : Hid (RawOk m0[i]) := hraw
        generalize m0[i] = e at c0 c1 c2 c3 HCell HRaw
        have HO1 : Hid (Own8 wc wr p T G1 ∧ lget T.kvs u s = lget T0.kvs u s ∧ T.kvs.length ≤ 300 + i) := ⟨hO, hget, hTn⟩
        clear hc hab hkb hraw hO hget hTn HI
        by_cases hsq : s < e.1.seq
        · have hq : decide ((s : Int) < (e.1.seq : Int)) = true := decide_eq_true (by omega)
          have HA : Hid (∀ W : World, Own8 wc W p T G1 → Calls Tryd.prog 11 #[at_ p, .agg #[.string e.1.user, .int .u64 (e.1.seq : Int), .int .i64 e.1.kind], .string e.2] W fun er w' => ∃ x : Int, er = .returned (.int .i64 x) ∧ ∃ G, Own8 wc w' p (T.add e.1 e.2) G) := fun W hW => by
            refine (add_own put_any (by decide) HK.out.2.2.2 hW e.1 e.2 (by have := HRaw.out.key.user; unfold maxLen at this; omega) HRaw.out.val (by have := HO1.out.2.2; omega)).mono ?_
            rintro _ w' ⟨rfl, G', ho, _⟩
            exact ⟨_, rfl, G', ho⟩
          have HT : Hid (lget (T.add e.1 e.2).kvs u s = lget T0.kvs u s ∧ (T.add e.1 e.2).kvs.length ≤ 300 + (i + 1)) := ⟨by rw [PT.add_get _ _ _ _ _ hsq]; exact HO1.out.2.1, by have := T.add_len e.1 e.2; have := HO1.out.2.2; omega⟩
          have HO2 : Hid (Own8 wc wr.drew p T G1) := HO1.out.1.below (Below.refl _ _).drew
          have y0 : wr.drew.cell? ⟨b, off + i * 4, none⟩ = some (.string e.1.user) := c0
          have y1 : wr.drew.cell? ⟨b, off + i * 4 + 1, none⟩ = some (.int .u64 (e.1.seq : Int)) := c1
          have y2 : wr.drew.cell? ⟨b, off + i * 4 + 2, none⟩ = some (.int .i64 e.1.kind) := c2
          have y3 : wr.drew.cell? ⟨b, off + i * 4 + 3, none⟩ = some (.string e.2) := c3
          go_wp2_with fail
          go_region_held3 (fun W => W.cell? ⟨b, off + i * 4, none⟩ = some (.string e.1.user) ∧ W.cell? ⟨b, off + i * 4 + 1, none⟩ = some (.int .u64 (e.1.seq : Int)) ∧ W.cell? ⟨b, off + i * 4 + 2, none⟩ = some (.int .i64 e.1.kind) ∧ W.cell? ⟨b, off + i * 4 + 3, none⟩ = some (.string e.2)) (first | exact ⟨y0, y1, y2, y3⟩ | go_keep)
            (first
             | (go_at_call 11; refine (HA.out _ HO2.out).mono ?_; rintro _ vx ⟨er, rfl, G3, hx⟩
                have HO3 : Hid (Own8 wc vx p (T.add e.1 e.2) G3) := hx
                obtain ⟨y0, y1, y2, y3⟩ := HCell.out _ hx.base
                clear hx))
          go_wp2
          go_roundw
          case rel => exact ⟨i + 1, hin, by go_num, _, _, HO3.out, HT.out.1, HT.out.2⟩
          case measure => simp only [intOf]; omega
        · have hq : decide ((s : Int) < (e.1.seq : Int)) = false := decide_eq_false (by omega)
          go_wp2
          go_roundw
          case rel => exact ⟨i + 1, hin, by go_num, _, _, HO1.out.1, HO1.out.2.1, by have := HO1.out.2.2; omega⟩
          case measure => simp only [intOf]; omega
      · have HO1 : Hid (Own8 wc wr p T G1) := hO
        have HGt := get_at hO.at' u s hu (by omega) (hO.glob HK.out.2.2.2)
        rw [hget, HGG.out] at HGt
        clear hO hget hTn HI
        go_wp2_with fail
        refine HGt.mono ?_
        rintro _ v3 ⟨rfl, hb3⟩
        have HF : Hid (Below w.heap.size w v3) := (HB1.out.trans (HO1.out.base.mono HB1.out.size)).trans (hb3.mono (HB1.out.trans (HO1.out.base.mono HB1.out.size)).size)
        clear hb3 HGt
        go_wp2
        go_ret
        exact ⟨ret1 rfl, HF.out⟩
end Go.Proofs.YtnggajconglfcaaDoor
