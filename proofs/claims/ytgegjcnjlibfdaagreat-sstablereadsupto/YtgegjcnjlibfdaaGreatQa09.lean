/- The contracts of sstable's blockBytes, usersOf and entriesOf. -/
import Derived.Test.YtgegjcnjlibfdaaGreatQa07
import Derived.Test.YtgegjcnjlibfdaaGreatC11BuildB
import Derived.Test.YtgegjcnjlibfdaaGreatC11FindA
import Derived.Test.YtgegjcnjlibfdaaGreatQa02
import Derived.Test.YtgegjcnjlibfdaaGreatQa06
namespace Go.Proofs.YtgegjcnjlibfdaaGreat
set_option maxRecDepth 100000
open Go.RowKit
set_option linter.unusedVariables false
set_option linter.unusedSimpArgs false
theorem wfl_ok {l : List KV} (h : chkL l = 0) : WfL l := fun e he => by
  have h1 := (chkL_zero.1 h).1 e he
  have h2 := err_le h1.1
  have h3 := h1.2
  exact ⟨by omega, by omega⟩
set_option maxHeartbeats 1000000 in
theorem blk_yes (a : Option Addr) (n c : Nat) (l : List KV) (iv : Nat) (hi1 : 1 ≤ iv) (hi16 : iv ≤ 16) (w : World) (h : KsAt w a n c l) (hbare : a = none → c = 0) (hspot : ∀ x, a = some x → x.spot = none) (hn : n ≤ 1000000) (he : chkL l = 0) :
    Calls Tryz.prog 64 #[.slice a n c, .int .i64 (iv : Int)] w fun r w' => ∃ a' c', r = .returned (.slice a' (layP iv l).length c') ∧ OwnB w' w.heap.size a' (layP iv l).length c' (layP iv l) ∧ Below w.heap.size w w' := by
  have hb := build_yes a n c l iv hi1 hi16 w h hbare hspot hn (wfl_ok he) he
  generalize layP iv l = L at *
  clear h hbare hspot he
  go_enter Tryz.func64, Tryz.ntmps64
  go_wp2_with fail
  refine hb.mono ?_
  rintro _ w1 ⟨a', c', rfl, ho, hbl⟩
  have H : Hid (OwnB w1 w.heap.size a' L.length c' L ∧ Below w.heap.size w w1) := ⟨ho, hbl⟩
  clear ho hbl hb
  go_wp2
  go_ret
  exact ⟨a', c', ret1 rfl, H.out⟩
theorem idxSt (lb : Nat) {j n c : Nat} (hj : j < n) (W : World) : (Instr.indexAt 61 (.slice (some ⟨lb, 0, none⟩) n c) (.int .i64 (j : Int))).run Tryz.prog W = .ok (.pointer (some ⟨lb, j, none⟩)) W := by
  have h1 : (0 : Int) ≤ (j : Int) ∧ (j : Int) < (n : Int) := by omega
  have hsz : (sizeOf (Tryz.prog.elem 61)).run Tryz.prog W = .ok 1 W := by kernel_rfl
  rw [run_indexAt_slice (P := Tryz.prog) (h := (by kernel_rfl : Tryz.prog.underlying 61 = some (.slice (Tryz.prog.elem 61)))), if_pos h1, hsz]
  simp [Result.andThen, Addr.add_lit]
theorem made_st (n : Nat) (hn : n ≤ 5864062014805) (w : World) : ∃ arr : Array Value, arr.size = n ∧ (Instr.makeSlice 61 (.int .i64 (n : Int)) (.int .i64 (n : Int))).run Tryz.prog w = .ok (.slice (some ⟨w.heap.size, 0, none⟩) n n) (w.alloc (.cells arr 9)) := by
  obtain ⟨i, hi, hzz⟩ := Option.map_eq_some_iff.1 infoS
  simp only [Prod.mk.injEq] at hzz
  obtain ⟨hz, hs, hb⟩ := hzz
  have hr := run_make (P := Tryz.prog) w 61 9 i _ Tryz.underlying61 hi hz .i64 .i64 n n (by omega) (Int.le_refl _) (by rw [hb]; omega) (by omega)
  simp only [Int.toNat_natCast, hs] at hr
  exact ⟨_, by simp [madeCells], hr⟩
def usersL (l : List KV) : List ByteArray := l.map (·.1.user)
set_option maxHeartbeats 2000000 in
theorem users_any (a : Option Addr) (n c : Nat) (l : List KV) (w : World) (h : KsAt w a n c l) (hn : n ≤ 1000000000) :
    Calls Tryz.prog 23 #[.slice a n c] w fun e w' => ∃ a' c', e = .returned (.slice a' n c') ∧ StAt w' a' n c' (usersL l) ∧ Below w.heap.size w w' := by
  have HS : Hid (KsAt w a n c l ∧ l.length = n) := ⟨h, h.size⟩
  have hmx := h.max
  unfold maxLen at hmx
  have hle := h.le
  clear h
  obtain ⟨arr0, hz0, hmk⟩ := made_st n (by omega) w
  have HX : Hid (Below w.heap.size w (w.alloc (.cells arr0 9)) ∧ Box (w.alloc (.cells arr0 9)) w.heap.size 9 arr0 ∧ arr0.size = n) := ⟨(Below.refl _ _).alloc (Nat.le_refl _) _, Box.new _ _ _, hz0⟩
  clear hz0
  go_enter Tryz.func23, Tryz.ntmps23
  go_wp2_with fail
  clear hmk
  go_loopw [11] (fun s wr => ∃ k : Nat, k ≤ n ∧ s = .int .i64 (k : Int) ∧ Hid (Below w.heap.size w wr ∧ ∃ arr, Box wr w.heap.size 9 arr ∧ arr.size = n ∧ ∀ j, j < k → arr[j]? = ((usersL l)[j]?).map Value.string)) (fun s _ => n - (intOf s).toNat)
  case atStart => exact ⟨0, Nat.zero_le _, rfl, HX.out.1, arr0, HX.out.2.1, HX.out.2.2, fun j hj => absurd hj (Nat.not_lt_zero _)⟩
  case round =>
    obtain ⟨k, hk, rfl, HR⟩ := hrel
    by_cases hkn : k < n
    · have hkl : k < l.length := by rw [HS.out.2]; exact hkn
      obtain ⟨b, off, hab, hc⟩ := (HS.out.1.below (w' := w) (Below.refl _ _)).cells4 (by omega)
      obtain ⟨c0, c1, c2, c3⟩ := hc k hkl
      have HB : Hid (b < w.heap.size) := World.block_lt_of_cell? w _ c0
      have hidx := fun W => idxKV W (a := a) (b := b) (off := off) (n := n) (c := c) hab hkn
      have hidx2 := fun W => idxSt w.heap.size (n := n) (c := n) hkn W
      have HU : Hid ((usersL l)[k]? = some l[k].1.user) := by simp [Hid, usersL, hkl]
      generalize l[k] = e at c0 c1 c2 c3 HU
      obtain ⟨r1, arr, r2, r3, r4⟩ := HR.out
      have HQ : Hid (Below w.heap.size w wr ∧ Box wr w.heap.size 9 arr ∧ arr.size = n ∧ ∀ j, j < k → arr[j]? = ((usersL l)[j]?).map Value.string) := ⟨r1, r2, r3, r4⟩
      have d0 : wr.cell? ⟨b, off + k * 4, none⟩ = some (.string e.1.user) := by rw [r1.cell HB.out]; exact c0
      have d1 : wr.cell? ⟨b, off + k * 4 + 1, none⟩ = some (.int .u64 (e.1.seq : Int)) := by rw [r1.cell HB.out]; exact c1
      have d2 : wr.cell? ⟨b, off + k * 4 + 2, none⟩ = some (.int .i64 e.1.kind) := by rw [r1.cell HB.out]; exact c2
      have d3 : wr.cell? ⟨b, off + k * 4 + 3, none⟩ = some (.string e.2) := by rw [r1.cell HB.out]; exact c3
      have q0 := r2.soft k
      obtain ⟨y0, m0⟩ : ∃ y, wr.cell? ⟨w.heap.size, k, none⟩ = some y := ⟨arr[k]'(by omega), by rw [r2.cell]; simp [r3, hkn]⟩
      have hlt := r2.lt
      have hwr : w.heap.size < wr.heap.size := r2.lt
      clear r1 r2 r3 r4 hc hab c0 c1 c2 c3 HR
      go_wp2
      go_roundw
      case rel =>
        refine ⟨k + 1, hkn, by go_num, ?_, _, (HQ.out.2.1.set k _).alloc _, ?_, fun j hj => ?_⟩
        · have hb := HQ.out.1.setCell (p := ⟨w.heap.size, k, none⟩) (Nat.le_refl _) (.string e.1.user)
          exact hb.alloc hb.size _
        · rw [Array.size_setIfInBounds]; exact HQ.out.2.2.1
        · rw [Array.getElem?_setIfInBounds]
          by_cases hjk : k = j
          · subst hjk
            rw [if_pos rfl, if_pos (by rw [HQ.out.2.2.1]; exact hkn), HU.out]
            rfl
          · rw [if_neg hjk]
            exact HQ.out.2.2.2 j (by omega)
      case measure => simp only [intOf]; omega
    · go_wp2
      go_ret
      obtain ⟨r1, arr, r2, r3, r4⟩ := HR.out
      obtain rfl : k = n := by omega
      refine ⟨some ⟨w.heap.size, 0, none⟩, k, ret1 rfl, ⟨by rw [usersL, List.length_map]; exact HS.out.2, Nat.le_refl _, by unfold maxLen; omega, fun hp => ⟨w.heap.size, 0, rfl, fun j hj => ?_⟩⟩, r1⟩
      rw [Nat.zero_add, r2.cell, r4 j hj]
      have hju : j < (usersL l).length := by rw [usersL, List.length_map, HS.out.2]; exact hj
      simp [List.getD, hju]
theorem own_boxedK {w : World} {B g n : Nat} {arr : Array Value} {l : List KV} (h : Box w g TKV arr) (hB : B ≤ g) (hn : l.length = n) (hs : arr.size = n * 4) (hc : ∀ j, j < n * 4 → arr[j]? = (cellsKV l)[j]?) (hl : n ≤ 2000000000000) : OwnK w B (some ⟨g, 0, none⟩) n n l := by
  have he : arr.toList = cellsKV l := by
    apply List.ext_getElem?
    intro j
    by_cases hj : j < n * 4
    · rw [Array.getElem?_toList]
      exact hc j hj
    · rw [List.getElem?_eq_none (by simp; omega), List.getElem?_eq_none (by rw [cellsKV_len]; omega)]
  refine ⟨hn, by rw [cellsKV_len, hn], .inr ⟨g, n, arr, rfl, hB, h, Nat.le_refl _, by unfold maxLen; omega, by omega, ?_⟩⟩
  rw [he]
  exact List.take_of_length_le (Nat.le_of_eq (by rw [cellsKV_len, hn]))
set_option maxHeartbeats 2000000 in
theorem entries12 {w : World} {B p iv : Nat} {l : List KV} (h : GB w B p iv l) (hn : l.length ≤ 1000000000) :
    Calls Tryz.prog 42 #[at_ p] w fun e w' => ∃ a' c', e = .returned (.slice a' l.length c') ∧ OwnK w' w.heap.size a' l.length c' l ∧ Below w.heap.size w w' := by
  have HS : Hid (GB w B p iv l) := h
  have hlen := len_any h.bk
  obtain ⟨arr0, hz0, hmk⟩ := made_kv l.length (by omega) w
  have HX : Hid (Below w.heap.size w (w.alloc (.cells arr0 TKV)) ∧ Box (w.alloc (.cells arr0 TKV)) w.heap.size TKV arr0 ∧ arr0.size = l.length * 4) := ⟨(Below.refl _ _).alloc (Nat.le_refl _) _, Box.new _ _ _, hz0⟩
  have HA : Hid (∀ (k : Nat) (hk : k < l.length) (W : World), Below w.heap.size w W → Calls Tryz.prog 50 #[at_ p, .int .i64 (k : Int)] W fun r w' => r = .returned (.tuple #[.agg #[.string l[k].1.user, .int .u64 (l[k].1.seq : Int), .int .i64 l[k].1.kind, .string l[k].2], .int .i64 0]) ∧ Below W.heap.size W w') := fun k hk W hW => at_yes (HS.out.below hW) hk
  have HC : Hid (∀ (k i : Nat) (hk : k < l.length), i < 4 → (cellsKV l)[k * 4 + i]? = (kvc l[k])[i]?) := fun k i hk hi => cellsKV_get l k i hk hi
  have HN : Hid (∀ (k : Nat), k < l.length → ∃ e : KV, (∀ W : World, Below w.heap.size w W → Calls Tryz.prog 50 #[at_ p, .int .i64 (k : Int)] W fun r w' => r = .returned (.tuple #[.agg #[.string e.1.user, .int .u64 (e.1.seq : Int), .int .i64 e.1.kind, .string e.2], .int .i64 0]) ∧ Below W.heap.size W w') ∧ ∀ i, i < 4 → (cellsKV l)[k * 4 + i]? = (kvc e)[i]?) := fun k hk => ⟨l[k], HA.out k hk, fun i hi => HC.out k i hk hi⟩
  clear hz0 h HA HC
  obtain ⟨n, HLN⟩ : ∃ n, Hid (l.length = n) := ⟨_, (rfl : l.length = l.length)⟩
  rw [HLN.out] at hn hmk hlen HX HN ⊢
  go_enter Tryz.func42, Tryz.ntmps42
  go_wp2_with fail
  refine hlen.mono ?_
  rintro _ w1 ⟨rfl, hw⟩
  obtain rfl : w = w1 := hw
  clear hlen
  go_wp2_with fail
  clear hmk
  go_loopw [10] (fun s wr => ∃ k : Nat, k ≤ n ∧ s = .int .i64 (k : Int) ∧ Hid (Below w.heap.size w wr ∧ ∃ arr, Box wr w.heap.size TKV arr ∧ arr.size = n * 4 ∧ ∀ j, j < k * 4 → arr[j]? = (cellsKV l)[j]?)) (fun s _ => n - (intOf s).toNat)
  case atStart => exact ⟨0, Nat.zero_le _, rfl, HX.out.1, arr0, HX.out.2.1, HX.out.2.2, fun j hj => by omega⟩
  case round =>
    obtain ⟨k, hk, rfl, HR⟩ := hrel
    by_cases hkn : k < n
    · obtain ⟨e, he1, he2⟩ := HN.out k hkn
      have HC : Hid (∀ i, i < 4 → (cellsKV l)[k * 4 + i]? = (kvc e)[i]?) := he2
      have hidx2 := fun W => idxKV W (a := some ⟨w.heap.size, 0, none⟩) (b := w.heap.size) (off := 0) (n := n) (c := n) rfl hkn
      simp only [Nat.zero_add] at hidx2
      have hat := he1 wr HR.out.1
      clear he1 he2
      go_wp2_with fail
      refine hat.mono ?_
      rintro _ w2 ⟨rfl, hb2⟩
      obtain ⟨r1, arr, r2, r3, r4⟩ := HR.out
      have HQ : Hid (Below w.heap.size w w2 ∧ Box w2 w.heap.size TKV arr ∧ arr.size = n * 4 ∧ ∀ j, j < k * 4 → arr[j]? = (cellsKV l)[j]?) := ⟨r1.trans (hb2.mono r1.size), r2.kept (hb2.block _ r2.lt), r3, r4⟩
      have haz : k * 4 + 4 ≤ arr.size := by omega
      have q0 := HQ.out.2.1.soft (k * 4)
      have q1 := HQ.out.2.1.soft (k * 4 + 1)
      have q2 := HQ.out.2.1.soft (k * 4 + 2)
      have q3 := HQ.out.2.1.soft (k * 4 + 3)
      obtain ⟨y0, m0⟩ : ∃ y, w2.cell? ⟨w.heap.size, k * 4, none⟩ = some y := ⟨arr[k * 4], by rw [HQ.out.2.1.cell]; simp⟩
      obtain ⟨y1, m1⟩ : ∃ y, w2.cell? ⟨w.heap.size, k * 4 + 1, none⟩ = some y := ⟨arr[k * 4 + 1], by rw [HQ.out.2.1.cell]; simp⟩
      obtain ⟨y2, m2⟩ : ∃ y, w2.cell? ⟨w.heap.size, k * 4 + 2, none⟩ = some y := ⟨arr[k * 4 + 2], by rw [HQ.out.2.1.cell]; simp⟩
      obtain ⟨y3, m3⟩ : ∃ y, w2.cell? ⟨w.heap.size, k * 4 + 3, none⟩ = some y := ⟨arr[k * 4 + 3], by rw [HQ.out.2.1.cell]; simp⟩
      clear hat hb2 r1 r2 r3 r4 HR
      go_wp2
      go_roundw
      case rel =>
        refine ⟨k + 1, hkn, by go_num, ?_, _, (((HQ.out.2.1.set (k * 4) _).set (k * 4 + 1) _).set (k * 4 + 2) _).set (k * 4 + 3) _, ?_, fun j hj => ?_⟩
        · exact (((HQ.out.1.setCell (p := ⟨w.heap.size, k * 4, none⟩) (Nat.le_refl _) _).setCell (p := ⟨w.heap.size, k * 4 + 1, none⟩) (Nat.le_refl _) _).setCell (p := ⟨w.heap.size, k * 4 + 2, none⟩) (Nat.le_refl _) _).setCell (p := ⟨w.heap.size, k * 4 + 3, none⟩) (Nat.le_refl _) _
        · simp only [Array.size_setIfInBounds]
          exact HQ.out.2.2.1
        · rw [setfour haz]
          have hC := HC.out
          by_cases h0 : j < k * 4
          · rw [if_neg (by omega), if_neg (by omega), if_neg (by omega), if_neg (by omega)]
            exact HQ.out.2.2.2 j h0
          · have : j = k * 4 + 0 ∨ j = k * 4 + 1 ∨ j = k * 4 + 2 ∨ j = k * 4 + 3 := by omega
            rcases this with rfl | rfl | rfl | rfl
            · rw [hC 0 (by omega), if_pos (by omega)]
              rfl
            · rw [hC 1 (by omega), if_neg (by omega), if_pos rfl]
              rfl
            · rw [hC 2 (by omega), if_neg (by omega), if_neg (by omega), if_pos rfl]
              rfl
            · rw [hC 3 (by omega), if_neg (by omega), if_neg (by omega), if_neg (by omega), if_pos rfl]
              rfl
      case measure => simp only [intOf]; omega
    · go_wp2
      go_ret
      obtain ⟨r1, arr, r2, r3, r4⟩ := HR.out
      obtain rfl : k = n := by omega
      exact ⟨some ⟨w.heap.size, 0, none⟩, k, ret1 rfl, own_boxedK r2 (Nat.le_refl _) HLN.out r3 r4 (by omega), r1⟩
end Go.Proofs.YtgegjcnjlibfdaaGreat
/- The contract of sort.Search, at sstable's closures. -/
namespace Go.Proofs.YtgegjcnjlibfdaaGreat
set_option maxRecDepth 100000
open Go.RowKit
set_option linter.unusedVariables false
set_option linter.unusedSimpArgs false
set_option maxRecDepth 100000 in
set_option maxHeartbeats 1000000 in
theorem searchG (n : Nat) (hn : n < 4611686018427387904) (pr : Nat → Bool) (c1 c2 : Value) (w : World)
    (hf : ∀ W : World, Below w.heap.size w W → ∀ i : Nat, i < n → Calls Tryz.prog 48 #[.int .i64 (i : Int), c1, c2] W fun e w' => e = .returned (.bool (pr i)) ∧ Below W.heap.size W w')
    (hm : ∀ a b, a ≤ b → b < n → pr a = true → pr b = true) :
    Calls Tryz.prog 47 #[.int .i64 (n : Int), .func (.func 48) #[] #[c1, c2]] w fun e w' => ∃ r : Nat, e = .returned (.int .i64 (r : Int)) ∧ r ≤ n ∧ (∀ i, i < r → pr i = false) ∧ (∀ i, r ≤ i → i < n → pr i = true) ∧ Below w.heap.size w w' := by
  have HF : Hid (∀ W : World, Below w.heap.size w W → ∀ i : Nat, i < n → Calls Tryz.prog 48 #[.int .i64 (i : Int), c1, c2] W fun e w' => e = .returned (.bool (pr i)) ∧ Below W.heap.size W w') := hf
  have HM : Hid (∀ a b, a ≤ b → b < n → pr a = true → pr b = true) := hm
  clear hf hm
  go_enter Tryz.func47, Tryz.ntmps47
  go_wp2
  go_loopg [5, 6] n (fun kx s5 s6 wr => ∃ (lo hi : Nat), s5 = .int .i64 (lo : Int) ∧ s6 = .int .i64 (hi : Int) ∧ lo ≤ hi ∧ hi ≤ n ∧ hi - lo ≤ kx ∧ Hid (Below w.heap.size w wr ∧ (∀ t, t < lo → pr t = false) ∧ (∀ t, hi ≤ t → t < n → pr t = true)))
  case atStart => exact ⟨0, n, rfl, rfl, Nat.zero_le _, Nat.le_refl _, by omega, Below.refl _ _, fun t ht => absurd ht (Nat.not_lt_zero _), fun t h1 h2 => by omega⟩
  case round =>
    obtain ⟨lo, hi, rfl, rfl, hlh, hin, hg, HI⟩ := hrel
    by_cases hlt : lo < hi
    · have hc := HF.out _ HI.out.1 ((lo + hi) / 2) (by omega)
      rw [show (((lo + hi) / 2 : Nat) : Int) = ((lo : Int) + (hi : Int)) / 2 by omega] at hc
      cases hp : pr ((lo + hi) / 2) <;> rw [hp] at hc
      · have HP : Hid (pr ((lo + hi) / 2) = false) := hp
        clear hp
        go_wp2_with fail
        refine hc.mono ?_
        rintro _ w2 ⟨rfl, hb⟩
        have HB : Hid (Below w.heap.size w w2) := HI.out.1.trans (hb.mono HI.out.1.size)
        clear hb hc
        go_wp2
        go_roundg (hi - ((lo + hi) / 2 + 1))
        case measure => omega
        case rel =>
          refine ⟨(lo + hi) / 2 + 1, hi, by congr 1, rfl, by omega, hin, Nat.le_refl _, HB.out, fun t ht => ?_, HI.out.2.2⟩
          cases h : pr t with
          | false => rfl
          | true =>
            have := HM.out t ((lo + hi) / 2) (by omega) (by omega) h
            rw [HP.out] at this
            cases this
      · have HP : Hid (pr ((lo + hi) / 2) = true) := hp
        clear hp
        go_wp2_with fail
        refine hc.mono ?_
        rintro _ w2 ⟨rfl, hb⟩
        have HB : Hid (Below w.heap.size w w2) := HI.out.1.trans (hb.mono HI.out.1.size)
        clear hb hc
        go_wp2
        go_roundg ((lo + hi) / 2 - lo)
        case measure => omega
        case rel => exact ⟨lo, (lo + hi) / 2, rfl, by congr 1, by omega, by omega, Nat.le_refl _, HB.out, HI.out.2.1, fun t h1 h2 => HM.out _ t h1 h2 HP.out⟩
    · obtain rfl : hi = lo := by omega
      go_wp2
      go_ret
      exact ⟨hi, ret1 rfl, hin, HI.out.2.1, HI.out.2.2, HI.out.1⟩
set_option maxRecDepth 100000 in
set_option maxHeartbeats 1000000 in
theorem searchF (n : Nat) (hn : n < 4611686018427387904) (pr : Nat → Bool) (c1 : Value) (w : World)
    (hf : ∀ W : World, Below w.heap.size w W → ∀ i : Nat, i < n → Calls Tryz.prog 123 #[.int .i64 (i : Int), c1] W fun e w' => e = .returned (.bool (pr i)) ∧ Below W.heap.size W w')
    (hm : ∀ a b, a ≤ b → b < n → pr a = true → pr b = true) :
    Calls Tryz.prog 47 #[.int .i64 (n : Int), .func (.func 123) #[] #[c1]] w fun e w' => ∃ r : Nat, e = .returned (.int .i64 (r : Int)) ∧ r ≤ n ∧ (∀ i, i < r → pr i = false) ∧ (∀ i, r ≤ i → i < n → pr i = true) ∧ Below w.heap.size w w' := by
  have HF : Hid (∀ W : World, Below w.heap.size w W → ∀ i : Nat, i < n → Calls Tryz.prog 123 #[.int .i64 (i : Int), c1] W fun e w' => e = .returned (.bool (pr i)) ∧ Below W.heap.size W w') := hf
  have HM : Hid (∀ a b, a ≤ b → b < n → pr a = true → pr b = true) := hm
  clear hf hm
  go_enter Tryz.func47, Tryz.ntmps47
  go_wp2
  go_loopg [5, 6] n (fun kx s5 s6 wr => ∃ (lo hi : Nat), s5 = .int .i64 (lo : Int) ∧ s6 = .int .i64 (hi : Int) ∧ lo ≤ hi ∧ hi ≤ n ∧ hi - lo ≤ kx ∧ Hid (Below w.heap.size w wr ∧ (∀ t, t < lo → pr t = false) ∧ (∀ t, hi ≤ t → t < n → pr t = true)))
  case atStart => exact ⟨0, n, rfl, rfl, Nat.zero_le _, Nat.le_refl _, by omega, Below.refl _ _, fun t ht => absurd ht (Nat.not_lt_zero _), fun t h1 h2 => by omega⟩
  case round =>
    obtain ⟨lo, hi, rfl, rfl, hlh, hin, hg, HI⟩ := hrel
    by_cases hlt : lo < hi
    · have hc := HF.out _ HI.out.1 ((lo + hi) / 2) (by omega)
      rw [show (((lo + hi) / 2 : Nat) : Int) = ((lo : Int) + (hi : Int)) / 2 by omega] at hc
      cases hp : pr ((lo + hi) / 2) <;> rw [hp] at hc
      · have HP : Hid (pr ((lo + hi) / 2) = false) := hp
        clear hp
        go_wp2_with fail
        refine hc.mono ?_
        rintro _ w2 ⟨rfl, hb⟩
        have HB : Hid (Below w.heap.size w w2) := HI.out.1.trans (hb.mono HI.out.1.size)
        clear hb hc
        go_wp2
        go_roundg (hi - ((lo + hi) / 2 + 1))
        case measure => omega
        case rel =>
          refine ⟨(lo + hi) / 2 + 1, hi, by congr 1, rfl, by omega, hin, Nat.le_refl _, HB.out, fun t ht => ?_, HI.out.2.2⟩
          cases h : pr t with
          | false => rfl
          | true =>
            have := HM.out t ((lo + hi) / 2) (by omega) (by omega) h
            rw [HP.out] at this
            cases this
      · have HP : Hid (pr ((lo + hi) / 2) = true) := hp
        clear hp
        go_wp2_with fail
        refine hc.mono ?_
        rintro _ w2 ⟨rfl, hb⟩
        have HB : Hid (Below w.heap.size w w2) := HI.out.1.trans (hb.mono HI.out.1.size)
        clear hb hc
        go_wp2
        go_roundg ((lo + hi) / 2 - lo)
        case measure => omega
        case rel => exact ⟨lo, (lo + hi) / 2, rfl, by congr 1, by omega, by omega, Nat.le_refl _, HB.out, HI.out.2.1, fun t h1 h2 => HM.out _ t h1 h2 HP.out⟩
    · obtain rfl : hi = lo := by omega
      go_wp2
      go_ret
      exact ⟨hi, ret1 rfl, hin, HI.out.2.1, HI.out.2.2, HI.out.1⟩
theorem find_first {α : Type} {p : α → Bool} : ∀ (l : List α) (r : Nat), r ≤ l.length → (∀ i, (h : i < l.length) → i < r → p l[i] = false) → (∀ h : r < l.length, p l[r] = true) → l.find? p = l[r]?
  | [], r, hr, _, _ => by simp
  | x :: l, 0, _, _, h2 => by
    have := h2 (by simp)
    simp at this
    simp [this]
  | x :: l, r + 1, hr, h1, h2 => by
    have h0 := h1 0 (by simp) (by omega)
    simp at h0
    rw [List.find?_cons, h0]
    simp only [List.getElem?_cons_succ]
    exact find_first l r (by simpa using hr) (fun i h hi => by have := h1 (i + 1) (by simpa using h) (by omega); simpa using this) (fun h => by have := h2 (by simpa using h); simpa using this)
end Go.Proofs.YtgegjcnjlibfdaaGreat
