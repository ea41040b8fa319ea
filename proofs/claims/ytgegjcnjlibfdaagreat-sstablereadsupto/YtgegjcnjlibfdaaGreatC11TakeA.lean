/- The contracts of slices.Grow of nothing and slices.Concat, of bytes and of entries. -/
import Derived.Test.YtgegjcnjlibfdaaGreatC11MemA
import Derived.Lib.AppendZeros
import Derived.WalkLawsBesides
import Derived.Handy
import Derived.Test.YtgegjcnjlibfdaaGreatC11FnA
import Derived.Test.YtgegjcnjlibfdaaGreatC11PlainA
import Derived.Test.YtgegjcnjlibfdaaGreatQa08
import Derived.Deep.RegionHeld3
namespace Go.Proofs.YtgegjcnjlibfdaaGreat
set_option maxRecDepth 100000
open Go.RowKit
set_option linter.unusedVariables false
set_option linter.unusedSimpArgs false
theorem wpList_zerosB (w : World) {ops : Array Oper} {rest : List Oper} {o : Oper} {a : Act} {Q : Exit → Act → World → Prop} (hgd : o.guard = none) (s x : Operand)
    (ho : o.op = .call { callee := .builtin .append, args := #[s, x], argTypes := #[27, 3] })
    (n : Nat) (hs : a.eval s = .slice none 0 0) (hx : a.eval x = .int .i64 (n : Int)) (h0 : 0 < n) (hl : n ≤ 70368744177664)
    (h : ∀ c' w', n ≤ c' → OwnB w' w.heap.size (some ⟨w.heap.size, 0, none⟩) 0 c' [] → Below w.heap.size w w' → wpList Tryz.prog ops Q rest (a.put o.dst (.slice (some ⟨w.heap.size, 0, none⟩) n c')) w') :
    wpList Tryz.prog ops Q (o :: rest) a w := by
  obtain ⟨i, hi, hz0, hz1, hz2⟩ := info_parts infoU8
  have hge := grownCap_ge w n 0 5
  have hr := Lib.run_append_nil_zeros (P := Tryz.prog) w 27 3 o.type 5 i (.int .u8 0) .i64 .i64 Tryz.underlying27 Tryz.underlying3 hi hz0 n h0 (by rw [hz1]; omega) (by omega) (by rw [hz2]; omega)
  refine Lib.wpList_append_run w hgd s x _ _ ho _ _ hs hx _ _ hr (h _ _ hge ⟨rfl, by simp [cellsB], .inr ⟨w.heap.size, _, _, rfl, Nat.le_refl _, heap_alloc_new w.drew _, Nat.zero_le _, grownCap_le_maxLen w n 0 _ (by unfold maxLen; omega), ?_, by simp [cellsB]⟩⟩ (((Below.refl _ w).drew).alloc (Nat.le_refl _) _))
  simp [size_zeroCells, Value.cells]
  try omega
set_option maxRecDepth 100000 in
set_option maxHeartbeats 1000000 in
theorem growB_nil (n : Nat) (hn : n ≤ 70368744177664) (w : World) : Calls Tryz.prog 140 #[.slice none 0 0, .int .i64 (n : Int)] w fun e w' => ∃ a' c', e = .returned (.slice a' 0 c') ∧ OwnB w' w.heap.size a' 0 c' [] ∧ Below w.heap.size w w' := by
  by_cases h0 : 0 < n
  · go_enter Tryz.func140, Tryz.ntmps140
    go_wp2_with (first | (at_builtin; refine wpList_zerosB _ rfl _ _ rfl n rfl rfl h0 hn ?_))
    intro c1 w1 hc1 ho1 hb1
    go_wp2
    go_ret
    exact ⟨_, c1, ret1 rfl, ho1, hb1⟩
  · obtain rfl : n = 0 := by omega
    go_enter Tryz.func140, Tryz.ntmps140
    go_wp2
    go_ret
    exact ⟨none, 0, ret1 rfl, OwnB.nil _ _, Below.refl _ _⟩
/-- A row of slices: address, length, room, what it reads as. -/
structure RwB where
  a : Option Addr
  n : Nat
  c : Nat
  l : List UInt8
def sumB (rs : List RwB) : Nat := (rs.map (·.n)).sum
def allB (rs : List RwB) : List UInt8 := (rs.map (·.l)).flatten
theorem sumB_le (rs : List RwB) (j : Nat) : sumB (rs.take j) ≤ sumB rs := by
  unfold sumB
  conv => rhs; rw [← List.take_append_drop j rs, List.map_append, List.sum_append]
  exact Nat.le_add_right _ _
theorem sumB_succ (rs : List RwB) (j : Nat) (h : j < rs.length) : sumB (rs.take (j + 1)) = sumB (rs.take j) + rs[j].n := by
  unfold sumB
  rw [List.take_succ_eq_append_getElem h, List.map_append, List.sum_append]
  simp only [List.map_cons, List.map_nil, List.sum_cons, List.sum_nil, Nat.add_zero]
theorem allB_succ (rs : List RwB) (j : Nat) (h : j < rs.length) : allB (rs.take (j + 1)) = allB (rs.take j) ++ rs[j].l := by
  unfold allB
  rw [List.take_succ_eq_append_getElem h, List.map_append, List.flatten_append]
  simp only [List.map_cons, List.map_nil, List.flatten_cons, List.flatten_nil, List.append_nil]
theorem idxRB (lb : Nat) {j n c : Nat} (hj : j < n) (W : World) : (Instr.indexAt 145 (.slice (some ⟨lb, 0, none⟩) n c) (.int .i64 (j : Int))).run Tryz.prog W = .ok (.pointer (some ⟨lb, j, none⟩)) W := by
  have h1 : (0 : Int) ≤ (j : Int) ∧ (j : Int) < (n : Int) := by omega
  have hsz : (sizeOf (Tryz.prog.elem 145)).run Tryz.prog W = .ok 1 W := by kernel_rfl
  rw [run_indexAt_slice (P := Tryz.prog) (h := (by kernel_rfl : Tryz.prog.underlying 145 = some (.slice (Tryz.prog.elem 145)))), if_pos h1, hsz]
  simp [Result.andThen, Addr.add_lit]
set_option maxRecDepth 100000 in
set_option maxHeartbeats 2000000 in
theorem concatB_any (lb m : Nat) (hm : m ≤ 1000) (rs : List RwB) (hrs : rs.length = m) (hsum : sumB rs ≤ 70368744177664) (w : World)
    (h : ∀ j, ∀ hj : j < rs.length, w.cell? ⟨lb, j, none⟩ = some (.slice rs[j].a rs[j].n rs[j].c) ∧ BsAt w rs[j].a rs[j].n rs[j].c rs[j].l ∧ (rs[j].a = none → rs[j].c = 0)) :
    Calls Tryz.prog 133 #[.slice (some ⟨lb, 0, none⟩) m m] w fun e w' => ∃ a' c', e = .returned (.slice a' (sumB rs) c') ∧ OwnB w' w.heap.size a' (sumB rs) c' (allB rs) ∧ Below w.heap.size w w' := by
  have HS : Hid (rs.length = m ∧ ∀ j, ∀ hj : j < rs.length, w.cell? ⟨lb, j, none⟩ = some (.slice rs[j].a rs[j].n rs[j].c) ∧ BsAt w rs[j].a rs[j].n rs[j].c rs[j].l ∧ (rs[j].a = none → rs[j].c = 0)) := ⟨hrs, h⟩
  clear h hrs
  go_enter Tryz.func133, Tryz.ntmps133
  go_wp2_with fail
  go_loopw [3, 11] (fun x3 x wr => ∃ j : Nat, j ≤ m ∧ x = .int .i64 (j : Int) ∧ x3 = .int .i64 ((sumB (rs.take j) : Nat) : Int) ∧ wr = w) (fun _ x _ => m - (intOf x).toNat)
  case atStart => exact ⟨0, Nat.zero_le _, rfl, rfl, rfl⟩
  case round =>
    obtain ⟨j, hj, rfl, rfl, hwr⟩ := hrel
    obtain rfl : w = wr := hwr.symm
    clear hwr
    have hle := sumB_le rs j
    by_cases hjm : j < m
    · have hjl : j < rs.length := by rw [HS.out.1]; exact hjm
      obtain ⟨c0, _, _⟩ := HS.out.2 j hjl
      have hix := fun W => idxRB lb (n := m) (c := m) hjm W
      have hsu := sumB_succ rs j hjl
      have hle1 := sumB_le rs (j + 1)
      generalize rs[j] = r at c0 hsu
      generalize HS0 : sumB (rs.take j) = s0 at hle hsu ⊢
      generalize HS1 : sumB (rs.take (j + 1)) = s1 at hsu hle1
      have HSS : Hid (sumB (rs.take (j + 1)) = s1 ∧ s1 = s0 + r.n) := ⟨HS1, hsu⟩
      have hrn : s0 + r.n ≤ 70368744177664 := by omega
      clear HS0 HS1 hsu
      go_wp2
      go_roundw
      case rel => exact ⟨j + 1, hjm, by go_num, by rw [HSS.out.1, HSS.out.2]; go_num, trivial⟩
      case measure => simp only [intOf]; omega
    · obtain rfl : j = m := by omega
      have HT : Hid (rs.take j = rs) := List.take_of_length_le (by have := HS.out.1; omega)
      rw [HT.out] at hle ⊢
      have HG : Hid (∀ W : World, Calls Tryz.prog 140 #[.slice none 0 0, .int .i64 ((sumB rs : Nat) : Int)] W fun e w' => ∃ a' c', e = .returned (.slice a' 0 c') ∧ OwnB w' W.heap.size a' 0 c' [] ∧ Below W.heap.size W w') := fun W => growB_nil _ hsum W
      generalize hsm : sumB rs = sm at HG hsum hle
      have HSM : Hid (sumB rs = sm) := hsm
      clear hsm
      go_wp2_with fail
      refine (HG.out _).mono ?_
      rintro _ w1 ⟨a1, c1, rfl, ho1, hb1⟩
      have H1 : Hid (OwnB w1 w.heap.size a1 0 c1 [] ∧ Below w.heap.size w w1) := ⟨ho1, hb1⟩
      clear ho1 hb1
      go_wp2_with fail
      go_loopw [6, 27] (fun x6 x wr => ∃ (k no co : Nat) (ao : Option Addr), k ≤ j ∧ no = sumB (rs.take k) ∧ x = .int .i64 (k : Int) ∧ x6 = .slice ao no co ∧ Hid (OwnB wr w.heap.size ao no co (allB (rs.take k)) ∧ Below w.heap.size w wr)) (fun _ x _ => j - (intOf x).toNat)
      case atStart => exact ⟨0, 0, c1, a1, Nat.zero_le _, rfl, rfl, rfl, H1.out⟩
      case round =>
        obtain ⟨k, no, co, ao, hk, hno, rfl, rfl, HI⟩ := hrel
        have HNO : Hid (no = sumB (rs.take k)) := hno
        have hle0 : no ≤ sm := by rw [hno, ← HSM.out]; exact sumB_le rs k
        clear hno
        by_cases hkj : k < j
        · have hkl : k < rs.length := by rw [HS.out.1]; exact hkj
          have hrow := HS.out.2 k hkl
          have hix := fun W => idxRB lb (n := j) (c := j) hkj W
          have HSU : Hid (sumB (rs.take (k + 1)) = sumB (rs.take k) + rs[k].n ∧ sumB (rs.take (k + 1)) ≤ sm ∧ allB (rs.take (k + 1)) = allB (rs.take k) ++ rs[k].l) := ⟨sumB_succ rs k hkl, by rw [← HSM.out]; exact sumB_le rs (k + 1), allB_succ rs k hkl⟩
          generalize rs[k] = r at hrow HSU
          have hnr : no + r.n ≤ sm := by
            obtain ⟨q1, q2, q3⟩ := HSU.out
            rw [q1, ← HNO.out] at q2
            exact q2
          have hlt : lb < w.heap.size := World.block_lt_of_cell? w _ hrow.1
          have c0 : wr.cell? ⟨lb, k, none⟩ = some (.slice r.a r.n r.c) := by rw [HI.out.2.cell hlt]; exact hrow.1
          have HSRC : Hid (BsAt wr r.a r.n r.c r.l) := hrow.2.1.below (Nat.le_refl _) HI.out.2
          have HBare : Hid (r.a = none → r.c = 0) := hrow.2.2
          clear hrow
          go_wp2_with (first | (at_builtin; refine wpList_app wr rfl _ _ rfl w.heap.size ao no co _ rfl HI.out.1 r.a r.n r.c _ rfl HSRC.out (by omega) HI.out.2.size ?_))
          intro a6 c6 w6 ho6 hb6 _
          have HJ : Hid (OwnB w6 w.heap.size a6 (no + r.n) c6 (allB (rs.take (k + 1))) ∧ Below w.heap.size w w6) := by
            rw [HSU.out.2.2]
            exact ⟨ho6, HI.out.2.trans hb6⟩
          clear ho6 hb6
          go_wp2
          go_roundw
          case rel => exact ⟨k + 1, no + r.n, c6, a6, hkj, by rw [HSU.out.1, HNO.out], by go_num, rfl, HJ.out⟩
          case measure => simp only [intOf]; omega
        · obtain rfl : k = j := by omega
          go_wp2
          go_ret
          have h1 := HI.out.1
          rw [HNO.out, HT.out] at h1
          rw [HNO.out, HT.out]
          exact ⟨ao, co, ret1 (by rw [HSM.out]; rfl), by rw [HSM.out] at h1 ⊢; exact h1, HI.out.2⟩
theorem wpList_zerosK (w : World) {ops : Array Oper} {rest : List Oper} {o : Oper} {a : Act} {Q : Exit → Act → World → Prop} (hgd : o.guard = none) (s x : Operand)
    (ho : o.op = .call { callee := .builtin .append, args := #[s, x], argTypes := #[23, 3] })
    (n : Nat) (hs : a.eval s = .slice none 0 0) (hx : a.eval x = .int .i64 (n : Int)) (h0 : 0 < n) (hl : n ≤ 1000000000000)
    (h : ∀ c' w', n ≤ c' → OwnK w' w.heap.size (some ⟨w.heap.size, 0, none⟩) 0 c' [] → Below w.heap.size w w' → wpList Tryz.prog ops Q rest (a.put o.dst (.slice (some ⟨w.heap.size, 0, none⟩) n c')) w') :
    wpList Tryz.prog ops Q (o :: rest) a w := by
  obtain ⟨i, hi, hz0, hz1, hz2⟩ := info_parts infoKV
  have hge := grownCap_ge w n 0 54
  have hr := Lib.run_append_nil_zeros (P := Tryz.prog) w 23 3 o.type 54 i (.agg #[.string ⟨#[]⟩, .int .u64 0, .int .i64 0, .string ⟨#[]⟩]) .i64 .i64 Tryz.underlying23 Tryz.underlying3 hi hz0 n h0 (by rw [hz1]; omega) (by omega) (by rw [hz2]; omega)
  refine Lib.wpList_append_run w hgd s x _ _ ho _ _ hs hx _ _ hr (h _ _ hge ⟨rfl, by simp [cellsKV], .inr ⟨w.heap.size, _, _, rfl, Nat.le_refl _, heap_alloc_new w.drew _, Nat.zero_le _, grownCap_le_maxLen w n 0 _ (by unfold maxLen; omega), ?_, by simp [cellsKV]⟩⟩ (((Below.refl _ w).drew).alloc (Nat.le_refl _) _))
  simp [size_zeroCells, Value.cells]
  try omega
set_option maxRecDepth 100000 in
set_option maxHeartbeats 1000000 in
theorem growK_nil (n : Nat) (hn : n ≤ 1000000000000) (w : World) : Calls Tryz.prog 139 #[.slice none 0 0, .int .i64 (n : Int)] w fun e w' => ∃ a' c', e = .returned (.slice a' 0 c') ∧ OwnK w' w.heap.size a' 0 c' [] ∧ Below w.heap.size w w' := by
  by_cases h0 : 0 < n
  · go_enter Tryz.func139, Tryz.ntmps139
    go_wp2_with (first | (at_builtin; refine wpList_zerosK _ rfl _ _ rfl n rfl rfl h0 hn ?_))
    intro c1 w1 hc1 ho1 hb1
    go_wp2
    go_ret
    exact ⟨_, c1, ret1 rfl, ho1, hb1⟩
  · obtain rfl : n = 0 := by omega
    go_enter Tryz.func139, Tryz.ntmps139
    go_wp2
    go_ret
    exact ⟨none, 0, ret1 rfl, OwnK.nil _ _, Below.refl _ _⟩
/-- A row of slices: address, length, room, what it reads as. -/
structure RwK where
  a : Option Addr
  n : Nat
  c : Nat
  l : List KV
def sumK (rs : List RwK) : Nat := (rs.map (·.n)).sum
def allK (rs : List RwK) : List KV := (rs.map (·.l)).flatten
theorem sumK_le (rs : List RwK) (j : Nat) : sumK (rs.take j) ≤ sumK rs := by
  unfold sumK
  conv => rhs; rw [← List.take_append_drop j rs, List.map_append, List.sum_append]
  exact Nat.le_add_right _ _
theorem sumK_succ (rs : List RwK) (j : Nat) (h : j < rs.length) : sumK (rs.take (j + 1)) = sumK (rs.take j) + rs[j].n := by
  unfold sumK
  rw [List.take_succ_eq_append_getElem h, List.map_append, List.sum_append]
  simp only [List.map_cons, List.map_nil, List.sum_cons, List.sum_nil, Nat.add_zero]
theorem allK_succ (rs : List RwK) (j : Nat) (h : j < rs.length) : allK (rs.take (j + 1)) = allK (rs.take j) ++ rs[j].l := by
  unfold allK
  rw [List.take_succ_eq_append_getElem h, List.map_append, List.flatten_append]
  simp only [List.map_cons, List.map_nil, List.flatten_cons, List.flatten_nil, List.append_nil]
theorem idxRK (lb : Nat) {j n c : Nat} (hj : j < n) (W : World) : (Instr.indexAt 180 (.slice (some ⟨lb, 0, none⟩) n c) (.int .i64 (j : Int))).run Tryz.prog W = .ok (.pointer (some ⟨lb, j, none⟩)) W := by
  have h1 : (0 : Int) ≤ (j : Int) ∧ (j : Int) < (n : Int) := by omega
  have hsz : (sizeOf (Tryz.prog.elem 180)).run Tryz.prog W = .ok 1 W := by kernel_rfl
  rw [run_indexAt_slice (P := Tryz.prog) (h := (by kernel_rfl : Tryz.prog.underlying 180 = some (.slice (Tryz.prog.elem 180)))), if_pos h1, hsz]
  simp [Result.andThen, Addr.add_lit]
set_option maxRecDepth 100000 in
set_option maxHeartbeats 2000000 in
theorem concatK_any (lb m : Nat) (hm : m ≤ 1000) (rs : List RwK) (hrs : rs.length = m) (hsum : sumK rs ≤ 1000000000000) (w : World)
    (h : ∀ j, ∀ hj : j < rs.length, w.cell? ⟨lb, j, none⟩ = some (.slice rs[j].a rs[j].n rs[j].c) ∧ KsAt w rs[j].a rs[j].n rs[j].c rs[j].l ∧ (rs[j].a = none → rs[j].c = 0)) :
    Calls Tryz.prog 128 #[.slice (some ⟨lb, 0, none⟩) m m] w fun e w' => ∃ a' c', e = .returned (.slice a' (sumK rs) c') ∧ OwnK w' w.heap.size a' (sumK rs) c' (allK rs) ∧ Below w.heap.size w w' := by
  have HS : Hid (rs.length = m ∧ ∀ j, ∀ hj : j < rs.length, w.cell? ⟨lb, j, none⟩ = some (.slice rs[j].a rs[j].n rs[j].c) ∧ KsAt w rs[j].a rs[j].n rs[j].c rs[j].l ∧ (rs[j].a = none → rs[j].c = 0)) := ⟨hrs, h⟩
  clear h hrs
  go_enter Tryz.func128, Tryz.ntmps128
  go_wp2_with fail
  go_loopw [3, 11] (fun x3 x wr => ∃ j : Nat, j ≤ m ∧ x = .int .i64 (j : Int) ∧ x3 = .int .i64 ((sumK (rs.take j) : Nat) : Int) ∧ wr = w) (fun _ x _ => m - (intOf x).toNat)
  case atStart => exact ⟨0, Nat.zero_le _, rfl, rfl, rfl⟩
  case round =>
    obtain ⟨j, hj, rfl, rfl, hwr⟩ := hrel
    obtain rfl : w = wr := hwr.symm
    clear hwr
    have hle := sumK_le rs j
    by_cases hjm : j < m
    · have hjl : j < rs.length := by rw [HS.out.1]; exact hjm
      obtain ⟨c0, _, _⟩ := HS.out.2 j hjl
      have hix := fun W => idxRK lb (n := m) (c := m) hjm W
      have hsu := sumK_succ rs j hjl
      have hle1 := sumK_le rs (j + 1)
      generalize rs[j] = r at c0 hsu
      generalize HS0 : sumK (rs.take j) = s0 at hle hsu ⊢
      generalize HS1 : sumK (rs.take (j + 1)) = s1 at hsu hle1
      have HSS : Hid (sumK (rs.take (j + 1)) = s1 ∧ s1 = s0 + r.n) := ⟨HS1, hsu⟩
      have hrn : s0 + r.n ≤ 1000000000000 := by omega
      clear HS0 HS1 hsu
      go_wp2
      go_roundw
      case rel => exact ⟨j + 1, hjm, by go_num, by rw [HSS.out.1, HSS.out.2]; go_num, trivial⟩
      case measure => simp only [intOf]; omega
    · obtain rfl : j = m := by omega
      have HT : Hid (rs.take j = rs) := List.take_of_length_le (by have := HS.out.1; omega)
      rw [HT.out] at hle ⊢
      have HG : Hid (∀ W : World, Calls Tryz.prog 139 #[.slice none 0 0, .int .i64 ((sumK rs : Nat) : Int)] W fun e w' => ∃ a' c', e = .returned (.slice a' 0 c') ∧ OwnK w' W.heap.size a' 0 c' [] ∧ Below W.heap.size W w') := fun W => growK_nil _ hsum W
      generalize hsm : sumK rs = sm at HG hsum hle
      have HSM : Hid (sumK rs = sm) := hsm
      clear hsm
      go_wp2_with fail
      refine (HG.out _).mono ?_
      rintro _ w1 ⟨a1, c1, rfl, ho1, hb1⟩
      have H1 : Hid (OwnK w1 w.heap.size a1 0 c1 [] ∧ Below w.heap.size w w1) := ⟨ho1, hb1⟩
      clear ho1 hb1
      go_wp2_with fail
      go_loopw [6, 27] (fun x6 x wr => ∃ (k no co : Nat) (ao : Option Addr), k ≤ j ∧ no = sumK (rs.take k) ∧ x = .int .i64 (k : Int) ∧ x6 = .slice ao no co ∧ Hid (OwnK wr w.heap.size ao no co (allK (rs.take k)) ∧ Below w.heap.size w wr)) (fun _ x _ => j - (intOf x).toNat)
      case atStart => exact ⟨0, 0, c1, a1, Nat.zero_le _, rfl, rfl, rfl, H1.out⟩
      case round =>
        obtain ⟨k, no, co, ao, hk, hno, rfl, rfl, HI⟩ := hrel
        have HNO : Hid (no = sumK (rs.take k)) := hno
        have hle0 : no ≤ sm := by rw [hno, ← HSM.out]; exact sumK_le rs k
        clear hno
        by_cases hkj : k < j
        · have hkl : k < rs.length := by rw [HS.out.1]; exact hkj
          have hrow := HS.out.2 k hkl
          have hix := fun W => idxRK lb (n := j) (c := j) hkj W
          have HSU : Hid (sumK (rs.take (k + 1)) = sumK (rs.take k) + rs[k].n ∧ sumK (rs.take (k + 1)) ≤ sm ∧ allK (rs.take (k + 1)) = allK (rs.take k) ++ rs[k].l) := ⟨sumK_succ rs k hkl, by rw [← HSM.out]; exact sumK_le rs (k + 1), allK_succ rs k hkl⟩
          generalize rs[k] = r at hrow HSU
          have hnr : no + r.n ≤ sm := by
            obtain ⟨q1, q2, q3⟩ := HSU.out
            rw [q1, ← HNO.out] at q2
            exact q2
          have hlt : lb < w.heap.size := World.block_lt_of_cell? w _ hrow.1
          have c0 : wr.cell? ⟨lb, k, none⟩ = some (.slice r.a r.n r.c) := by rw [HI.out.2.cell hlt]; exact hrow.1
          have HSRC : Hid (KsAt wr r.a r.n r.c r.l) := hrow.2.1.below HI.out.2
          have HBare : Hid (r.a = none → r.c = 0) := hrow.2.2
          clear hrow
          go_wp2_with (first | (at_builtin; refine wpList_appK wr rfl _ _ rfl w.heap.size ao no co _ rfl HI.out.1 r.a r.n r.c _ rfl HSRC.out HBare.out (by omega) HI.out.2.size ?_))
          intro a6 c6 w6 ho6 hb6 _
          have HJ : Hid (OwnK w6 w.heap.size a6 (no + r.n) c6 (allK (rs.take (k + 1))) ∧ Below w.heap.size w w6) := by
            rw [HSU.out.2.2]
            exact ⟨ho6, HI.out.2.trans hb6⟩
          clear ho6 hb6
          go_wp2
          go_roundw
          case rel => exact ⟨k + 1, no + r.n, c6, a6, hkj, by rw [HSU.out.1, HNO.out], by go_num, rfl, HJ.out⟩
          case measure => simp only [intOf]; omega
        · obtain rfl : k = j := by omega
          go_wp2
          go_ret
          have h1 := HI.out.1
          rw [HNO.out, HT.out] at h1
          rw [HNO.out, HT.out]
          exact ⟨ao, co, ret1 (by rw [HSM.out]; rfl), by rw [HSM.out] at h1 ⊢; exact h1, HI.out.2⟩
end Go.Proofs.YtgegjcnjlibfdaaGreat
/- The contract of block's take, and of its closure. -/
namespace Go.Proofs.YtgegjcnjlibfdaaGreat
open Go.RowKit
set_option linter.unusedVariables false
set_option linter.unusedSimpArgs false
abbrev TBs : TypeId := 27
set_option maxRecDepth 100000 in
theorem take1_yes {w0 w : World} (hb0 : Below w0.heap.size w0 w) {q n c : Nat} {a : Option Addr} {bs : List UInt8} (hq : Box w q TBs #[.slice a n c]) (h0 : BsAt w0 a n c bs) {v k : Nat} (hr : uvRead bs = (v, k, 0)) :
    Calls Tryz.prog 132 #[at_ q] w fun e w' => e = .returned (.int .u64 (v : Int)) ∧ ∃ a', w' = w.setCell ⟨q, 0, none⟩ (.slice a' (n - k) (c - k)) ∧ BsAt w0 a' (n - k) (c - k) (bs.drop k) := by
  have hk := uvRead_ok bs
  rw [hr] at hk
  have hkl : k ≤ n := by have := h0.size; simp at hk; omega
  obtain ⟨a', hs, hb⟩ := slice_any h0 k hkl
  have HB := (show Hid (BsAt w0 a' (n - k) (c - k) (bs.drop k)) from hb _ _ h0)
  have hc := hq.cell 0
  have hz := hq.soft 0
  have hu := uvarint_eq (h0.below (Nat.le_refl _) hb0) hr
  simp at hc
  clear hb hk
  go_enter Tryz.func132, Tryz.ntmps132
  go_wp2_with fail
  refine hu.mono ?_
  rintro _ _ ⟨rfl, rfl⟩
  go_wp2_with fail
  refine (must_yes _).mono ?_
  rintro _ _ ⟨rfl, rfl⟩
  go_wp2
  go_ret
  exact ⟨ret1 rfl, a', rfl, HB.out⟩
set_option maxRecDepth 100000 in
theorem take1_no {w : World} {q n c : Nat} {a : Option Addr} {bs : List UInt8} (hq : Box w q TBs #[.slice a n c]) (h : BsAt w a n c bs) {v k er : Nat} (hr : uvRead bs = (v, k, er)) (he : er ≠ 0) :
    Calls Tryz.prog 132 #[at_ q] w fun e w' => e = gaveUp ∧ w' = w := by
  have hc := hq.cell 0
  have hz := hq.soft 0
  have hu := uvarint_eq h hr
  simp at hc
  have hne : ((er : Int) == 0) = false := by simp; omega
  go_enter Tryz.func132, Tryz.ntmps132
  go_wp2_with fail
  refine hu.mono ?_
  rintro _ _ ⟨rfl, rfl⟩
  go_wp2_with fail
  refine (must_no _).mono ?_
  rintro _ _ ⟨rfl, rfl⟩
  exact ⟨rfl, rfl, rfl⟩
def kv0 : Array Value := #[.string ⟨#[]⟩, .int .u64 0, .int .i64 0, .string ⟨#[]⟩]
/-- Where take is: its bytes' variable, its answer's. -/
structure TS (w0 w W : World) (q n c : Nat) (a : Option Addr) (bs : List UInt8) : Prop where
  base : Below w.heap.size w W
  base0 : Below w0.heap.size w0 W
  le : w0.heap.size ≤ w.heap.size
  new : w.heap.size = q
  box : Box W q TBs #[.slice a n c]
  kv : Box W (q + 1) TKV kv0
  bs : BsAt w0 a n c bs
theorem TS.set {w0 w W : World} {q n c n' c' : Nat} {a a' : Option Addr} {bs bs' : List UInt8} (h : TS w0 w W q n c a bs) (hb : BsAt w0 a' n' c' bs') : TS w0 w (W.setCell ⟨q, 0, none⟩ (.slice a' n' c')) q n' c' a' bs' :=
  ⟨h.base.setCell (by have := h.new; show w.heap.size ≤ q; omega) _, h.base0.setCell (by have := h.new; have := h.le; show w0.heap.size ≤ q; omega) _, h.le, h.new, (h.box.set 0 _).eq (by simp), h.kv.other (by omega) 0 _, hb⟩
theorem TS.call {w0 w W W' : World} {q n c : Nat} {a : Option Addr} {bs : List UInt8} (h : TS w0 w W q n c a bs) (hb : Below W.heap.size W W') : TS w0 w W' q n c a bs :=
  ⟨h.base.trans (hb.mono h.base.size), h.base0.trans (hb.mono h.base0.size), h.le, h.new, h.box.kept (hb.block _ h.box.lt), h.kv.kept (hb.block _ h.kv.lt), h.bs⟩
theorem conv_int_u64 (k : Nat) (h : k < 9223372036854775808) (W : World) : (convert 3 33 (.int .i64 (k : Int))).run Tryz.prog W = .ok (.int .u64 (k : Int)) W := by
  have e : IntKind.u64.wrap (k : Int) = (k : Int) := by
    simp [IntKind.wrap, IntKind.bits, IntKind.signed]
    omega
  generalize (k : Int) = z at e ⊢
  simp [convert, run_underlying Tryz.underlying33, run_underlying Tryz.underlying3, go_sem, e]
set_option maxRecDepth 100000 in
set_option maxHeartbeats 4000000 in
theorem take_any (a : Option Addr) (n c : Nat) (b : List UInt8) (a' : Option Addr) (n' c' : Nat) (ah : List UInt8) (w0 w : World) (hb0 : Below w0.heap.size w0 w) (h : BsAt w0 a n c b) (h' : BsAt w a' n' c' ah) (hn : n ≤ 35184372088832) (hn' : n' ≤ 35184372088832) :
    Calls Tryz.prog 117 #[.slice a n c, .slice a' n' c'] w fun r w' => Below w.heap.size w w' ∧ ((takeB b ah = none ∧ r = gaveUp) ∨ ∃ e key rest ka kc ra rc, takeB b ah = some (e, key, rest) ∧ r = .returned (.tuple #[.agg #[.string e.1.user, .int .u64 (e.1.seq : Int), .int .i64 e.1.kind, .string e.2], .slice ka key.length kc, .slice ra rest.length rc]) ∧ OwnB w' w.heap.size ka key.length kc key ∧ BsAt w0 ra rest.length rc rest) := by
  have hmf : ∀ (fn : Fn) (first cap : Array Value) (w : World), (Instr.makeFunc fn first cap).run Tryz.prog w = .ok (.func fn first cap) w := fun _ _ _ _ => rfl
  have T0 : Hid (TS w0 w ((w.alloc (.cells #[.slice a n c] TBs)).alloc (.cells kv0 TKV)) w.heap.size n c a b) := ⟨((Below.refl _ _).alloc (Nat.le_refl _) _).alloc (by simp) _, (hb0.alloc hb0.size _).alloc (by have := hb0.size; simp; omega) _, hb0.size, rfl, (Box.new _ _ _).alloc _, by have := Box.new (w.alloc (.cells #[.slice a n c] TBs)) TKV kv0; simpa using this, h⟩
  have HA : Hid (BsAt w a' n' c' ah) := h'
  have hbl := h.size
  have hbl' := h'.size
  clear h h' hb0
  rcases h1 : uvRead b with ⟨v1, k1, e1⟩
  have H1 : Hid (uvRead b = (v1, k1, e1)) := h1
  have HU1 := (show Hid _ from uvRead_ok b)
  clear h1
  go_enter Tryz.func117, Tryz.ntmps117
  go_wp2_with fail
  by_cases he1 : e1 ≠ 0
  · refine (take1_no T0.out.box (T0.out.bs.below (Nat.le_refl _) T0.out.base0) H1.out he1).mono ?_
    rintro _ _ ⟨rfl, rfl⟩
    exact ⟨rfl, T0.out.base, .inl ⟨takeB_1 H1.out he1, rfl⟩⟩
  obtain rfl : e1 = 0 := by omega
  clear he1
  refine (take1_yes T0.out.base0 T0.out.box T0.out.bs H1.out).mono ?_
  rintro _ w1 ⟨rfl, a1, hw1, hb1⟩
  have T1 : Hid (TS w0 w w1 w.heap.size (n - k1) (c - k1) a1 (b.drop k1)) := hw1 ▸ T0.out.set hb1
  clear hw1 hb1 T0
  rcases h2 : uvRead (b.drop k1) with ⟨v2, k2, e2⟩
  have H2 : Hid (uvRead (b.drop k1) = (v2, k2, e2)) := h2
  clear h2
  go_wp2_with fail
  by_cases he2 : e2 ≠ 0
  · refine (take1_no T1.out.box (T1.out.bs.below (Nat.le_refl _) T1.out.base0) H2.out he2).mono ?_
    rintro _ _ ⟨rfl, rfl⟩
    exact ⟨rfl, T1.out.base, .inl ⟨takeB_2 H1.out H2.out he2, rfl⟩⟩
  obtain rfl : e2 = 0 := by omega
  clear he2
  refine (take1_yes T1.out.base0 T1.out.box T1.out.bs H2.out).mono ?_
  rintro _ w2 ⟨rfl, a2, hw2, hb2⟩
  have T2 : Hid (TS w0 w w2 w.heap.size (n - k1 - k2) (c - k1 - k2) a2 ((b.drop k1).drop k2)) := hw2 ▸ T1.out.set hb2
  clear hw2 hb2 T1
  rcases h3 : uvRead ((b.drop k1).drop k2) with ⟨v3, k3, e3⟩
  have H3 : Hid (uvRead ((b.drop k1).drop k2) = (v3, k3, e3)) := h3
  clear h3
  go_wp2_with fail
  by_cases he3 : e3 ≠ 0
  · refine (take1_no T2.out.box (T2.out.bs.below (Nat.le_refl _) T2.out.base0) H3.out he3).mono ?_
    rintro _ _ ⟨rfl, rfl⟩
    exact ⟨rfl, T2.out.base, .inl ⟨takeB_3 H1.out H2.out H3.out he3, rfl⟩⟩
  obtain rfl : e3 = 0 := by omega
  clear he3
  refine (take1_yes T2.out.base0 T2.out.box T2.out.bs H3.out).mono ?_
  rintro _ w3 ⟨rfl, a3, hw3, hb3⟩
  obtain ⟨R, hR⟩ : ∃ R, ((b.drop k1).drop k2).drop k3 = R := ⟨_, rfl⟩
  have T3 : Hid (TS w0 w w3 w.heap.size (n - k1 - k2 - k3) (c - k1 - k2 - k3) a3 R) := hR ▸ hw3 ▸ T2.out.set hb3
  clear hw3 hb3 T2
  have HT : Hid _ := takeB_4 (ah := ah) H1.out H2.out H3.out hR
  have hv1 : v1 < 18446744073709551616 := by have := (uvRead_ok b).1; rw [H1.out] at this; exact this
  have hv2 : v2 < 18446744073709551616 := by have := (uvRead_ok (b.drop k1)).1; rw [H2.out] at this; exact this
  have hv3 : v3 < 18446744073709551616 := by have := (uvRead_ok ((b.drop k1).drop k2)).1; rw [H3.out] at this; exact this
  generalize hnr : n - k1 - k2 - k3 = nr at T3
  generalize c - k1 - k2 - k3 = cr at T3
  have hnr2 : nr ≤ 35184372088832 := by omega
  have HRL : Hid (R.length = nr) := T3.out.bs.size
  clear hnr hR H1 H2 H3 HU1
  have hcv := conv_int_u64 n' (by omega)
  go_wp2_with fail
  by_cases hs : v1 ≤ n'
  case neg =>
    rw [show decide (v1 ≤ n') = false from decide_eq_false hs]
    refine (must_no _).mono ?_
    rintro _ _ ⟨rfl, rfl⟩
    exact ⟨rfl, T3.out.base, .inl ⟨by rw [HT.out, if_neg (by omega)], rfl⟩⟩
  rw [show decide (v1 ≤ n') = true from decide_eq_true hs]
  refine (must_yes _).mono ?_
  rintro _ _ ⟨rfl, rfl⟩
  clear hcv
  have hcv2 := conv_int_u64 nr (by omega)
  have b3 : w3.cell? ⟨w.heap.size, 0, none⟩ = some (.slice a3 nr cr) := T3.out.box.cell 0
  have z3 : w3.frozen? ⟨w.heap.size, 0, none⟩ = false := T3.out.box.soft 0
  go_wp2_with fail
  by_cases hl : v2 ≤ nr
  case neg =>
    rw [show decide (v2 ≤ nr) = false from decide_eq_false hl]
    refine (must_no _).mono ?_
    rintro _ _ ⟨rfl, rfl⟩
    exact ⟨rfl, T3.out.base, .inl ⟨by rw [HT.out, if_neg (by have := HRL.out; omega)], rfl⟩⟩
  rw [show decide (v2 ≤ nr) = true from decide_eq_true hl]
  refine (must_yes _).mono ?_
  rintro _ _ ⟨rfl, rfl⟩
  obtain ⟨p1, hp1, hq1⟩ := slice_to_u HA.out v1 hs
  obtain ⟨p2, hp2, hq2⟩ := slice_to_u T3.out.bs v2 hl
  obtain ⟨p3, hp3, hq3⟩ := slice_any_u T3.out.bs v2 hl
  have HQ : Hid (BsAt w p1 v1 c' (ah.take v1) ∧ BsAt w0 p2 v2 cr (R.take v2) ∧ BsAt w0 p3 (nr - v2) (cr - v2) (R.drop v2)) := ⟨hq1 _ _ HA.out, hq2 _ _ T3.out.bs, hq3 _ _ T3.out.bs⟩
  clear hq1 hq2 hq3 hcv2
  have HCC : Hid (∀ W : World, Below w.heap.size w W → Below w0.heap.size w0 W → Calls Tryz.prog 133 #[.slice (some ⟨W.heap.size, 0, none⟩) 2 2] (W.alloc (.cells #[.slice p1 v1 c', .slice p2 v2 cr] TBs)) fun e w' => ∃ ka kc, e = .returned (.slice ka (v1 + v2) kc) ∧ OwnB w' w.heap.size ka (v1 + v2) kc (ah.take v1 ++ R.take v2) ∧ Below W.heap.size W w') := by
    intro W hW hW0
    have hb : Below W.heap.size W (W.alloc (.cells #[.slice p1 v1 c', .slice p2 v2 cr] TBs)) := (Below.refl _ _).alloc (Nat.le_refl _) _
    have hBox := Box.new W TBs #[.slice p1 v1 c', .slice p2 v2 cr]
    refine (concatB_any W.heap.size 2 (by omega) [⟨p1, v1, c', ah.take v1⟩, ⟨p2, v2, cr, R.take v2⟩] rfl (by simp [sumB]; omega) _ ?_).mono ?_
    · intro j hj
      have hj2 : j < 2 := hj
      rcases (by omega : j = 0 ∨ j = 1) with rfl | rfl
      · exact ⟨hBox.cell 0, HQ.out.1.below (Nat.le_refl _) (hW.trans (hb.mono hW.size)), HQ.out.1.bare⟩
      · exact ⟨hBox.cell 1, HQ.out.2.1.below (Nat.le_refl _) (hW0.trans (hb.mono hW0.size)), HQ.out.2.1.bare⟩
    · rintro _ w' ⟨ka, kc, rfl, ho, hb'⟩
      simp [sumB, allB] at ho
      refine ⟨ka, kc, by simp [sumB], ho.mono (by have := hW.size; omega), hb.trans (hb'.mono (by simp))⟩
  go_wp2_with fail
  have T4 : Hid (TS w0 w w3.drew w.heap.size nr cr a3 R) := T3.out.call (Below.refl _ _).drew
  have b4 : w3.drew.cell? ⟨w.heap.size, 0, none⟩ = some (.slice a3 nr cr) := b3
  go_region_held3 (fun W => W.cell? ⟨w.heap.size, 0, none⟩ = some (.slice a3 nr cr)) (first | exact b4 | go_keep)
    (first
     | (go_at_call 133; refine (HCC.out _ T4.out.base T4.out.base0).mono ?_; rintro _ vx ⟨ka, kc, rfl, hok, hbx⟩
        have T5 : Hid (TS w0 w vx w.heap.size nr cr a3 R) := T4.out.call hbx
        have HOK : Hid (OwnB vx w.heap.size ka (v1 + v2) kc (ah.take v1 ++ R.take v2)) := hok
        have b4 : vx.cell? ⟨w.heap.size, 0, none⟩ = some (.slice a3 nr cr) := T5.out.box.cell 0
        clear hbx hok))
  have z4 : vx.frozen? ⟨w.heap.size, 0, none⟩ = false := T5.out.box.soft 0
  have T6 : Hid (TS w0 w (vx.setCell ⟨w.heap.size, 0, none⟩ (.slice p3 (nr - v2) (cr - v2))) w.heap.size (nr - v2) (cr - v2) p3 (R.drop v2)) := T5.out.set HQ.out.2.2
  have HO6 : Hid (OwnB (vx.setCell ⟨w.heap.size, 0, none⟩ (.slice p3 (nr - v2) (cr - v2))) w.heap.size ka (v1 + v2) kc (ah.take v1 ++ R.take v2)) := HOK.out.kept fun k hk => Below.heap_setCell _ _ _ _ (fun e => by
    have h1 := HOK.out.tag hk
    have h2 := T5.out.box.tag
    have e' : k = w.heap.size := e
    rw [e', h2] at h1
    exact absurd (Option.some.inj h1) (by decide))
  clear T5 HOK T3 b3 z3 HCC hp1 hp2
  have hcv6 := conv_int_u64 (nr - v2) (by omega)
  go_wp2_with fail
  generalize vx.setCell ⟨w.heap.size, 0, none⟩ (.slice p3 (nr - v2) (cr - v2)) = w6 at T6 HO6 ⊢
  clear b4 z4 hp3
  by_cases hz : v3 ≤ nr - v2
  case neg =>
    rw [show decide (v3 ≤ nr - v2) = false from decide_eq_false hz]
    refine (must_no _).mono ?_
    rintro _ _ ⟨rfl, rfl⟩
    exact ⟨rfl, T6.out.base, .inl ⟨by rw [HT.out, if_neg (by have := HRL.out; omega)], rfl⟩⟩
  rw [show decide (v3 ≤ nr - v2) = true from decide_eq_true hz]
  refine (must_yes _).mono ?_
  rintro _ _ ⟨rfl, rfl⟩
  have hdec := decode_any ka (v1 + v2) kc _ w6 HO6.out.bs
  generalize hky : ah.take v1 ++ R.take v2 = key at HO6 hdec HT
  clear hcv6
  go_wp2_with fail
  refine hdec.mono ?_
  rintro _ w7 ⟨rfl, hb7⟩
  have T7 : Hid (TS w0 w w7 w.heap.size (nr - v2) (cr - v2) p3 (R.drop v2)) := T6.out.call hb7
  have HO7 : Hid (OwnB w7 w.heap.size ka (v1 + v2) kc key) := HO6.out.below hb7
  have HK7 : Hid (decKey key = ⟨strOf (keyUser key), keySeq key, (keyKind key : Int)⟩ ∧ key.length = v1 + v2) := ⟨rfl, HO6.out.size⟩
  clear hb7 hdec T6 HO6 hky
  generalize strOf (keyUser key) = ku at HK7
  generalize keySeq key = kq at HK7
  generalize keyKind key = kk at HK7
  by_cases hok : keyOk key = true
  case neg =>
    have hke : keyErr key = 20 := by unfold keyErr; rw [if_neg hok]
    rw [hke]
    go_wp2_with fail
    refine (must_no _).mono ?_
    rintro _ _ ⟨rfl, rfl⟩
    exact ⟨rfl, T7.out.base.alloc T7.out.base.size _, .inl ⟨by rw [HT.out, if_neg (fun h => hok h.2.2.2)], rfl⟩⟩
  have hke : keyErr key = 0 := by unfold keyErr; rw [if_pos hok]
  rw [hke]
  go_wp2_with fail
  refine (must_yes _).mono ?_
  rintro _ _ ⟨rfl, rfl⟩
  obtain ⟨p5, hp5, hq5⟩ := slice_to_u T7.out.bs v3 hz
  obtain ⟨p6, hp6, hq6⟩ := slice_any_u T7.out.bs v3 hz
  have HQ5 : Hid (BsAt w0 p5 v3 (cr - v2) ((R.drop v2).take v3) ∧ BsAt w0 p6 (nr - v2 - v3) (cr - v2 - v3) ((R.drop v2).drop v3)) := ⟨hq5 _ _ T7.out.bs, hq6 _ _ T7.out.bs⟩
  clear hq5 hq6
  generalize hw8 : w7.alloc (.cells #[.string ku, .int .u64 (kq : Int), .int .i64 (kk : Int)] 52) = w8
  have T8 : Hid (TS w0 w w8 w.heap.size (nr - v2) (cr - v2) p3 (R.drop v2)) := hw8 ▸ T7.out.call ((Below.refl _ _).alloc (Nat.le_refl _) _)
  have HO8 : Hid (OwnB w8 w.heap.size ka (v1 + v2) kc key) := hw8 ▸ HO7.out.alloc _
  have HB8 : Hid (Box w8 w7.heap.size 52 #[.string ku, .int .u64 (kq : Int), .int .i64 (kk : Int)]) := hw8 ▸ Box.new _ _ _
  clear hw8 T7 HO7
  generalize w7.heap.size = kb at HB8 ⊢
  have T9 : Hid (TS w0 w w8.drew w.heap.size (nr - v2) (cr - v2) p3 (R.drop v2)) := T8.out.call (Below.refl _ _).drew
  have f0 : w8.drew.cell? ⟨kb, 0, none⟩ = some (.string ku) := HB8.out.cell 0
  have f1 : w8.drew.cell? ⟨kb, 1, none⟩ = some (.int .u64 (kq : Int)) := HB8.out.cell 1
  have f2 : w8.drew.cell? ⟨kb, 2, none⟩ = some (.int .i64 (kk : Int)) := HB8.out.cell 2
  have f3 : w8.drew.cell? ⟨w.heap.size, 0, none⟩ = some (.slice p3 (nr - v2) (cr - v2)) := T9.out.box.cell 0
  have f4 := conv_of (HQ5.out.1.below (Nat.le_refl _) T9.out.base0)
  have g0 : w8.drew.cell? ⟨w.heap.size + 1, 0, none⟩ = some (.string ⟨#[]⟩) := T9.out.kv.cell 0
  have g1 : w8.drew.cell? ⟨w.heap.size + 1, 1, none⟩ = some (.int .u64 0) := T9.out.kv.cell 1
  have g2 : w8.drew.cell? ⟨w.heap.size + 1, 2, none⟩ = some (.int .i64 0) := T9.out.kv.cell 2
  have g3 : w8.drew.cell? ⟨w.heap.size + 1, 3, none⟩ = some (.string ⟨#[]⟩) := T9.out.kv.cell 3
  have z0 := T9.out.kv.soft 0
  have z1 := T9.out.kv.soft 1
  have z2 := T9.out.kv.soft 2
  have z3 := T9.out.kv.soft 3
  have hkb : kb ≠ w.heap.size + 1 := tag_ne HB8.out.tag T8.out.kv.tag (by decide)
  have hkb2 : w.heap.size + 1 ≠ kb := fun e => hkb e.symm
  generalize hvs : strOf ((R.drop v2).take v3) = vs at f4
  go_wp2_with fail
  have u0 : w8.cell? ⟨kb, 0, none⟩ = some (.string ku) := f0
  have u1 : w8.cell? ⟨kb, 1, none⟩ = some (.int .u64 (kq : Int)) := f1
  have u2 : w8.cell? ⟨kb, 2, none⟩ = some (.int .i64 (kk : Int)) := f2
  have u3 : w8.cell? ⟨w.heap.size, 0, none⟩ = some (.slice p3 (nr - v2) (cr - v2)) := f3
  have y0 : w8.frozen? ⟨w.heap.size + 1, 0, none⟩ = false := T8.out.kv.soft 0
  have y1 : w8.frozen? ⟨w.heap.size + 1, 1, none⟩ = false := T8.out.kv.soft 1
  have y2 : w8.frozen? ⟨w.heap.size + 1, 2, none⟩ = false := T8.out.kv.soft 2
  have y3 : w8.frozen? ⟨w.heap.size + 1, 3, none⟩ = false := T8.out.kv.soft 3
  have x0 : w8.cell? ⟨w.heap.size + 1, 0, none⟩ = some (.string ⟨#[]⟩) := T8.out.kv.cell 0
  have x1 : w8.cell? ⟨w.heap.size + 1, 1, none⟩ = some (.int .u64 0) := T8.out.kv.cell 1
  have x2 : w8.cell? ⟨w.heap.size + 1, 2, none⟩ = some (.int .i64 0) := T8.out.kv.cell 2
  have x3 : w8.cell? ⟨w.heap.size + 1, 3, none⟩ = some (.string ⟨#[]⟩) := T8.out.kv.cell 3
  go_region
  have HF : Hid (Box (((((w8.setCell ⟨w.heap.size + 1, 0, none⟩ (.string ku)).setCell ⟨w.heap.size + 1, 1, none⟩ (.int .u64 (kq : Int))).setCell ⟨w.heap.size + 1, 2, none⟩ (.int .i64 (kk : Int))).setCell ⟨w.heap.size + 1, 3, none⟩ (.string vs)).drew) (w.heap.size + 1) TKV #[.string ku, .int .u64 (kq : Int), .int .i64 (kk : Int), .string vs] ∧ Below w.heap.size w (((((w8.setCell ⟨w.heap.size + 1, 0, none⟩ (.string ku)).setCell ⟨w.heap.size + 1, 1, none⟩ (.int .u64 (kq : Int))).setCell ⟨w.heap.size + 1, 2, none⟩ (.int .i64 (kk : Int))).setCell ⟨w.heap.size + 1, 3, none⟩ (.string vs)).drew) ∧ OwnB (((((w8.setCell ⟨w.heap.size + 1, 0, none⟩ (.string ku)).setCell ⟨w.heap.size + 1, 1, none⟩ (.int .u64 (kq : Int))).setCell ⟨w.heap.size + 1, 2, none⟩ (.int .i64 (kk : Int))).setCell ⟨w.heap.size + 1, 3, none⟩ (.string vs)).drew) w.heap.size ka (v1 + v2) kc key) := by
    refine ⟨((((T8.out.kv.set 0 _).set 1 _).set 2 _).set 3 _).eq (by simp [kv0]), ((((T8.out.base.setCell (by simp) _).setCell (by simp) _).setCell (by simp) _).setCell (by simp) _).drew, HO8.out.kept fun k hk => ?_⟩
    have hne : k ≠ w.heap.size + 1 := tag_ne (HO8.out.tag hk) T8.out.kv.tag (by decide)
    show (World.setCell _ _ _).heap[k]? = _
    rw [Below.heap_setCell _ _ _ _ hne, Below.heap_setCell _ _ _ _ hne, Below.heap_setCell _ _ _ _ hne, Below.heap_setCell _ _ _ _ hne]
  generalize ((((w8.setCell ⟨w.heap.size + 1, 0, none⟩ (.string ku)).setCell ⟨w.heap.size + 1, 1, none⟩ (.int .u64 (kq : Int))).setCell ⟨w.heap.size + 1, 2, none⟩ (.int .i64 (kk : Int))).setCell ⟨w.heap.size + 1, 3, none⟩ (.string vs)).drew = wf at HF ⊢
  clear f0 f1 f2 f3 f4 g0 g1 g2 g3 z0 z1 z2 z3 u0 u1 u2 u3 y0 y1 y2 y3 x0 x1 x2 x3 hp5 hp6
  have r0 : wf.cell? ⟨w.heap.size + 1, 0, none⟩ = some (.string ku) := HF.out.1.cell 0
  have r1 : wf.cell? ⟨w.heap.size + 1, 1, none⟩ = some (.int .u64 (kq : Int)) := HF.out.1.cell 1
  have r2 : wf.cell? ⟨w.heap.size + 1, 2, none⟩ = some (.int .i64 (kk : Int)) := HF.out.1.cell 2
  have r3 : wf.cell? ⟨w.heap.size + 1, 3, none⟩ = some (.string vs) := HF.out.1.cell 3
  go_wp2
  refine bodyPost_ret (v := .tuple #[.agg #[.string ku, .int .u64 (kq : Int), .int .i64 (kk : Int), .string vs], .slice ka (v1 + v2) kc, .slice p6 (nr - v2 - v3) (cr - v2 - v3)]) (by simp [results, Tryz.results117, go_sem, r0, r1, r2, r3]) rfl ⟨HF.out.2.1, .inr ⟨(decKey key, vs), key, (R.drop v2).drop v3, ka, kc, p6, cr - v2 - v3, ?_, ?_, ?_, ?_⟩⟩
  · rw [HT.out, if_pos ⟨by omega, by have := HRL.out; omega, by have := HRL.out; omega, hok⟩, hvs]
  · rw [HK7.out.1, HK7.out.2, HQ5.out.2.size]
  · rw [HK7.out.2]
    exact HF.out.2.2
  · rw [HQ5.out.2.size]
    exact HQ5.out.2
end Go.Proofs.YtgegjcnjlibfdaaGreat
/- The contract of block's entriesOf. -/
namespace Go.Proofs.YtgegjcnjlibfdaaGreat
open Go.RowKit
set_option linter.unusedVariables false
set_option linter.unusedSimpArgs false
def kvA' (e : KV) : Array Value := #[.string e.1.user, .int .u64 (e.1.seq : Int), .int .i64 e.1.kind, .string e.2]
theorem ents_map (f : Nat) (ah b : List UInt8) (L : List KV) {e : KV} {key rest : List UInt8} (hb : b ≠ []) (h : takeB b ah = some (e, key, rest)) : (entsF (f + 1) ah b).map (L ++ ·) = (entsF f key rest).map ((L ++ [e]) ++ ·) := by
  rw [entsF_yes hb h, Option.map_map]
  congr 1
  funext x
  simp
set_option maxRecDepth 100000 in
set_option maxHeartbeats 2000000 in
theorem entries_any (a : Option Addr) (n c : Nat) (b : List UInt8) (most : Nat) (w : World) (h : BsAt w a n c b) (hn : n ≤ 35184372088832) (hmo : most ≤ 1000000) :
    Calls Tryz.prog 116 #[.slice a n c, .int .i64 (most : Int)] w fun r w' => Below w.heap.size w w' ∧ ((entsF most [] b = none ∧ r = gaveUp) ∨ ∃ l a' c', entsF most [] b = some l ∧ r = .returned (.slice a' l.length c') ∧ OwnK w' w.heap.size a' l.length c' l) := by
  have HB : Hid (BsAt w a n c b) := h
  clear h
  go_enter Tryz.func116, Tryz.ntmps116
  go_wp2_with fail
  go_loopw [0, 5, 6] (fun x0 x5 x6 wr => ∃ (f nb cb nk ck nl cl : Nat) (ab ak al : Option Addr), nb ≤ n ∧ nk ≤ 72 ∧ nl + f = most ∧ x0 = .slice ab nb cb ∧ x5 = .slice al nl cl ∧ x6 = .slice ak nk ck ∧ Hid (Below w.heap.size w wr ∧ ∃ L ah bs, BsAt w ab nb cb bs ∧ OwnK wr w.heap.size al nl cl L ∧ OwnB wr w.heap.size ak nk ck ah ∧ entsF most [] b = (entsF f ah bs).map (L ++ ·))) (fun x0 _ _ _ => lenOf x0)
  case atStart => exact ⟨most, n, c, 0, 0, 0, 0, a, none, none, Nat.le_refl _, by omega, by omega, rfl, rfl, rfl, Below.refl _ _, [], [], b, HB.out, OwnK.nil _ _, OwnB.nil _ _, by simp⟩
  case round =>
    obtain ⟨f, nb, cb, nk, ck, nl, cl, ab, ak, al, hnb, hnk, hnl, rfl, rfl, rfl, HI⟩ := hrel
    obtain ⟨L, ah, bs, hbs, hL, hah, hE⟩ := HI.out.2
    have HX : Hid (BsAt w ab nb cb bs ∧ OwnK wr w.heap.size al nl cl L ∧ OwnB wr w.heap.size ak nk ck ah ∧ entsF most [] b = (entsF f ah bs).map (L ++ ·)) := ⟨hbs, hL, hah, hE⟩
    have HBL : Hid (bs.length = nb ∧ L.length = nl) := ⟨hbs.size, hL.size⟩
    clear hbs hL hah hE
    by_cases h0 : 0 < nb
    · have HNE : Hid (bs ≠ []) := fun e => by have := HBL.out.1; rw [e] at this; simp at this; omega
      have ht := take_any ab nb cb bs ak nk ck ah w wr HI.out.1 HX.out.1 HX.out.2.2.1.bs (by omega) (by omega)
      by_cases hf : nl < most
      · obtain ⟨f, rfl⟩ : ∃ g, f = g + 1 := ⟨f - 1, by omega⟩
        go_wp2_with fail
        refine (must_yes _).mono ?_
        rintro _ _ ⟨rfl, rfl⟩
        go_wp2_with fail
        refine ht.mono ?_
        rintro _ w1 ⟨hb1, ⟨ht0, rfl⟩ | ⟨e, key, rest, ka, kc, ra, rc, ht1, rfl, hko, hro⟩⟩
        · exact ⟨rfl, HI.out.1.trans (hb1.mono HI.out.1.size), .inl ⟨by rw [HX.out.2.2.2, entsF_no HNE.out ht0]; rfl, rfl⟩⟩
        have H1 : Hid (Below w.heap.size w w1 ∧ OwnK w1 w.heap.size al nl cl L ∧ OwnB w1 w.heap.size ka key.length kc key ∧ BsAt w ra rest.length rc rest) := ⟨HI.out.1.trans (hb1.mono HI.out.1.size), HX.out.2.1.below hb1, hko.mono HI.out.1.size, hro⟩
        have HTE : Hid (entsF most [] b = (entsF f key rest).map ((L ++ [e]) ++ ·)) := HX.out.2.2.2.trans (ents_map f ah bs L HNE.out ht1)
        have hsm := takeB_some ht1
        have hk72 : key.length ≤ 72 := hsm.2.2.2.2
        have hrl : rest.length + 3 ≤ nb := by have := hsm.2.2.1; have := HBL.out.1; omega
        clear hb1 hko hro ht1 hsm ht
        generalize key.length = nk2 at H1 hk72
        generalize rest.length = nr2 at H1 hrl
        have H2 : Hid (Below w.heap.size w (w1.alloc (.cells (kvA' e) TKV)) ∧ OwnK (w1.alloc (.cells (kvA' e) TKV)) w.heap.size al nl cl L ∧ OwnB (w1.alloc (.cells (kvA' e) TKV)) w.heap.size ka nk2 kc key) := ⟨H1.out.1.alloc H1.out.1.size _, H1.out.2.1.alloc _, H1.out.2.2.1.alloc _⟩
        go_wp2_with (first | (at_builtin; refine wpList_pushK (w1.alloc (.cells (kvA' e) TKV)) rfl _ _ rfl w.heap.size al nl cl L rfl H2.out.2.1 e _ rfl (by rw [show (w1.alloc (.cells (kvA' e) TKV)).heap.size = w1.heap.size + 1 by simp]; rfl) (by omega) H2.out.1.size ?_))
        intro a6 c6 w6 ho6 hb6 hg6
        have H6 : Hid (Below w.heap.size w w6 ∧ OwnK w6 w.heap.size a6 (nl + 1) c6 (L ++ [e]) ∧ OwnB w6 w.heap.size ka nk2 kc key ∧ BsAt w ra nr2 rc rest) := by
          refine ⟨H2.out.1.trans hb6, ho6, H2.out.2.2.kept fun k hk => ?_, H1.out.2.2.2⟩
          have hlt := tag_lt (H2.out.2.2.tag hk)
          rw [hg6.block k (by simp; simp at hlt; omega) (fun e => ?_)]
          · exact Below.heap_alloc _ _ _ hlt
          · have h1 := H2.out.2.1.tag e.symm
            have h2 := H2.out.2.2.tag hk
            rw [h1] at h2
            exact absurd (Option.some.inj h2) (by decide)
        clear ho6 hb6 hg6
        go_wp2
        go_roundw
        case rel => exact ⟨f, nr2, rc, nk2, kc, nl + 1, c6, ra, ka, a6, by omega, hk72, by omega, rfl, rfl, rfl, H6.out.1, L ++ [e], key, rest, H6.out.2.2.2, H6.out.2.1, H6.out.2.2.1, HTE.out⟩
        case measure => simp only [lenOf]; omega
      · obtain rfl : f = 0 := by omega
        go_wp2_with fail
        refine (must_no _).mono ?_
        rintro _ _ ⟨rfl, rfl⟩
        exact ⟨rfl, HI.out.1, .inl ⟨by rw [HX.out.2.2.2, entsF_full HNE.out]; rfl, rfl⟩⟩
    · obtain rfl : nb = 0 := by omega
      go_wp2
      go_ret
      have hb0 : bs = [] := List.eq_nil_of_length_eq_zero HBL.out.1
      have hll := HBL.out.2
      subst hll
      exact ⟨HI.out.1, .inr ⟨L, al, cl, by rw [HX.out.2.2.2, hb0, entsF_nil]; simp, ret1 rfl, HX.out.2.1⟩⟩
end Go.Proofs.YtgegjcnjlibfdaaGreat
/- The contract of block's cutNumber. -/
namespace Go.Proofs.YtgegjcnjlibfdaaGreat
open Go.RowKit
set_option linter.unusedVariables false
set_option linter.unusedSimpArgs false
set_option maxRecDepth 100000 in
set_option maxHeartbeats 1000000 in
theorem cut_any (a : Option Addr) (n c : Nat) (b : List UInt8) (s : Nat) (z : Int) (hz : z = (s : Int)) (h1 : 1 ≤ s) (h8 : s ≤ 8) (w : World) (h : BsAt w a n c b) :
    Calls Tryz.prog 125 #[.slice a n c, .int .i64 z] w fun r w' => w = w' ∧ ((n < s ∧ r = gaveUp) ∨ (s ≤ n ∧ ∃ a', r = .returned (.tuple #[.slice a' (n - s) c, .int .u64 ((leNat (b.drop (n - s)) : Nat) : Int)]) ∧ ∀ (W : World) (bs : List UInt8), BsAt W a n c bs → BsAt W a' (n - s) c (bs.take (n - s)))) := by
  have hm := h.max
  have hle := h.le
  have hsz := h.size
  unfold maxLen at hm
  by_cases hn : s ≤ n
  · obtain ⟨p1, q1, r1⟩ := slice_any h (n - s) (by omega)
    obtain ⟨p2, q2, r2⟩ := slice_to h (n - s) (by omega)
    have hb1 := r1 _ _ h
    have hfx : fxRead (b.drop (n - s)) (s : Int) = (leNat (b.drop (n - s)), 0) := by
      unfold fxRead
      have hl : (b.drop (n - s)).length = s := by rw [List.length_drop]; omega
      rw [if_neg (by omega), if_neg (by omega), Int.toNat_natCast, List.take_of_length_le (by omega)]
    have hf := fixed_eq hb1 hfx
    rw [show (((n - s : Nat)) : Int) = (n : Int) - (s : Int) by omega] at q1 q2
    have HR : Hid (∀ (W : World) (bs : List UInt8), BsAt W a n c bs → BsAt W p2 (n - s) c (bs.take (n - s))) := r2
    rw [show n - (n - s) = s by omega] at q1 hf
    rw [← hz] at hf q1 q2
    have hd : decide (z ≤ (n : Int)) = true := decide_eq_true (by omega)
    have hz2 : Hid (z = (s : Int)) := hz
    have hzb : 1 ≤ z ∧ z ≤ 8 := by omega
    have hzn : z ≤ (n : Int) := by omega
    clear hz hfx hb1 r1 r2
    go_enter Tryz.func125, Tryz.ntmps125
    go_wp2_with fail
    refine (must_yes _).mono ?_
    rintro _ _ ⟨rfl, rfl⟩
    go_wp2_with fail
    refine hf.mono ?_
    rintro _ w2 ⟨rfl, hw⟩
    obtain rfl : w = w2 := hw.symm
    go_wp2
    go_ret2
    exact ⟨rfl, .inr ⟨hn, p2, ret2 rfl rfl, HR.out⟩⟩
  · have hd : decide (z ≤ (n : Int)) = false := decide_eq_false (by omega)
    have hzn : ¬ z ≤ (n : Int) := by omega
    go_enter Tryz.func125, Tryz.ntmps125
    go_wp2_with fail
    refine (must_no _).mono ?_
    rintro _ _ ⟨rfl, rfl⟩
    exact ⟨rfl, rfl, .inl ⟨by omega, rfl⟩⟩
end Go.Proofs.YtgegjcnjlibfdaaGreat
/- The contract of block's stretchesOf. -/
namespace Go.Proofs.YtgegjcnjlibfdaaGreat
open Go.RowKit
set_option linter.unusedVariables false
set_option linter.unusedSimpArgs false
/-- A slice is a part of another: what it reads as whenever the other one reads as those bytes. -/
def Part (a : Option Addr) (n c : Nat) (b : List UInt8) (a' : Option Addr) (n' c' : Nat) (b' : List UInt8) : Prop := ∀ W, BsAt W a n c b → BsAt W a' n' c' b'
theorem Part.refl (a : Option Addr) (n c : Nat) (b : List UInt8) : Part a n c b a n c b := fun _ h => h
/-- Cells that hold the stretches of some bytes. -/
structure StrAt (a : Option Addr) (n c : Nat) (b : List UInt8) (arr : Array Value) (k : Nat) (ss : List (List UInt8)) : Prop where
  size : arr.size = k + ss.length
  each : ∀ j, ∀ hj : j < ss.length, ∃ aj cj, arr[k + j]? = some (.slice aj ss[j].length cj) ∧ Part a n c b aj ss[j].length cj ss[j]
theorem infoBs : (Tryz.prog.info? TBs).map (fun i => (i.zero, i.size, i.bytes)) = some (some (.slice none 0 0), 1, 24) := by kernel_rfl
theorem made_bs (n : Nat) (hn : n ≤ 5864062014805) (w : World) : ∃ arr : Array Value, arr.size = n ∧ (Instr.makeSlice 145 (.int .i64 (n : Int)) (.int .i64 (n : Int))).run Tryz.prog w = .ok (.slice (some ⟨w.heap.size, 0, none⟩) n n) (w.alloc (.cells arr TBs)) := by
  obtain ⟨i, hi, hzz⟩ := Option.map_eq_some_iff.1 infoBs
  simp only [Prod.mk.injEq] at hzz
  obtain ⟨hz, hs, hb⟩ := hzz
  have hr := run_make (P := Tryz.prog) w 145 TBs i _ Tryz.underlying145 hi hz .i64 .i64 n n (by omega) (Int.le_refl _) (by rw [hb]; omega) (by omega)
  simp only [Int.toNat_natCast, hs] at hr
  exact ⟨_, by simp [madeCells], hr⟩
theorem idxBs (lb : Nat) {j n c : Nat} (hj : j < n) (W : World) : (Instr.indexAt 145 (.slice (some ⟨lb, 0, none⟩) n c) (.int .i64 (j : Int))).run Tryz.prog W = .ok (.pointer (some ⟨lb, j, none⟩)) W := idxRB lb hj W
theorem cuts_step (k : Nat) (body pl : List UInt8) (done : List (List UInt8)) (h : leNat (pl.drop (4 * k)) ≤ body.length) : (cutsF (k + 1) body pl).map (· ++ done) = (cutsF k (body.take (leNat (pl.drop (4 * k)))) (pl.take (4 * k))).map (· ++ (body.drop (leNat (pl.drop (4 * k))) :: done)) := by
  rw [cutsF, if_pos h, Option.map_map]
  congr 1
  funext x
  simp
theorem cuts_none (k : Nat) (body pl : List UInt8) (h : ¬ leNat (pl.drop (4 * k)) ≤ body.length) : cutsF (k + 1) body pl = none := by
  rw [cutsF, if_neg h]
set_option maxRecDepth 100000 in
set_option maxHeartbeats 2000000 in
theorem cuts_any (ab : Option Addr) (nb cb : Nat) (body : List UInt8) (ap : Option Addr) (np cp : Nat) (pl : List UInt8) (m : Nat) (w : World) (hb : BsAt w ab nb cb body) (hp : BsAt w ap np cp pl) (hm : np = m * 4) (hn : nb ≤ 35184372088832) (hm2 : m ≤ 1000000000000) :
    Calls Tryz.prog 127 #[.slice ab nb cb, .slice ap np cp] w fun r w' => Below w.heap.size w w' ∧ ((cutsF m body pl = none ∧ r = gaveUp) ∨ ∃ ss arr g, cutsF m body pl = some ss ∧ r = .returned (.slice (some ⟨g, 0, none⟩) m m) ∧ w.heap.size ≤ g ∧ Box w' g TBs arr ∧ StrAt ab nb cb body arr 0 ss) := by
  have HB : Hid (BsAt w ab nb cb body ∧ BsAt w ap np cp pl) := ⟨hb, hp⟩
  have HP : Hid (pl.length = np) := hp.size
  clear hb hp
  obtain ⟨arr0, hz0, hmk⟩ := made_bs m (by omega) w
  have hq : (np : Int) / 4 = (m : Int) := by omega
  have HM : Hid (np = m * 4) := hm
  have hnp : np ≤ 4000000000000 := by omega
  clear hm
  go_enter Tryz.func127, Tryz.ntmps127
  go_wp2_with fail
  go_loopw [0, 1, 6] (fun x0 x1 x6 wr => ∃ (k n0 c0 c1 : Nat) (a0 a1 : Option Addr) (z : Int), k ≤ m ∧ z = (k : Int) - 1 ∧ n0 ≤ nb ∧ x6 = .int .i64 z ∧ x0 = .slice a0 n0 c0 ∧ x1 = .slice a1 (k * 4) c1 ∧ Hid (Below w.heap.size w wr ∧ ∃ b0 p0 done arr, Part ab nb cb body a0 n0 c0 b0 ∧ BsAt w a1 (k * 4) c1 p0 ∧ Box wr w.heap.size TBs arr ∧ arr.size = m ∧ StrAt ab nb cb body arr k done ∧ cutsF m body pl = (cutsF k b0 p0).map (· ++ done))) (fun _ _ x6 _ => (intOf x6 + 1).toNat)
  case atStart => exact ⟨m, nb, cb, cp, ab, ap, _, Nat.le_refl _, rfl, Nat.le_refl _, by congr 1, rfl, by rw [HM.out], (Below.refl _ _).alloc (Nat.le_refl _) _, body, pl, [], arr0, Part.refl _ _ _ _, by have := HB.out.2; rw [HM.out] at this; exact this, Box.new _ _ _, hz0, ⟨by rw [hz0]; rfl, fun j hj => absurd hj (Nat.not_lt_zero _)⟩, by simp⟩
  case round =>
    obtain ⟨k, n0, c0, c1, a0, a1, z, hk, hz, hn0, rfl, rfl, rfl, HI⟩ := hrel
    obtain ⟨b0, p0, done, arr, i1, i2, i3, i4, i5, i6⟩ := HI.out.2
    have HX : Hid (Part ab nb cb body a0 n0 c0 b0 ∧ BsAt w a1 (k * 4) c1 p0 ∧ Box wr w.heap.size TBs arr ∧ arr.size = m ∧ StrAt ab nb cb body arr k done ∧ cutsF m body pl = (cutsF k b0 p0).map (· ++ done)) := ⟨i1, i2, i3, i4, i5, i6⟩
    have HL : Hid (b0.length = n0 ∧ p0.length = k * 4) := ⟨(i1 _ HB.out.1).size, i2.size⟩
    clear i1 i2 i3 i4 i5 i6
    by_cases hk0 : 0 < k
    · obtain ⟨j, rfl⟩ : ∃ j, k = j + 1 := ⟨k - 1, by omega⟩
      have hz' : z = (j : Int) := by omega
      subst hz'
      clear hz
      have hc := cut_any a1 ((j + 1) * 4) c1 p0 4 4 rfl (by omega) (by omega) wr (HX.out.2.1.below (Nat.le_refl _) HI.out.1)
      have hsub : (j + 1) * 4 - 4 = j * 4 := by omega
      rw [hsub] at hc
      have HPL : Hid (leNat (p0.drop (j * 4)) < 18446744073709551616) := leNat_lt64 _ (by rw [List.length_drop]; have := HL.out.2; omega)
      go_wp2_with fail
      refine hc.mono ?_
      rintro _ w2 ⟨hw, ⟨hno, _⟩ | ⟨_, a2, rfl, hpp⟩⟩
      · omega
      obtain rfl : wr = w2 := hw
      have HC2 : Hid (BsAt w a2 (j * 4) c1 (p0.take (j * 4))) := hpp _ _ HX.out.2.1
      clear hpp hc
      obtain ⟨place, hpl⟩ : ∃ place, leNat (p0.drop (j * 4)) = place := ⟨_, rfl⟩
      rw [hpl]
      have HPL2 : Hid (leNat (p0.drop (4 * j)) = place) := by rw [Nat.mul_comm]; exact hpl
      have hplt : place < 18446744073709551616 := by rw [← hpl]; exact HPL.out
      clear hpl
      have hcv := conv_int_u64 n0 (by omega)
      go_wp2_with fail
      by_cases hple : place ≤ n0
      · rw [show decide (place ≤ n0) = true from decide_eq_true hple]
        refine (must_yes _).mono ?_
        rintro _ _ ⟨rfl, rfl⟩
        obtain ⟨q1, r1, s1⟩ := slice_to_u (HX.out.1 _ HB.out.1) place hple
        obtain ⟨q2, r2, s2⟩ := slice_any_u (HX.out.1 _ HB.out.1) place hple
        have hix := fun W => idxBs w.heap.size (n := m) (c := m) (show j < m by omega) W
        obtain ⟨v0, hv0⟩ : ∃ v0, wr.cell? ⟨w.heap.size, j, none⟩ = some v0 := by
          rw [HX.out.2.2.1.cell]
          exact ⟨_, Array.getElem?_eq_getElem (by have := HX.out.2.2.2.1; omega)⟩
        have hs0 := HX.out.2.2.1.soft j
        have HS : Hid (Part ab nb cb body q1 place c0 (b0.take place) ∧ Part ab nb cb body q2 (n0 - place) (c0 - place) (b0.drop place)) := ⟨fun W h => s1 _ _ (HX.out.1 W h), fun W h => s2 _ _ (HX.out.1 W h)⟩
        clear s1 s2 hcv
        go_wp2_with fail
        go_region
        have HF : Hid (Below w.heap.size w ((wr.setCell ⟨w.heap.size, j, none⟩ (.slice q2 (n0 - place) (c0 - place))).drew) ∧ ∃ b1 p1 done1 arr1, Part ab nb cb body q1 place c0 b1 ∧ BsAt w a2 (j * 4) c1 p1 ∧ Box ((wr.setCell ⟨w.heap.size, j, none⟩ (.slice q2 (n0 - place) (c0 - place))).drew) w.heap.size TBs arr1 ∧ arr1.size = m ∧ StrAt ab nb cb body arr1 j done1 ∧ cutsF m body pl = (cutsF j b1 p1).map (· ++ done1)) := by
          obtain ⟨x1, x2, x3, x4, x5, x6⟩ := HX.out
          refine ⟨(HI.out.1.setCell (Nat.le_refl _) _).drew, b0.take place, p0.take (j * 4), b0.drop place :: done, arr.setIfInBounds j (.slice q2 (n0 - place) (c0 - place)), HS.out.1, HC2.out, x3.set j _, by rw [Array.size_setIfInBounds]; exact x4, ⟨?_, fun t ht => ?_⟩, ?_⟩
          · rw [Array.size_setIfInBounds, x5.size, List.length_cons]
            omega
          · cases t with
            | zero =>
              refine ⟨q2, c0 - place, ?_, ?_⟩
              · simp only [List.getElem_cons_zero, Nat.add_zero, List.length_drop]
                rw [HL.out.1, Array.getElem?_setIfInBounds_self_of_lt (by omega)]
              · simp only [List.getElem_cons_zero, List.length_drop]
                rw [HL.out.1]
                exact HS.out.2
            | succ t =>
              obtain ⟨aj, cj, e1, e2⟩ := x5.each t (by simpa using ht)
              refine ⟨aj, cj, ?_, by simpa using e2⟩
              rw [Array.getElem?_setIfInBounds_ne (by omega), show j + (t + 1) = j + 1 + t by omega, e1]
              simp
          · rw [x6, cuts_step j b0 p0 done (by rw [HPL2.out, HL.out.1]; exact hple), HPL2.out, Nat.mul_comm 4 j]
        generalize (wr.setCell ⟨w.heap.size, j, none⟩ (.slice q2 (n0 - place) (c0 - place))).drew = wf at HF ⊢
        clear hv0 hs0 hix r1 r2
        go_wp2
        go_roundw
        case rel => exact ⟨j, place, c0, c1, q1, a2, _, by omega, rfl, by omega, by congr 1, rfl, rfl, HF.out⟩
        case measure => simp only [intOf]; omega
      · rw [show decide (place ≤ n0) = false from decide_eq_false hple]
        refine (must_no _).mono ?_
        rintro _ _ ⟨rfl, rfl⟩
        exact ⟨rfl, HI.out.1, .inl ⟨by rw [HX.out.2.2.2.2.2, cuts_none j b0 p0 (by rw [HPL2.out, HL.out.1]; exact hple)]; rfl, rfl⟩⟩
    · obtain rfl : k = 0 := by omega
      have hneg : ¬ (0 : Int) ≤ z := by omega
      have HZ : Hid (z = ((0 : Nat) : Int) - 1) := hz
      clear hz
      by_cases hn : n0 = 0
      · subst hn
        go_wp2_with fail
        refine (must_yes _).mono ?_
        rintro _ _ ⟨rfl, rfl⟩
        go_wp2
        go_ret
        have hb0 : b0 = [] := List.eq_nil_of_length_eq_zero HL.out.1
        exact ⟨HI.out.1, .inr ⟨done, arr, w.heap.size, by rw [HX.out.2.2.2.2.2, hb0]; simp [cutsF], ret1 rfl, Nat.le_refl _, HX.out.2.2.1, HX.out.2.2.2.2.1⟩⟩
      · have hd : ((n0 : Int) == 0) = false := by simp; omega
        go_wp2_with fail
        refine (must_no _).mono ?_
        rintro _ _ ⟨rfl, rfl⟩
        have hb0 : b0 ≠ [] := fun e => hn (by have := HL.out.1; rw [e] at this; exact this.symm)
        exact ⟨rfl, HI.out.1, .inl ⟨by rw [HX.out.2.2.2.2.2]; simp [cutsF, hb0], rfl⟩⟩
end Go.Proofs.YtgegjcnjlibfdaaGreat
