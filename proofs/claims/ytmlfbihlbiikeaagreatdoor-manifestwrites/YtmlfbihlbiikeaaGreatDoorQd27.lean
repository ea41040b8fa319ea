/- Rows of files: slices.Grow, Concat of a version's four, Chunk. -/
import Derived.RangeFuncNested
import Derived.RangeFuncBound
import Derived.RangeFuncCalls
import Derived.RangeFuncLeaves
import Derived.RangeFuncBox
import Derived.RangeFuncWrites
import Derived.Shelf.Abstract
import Derived.Shelf.RegionOpen
import Derived.OwnWalkIn
import Derived.TacticsInMore
import Derived.LoopNIn
import Derived.LoopIn
import Derived.Lib.AppendZeros
import Derived.WalkLawsBesides
import Derived.Handy
import Derived.Test.YtmlfbihlbiikeaaGreatDoorQd15
import Derived.Test.YtmlfbihlbiikeaaGreatDoorQd13
import Derived.Test.YtmlfbihlbiikeaaGreatDoorQd25
import Derived.Test.YtmlfbihlbiikeaaGreatDoorQd07
import Derived.Maps.OwnSet
import Derived.Maps.Ext
import Derived.Sort.KeysCollected
import Derived.Test.YtmlfbihlbiikeaaGreatDoorQd00
namespace Go.Proofs.YtmlfbihlbiikeaaGreatDoor
set_option maxRecDepth 100000
open Go.RowKit Go.Shelf
attribute [local go_sem] Oper.semAt_some
set_option linter.unusedVariables false
set_option linter.unusedSimpArgs false
theorem wpList_zerosF (w : World) {ops : Array Oper} {rest : List Oper} {o : Oper} {a : Act} {Q : Exit → Act → World → Prop} (hgd : o.guard = none) (s x : Operand)
    (ho : o.op = .call { callee := .builtin .append, args := #[s, x], argTypes := #[41, 3] })
    (n : Nat) (hs : a.eval s = .slice none 0 0) (hx : a.eval x = .int .i64 (n : Int)) (h0 : 0 < n) (hl : n ≤ 1000000000000)
    (h : ∀ c' w', n ≤ c' → OwnF w' w.heap.size (some ⟨w.heap.size, 0, none⟩) 0 c' [] → Below w.heap.size w w' → wpList Tryz.prog ops Q rest (a.put o.dst (.slice (some ⟨w.heap.size, 0, none⟩) n c')) w') :
    wpList Tryz.prog ops Q (o :: rest) a w := by
  obtain ⟨i, hi, hz0, hz1, hz2⟩ := info_parts infoF
  have hge := grownCap_ge w n 0 59
  have hr := Lib.run_append_nil_zeros (P := Tryz.prog) w 41 3 o.type 59 i (.agg #[.int .i64 0, .int .u64 0, .int .i64 0, .string ⟨#[]⟩, .int .u64 0, .int .i64 0, .string ⟨#[]⟩, .int .u64 0, .int .i64 0]) .i64 .i64 Tryz.underlying41 Tryz.underlying3 hi hz0 n h0 (by rw [hz1]; omega) (by omega) (by rw [hz2]; omega)
  refine Lib.wpList_append_run w hgd s x _ _ ho _ _ hs hx _ _ hr (h _ _ hge ⟨rfl, by simp [fc], .inr ⟨w.heap.size, _, _, rfl, Nat.le_refl _, heap_alloc_new w.drew _, Nat.zero_le _, grownCap_le_maxLen w n 0 _ (by unfold maxLen; omega), ?_, by simp [fc]⟩⟩ (((Below.refl _ w).drew).alloc (Nat.le_refl _) _))
  simp [size_zeroCells, Value.cells]
  try omega
set_option maxRecDepth 100000 in
set_option maxHeartbeats 1000000 in
theorem growF_nil (n : Nat) (hn : n ≤ 1000000000000) (w : World) : Calls Tryz.prog 159 #[.slice none 0 0, .int .i64 (n : Int)] w fun e w' => ∃ a' c', e = .returned (.slice a' 0 c') ∧ OwnF w' w.heap.size a' 0 c' [] ∧ Below w.heap.size w w' := by
  by_cases h0 : 0 < n
  · go_enter Tryz.func159, Tryz.ntmps159
    go_wp2_with (first | (at_builtin; refine wpList_zerosF _ rfl _ _ rfl n rfl rfl h0 hn ?_))
    intro c1 w1 hc1 ho1 hb1
    go_wp2
    go_ret
    exact ⟨_, c1, ret1 rfl, ho1, hb1⟩
  · obtain rfl : n = 0 := by omega
    go_enter Tryz.func159, Tryz.ntmps159
    go_wp2
    go_ret
    exact ⟨none, 0, ret1 rfl, OwnF.nil _ _, Below.refl _ _⟩

theorem accF_le (v : PV) {k : Nat} (hk : k ≤ 4) : (accF v k).length ≤ v.all.length := by
  by_cases h : k < 4
  · obtain ⟨r, hr⟩ := accF_pre (v := v) (i := 0) h
    have := congrArg List.length hr
    simp only [List.length_append, List.take_zero, List.length_nil] at this
    omega
  · obtain rfl : k = 4 := by omega
    rw [accF_four]
    exact Nat.le_refl _
theorem idxR4 (p : Nat) {j : Nat} (hj : j < 4) (W : World) : (Instr.indexAt 167 (.slice (some ⟨p, 1, none⟩) 4 4) (.int .i64 (j : Int))).run Tryz.prog W = .ok (.pointer (some ⟨p, 1 + j, none⟩)) W := by
  have h1 : (0 : Int) ≤ (j : Int) ∧ (j : Int) < 4 := by omega
  have hsz : (sizeOf (Tryz.prog.elem 167)).run Tryz.prog W = .ok 1 W := by kernel_rfl
  rw [run_indexAt_slice (P := Tryz.prog) (h := (by kernel_rfl : Tryz.prog.underlying 167 = some (.slice (Tryz.prog.elem 167)))), if_pos (by exact h1), hsz]
  simp [Result.andThen, Addr.add_lit]
def CatR (w : World) (l : List PF) (e : Ending) (w' : World) : Prop := ∃ a' c', e = .returned (.slice a' l.length c') ∧ OwnF w' w.heap.size a' l.length c' l ∧ Below w.heap.size w w'
set_option maxHeartbeats 2000000 in
theorem concatF_any (v : PV) (s : SV) (p : Nat) (hn : v.all.length ≤ 60000) (w : World) (hv : VnAt w v s) (h : ∀ j, j < 4 → w.cell? ⟨p, 1 + j, none⟩ = some (.slice (s.a j) (v j).length (s.c j))) :
    Calls Tryz.prog 105 #[.slice (some ⟨p, 1, none⟩) 4 4] w (CatR w v.all) := by
  have HS : Hid (VnAt w v s ∧ ∀ j, j < 4 → w.cell? ⟨p, 1 + j, none⟩ = some (.slice (s.a j) (v j).length (s.c j))) := ⟨hv, h⟩
  clear h hv
  generalize HQ : CatR w v.all = Q4
  go_enter Tryz.func105, Tryz.ntmps105
  go_wp2_with fail
  go_loopw [3, 11] (fun x3 x wr => ∃ j q : Nat, j ≤ 4 ∧ x = .int .i64 (j : Int) ∧ x3 = .int .i64 (q : Int) ∧ Hid (q = (accF v j).length) ∧ wr = w) (fun _ x _ => 4 - (intOf x).toNat)
  case atStart => exact ⟨0, 0, Nat.zero_le _, rfl, rfl, rfl, rfl⟩
  case round =>
    obtain ⟨j, s0, hj, rfl, rfl, HQ0, hwr⟩ := hrel
    obtain rfl : w = wr := hwr.symm
    clear hwr
    have hle : s0 ≤ 60000 := by have := accF_le v hj; have := HQ0.out; omega
    by_cases hjm : j < 4
    · have c0 := HS.out.2 j hjm
      have hix := fun W => idxR4 p hjm W
      have hjI : (j : Int) < 4 := by omega
      have hle1 : s0 + (v j).length ≤ 60000 := by
        have h1 := accF_le v (k := j + 1) hjm
        rw [accF_succ, List.length_append, ← HQ0.out] at h1
        omega
      have HSS : Hid (s0 + (v j).length = (accF v (j + 1)).length) := by unfold Hid; rw [accF_succ, List.length_append, ← HQ0.out]
      generalize (v j).length = vn at c0 hle1 HSS
      generalize s.a j = va at c0
      generalize s.c j = vc at c0
      go_wp2
      go_roundw
      case rel => exact ⟨j + 1, s0 + vn, hjm, by go_num, by go_num, HSS.out, trivial⟩
      case measure => simp only [intOf]; omega
    · obtain rfl : j = 4 := by omega
      have HG : Hid (∀ W : World, Calls Tryz.prog 159 #[.slice none 0 0, .int .i64 (s0 : Int)] W fun e w' => ∃ a' c', e = .returned (.slice a' 0 c') ∧ OwnF w' W.heap.size a' 0 c' [] ∧ Below W.heap.size W w') := fun W => growF_nil _ (by omega) W
      go_wp2_with fail
      refine (HG.out _).mono ?_
      rintro _ w1 ⟨a1, c1, rfl, ho1, hb1⟩
      have H1 : Hid (OwnF w1 w.heap.size a1 0 c1 [] ∧ Below w.heap.size w w1) := ⟨ho1, hb1⟩
      clear ho1 hb1
      go_wp2_with fail
      go_loopw [6, 27] (fun x6 x wr => ∃ (k no co : Nat) (ao : Option Addr), k ≤ 4 ∧ Hid (no = (accF v k).length) ∧ x = .int .i64 (k : Int) ∧ x6 = .slice ao no co ∧ Hid (OwnF wr w.heap.size ao no co (accF v k) ∧ Below w.heap.size w wr)) (fun _ x _ => 4 - (intOf x).toNat)
      case atStart => exact ⟨0, 0, c1, a1, Nat.zero_le _, rfl, rfl, rfl, H1.out⟩
      case round =>
        obtain ⟨k, no, co, ao, hk, HNO, rfl, rfl, HI⟩ := hrel
        have hle0 : no ≤ 60000 := by have := accF_le v hk; have := HNO.out; omega
        by_cases hkj : k < 4
        · have c00 := HS.out.2 k hkj
          have hix := fun W => idxR4 p hkj W
          have hkI : (k : Int) < 4 := by omega
          have HSU : Hid (no + (v k).length = (accF v (k + 1)).length ∧ accF v (k + 1) = accF v k ++ v k) := by
            refine ⟨?_, accF_succ v k⟩
            rw [accF_succ, List.length_append, ← HNO.out]
          have hnr : no + (v k).length ≤ 60000 := by
            have := accF_le v (k := k + 1) hkj
            have := HSU.out.1
            omega
          have hlt : p < w.heap.size := World.block_lt_of_cell? w _ c00
          have c0 : wr.cell? ⟨p, 1 + k, none⟩ = some (.slice (s.a k) (v k).length (s.c k)) := by rw [HI.out.2.cell hlt]; exact c00
          have HSRC : Hid (FlAt wr (s.a k) (v k).length (s.c k) (v k)) := (HS.out.1 k hkj).below HI.out.2
          clear c00
          generalize v k = vk at c0 HSRC HSU hnr
          generalize s.a k = va at c0 HSRC
          generalize s.c k = vc at c0 HSRC
          go_wp2_with (first | (at_builtin; refine wpList_appFl wr rfl _ _ rfl w.heap.size ao no co _ rfl HI.out.1 va vk.length vc _ rfl HSRC.out (by omega) HI.out.2.size ?_))
          intro a6 c6 w6 ho6 hb6 _
          have HJ : Hid (OwnF w6 w.heap.size a6 (no + vk.length) c6 (accF v (k + 1)) ∧ Below w.heap.size w w6) := by
            rw [HSU.out.2]
            exact ⟨ho6, HI.out.2.trans hb6⟩
          clear ho6 hb6
          go_wp2
          go_roundw
          case rel => exact ⟨k + 1, no + vk.length, c6, a6, hkj, HSU.out.1, by go_num, rfl, HJ.out⟩
          case measure => simp only [intOf]; omega
        · obtain rfl : k = 4 := by omega
          go_wp2
          have h1 := HI.out.1
          have h2 := HNO.out
          rw [accF_four] at h1 h2
          subst h2
          rw [← HQ]
          exact ⟨ao, co, rfl, h1, HI.out.2⟩
theorem fl_from {w0 : World} {l0 : List PF} {a : Option Addr} {n c : Nat} (h : FlAt w0 a n c l0) (k : Nat) (hk : k < n) :
    ∃ a', ∀ W : World, (Instr.slice 41 (.slice a n c) (some (.int .i64 (k : Int))) none none).run Tryz.prog W = .ok (.slice a' (n - k) (c - k)) W := by
  have hle := h.row.le
  have hmx := h.row.max
  have hz : ∀ W, (sizeOf (Tryz.prog.elem 41)).run Tryz.prog W = .ok 9 W := fun W => by kernel_rfl
  obtain ⟨b, off, rfl, _⟩ := h.row.here (by omega)
  refine ⟨some ⟨b, off + k * 9, none⟩, fun W => ?_⟩
  have hz2 := hz W
  simp [Instr.slice, run_underlying Tryz.underlying41, go_sem, hz2]
  rw [if_pos (by omega), if_neg (by omega)]
theorem fl_mid {w0 : World} {l0 : List PF} {a : Option Addr} {n c : Nat} (h : FlAt w0 a n c l0) (i z : Nat) (hz : 0 < z) (hiz : i + z ≤ n) (j : Int) (hj : j = ((i + z : Nat) : Int)) :
    ∃ a', (∀ W : World, (Instr.slice 41 (.slice a n c) (some (.int .i64 (i : Int))) (some (.int .i64 j)) (some (.int .i64 j))).run Tryz.prog W = .ok (.slice a' z z) W) ∧
      (∀ (W : World) (l : List PF), FlAt W a n c l → FlAt W a' z z ((l.drop i).take z)) := by
  subst hj
  have hle := h.row.le
  have hmx := h.row.max
  obtain ⟨b, off, rfl, _⟩ := h.row.here (by omega)
  have hzz : ∀ W, (sizeOf (Tryz.prog.elem 41)).run Tryz.prog W = .ok 9 W := fun W => by kernel_rfl
  refine ⟨some ⟨b, off + i * 9, none⟩, fun W => ?_, fun W l hl => ?_⟩
  · have hz2 := hzz W
    have h1 : (i : Int) ≤ ((i + z : Nat) : Int) := by omega
    simp [Instr.slice, run_underlying Tryz.underlying41, go_sem, hz2]
    repeat (first | rw [if_pos (by omega)] | rw [if_neg (by omega)])
    simp
    omega
  · have hs := hl.size
    refine ⟨by rw [List.length_take, List.length_drop]; omega, ⟨by rw [flat_len fc_len, List.length_take, List.length_drop]; congr 1; omega, Nat.le_refl _, by omega, (fun e => by cases e), fun hp => ⟨b, off + i * 9, rfl, fun j hj => ?_⟩⟩⟩
    obtain ⟨b', o', he, hc⟩ := hl.row.here (by omega)
    simp only [Option.some.injEq, Addr.mk.injEq, and_true] at he
    obtain ⟨rfl, rfl⟩ := he
    rw [Nat.add_assoc, hc (i * 9 + j) (by omega)]
    conv => lhs; rw [← List.take_append_drop i l, List.flatMap_append]
    rw [List.getElem?_append_right (by rw [flat_len fc_len, List.length_take]; omega), flat_len fc_len, List.length_take, Nat.min_eq_left (by omega), Nat.add_sub_cancel_left]
    conv => lhs; rw [← List.take_append_drop z (l.drop i), List.flatMap_append]
    rw [List.getElem?_append_left (by rw [flat_len fc_len, List.length_take, List.length_drop]; omega)]
end Go.Proofs.YtmlfbihlbiikeaaGreatDoor
namespace Go.Proofs.YtmlfbihlbiikeaaGreatDoor
set_option linter.unusedVariables false
set_option linter.unusedSimpArgs false
def Holds (c : Cr) (m B : List UInt8) : Prop := ∃ i j, findN c.names curB = some i ∧ (c.files.getD i file0).b = lineF m ∧ findN c.names m = some j ∧ (c.files.getD j file0).b = B
structure Base (c : Cr) (m B : List UInt8) (i j : Nat) : Prop where
  lasts : c.lasts = c.names
  since : c.since = []
  cur : findN c.names curB = some i
  line : c.files.getD i file0 = fullF (lineF m)
  man : findN c.names m = some j
  bytes : c.files.getD j file0 = fullF B
  apart : i ≠ j
  full : ∀ k, (c.files.getD k file0).last = (c.files.getD k file0).b.length
  idx : ∀ n ∈ c.names, n.file < c.files.length
  tmp : findN c.names tmpB = none
theorem Base.holds {c : Cr} {m B : List UInt8} {i j : Nat} (h : Base c m B i j) : Holds c m B := ⟨i, j, h.cur, by rw [h.line]; rfl, h.man, by rw [h.bytes]; rfl⟩
theorem mem_ins {n x : PName} : ∀ {l : List PName}, x ∈ insN n l → x = n ∨ x ∈ l
  | [], h => .inl (List.mem_singleton.1 h)
  | y :: r, h => by
    unfold insN at h
    split at h
    · exact List.mem_cons.1 h
    · rcases List.mem_cons.1 h with rfl | h
      · exact .inr (by simp)
      · rcases mem_ins h with h | h
        · exact .inl h
        · exact .inr (by simp [h])
theorem mem_without5 {l : List PName} {a : List UInt8} {x : PName} (h : x ∈ without l a) : x ∈ l := (List.mem_filter.1 h).1
theorem mem_changed {l : List PName} {ch : PChange} {x : PName} (h : x ∈ changedN l ch) : x.file = ch.file ∨ x ∈ l := by
  unfold changedN withN at h
  split at h
  · rcases mem_ins h with rfl | h
    · exact .inl rfl
    · exact .inr (mem_without5 h)
  · split at h
    · rcases mem_ins h with rfl | h
      · exact .inl rfl
      · exact .inr (mem_without5 (mem_without5 h))
    · exact .inr (mem_without5 h)
theorem nmW_mem (c : Cr) (m : List UInt8) (l : List PName) (hl : ∀ n ∈ l, n.file < c.files.length) : ∀ n ∈ nmW c m 5 l, n.file < c.files.length + 3 := fun n hn => by
  rw [show nmW c m 5 l = changedN (nmW c m 4 l) ⟨2, tmpB, curB, c.files.length + 2⟩ from rfl] at hn
  rcases mem_changed hn with h | hn
  · have h' : n.file = c.files.length + 2 := h
    omega
  rw [show nmW c m 4 l = changedN (nmW c m 3 l) ⟨1, tmpB, [], c.files.length + 2⟩ from rfl] at hn
  rcases mem_changed hn with h | hn
  · have h' : n.file = c.files.length + 2 := h
    omega
  rw [show nmW c m 3 l = changedN (nmW c m 2 l) ⟨2, tmpB, m, c.files.length + 1⟩ from rfl] at hn
  rcases mem_changed hn with h | hn
  · have h' : n.file = c.files.length + 1 := h
    omega
  rw [show nmW c m 2 l = changedN (nmW c m 1 l) ⟨1, tmpB, [], c.files.length + 1⟩ from rfl] at hn
  rcases mem_changed hn with h | hn
  · have h' : n.file = c.files.length + 1 := h
    omega
  rw [show nmW c m 1 l = changedN l ⟨1, m, [], c.files.length⟩ from rfl] at hn
  rcases mem_changed hn with h | hn
  · have h' : n.file = c.files.length := h
    omega
  · have := hl n hn
    omega
theorem end_base {c : Cr} {m : List UInt8} (B : List UInt8) (hm : Mn m) (hi : ∀ n ∈ c.names, n.file < c.files.length) (hf : ∀ k, (c.files.getD k file0).last = (c.files.getD k file0).b.length) : Base (endW c m B) m B (c.files.length + 2) (c.files.length + 1) where
  lasts := rfl
  since := rfl
  cur := by show findN (nmW c m 5 c.names) curB = _; rw [nm5 c hm, if_pos rfl]
  line := getD_new _ _ 2
  man := by show findN (nmW c m 5 c.names) m = _; rw [nm5 c hm, if_neg hm.cur, if_neg hm.tmp, if_pos rfl]
  bytes := getD_new _ _ 1
  apart := by omega
  full := fun k => by
    show ((c.files ++ [file0, fullF B, fullF (lineF m)]).getD k file0).last = ((c.files ++ [file0, fullF B, fullF (lineF m)]).getD k file0).b.length
    by_cases hk : k < c.files.length
    · rw [getD_old _ _ hk]
      exact hf k
    · obtain ⟨d, rfl⟩ := Nat.exists_eq_add_of_le (Nat.le_of_not_lt hk)
      rw [getD_new]
      have z : ∀ f ∈ [file0, fullF B, fullF (lineF m)], f.last = f.b.length := by
        intro f hf
        simp only [List.mem_cons, List.not_mem_nil, or_false] at hf
        rcases hf with rfl | rfl | rfl <;> rfl
      rw [List.getD_eq_getElem?_getD]
      cases e : ([file0, fullF B, fullF (lineF m)] : List PFile)[d]? with
      | none => rfl
      | some f => exact z f (List.mem_of_getElem? e)
  idx := fun n hn => by
    unfold endW at hn
    dsimp only at hn
    have h1 := nmW_mem c m c.names hi n hn
    have h2 : (endW c m B).files.length = c.files.length + 3 := List.length_append
    omega
  tmp := by
    unfold endW
    dsimp only
    rw [nm5 c hm, if_neg tmp_cur, if_pos rfl]
theorem Base.crash {c : Cr} {m B : List UInt8} {i j : Nat} (h : Base c m B i j) (k : Kn) (picks : List Int) : ∃ k', k'.quiet ∧ k'.quota = k.quota ∧ k'.asked = k.asked ∧ (pf c k).crash picks = pf c k' := by
  obtain ⟨n, fs, k', hn, hl, hc, h1, h2, h3, e⟩ := crash_pf c k picks (fun x => Nat.le_of_eq (h.full x))
  refine ⟨k', h1, h2, h3, ?_⟩
  rw [e, files_same hl hc h.full, h.since, List.take_nil]
  obtain ⟨f, nm, la, si⟩ := c
  obtain rfl : la = nm := h.lasts
  obtain rfl : si = [] := h.since
  rfl
theorem getD_set_ne (F : List PFile) {i j : Nat} (h : i ≠ j) (x : PFile) : (F.set i x).getD j file0 = F.getD j file0 := by
  rw [List.getD_eq_getElem?_getD, List.getElem?_set_ne h, List.getD_eq_getElem?_getD]
def manD (d : UInt8) : List UInt8 := [77, 65, 78, 73, 70, 69, 83, 84, 45, 48, 48, 48, 48, 48, d]
def cr0 : Cr := ⟨[], [], [], []⟩
theorem fresh_3 : nmW cr0 (manD 51) 5 cr0.names = [⟨curB, 2⟩, ⟨manD 51, 1⟩] := by rfl
theorem fresh_5 : nmW cr0 (manD 53) 5 cr0.names = [⟨curB, 2⟩, ⟨manD 53, 1⟩] := by rfl
theorem name_d {d n : Nat} (h : n < 10) (h0 : 1 ≤ n) (hd : d = 48 + n) : nameP 3 n = manD (UInt8.ofNat d) := by
  subst hd
  rw [nameP_man h0 (by omega)]
  unfold numB pad6
  rw [decDigits_small h]
  rfl
theorem name_3 : nameP 3 3 = manD 51 := name_d (d := 51) (by decide) (by decide) rfl
theorem name_5 : nameP 3 5 = manD 53 := name_d (d := 53) (by decide) (by decide) rfl
theorem name_9 : nameP 3 9 = manD 57 := name_d (d := 57) (by decide) (by decide) rfl
end Go.Proofs.YtmlfbihlbiikeaaGreatDoor
namespace Go.Proofs.YtmlfbihlbiikeaaGreatDoor
open Go.RowKit
set_option linter.unusedVariables false
set_option linter.unusedSimpArgs false
set_option maxRecDepth 100000 in
theorem idxL_arr (p k : Nat) (hk : k < 4) (W : World) : (Instr.indexAt 42 (.pointer (some ⟨p, 0, none⟩)) (.int .i64 (k : Int))).run Tryz.prog W = .ok (.pointer (some ⟨p, k, none⟩)) W := by
  have h1 : (k : Int) < 4 := by omega
  have hsz : (sizeOf 41).run Tryz.prog W = .ok 1 W := by kernel_rfl
  simp [Instr.indexAt, run_underlying Tryz.underlying42, asIntOf, h1, hk, show ¬ 4 ≤ k by omega, hsz, Addr.add_lit, go_sem]
theorem Box.level {w : World} {p : Nat} {t : TypeId} {v : PV} {s : SV} (h : Box w p t (vA v s)) {n : Nat} (hn : n < 4) : w.cell? ⟨p, n, none⟩ = some (.slice (s.a n) (v n).length (s.c n)) := by
  rw [h.cell]
  exact four (P := fun n => (vA v s)[n]? = some (.slice (s.a n) (v n).length (s.c n))) hn rfl rfl rfl rfl
theorem all_le (v : PV) {n : Nat} (hn : n < 4) : (v n).length ≤ v.all.length := by
  unfold PV.all
  simp only [List.length_append]
  exact four (P := fun n => (v n).length ≤ (v 0).length + ((v 1).length + ((v 2).length + (v 3).length))) hn (by omega) (by omega) (by omega) (by omega)
end Go.Proofs.YtmlfbihlbiikeaaGreatDoor
namespace Go.Proofs.YtmlfbihlbiikeaaGreatDoor
open Go.RowKit
set_option linter.unusedVariables false
set_option linter.unusedSimpArgs false
end Go.Proofs.YtmlfbihlbiikeaaGreatDoor
namespace Go.Proofs.YtmlfbihlbiikeaaGreatDoor
open Go.RowKit Go.Maps
def ptrElem (v : Value) : Option (DataW Unit × List MemPlace) := match v with
  | .pointer none => some (.nil, [])
  | .pointer (some ⟨b, 0, none⟩) => some (.lit (.int .i64 (b : Int)), [])
  | _ => none
theorem ptrElem_at (b : Nat) : ptrElem (at_ b) = some (.lit (.int .i64 (b : Int)), []) := rfl
theorem ptrElem_inv {v : Value} {b : Nat} {ps : List MemPlace} (h : ptrElem v = some (.lit (.int .i64 (b : Int)), ps)) : v = at_ b := by
  unfold ptrElem at h
  split at h
  · simp at h
  · rename_i c
    simp only [Option.some.injEq, Prod.mk.injEq, DataW.lit.injEq, Lit.int.injEq, true_and] at h
    obtain rfl : c = b := by omega
    rfl
  · simp at h
theorem ptrElem_nil_inv {v : Value} {ps : List MemPlace} (h : ptrElem v = some (.nil, ps)) : v = .pointer none := by
  unfold ptrElem at h
  split at h
  · rfl
  · simp at h
  · simp at h
abbrev entOf (blk : Nat → Nat) (x : PName) : Lit × DataW Unit := (.string x.name, .lit (.int .i64 ((blk x.file : Nat) : Int)))
def mapOf (blk : Nat → Nat) (l : List PName) : DataW Unit := .map (l.map (entOf blk))
theorem ltB_before : ∀ a b : List UInt8, (Lit.string a).before (.string b) = ltB a b
  | [], [] => rfl
  | [], _ :: _ => rfl
  | _ :: _, [] => rfl
  | a :: r, b :: s => by
    have ih := ltB_before r s
    simp only [Lit.before, bytesBefore, ltB] at ih ⊢
    by_cases h1 : a < b
    · have : a.toNat < b.toNat := h1
      simp [h1, this]
    · have n1 : ¬ a.toNat < b.toNat := h1
      simp only [h1, decide_false, Bool.false_or, n1, if_false]
      by_cases h2 : a = b
      · subst h2
        simp [ih]
      · have : b.toNat < a.toNat := by
          have : a.toNat ≠ b.toNat := fun e => h2 (UInt8.toNat_inj.1 e)
          omega
        simp [h2, this]
theorem mapOf_ins (blk : Nat → Nat) (n : PName) : ∀ l : List PName, DataW.insert (entOf blk n) (l.map (entOf blk)) = (insN n l).map (entOf blk)
  | [] => rfl
  | x :: r => by
    rw [List.map_cons, DataW.insert, insN, ltB_before]
    split
    · rfl
    · rw [mapOf_ins blk n r]; rfl
theorem mapOf_filter (blk : Nat → Nat) (name : List UInt8) : ∀ l : List PName, (l.map (entOf blk)).filter (fun p => !p.1.sameKey (.string name)) = (without l name).map (entOf blk)
  | [] => rfl
  | x :: r => by
    have ih := mapOf_filter blk name r
    unfold without at ih ⊢
    rw [List.map_cons, List.filter_cons, List.filter_cons]
    have e : (!(entOf blk x).1.sameKey (.string name)) = (x.name != name) := rfl
    rw [e, ih]
    split <;> rfl
theorem mapOf_put (blk : Nat → Nat) (l : List PName) (n : PName) : (mapOf blk l).put (.string n.name) (.lit (.int .i64 ((blk n.file : Nat) : Int))) = mapOf blk (withN l n) := by
  unfold mapOf withN
  rw [← mapOf_ins, ← mapOf_filter]
  rfl
theorem mapOf_del (blk : Nat → Nat) (l : List PName) (name : List UInt8) : (mapOf blk l).del (.string name) = mapOf blk (without l name) := by
  unfold mapOf
  rw [← mapOf_filter]
  rfl
theorem atKey_list (es : List (Lit × DataW Unit)) (k : Lit) (z : DataW Unit) : (DataW.map es).atKey k z = ((es.find? (fun p => p.1.sameKey k)).map (·.2)).getD z := by
  simp only [DataW.atKey]
  cases es.find? (fun p => p.1.sameKey k) <;> rfl
theorem mapOf_at (blk : Nat → Nat) (name : List UInt8) (l : List PName) : (mapOf blk l).atKey (.string name) .nil = match findN l name with | some k => .lit (.int .i64 ((blk k : Nat) : Int)) | none => .nil := by
  unfold mapOf
  rw [atKey_list]
  induction l with
  | nil => rfl
  | cons x r ih =>
    have e : ((entOf blk x).1.sameKey (.string name)) = (x.name == name) := rfl
    unfold findN at ih ⊢
    rw [List.map_cons, List.find?_cons, List.find?_cons, e]
    cases x.name == name
    · exact ih
    · rfl
theorem mapOf_keys (blk : Nat → Nat) (l : List PName) : strKeys (mapOf blk l) = l.map (·.name) := by
  show (l.map (entOf blk)).map _ = _
  rw [List.map_map]
  rfl
theorem mapOf_size (blk : Nat → Nat) (l : List PName) : Maps.size (mapOf blk l) = l.length := by simp [mapOf, Maps.size]
theorem mapOf_congr {blk blk' : Nat → Nat} {l : List PName} (h : ∀ x ∈ l, blk x.file = blk' x.file) : mapOf blk l = mapOf blk' l := by
  unfold mapOf
  rw [List.map_congr_left fun x hx => by show entOf blk x = entOf blk' x; unfold entOf; rw [h x hx]]
theorem lawS : Keyed Tryz.prog 9 := string_keyed Tryz.underlying9
def NmAt (w : World) (mo : Option Nat) (blk : Nat → Nat) (l : List PName) : Prop := match mo with
  | none => l = []
  | some m => w.ownsMap Tryz.prog 9 ptrElem m l.length (mapOf blk l)
theorem own_tight {w : World} {m n : Nat} {D : DataW Unit} (h : w.ownsMap Tryz.prog 9 ptrElem m n D) : w.ownsMap Tryz.prog 9 ptrElem m (Maps.size D) D := by
  obtain ⟨es, clock, hb, F, hs, rfl⟩ := h
  exact ⟨es, clock, hb, F, by rw [Maps.size, length_read]; exact Nat.le_refl _, rfl⟩
theorem NmAt.of {w : World} {m n : Nat} {blk : Nat → Nat} {l : List PName} (h : w.ownsMap Tryz.prog 9 ptrElem m n (mapOf blk l)) : NmAt w (some m) blk l := by
  have := own_tight h
  rw [mapOf_size] at this
  exact this
theorem NmAt.kept {w w' : World} {mo : Option Nat} {blk : Nat → Nat} {l : List PName} (h : NmAt w mo blk l) (hk : ∀ m, mo = some m → w'.heap[m]? = w.heap[m]?) : NmAt w' mo blk l := by
  cases mo with
  | none => exact h
  | some m =>
    obtain ⟨es, clock, hb, F, hs, hD⟩ := h
    exact ⟨es, clock, (hk m rfl).trans hb, F, hs, hD⟩
theorem NmAt.isMap {w : World} {m : Nat} {blk : Nat → Nat} {l : List PName} (h : NmAt w (some m) blk l) : ∃ es clock, w.heap[m]? = some (.map es clock) := by
  obtain ⟨es, clock, hb, _⟩ := h
  exact ⟨es, clock, hb⟩
def ptrOf (blk : Nat → Nat) : Option Nat → Value
  | some k => at_ (blk k)
  | none => .pointer none
theorem zeroPtr (w : World) : (zeroValue 96).run Tryz.prog w = .ok (.pointer none) w := by kernel_rfl
theorem look_long {w : World} {m : Nat} {es : Array MapEntry} {clock : Nat} (hb : w.heap[m]? = some (.map es clock)) (F : WideElems.Fit Tryz.prog 9 ptrElem es clock) (s : ByteArray) (hs : ¬ s.size ≤ maxLen) :
    (Instr.lookup 85 (.map (some m)) (.string s) false).run Tryz.prog w = .ok (.pointer none) w := by
  have hks : ∀ y ∈ es.toList, MapKept.IsKey .string y.key ∧ y.key ≠ .string s := fun y hy => by
    obtain ⟨z, hz⟩ := F.reads y hy
    have := WideElems.rd_key hz
    obtain ⟨x, hx, _, hlen⟩ := Maps.keyOf_str Tryz.underlying9 this
    rw [hx]
    refine ⟨trivial, fun e => hs ?_⟩
    have e2 : (⟨x.toArray⟩ : ByteArray) = s := Value.string.inj e
    rw [← e2]
    exact hlen
  have hf : Instr.findNow .string (.string s) es.toList 0 = some none := by
    rcases MapKept.findNow_spec (d := .string) (k := .string s) trivial es.toList 0 (fun x hx => (hks x hx).1) with ⟨h1, _⟩ | ⟨j, e, _, h2, h3⟩
    · exact h1
    · exact absurd h3 (hks e (List.mem_of_getElem? h2)).2
  have h1 := MapKept.run_findKey (P := Tryz.prog) (w := w) Tryz.underlying9 hf
  have h2 := MapKept.run_checkKey (P := Tryz.prog) (w := w) (k := .string s) Tryz.underlying9 trivial es.isEmpty 9999
  simp [Instr.lookup, run_underlying Tryz.underlying85, MapKept.run_getObj_map hb, h2, h1, Result.andThen]
theorem NmAt.look {w : World} {mo : Option Nat} {blk : Nat → Nat} {l : List PName} (h : NmAt w mo blk l) (hl : ∀ x ∈ l, x.name.length ≤ 32) (s : ByteArray) :
    (Instr.lookup 85 (.map mo) (.string s) false).run Tryz.prog w = .ok (ptrOf blk (findN l s.data.toList)) w := by
  by_cases hs : s.size ≤ maxLen
  · have hkey : keyOf Tryz.prog 9 (.string s) = some (.string s.data.toList) := WideMaps.keyOf_string_mk Tryz.underlying9 hs
    cases mo with
    | none =>
      obtain rfl : l = [] := h
      exact Maps.look_nil false lawS Tryz.underlying85 (zeroPtr w) hkey
    | some m =>
      obtain ⟨v, ps, hrun, hv⟩ := World.ownsMap.lookup h lawS Tryz.underlying85 (zeroPtr w) (zd := .nil) (zp := []) rfl hkey
      rw [hrun]
      rw [mapOf_at] at hv
      cases hf : findN l s.data.toList with
      | none =>
        rw [hf] at hv
        rw [ptrElem_nil_inv hv]
        rfl
      | some k =>
        rw [hf] at hv
        rw [ptrElem_inv hv]
        rfl
  · have hf : findN l s.data.toList = none := by
      unfold findN
      rw [List.find?_eq_none.2, Option.map_none]
      intro x hx e
      have := hl x hx
      rw [beq_iff_eq] at e
      rw [e] at this
      have e3 : s.data.toList.length = s.size := rfl
      apply hs
      unfold maxLen
      omega
    rw [hf]
    cases mo with
    | none =>
      have h2 := MapKept.run_checkKey (P := Tryz.prog) (w := w) (k := .string s) Tryz.underlying9 trivial true 9999
      have h1 := MapKept.run_findKey (P := Tryz.prog) (w := w) (kt := 9) (k := .string s) (l := []) Tryz.underlying9 rfl
      simp [Instr.lookup, run_underlying Tryz.underlying85, h2, h1, Result.andThen]
      rfl
    | some m =>
      obtain ⟨es, clock, hb, F, _, _⟩ := h
      exact look_long hb F s hs
end Go.Proofs.YtmlfbihlbiikeaaGreatDoor
namespace Go.Proofs.YtmlfbihlbiikeaaGreatDoor
open Go.RowKit
structure FsC where
  q : Int
  u : Int
  o : Int
  fs : Bool
  fn : Int
  ss : Bool
  sn : Int
  mn : Option Nat
  ml : Option Nat
  sa : Option Addr
  sl : Nat
  sc : Nat
def FsC.arr (c : FsC) : Array Value := #[.int .i64 c.q, .int .i64 c.u, .int .i64 c.o, .bool c.fs, .int .i64 c.fn, .bool c.ss, .int .i64 c.sn, .map c.mn, .map c.ml, .slice c.sa c.sl c.sc]
def FsB (w : World) (p : Nat) (c : FsC) : Prop := Box w p 88 c.arr
theorem grown_alloc {w w' : World} {row : Option Nat} (h : w.grownBy w' row) (o : Obj) : w.grownBy (w'.alloc o) row :=
  ⟨h.os, h.tape, h.output, by have := h.size; simp; omega, fun k hk hr => (Below.heap_alloc _ _ k (Nat.lt_of_lt_of_le hk h.size)).trans (h.block k hk hr)⟩
theorem grown_set {w w' : World} {p : Nat} (h : w.grownBy w' (some p)) (j : Nat) (v : Value) : w.grownBy (w'.setCell ⟨p, j, none⟩ v) (some p) :=
  ⟨h.os, h.tape, h.output, by have := h.size; simpa using this, fun k hk hr => (Below.heap_setCell _ _ _ k (fun e => hr (by rw [e]))).trans (h.block k hk hr)⟩
theorem FsB.cells {w : World} {p : Nat} {c : FsC} (h : FsB w p c) : w.cell? ⟨p, 0, none⟩ = some (.int .i64 c.q) ∧ w.cell? ⟨p, 1, none⟩ = some (.int .i64 c.u) ∧ w.cell? ⟨p, 2, none⟩ = some (.int .i64 c.o) ∧ w.cell? ⟨p, 3, none⟩ = some (.bool c.fs) ∧ w.cell? ⟨p, 4, none⟩ = some (.int .i64 c.fn) ∧ w.cell? ⟨p, 5, none⟩ = some (.bool c.ss) ∧ w.cell? ⟨p, 6, none⟩ = some (.int .i64 c.sn) ∧ w.cell? ⟨p, 7, none⟩ = some (.map c.mn) ∧ w.cell? ⟨p, 8, none⟩ = some (.map c.ml) ∧ w.cell? ⟨p, 9, none⟩ = some (.slice c.sa c.sl c.sc) :=
  ⟨Box.cell h 0, Box.cell h 1, Box.cell h 2, Box.cell h 3, Box.cell h 4, Box.cell h 5, Box.cell h 6, Box.cell h 7, Box.cell h 8, Box.cell h 9⟩
end Go.Proofs.YtmlfbihlbiikeaaGreatDoor
namespace Go.Proofs.YtmlfbihlbiikeaaGreatDoor
open Go.RowKit
def FsC.ask (c : FsC) : FsC × Int :=
  if (c.fs && (c.fn == 0)) = true then ({ c with o := c.o + 1 }, 44)
  else if (c.ss && (c.sn == 0)) = true then ({ c with o := c.o + 1, fn := if c.fs then c.fn - 1 else c.fn, ss := false, sn := 0 }, 45)
  else ({ c with o := c.o + 1, fn := if c.fs then c.fn - 1 else c.fn, sn := if c.ss then c.sn - 1 else c.sn }, 0)
set_option maxRecDepth 100000 in
set_option maxHeartbeats 1000000 in
theorem begin_any (w : World) (p : Nat) (c : FsC) (h : FsB w p c) (ho : 0 ≤ c.o ∧ c.o ≤ 2000000) (hf : 0 ≤ c.fn ∧ c.fn ≤ 9223372036854775807) (hs : 0 ≤ c.sn ∧ c.sn ≤ 9223372036854775807) :
    Calls Tryz.prog 38 #[at_ p] w fun e w' => e = .returned (.int .i64 c.ask.2) ∧ FsB w' p c.ask.1 ∧ w.grownBy w' (some p) := by
  obtain ⟨c0, c1, c2, c3, c4, c5, c6, c7, c8, c9⟩ := h.cells
  have f2 := Box.soft h 2
  have f4 := Box.soft h 4
  have f5 := Box.soft h 5
  have f6 := Box.soft h 6
  have hlt := Box.lt h
  obtain ⟨q, u, o, fs, fn, ss, sn, mn, ml, sa, sl, sc⟩ := c
  simp only at c0 c1 c2 c3 c4 c5 c6 c7 c8 c9 ho hf hs
  cases fs <;> cases ss
  all_goals
    go_enter Tryz.func38, Tryz.ntmps38
    go_wp2
  all_goals go_returns
  all_goals
    refine ⟨ret1 ?_, ?_, ?_⟩
    · simp [FsC.ask, *]
    · apply Box.eq
      · repeat (first | with_reducible apply Box.alloc | with_reducible apply Box.set)
        exact h
      · simp [FsC.ask, FsC.arr, *]
    · repeat (first | with_reducible apply grown_alloc | with_reducible apply grown_set)
      exact World.grownBy.refl _ _
end Go.Proofs.YtmlfbihlbiikeaaGreatDoor
