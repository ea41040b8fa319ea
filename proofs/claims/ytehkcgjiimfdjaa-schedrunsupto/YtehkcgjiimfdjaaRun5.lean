/- The contract of run: a turn for each pick. -/
import Derived.Test.YtehkcgjiimfdjaaAble5
import Derived.Test.YtehkcgjiimfdjaaOk5
import Derived.Test.YtehkcgjiimfdjaaAct0
import Derived.Laws.MakeOwn
namespace Go.Proofs.Ytehkcgjiimfdjaa
open Go.RowKit
set_option maxRecDepth 100000 in
theorem fromZ_any (n : Int) (h : in64 n) (w : World) : Calls Try.prog 28 #[.int .i64 n] w fun e w' => e = .returned (.int .i64 (fromZ n)) ∧ w' = w := by
  unfold in64 at h
  unfold fromZ
  by_cases hn : n < 0
  · rw [if_pos hn]
    go_enter Try.func28, Try.ntmps28
    go_wp2
    go_returns
    exact ⟨rfl, rfl⟩
  · rw [if_neg hn]
    go_enter Try.func28, Try.ntmps28
    go_wp2
    go_returns
    exact ⟨rfl, rfl⟩
theorem fromZ_pos (n : Int) : 0 ≤ fromZ n := by
  unfold fromZ
  split <;> omega
theorem PB.Ok.more {B : PB} (h : B.Ok) : B.more.Ok := ⟨h.cells, h.own, h.many, h.tasks, h.owns⟩
theorem able_idx {B : PB} {j : Nat} (hj : j < B.able.length) : B.able.getD j 0 < B.ts.length ∧ ((B.t (B.able.getD j 0)).ph = 0 ∨ (B.t (B.able.getD j 0)).ph = 2) := by
  have hm : B.able.getD j 0 ∈ B.able := by simp [List.getD, hj]
  obtain ⟨_, h2, h3⟩ := ableL_mem B.canGo B.ts 0 _ hm
  rw [Nat.sub_zero] at h3
  have h4 : B.canGo (B.t (B.able.getD j 0)) = true := h3
  refine ⟨by omega, ?_⟩
  unfold PB.canGo at h4
  simp at h4
  exact h4.1
theorem step_ok {B : PB} (h : B.Ok) (n : Int) : (B.step n).Ok ∧ (B.step n).ts.length = B.ts.length ∧ (∃ e, (B.step n).em = B.em ++ e ∧ e.length ≤ 1) ∧ ((B.able.length = 0 ∧ B.step n = B) ∨ (B.able.length ≠ 0 ∧ (B.step n).steps = B.steps + 1)) := by
  unfold PB.step
  by_cases h0 : B.able.length = 0
  · rw [if_pos h0]
    exact ⟨h, rfl, ⟨[], by simp, by simp⟩, .inl ⟨h0, rfl⟩⟩
  · rw [if_neg h0]
    obtain ⟨h1, h2⟩ := able_idx (B := B) (j := (fromZ n).toNat % B.able.length) (Nat.mod_lt _ (by omega))
    obtain ⟨a, b, c, d⟩ := act_ok h.more (i := B.able.getD ((fromZ n).toNat % B.able.length) 0) h1 h2
    exact ⟨a, b, d, .inr ⟨h0, c⟩⟩
theorem run_ok : ∀ (l : List Int) {B : PB}, B.Ok → (B.run l).Ok ∧ (B.run l).ts.length = B.ts.length ∧ (∃ e, (B.run l).em = B.em ++ e ∧ e.length ≤ l.length) ∧ (B.run l).steps ≤ B.steps + l.length
  | [], B, h => ⟨h, rfl, ⟨[], by simp [PB.run], by simp⟩, Nat.le_refl _⟩
  | n :: l, B, h => by
    obtain ⟨a, b, ⟨e, c1, c2⟩, d⟩ := step_ok h n
    obtain ⟨a', b', ⟨e', c1', c2'⟩, d'⟩ := run_ok l a
    have er : B.run (n :: l) = (B.step n).run l := rfl
    rw [er]
    refine ⟨a', b'.trans b, ⟨e ++ e', by rw [c1', c1, List.append_assoc], by simp; omega⟩, ?_⟩
    have : (B.step n).steps ≤ B.steps + 1 := by
      rcases d with ⟨_, d⟩ | ⟨_, d⟩
      · rw [d]; omega
      · omega
    simp
    omega
theorem run_stuck : ∀ (l : List Int) {B : PB}, B.able.length = 0 → B.run l = B
  | [], _, _ => rfl
  | n :: l, B, h => by
    have e : B.step n = B := by unfold PB.step; rw [if_pos h]
    show (B.step n).run l = B
    rw [e]
    exact run_stuck l h
theorem run_append (B : PB) (l m : List Int) : B.run (l ++ m) = (B.run l).run m := by simp [PB.run]
theorem make_ptrs : ∃ arr : Array Value, arr.size = 8 ∧ ∀ W : World, (Instr.makeSlice 62 (.int .i64 0) (.int .i64 8)).run Try.prog W = .ok (.slice (some ⟨W.heap.size, 0, none⟩) 0 8) (W.alloc (.cells arr TPT)) := by
  obtain ⟨i, hi, hz0, hz1, hz2⟩ := info_parts infoPtr
  refine ⟨madeCells #[.pointer none] 8, by simp [size_madeCells], fun W => ?_⟩
  have := run_make (P := Try.prog) W _ _ i (.pointer none) Try.underlying62 hi hz0 .i64 .i64 0 8 (by omega) (by omega) (by rw [hz2]; omega) (by omega)
  rw [this, hz1]
  simp [Value.cells]
theorem row_made {w0 w : World} {p : Nat} {g : Bg} {B : PB} (h : BdAt w0 w p g B) {arr : Array Value} (ha : arr.size = 8) : RowP w0 (w.alloc (.cells arr TPT)) g w.heap.size 0 8 [] :=
  World.ownsRow_made w arr 8 h.base.size (by unfold maxLen; omega) (by rw [ha])
/-- A row of pointers, cut to none. -/
theorem RowP.cut {w0 w : World} {g : Bg} {r n cap : Nat} {l : List Nat} (h : RowP w0 w g r n cap l) : RowP w0 w g r 0 cap [] := by
  unfold RowP at h ⊢
  refine ⟨rfl, ?_⟩
  rcases h.2 with ⟨hv, _⟩ | ⟨b, c, cur, hv, hB, hg, h1, h2, h3, h4⟩
  · cases hv
  · simp only [Value.slice.injEq, Option.some.injEq, Addr.mk.injEq, and_true, true_and] at hv
    obtain ⟨rfl, rfl⟩ := hv
    exact .inr ⟨r, cap, cur, rfl, hB, hg, Nat.zero_le _, h2, h3, by simp⟩
set_option maxRecDepth 100000 in
set_option maxHeartbeats 1000000 in
theorem run_at (DO : ∀ {w0 w : World} {p : Nat} {g : Bg} {B : PB} (_ : BdAt w0 w p g B) (_ : B.Ok) {i : Nat} (_ : i < B.ts.length) (_ : (B.t i).ph = 0 ∨ (B.t i).ph = 2) (_ : B.em.length < 1099511627776), Calls Try.prog 27 #[at_ p, at_ (g.q i)] w (DoPost w0 w p g (B.act i)))
    {w0 w : World} {p : Nat} {g : Bg} {B : PB} (h : BdAt w0 w p g B) (hk : B.Ok) (a : Option Addr) (len cap : Nat) (l : List Int) (hl : IsAt w0 a len cap l) (hem : (B.run l).em.length < 1099511627776) (hst : B.steps + l.length ≤ 9223372036854775806) : Calls Try.prog 16 #[at_ p, .slice a len cap] w fun e w' => e = .returned (.tuple #[]) ∧ ∃ g', BdAt w0 w' p g' (B.run l) ∧ g'.gs = g.gs := by
  have hle := hl.le
  have hmx := hl.max
  unfold maxLen at hmx
  have HL : Hid (IsAt w0 a len cap l) := hl
  have HA : Hid (BdAt w0 w p g B) := h
  have HZ : Hid (l.length = len) := hl.size
  clear hl h
  obtain ⟨arr, ha, hmake⟩ := make_ptrs
  have HM : Hid (RowP w0 (w.alloc (.cells arr TPT)) g w.heap.size 0 8 []) := row_made HA.out ha
  have HMB : Hid (BdAt w0 (w.alloc (.cells arr TPT)) p g B) := HA.out.alloc _
  have HMT : Hid (blkOf g.ta ≠ some w.heap.size) := fun e => by have := tag_lt (HA.out.tagR e); omega
  clear ha
  go_enter Try.func16, Try.ntmps16
  go_wp2_with fail
  go_step3
  go_wp2_with fail
  go_step3
  go_wp2_with fail
  go_loopw [4, 11] (fun o i wr => ∃ (k r2 c2 m : Nat) (g2 : Bg), k ≤ len ∧ i = .int .i64 (k : Int) ∧ o = .slice (some ⟨r2, 0, none⟩) m c2 ∧ m ≤ c2 ∧ c2 ≤ 9223372036854775807 ∧ Hid (BdAt w0 wr p g2 (B.run (l.take k))) ∧ Hid (g2.gs = g.gs) ∧ Hid (RowP w0 wr g2 r2 0 c2 []) ∧ Hid (blkOf g2.ta ≠ some r2)) (fun _ i _ => len - (intOf i).toNat)
  case atStart => exact ⟨0, _, 8, 0, g, Nat.zero_le _, rfl, rfl, by omega, by omega, HMB, rfl, HM, HMT⟩
  case round =>
    obtain ⟨k, r2, c2, m, g2, hkl, rfl, rfl, hm2, hc2, HB, HG, HP, HT⟩ := hrel
    clear HM HMB HMT hmake
    obtain ⟨C, HC⟩ : ∃ C, Hid (C = B.run (l.take k)) := ⟨_, rfl⟩
    rw [← HC.out] at HB
    have hok : C.Ok := by rw [HC.out]; exact (run_ok _ hk).1
    by_cases hlt : k < len
    · have hlt' : k < l.length := by rw [HZ.out]; exact hlt
      have HS : Hid (B.run (l.take (k + 1)) = C.step (l.getD k 0)) := by
        unfold Hid
        have e : l.take (k + 1) = l.take k ++ [l.getD k 0] := by
          rw [List.take_add_one, List.getElem?_eq_getElem hlt']
          simp [List.getD, hlt']
        rw [e, run_append, ← HC.out]
        rfl
      have hwf := HL.out.wf k hlt
      obtain ⟨lb, lo, hla, hlc⟩ := (HL.out.below (Nat.le_refl _) HB.out.base).here (by omega)
      have pk := hlc k hlt
      rw [hla]
      obtain ⟨pick, HPK⟩ : ∃ pick, Hid (pick = l.getD k 0) := ⟨_, rfl⟩
      rw [← HPK.out] at pk hwf HS
      clear hlc
      have hx1 : (0 : Int) ≤ (k : Int) := by omega
      have hx2 : (k : Int) < (len : Int) := by omega
      go_wp2_with fail
      refine (able_at HB.out hok r2 c2 HP.out HT.out).mono ?_
      rintro _ w2 ⟨r3, c3, rfl, h3, p3, t3⟩
      have hrow3 : C.able.length ≤ c3 ∧ c3 ≤ 9223372036854775807 := by
        rcases p3.2 with ⟨hv, _⟩ | ⟨b, c, cur, hv, hB, hg, h1, h2, h3, h4⟩
        · cases hv
        · simp only [Value.slice.injEq, Option.some.injEq, Addr.mk.injEq, and_true, true_and] at hv
          obtain ⟨rfl, rfl⟩ := hv
          unfold maxLen at h2
          exact ⟨h1, by omega⟩
      obtain ⟨N, HN⟩ : ∃ N, Hid (N = C.able.length) := ⟨_, rfl⟩
      rw [← HN.out] at hrow3 p3 ⊢
      by_cases h0 : N = 0
      · have hend : B.run l = C := by
          have e : l = l.take k ++ l.drop k := (List.take_append_drop k l).symm
          rw [e, run_append, ← HC.out]
          exact run_stuck _ (by rw [← HN.out]; exact h0)
        have H9 : Hid (BdAt w0 w2 p g2 (B.run l)) := by unfold Hid; rw [hend]; exact h3
        clear hend
        subst h0
        go_wp2
        try rw [Exit.noGoto_normal]
        go_returns
        exact ⟨rfl, g2, H9.out, HG.out⟩
      · have hpos : (0 : Int) < (N : Int) := by omega
        have hn0 : (N : Int) ≠ 0 := by omega
        obtain ⟨x0, x1, x2, x3, x34⟩ := h3.bcell hok.cells hok.own
        have s34 := h3.bsoft 34
        clear x0 x1 x2 x3
        have hstep : (C.steps : Int) + 1 ≤ 9223372036854775807 ∧ 0 ≤ (C.steps : Int) := by
          have h7 := (run_ok (l.take k) hk).2.2.2
          rw [← HC.out] at h7
          simp at h7
          omega
        have HW : Hid (wrap64 ((C.steps : Int) + 1) = (C.steps : Int) + 1) := wrap64_in ⟨by omega, by omega⟩
        clear hstep
        have H4 : Hid (BdAt w0 (w2.setCell ⟨p, 34, none⟩ (.int .i64 ((C.steps : Int) + 1))) p g2 C.more) := h3.more hok
        have HR4 : Hid (RowP w0 (w2.setCell ⟨p, 34, none⟩ (.int .i64 ((C.steps : Int) + 1))) g2 r3 N c3 C.able) := row_same p3 fun b e => Below.heap_setCell _ _ _ _ (by cases e; exact tag_ne (row_tag p3 rfl) h3.tagP (by decide))
        go_wp2_with fail
        rw [HW.out]
        refine (fromZ_any pick hwf _).mono ?_
        rintro _ _ ⟨rfl, rfl⟩
        obtain ⟨fz, hfz⟩ : ∃ fz : Nat, fromZ pick = (fz : Int) := ⟨(fromZ pick).toNat, by have := fromZ_pos pick; omega⟩
        rw [hfz]
        have hmod : fz % N < N := Nat.mod_lt _ (by omega)
        have cj : (w2.setCell ⟨p, 34, none⟩ (.int .i64 ((C.steps : Int) + 1))).cell? ⟨r3, fz % N, none⟩ = some (at_ (g2.q (C.able.getD (fz % N) 0))) := by
          have h8 : fz % N < C.able.length := by rw [← HN.out]; exact hmod
          have := World.ownsRow.cellAt HR4.out (fz % N) (by rw [Nat.mul_one]; exact hmod)
          rw [this]
          simp [List.getD, h8]
        obtain ⟨j, HJ⟩ : ∃ j, Hid (j = fz % N) := ⟨_, rfl⟩
        have hmd : (fz : Int).tmod (N : Int) = (j : Int) := by rw [HJ.out]; exact (Int.ofNat_tmod fz N).symm
        rw [← HJ.out] at cj hmod
        obtain ⟨W4, HW4⟩ : ∃ W4, Hid (W4 = w2.setCell ⟨p, 34, none⟩ (.int .i64 ((C.steps : Int) + 1))) := ⟨_, rfl⟩
        rw [← HW4.out] at cj H4 HR4 ⊢
        obtain ⟨i4, HI4⟩ : ∃ i4, Hid (i4 = C.able.getD j 0) := ⟨_, rfl⟩
        rw [← HI4.out] at cj
        have hx3 : (0 : Int) ≤ (j : Int) := by omega
        have hx4 : (j : Int) < (N : Int) := by omega
        have HST : Hid (C.step pick = C.more.act i4) := by
          unfold Hid PB.step
          rw [if_neg (by rw [← HN.out]; exact h0), hfz, HI4.out, HJ.out, HN.out]
          rfl
        have hidx := able_idx (B := C) (j := j) (by rw [← HN.out]; exact hmod)
        rw [← HI4.out] at hidx
        have hemC : C.more.em.length < 1099511627776 := by
          have e : l = l.take k ++ l.drop k := (List.take_append_drop k l).symm
          rw [e, run_append, ← HC.out] at hem
          obtain ⟨x, hx, _⟩ := (run_ok (l.drop k) hok).2.2.1
          rw [hx, List.length_append] at hem
          show C.em.length < _
          omega
        have HDO : Hid (Calls Try.prog 27 #[at_ p, at_ (g2.q i4)] W4 (DoPost w0 W4 p g2 (C.more.act i4))) := DO H4.out hok.more hidx.1 hidx.2 hemC
        clear x34 s34 h3 p3 hfz hidx hemC
        go_wp2_with fail
        refine (Calls.mono HDO.out) ?_
        rintro _ w5 ⟨rfl, g5, h5, eg, et, _, hrest⟩
        have HB5 : Hid (BdAt w0 w5 p g5 (B.run (l.take (k + 1)))) := by
          unfold Hid
          rw [HS.out, HST.out]
          exact h5
        have HP5 : Hid (RowP w0 w5 g5 r3 0 c3 []) := row_same (show RowP w0 W4 g5 r3 0 c3 [] from RowP.cut (g := g2) HR4.out) fun b e => hrest.block b (row_tag HR4.out e)
        have HT5 : Hid (blkOf g5.ta ≠ some r3) := by
          unfold Hid
          rw [et]
          exact t3
        have HG5 : Hid (g5.gs = g.gs) := eg.trans HG.out
        clear h5 eg et hrest t3
        go_wp2_with fail
        go_roundw
        case rel => exact ⟨k + 1, r3, c3, N, g5, by omega, by go_num, rfl, hrow3.1, hrow3.2, HB5.out, HG5.out, HP5.out, HT5.out⟩
        case measure => simp [intOf]; omega
    · obtain rfl : k = len := by omega
      go_wp2
      try rw [Exit.noGoto_normal]
      go_returns
      have e : l.take k = l := by rw [← HZ.out, List.take_length]
      have h9 := HB.out
      rw [HC.out, e] at h9
      exact ⟨rfl, g2, h9, HG.out⟩
end Go.Proofs.Ytehkcgjiimfdjaa
