/- The contracts of New, Ops, Fuse, Fail, and of copied. -/
import Derived.Test.YtkelahekfkhcfaaCr2
import Derived.Laws.CopyOwn
import Derived.Deep.OwnRows
namespace Go.Proofs.Ytkelahekfkhcfaa
open Go.RowKit Go.Maps
def gh0 : Gh := ⟨fun _ => ⟨0, none, 0⟩, fun _ => False, none, none, none, 0⟩
theorem FsAt.new {w : World} {p q : Nat} (h : FsB w p (cellsOf (PFs.new q) gh0)) : FsAt w p (PFs.new q) gh0 where
  fs := h
  nm := rfl
  lm := rfl
  apart := fun _ e => by cases e
  sn := World.ownsRow_nil _ _ _ 3
  files := fun _ h => h.elim
  inj := fun _ _ h => h.elim
  liveN := fun _ h => by cases h
  liveL := fun _ h => by cases h
  liveS := fun _ h => by cases h
theorem Inv.new {q : Nat} (h : q ≤ 1048576) : Inv (PFs.new q) :=
  ⟨Nat.zero_le _, h, fun e => by simp [PFs.new] at e, fun e => by simp [PFs.new] at e, Nice.nil _, rfl, Nat.zero_le _, fun k => by simp [PFs.fileOf, PFs.new, file0], fun k => by simp [PFs.fileOf, PFs.new, file0], by simp [PFs.new, news]⟩
set_option maxRecDepth 100000 in
theorem new_bad (w : World) (q : Int) (hq : ¬ (0 ≤ q ∧ q ≤ 1048576)) : Calls Try.prog 10 #[.int .i64 q] w fun e w' => e = .returned (.tuple #[.pointer none, .int .i64 1]) ∧ w' = w := by
  by_cases h1 : q < 0
  · clear hq
    go_enter Try.func10, Try.ntmps10
    go_wp2
    go_returns
    exact ⟨rfl, rfl⟩
  · have h2 : 1048576 < q := by omega
    clear hq
    go_enter Try.func10, Try.ntmps10
    go_wp2
    go_returns
    exact ⟨rfl, rfl⟩
set_option maxRecDepth 100000 in
theorem new_ok (w : World) (q : Int) (h1 : 0 ≤ q) (h2 : q ≤ 1048576) : Calls Try.prog 10 #[.int .i64 q] w fun e w' => e = .returned (.tuple #[at_ w.heap.size, .int .i64 0]) ∧ w' = w.alloc (.cells #[.int .i64 q, .int .i64 0, .int .i64 0, .bool false, .int .i64 0, .bool false, .int .i64 0, .map none, .map none, .slice none 0 0] 64) := by
  go_enter Try.func10, Try.ntmps10
  go_wp2
  go_returns
  exact ⟨rfl, rfl⟩
theorem new_at (w : World) (q : Int) : Calls Try.prog 10 #[.int .i64 q] w fun e w' =>
    ((0 ≤ q ∧ q ≤ 1048576) ∧ e = .returned (.tuple #[at_ w.heap.size, .int .i64 0]) ∧ FsAt w' w.heap.size (PFs.new q.toNat) gh0 ∧ Below w.heap.size w w' ∧ w.heap.size < w'.heap.size) ∨
    (¬ (0 ≤ q ∧ q ≤ 1048576) ∧ e = .returned (.tuple #[.pointer none, .int .i64 1]) ∧ w' = w) := by
  by_cases h : 0 ≤ q ∧ q ≤ 1048576
  · refine (new_ok w q h.1 h.2).mono ?_
    rintro e w' ⟨rfl, rfl⟩
    refine .inl ⟨h, rfl, FsAt.new ?_, (Below.refl _ _).alloc (Nat.le_refl _) _, by simp⟩
    refine Box.eq (Box.new w _ _) ?_
    have e : max q 0 = q := by omega
    simp [cellsOf, FsC.arr, PFs.new, gh0, PFs.bulk, e]
  · refine (new_bad w q h).mono ?_
    rintro e w' ⟨rfl, rfl⟩
    exact .inr ⟨h, rfl, rfl⟩
set_option maxRecDepth 100000 in
theorem ops_at {w : World} {p : Nat} {S : PFs} {g : Gh} (h : FsAt w p S g) : Calls Try.prog 29 #[at_ p] w fun e w' => e = .returned (.int .i64 (S.asked : Nat)) ∧ w' = w := by
  obtain ⟨_, _, q2, _⟩ := h.fs.cells
  simp only [cellsOf] at q2
  go_enter Try.func29, Try.ntmps29
  go_wp2
  go_returns
  exact ⟨rfl, rfl⟩
set_option maxRecDepth 100000 in
theorem countFrom_any (w : World) (n : Int) : Calls Try.prog 55 #[.int .i64 n] w fun e w' => e = .returned (.agg #[.bool (decide (0 ≤ n)), .int .i64 (if 0 ≤ n then n else 0)]) ∧ Below w.heap.size w w' := by
  by_cases h : n < 0
  · have e1 : decide (0 ≤ n) = false := decide_eq_false (by omega)
    rw [e1, if_neg (by omega)]
    go_enter Try.func55, Try.ntmps55
    go_wp2
    refine bodyPost_ret (v := .agg #[.bool false, .int .i64 0]) (by simp [results, Try.results55, go_sem]) rfl ?_
    exact ⟨rfl, (Below.refl _ _).alloc (Nat.le_refl _) _⟩
  · have e1 : decide (0 ≤ n) = true := decide_eq_true (by omega)
    rw [e1, if_pos (by omega)]
    go_enter Try.func55, Try.ntmps55
    go_wp2
    refine bodyPost_ret (v := .agg #[.bool true, .int .i64 n]) (by simp [results, Try.results55, go_sem]) rfl ?_
    exact ⟨rfl, (Below.refl _ _).alloc (Nat.le_refl _) _⟩
set_option maxRecDepth 100000 in
theorem fuse_at {w : World} {p : Nat} {S : PFs} {g : Gh} (h : FsAt w p S g) (hI : Inv S) (n : Int) (hn : -9223372036854775808 ≤ n ∧ n ≤ 9223372036854775807) : Calls Try.prog 25 #[at_ p, .int .i64 n] w fun e w' => e = .returned (.tuple #[]) ∧ Inv (S.setFuse n) ∧ FsAt w' p (S.setFuse n) g ∧ Turn p g g w w' := by
  obtain ⟨B0, hB0⟩ : ∃ b, b = decide (0 ≤ n) := ⟨_, rfl⟩
  obtain ⟨N0, hN0⟩ : ∃ m, m = (if 0 ≤ n then n else 0) := ⟨_, rfl⟩
  go_enter Try.func25, Try.ntmps25
  go_wp2_with fail
  refine (countFrom_any _ n).mono ?_
  rintro e w2 ⟨rfl, hb⟩
  have h2 : FsAt w2 p S g := h.frame (fun k hk => hb.block k (h.foot_lt (.inr hk))) (Box.kept h.fs (hb.block p (tag_lt h.tagP))) rfl rfl rfl rfl
  have s3 := Box.soft h2.fs 3
  have s4 := Box.soft h2.fs 4
  obtain ⟨q0, q1, q2, q3, q4, _⟩ := h2.fs.cells
  rw [← hB0, ← hN0]
  have HB : Hid (B0 = decide (0 ≤ n)) := hB0
  have HN : Hid (N0 = (if 0 ≤ n then n else 0)) := hN0
  clear hB0 hN0
  go_wp2
  go_returns
  have hch : Chg (fun k => k = p) w ((w2.setCell ⟨p, 3, none⟩ (.bool B0)).setCell ⟨p, 4, none⟩ (.int .i64 N0)) := ((Chg.below (R := fun k => k = p) hb).set (p := p) (fun _ => rfl) 3 _).set (p := p) (fun _ => rfl) 4 _
  refine ⟨rfl, ⟨hI.asked, hI.quota, fun e => ?_, hI.fail, hI.lasts, hI.chain, hI.count, hI.lens, hI.last, hI.fresh⟩, ?_, Turn.same (hch.wide fun _ _ e => .inl e)⟩
  · have : 0 ≤ n := of_decide_eq_true e
    exact ⟨this, hn.2⟩
  · refine h.frame (fun k hk => hch.block k (h.foot_lt (.inr hk)) (h.inner_ne hk)) ?_ rfl rfl rfl rfl
    refine Box.eq (Box.set (Box.set h2.fs 3 _) 4 _) ?_
    rw [HB.out, HN.out]
    by_cases e : 0 ≤ n <;> simp [cellsOf, FsC.arr, PFs.setFuse, e]
    all_goals (rw [bulk_eq, bulk_eq]; rfl)
set_option maxRecDepth 100000 in
theorem fail_at {w : World} {p : Nat} {S : PFs} {g : Gh} (h : FsAt w p S g) (hI : Inv S) (n : Int) (hn : -9223372036854775808 ≤ n ∧ n ≤ 9223372036854775807) : Calls Try.prog 26 #[at_ p, .int .i64 n] w fun e w' => e = .returned (.tuple #[]) ∧ Inv (S.setFail n) ∧ FsAt w' p (S.setFail n) g ∧ Turn p g g w w' := by
  obtain ⟨B0, hB0⟩ : ∃ b, b = decide (0 ≤ n) := ⟨_, rfl⟩
  obtain ⟨N0, hN0⟩ : ∃ m, m = (if 0 ≤ n then n else 0) := ⟨_, rfl⟩
  go_enter Try.func26, Try.ntmps26
  go_wp2_with fail
  refine (countFrom_any _ n).mono ?_
  rintro e w2 ⟨rfl, hb⟩
  have h2 : FsAt w2 p S g := h.frame (fun k hk => hb.block k (h.foot_lt (.inr hk))) (Box.kept h.fs (hb.block p (tag_lt h.tagP))) rfl rfl rfl rfl
  have s3 := Box.soft h2.fs 5
  have s4 := Box.soft h2.fs 6
  obtain ⟨q0, q1, q2, q3, q4, q5, q6, _⟩ := h2.fs.cells
  rw [← hB0, ← hN0]
  have HB : Hid (B0 = decide (0 ≤ n)) := hB0
  have HN : Hid (N0 = (if 0 ≤ n then n else 0)) := hN0
  clear hB0 hN0
  go_wp2
  go_returns
  have hch : Chg (fun k => k = p) w ((w2.setCell ⟨p, 5, none⟩ (.bool B0)).setCell ⟨p, 6, none⟩ (.int .i64 N0)) := ((Chg.below (R := fun k => k = p) hb).set (p := p) (fun _ => rfl) 5 _).set (p := p) (fun _ => rfl) 6 _
  refine ⟨rfl, ⟨hI.asked, hI.quota, hI.fuse, fun e => ?_, hI.lasts, hI.chain, hI.count, hI.lens, hI.last, hI.fresh⟩, ?_, Turn.same (hch.wide fun _ _ e => .inl e)⟩
  · have : 0 ≤ n := of_decide_eq_true e
    exact ⟨this, hn.2⟩
  · refine h.frame (fun k hk => hch.block k (h.foot_lt (.inr hk)) (h.inner_ne hk)) ?_ rfl rfl rfl rfl
    refine Box.eq (Box.set (Box.set h2.fs 5 _) 6 _) ?_
    rw [HB.out, HN.out]
    by_cases e : 0 ≤ n <;> simp [cellsOf, FsC.arr, PFs.setFail, e]
    all_goals (rw [bulk_eq, bulk_eq]; rfl)
set_option maxRecDepth 100000 in
theorem copied_any (w : World) (a : Option Addr) (len cap : Nat) (bs : List UInt8) (h : BsAt w a len cap bs) (hl : len ≤ 140737488355328) : Calls Try.prog 54 #[.slice a len cap] w fun e w' => e = .returned (.slice (some ⟨w.heap.size, 0, none⟩) len len) ∧ OwnB w' w.heap.size (some ⟨w.heap.size, 0, none⟩) len len bs ∧ Below w.heap.size w w' ∧ w'.heap.size = w.heap.size + 1 := by
  have hmk := run_make_row' (P := Try.prog) 32 5 (.int .u8 0) 1 Try.underlying32 infoU8 rfl .i64 .i64 len (by omega) (by omega)
  have hsz := h.size
  have HS : Hid (bs.length = len) := hsz
  clear hsz
  have hA := h.alloc (.cells (madeCells #[.int .u8 0] len) 5)
  have hinf : (Try.prog.info? 5).map (·.size) = some 1 := by kernel_rfl
  obtain ⟨cur, hcur⟩ : ∃ cur : List Value, Hid (cur = (madeCells #[.int .u8 0] len).toList) := ⟨_, rfl⟩
  have hcl : cur.length = len := by rw [hcur.out]; simp [size_madeCells]
  have hg : (w.alloc (.cells (madeCells #[.int .u8 0] len) 5)).heap[w.heap.size]? = some (.cells cur.toArray 5 (0, 0)) := by
    rw [hcur.out]
    simpa using heap_alloc_new w (.cells (madeCells #[.int .u8 0] len) 5)
  have hrun : ∃ w3, (Builtin.copy_ #[32, 32] 3 #[.slice (some ⟨w.heap.size, 0, none⟩) len len, .slice a len cap]).run Try.prog (w.alloc (.cells (madeCells #[.int .u8 0] len) 5)) = .ok (goInt len) w3 ∧ w3.heap[w.heap.size]? = some (.cells (cellsB bs).toArray 5 (0, 0)) ∧ Below w.heap.size w w3 ∧ w3.heap.size = w.heap.size + 1 := by
    have hb0 : Below w.heap.size w (w.alloc (.cells (madeCells #[.int .u8 0] len) 5)) := (Below.refl _ _).alloc (Nat.le_refl _) _
    rcases Nat.eq_zero_or_pos len with h0 | h0
    · subst h0
      refine ⟨_, run_copy_none (P := Try.prog) _ _ _ _ 5 _ _ _ _ _ _ Try.underlying32 hinf (by simp), ?_, hb0, by simp⟩
      rw [hg]
      obtain rfl : bs = [] := List.eq_nil_of_length_eq_zero HS.out
      obtain rfl : cur = [] := List.eq_nil_of_length_eq_zero hcl
      rfl
    · obtain ⟨b, off, ha, hc⟩ := hA.here h0
      subst ha
      have hcs : (cellsB bs).length = len := by rw [cellsB_length, HS.out]
      have hr := run_copy_row (P := Try.prog) (w.alloc (.cells (madeCells #[.int .u8 0] len) 5)) 32 32 3 5 w.heap.size 0 len len ⟨b, off, none⟩ len cap cur.toArray 5 (cellsB bs) Try.underlying32 hinf hg (by rw [hcs]; exact (Nat.min_self len).symm) (fun j v hv => by
        have hj : j < bs.length := by have := (List.getElem?_eq_some_iff.1 hv).1; rwa [cellsB_length] at this
        rw [cellsB_get bs j hj] at hv
        obtain rfl := Option.some.inj hv
        rw [Addr.add_lit]
        exact hc j (by rw [← HS.out]; exact hj)) (by simp [hcs, hcl]) (cellsB_one bs)
      rw [hcs] at hr
      refine ⟨_, hr, ?_, below_setRow hb0 (Nat.le_refl _) _, by simp [World.setRow]⟩
      rw [setRow_heap _ _ _ _ _ _ hg]
      simp [hcl]
  obtain ⟨w3, hr3, hh3, hb3, hs3⟩ := hrun
  go_enter Try.func54, Try.ntmps54
  go_wp2
  go_returns
  refine ⟨rfl, ⟨HS.out, by rw [cellsB_length, HS.out]; simp, .inr ⟨w.heap.size, len, (cellsB bs).toArray, rfl, Nat.le_refl _, hh3, Nat.le_refl _, by unfold maxLen; omega, by simp [cellsB_length, HS.out], ?_⟩⟩, hb3, hs3⟩
  have : (cellsB bs).length = len * 1 := by rw [cellsB_length, HS.out]; simp
  simp [← this]
end Go.Proofs.Ytkelahekfkhcfaa
