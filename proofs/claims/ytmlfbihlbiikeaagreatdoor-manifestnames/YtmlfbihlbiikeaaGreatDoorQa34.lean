/- The contracts of New, Ops, Fuse, Fail, and of copied. -/
import Derived.Test.YtmlfbihlbiikeaaGreatDoorQa33
import Derived.Laws.CopyOwn
import Derived.Deep.OwnRows
import Derived.Shelf.SlIter.Nil
import Derived.Shelf.SortM.Plain
import Derived.Shelf.SortM.SortNone
import Derived.Shelf.SlMaps.Clone
import Derived.Test.YtmlfbihlbiikeaaGreatDoorChecked
import Derived.Test.YtmlfbihlbiikeaaGreatDoorQa01
namespace Go.Proofs.YtmlfbihlbiikeaaGreatDoor
open Go.RowKit Go.Maps
def gh0 : Gh := ⟨fun _ => ⟨0, none, 0⟩, fun _ => False, none, none, none, 0⟩
theorem FsAt.new {w : World} {p q : Nat} (h : FsB w p (cellsOf (PFs.new q) gh0)) : FsAt w p (PFs.new q) gh0 where
  fs := h
  nm := rfl
  lm := rfl
  apart := fun _ e => by cases e
  sn := World.ownsRow_nil _ _ _ 3
  files := fun _ h => h.elim
  inj := fun _ _ h => h.elim
  liveN := fun _ h => by cases h
  liveL := fun _ h => by cases h
  liveS := fun _ h => by cases h
theorem Inv.new {q : Nat} (h : q ≤ 1048576) : Inv (PFs.new q) :=
  ⟨Nat.zero_le _, h, fun e => by simp [PFs.new] at e, fun e => by simp [PFs.new] at e, Nice.nil _, rfl, Nat.zero_le _, fun k => by simp [PFs.fileOf, PFs.new, file0], fun k => by simp [PFs.fileOf, PFs.new, file0], by simp [PFs.new, news]⟩
set_option maxRecDepth 100000 in
theorem new_bad (w : World) (q : Int) (hq : ¬ (0 ≤ q ∧ q ≤ 1048576)) : Calls Tryz.prog 14 #[.int .i64 q] w fun e w' => e = .returned (.tuple #[.pointer none, .int .i64 1]) ∧ w' = w := by
  by_cases h1 : q < 0
  · clear hq
    go_enter Tryz.func14, Tryz.ntmps14
    go_wp2
    go_returns
    exact ⟨rfl, rfl⟩
  · have h2 : 1048576 < q := by omega
    clear hq
    go_enter Tryz.func14, Tryz.ntmps14
    go_wp2
    go_returns
    exact ⟨rfl, rfl⟩
set_option maxRecDepth 100000 in
theorem new_ok (w : World) (q : Int) (h1 : 0 ≤ q) (h2 : q ≤ 1048576) : Calls Tryz.prog 14 #[.int .i64 q] w fun e w' => e = .returned (.tuple #[at_ w.heap.size, .int .i64 0]) ∧ w' = w.alloc (.cells #[.int .i64 q, .int .i64 0, .int .i64 0, .bool false, .int .i64 0, .bool false, .int .i64 0, .map none, .map none, .slice none 0 0] 88) := by
  go_enter Tryz.func14, Tryz.ntmps14
  go_wp2
  go_returns
  exact ⟨rfl, rfl⟩
theorem new_at (w : World) (q : Int) : Calls Tryz.prog 14 #[.int .i64 q] w fun e w' =>
    ((0 ≤ q ∧ q ≤ 1048576) ∧ e = .returned (.tuple #[at_ w.heap.size, .int .i64 0]) ∧ FsAt w' w.heap.size (PFs.new q.toNat) gh0 ∧ Below w.heap.size w w' ∧ w.heap.size < w'.heap.size) ∨
    (¬ (0 ≤ q ∧ q ≤ 1048576) ∧ e = .returned (.tuple #[.pointer none, .int .i64 1]) ∧ w' = w) := by
  by_cases h : 0 ≤ q ∧ q ≤ 1048576
  · refine (new_ok w q h.1 h.2).mono ?_
    rintro e w' ⟨rfl, rfl⟩
    refine .inl ⟨h, rfl, FsAt.new ?_, (Below.refl _ _).alloc (Nat.le_refl _) _, by simp⟩
    refine Box.eq (Box.new w _ _) ?_
    have e : max q 0 = q := by omega
    simp [cellsOf, FsC.arr, PFs.new, gh0, PFs.bulk, e]
  · refine (new_bad w q h).mono ?_
    rintro e w' ⟨rfl, rfl⟩
    exact .inr ⟨h, rfl, rfl⟩
set_option maxRecDepth 100000 in
theorem countFrom_any (w : World) (n : Int) : Calls Tryz.prog 69 #[.int .i64 n] w fun e w' => e = .returned (.agg #[.bool (decide (0 ≤ n)), .int .i64 (if 0 ≤ n then n else 0)]) ∧ Below w.heap.size w w' := by
  by_cases h : n < 0
  · have e1 : decide (0 ≤ n) = false := decide_eq_false (by omega)
    rw [e1, if_neg (by omega)]
    go_enter Tryz.func69, Tryz.ntmps69
    go_wp2
    refine bodyPost_ret (v := .agg #[.bool false, .int .i64 0]) (by simp [results, Tryz.results69, go_sem]) rfl ?_
    exact ⟨rfl, (Below.refl _ _).alloc (Nat.le_refl _) _⟩
  · have e1 : decide (0 ≤ n) = true := decide_eq_true (by omega)
    rw [e1, if_pos (by omega)]
    go_enter Tryz.func69, Tryz.ntmps69
    go_wp2
    refine bodyPost_ret (v := .agg #[.bool true, .int .i64 n]) (by simp [results, Tryz.results69, go_sem]) rfl ?_
    exact ⟨rfl, (Below.refl _ _).alloc (Nat.le_refl _) _⟩
set_option maxRecDepth 100000 in
theorem fuse_at {w : World} {p : Nat} {S : PFs} {g : Gh} (h : FsAt w p S g) (hI : Inv S) (n : Int) (hn : -9223372036854775808 ≤ n ∧ n ≤ 9223372036854775807) : Calls Tryz.prog 28 #[at_ p, .int .i64 n] w fun e w' => e = .returned (.tuple #[]) ∧ Inv (S.setFuse n) ∧ FsAt w' p (S.setFuse n) g ∧ Turn p g g w w' := by
  obtain ⟨B0, hB0⟩ : ∃ b, b = decide (0 ≤ n) := ⟨_, rfl⟩
  obtain ⟨N0, hN0⟩ : ∃ m, m = (if 0 ≤ n then n else 0) := ⟨_, rfl⟩
  go_enter Tryz.func28, Tryz.ntmps28
  go_wp2_with fail
  refine (countFrom_any _ n).mono ?_
  rintro e w2 ⟨rfl, hb⟩
  have h2 : FsAt w2 p S g := h.frame (fun k hk => hb.block k (h.foot_lt (.inr hk))) (Box.kept h.fs (hb.block p (tag_lt h.tagP))) rfl rfl rfl rfl
  have s3 := Box.soft h2.fs 3
  have s4 := Box.soft h2.fs 4
  obtain ⟨q0, q1, q2, q3, q4, _⟩ := h2.fs.cells
  rw [← hB0, ← hN0]
  have HB : Hid (B0 = decide (0 ≤ n)) := hB0
  have HN : Hid (N0 = (if 0 ≤ n then n else 0)) := hN0
  clear hB0 hN0
  go_wp2
  go_returns
  have hch : Chg (fun k => k = p) w ((w2.setCell ⟨p, 3, none⟩ (.bool B0)).setCell ⟨p, 4, none⟩ (.int .i64 N0)) := ((Chg.of (R := fun k => k = p) hb).set (p := p) (fun _ => rfl) 3 _).set (p := p) (fun _ => rfl) 4 _
  refine ⟨rfl, ⟨hI.asked, hI.quota, fun e => ?_, hI.fail, hI.lasts, hI.chain, hI.count, hI.lens, hI.last, hI.fresh⟩, ?_, Turn.same (hch.wide fun _ _ e => .inl e)⟩
  · have : 0 ≤ n := of_decide_eq_true e
    exact ⟨this, hn.2⟩
  · refine h.frame (fun k hk => hch.block k (h.foot_lt (.inr hk)) (h.inner_ne hk)) ?_ rfl rfl rfl rfl
    refine Box.eq (Box.set (Box.set h2.fs 3 _) 4 _) ?_
    rw [HB.out, HN.out]
    by_cases e : 0 ≤ n <;> simp [cellsOf, FsC.arr, PFs.setFuse, e]
    all_goals (rw [bulk_eq, bulk_eq]; rfl)
set_option maxRecDepth 100000 in
theorem fail_at {w : World} {p : Nat} {S : PFs} {g : Gh} (h : FsAt w p S g) (hI : Inv S) (n : Int) (hn : -9223372036854775808 ≤ n ∧ n ≤ 9223372036854775807) : Calls Tryz.prog 30 #[at_ p, .int .i64 n] w fun e w' => e = .returned (.tuple #[]) ∧ Inv (S.setFail n) ∧ FsAt w' p (S.setFail n) g ∧ Turn p g g w w' := by
  obtain ⟨B0, hB0⟩ : ∃ b, b = decide (0 ≤ n) := ⟨_, rfl⟩
  obtain ⟨N0, hN0⟩ : ∃ m, m = (if 0 ≤ n then n else 0) := ⟨_, rfl⟩
  go_enter Tryz.func30, Tryz.ntmps30
  go_wp2_with fail
  refine (countFrom_any _ n).mono ?_
  rintro e w2 ⟨rfl, hb⟩
  have h2 : FsAt w2 p S g := h.frame (fun k hk => hb.block k (h.foot_lt (.inr hk))) (Box.kept h.fs (hb.block p (tag_lt h.tagP))) rfl rfl rfl rfl
  have s3 := Box.soft h2.fs 5
  have s4 := Box.soft h2.fs 6
  obtain ⟨q0, q1, q2, q3, q4, q5, q6, _⟩ := h2.fs.cells
  rw [← hB0, ← hN0]
  have HB : Hid (B0 = decide (0 ≤ n)) := hB0
  have HN : Hid (N0 = (if 0 ≤ n then n else 0)) := hN0
  clear hB0 hN0
  go_wp2
  go_returns
  have hch : Chg (fun k => k = p) w ((w2.setCell ⟨p, 5, none⟩ (.bool B0)).setCell ⟨p, 6, none⟩ (.int .i64 N0)) := ((Chg.of (R := fun k => k = p) hb).set (p := p) (fun _ => rfl) 5 _).set (p := p) (fun _ => rfl) 6 _
  refine ⟨rfl, ⟨hI.asked, hI.quota, hI.fuse, fun e => ?_, hI.lasts, hI.chain, hI.count, hI.lens, hI.last, hI.fresh⟩, ?_, Turn.same (hch.wide fun _ _ e => .inl e)⟩
  · have : 0 ≤ n := of_decide_eq_true e
    exact ⟨this, hn.2⟩
  · refine h.frame (fun k hk => hch.block k (h.foot_lt (.inr hk)) (h.inner_ne hk)) ?_ rfl rfl rfl rfl
    refine Box.eq (Box.set (Box.set h2.fs 5 _) 6 _) ?_
    rw [HB.out, HN.out]
    by_cases e : 0 ≤ n <;> simp [cellsOf, FsC.arr, PFs.setFail, e]
    all_goals (rw [bulk_eq, bulk_eq]; rfl)
set_option maxRecDepth 100000 in
theorem copied_any (w : World) (a : Option Addr) (len cap : Nat) (bs : List UInt8) (h : BsAt w a len cap bs) (hl : len ≤ 140737488355328) : Calls Tryz.prog 76 #[.slice a len cap] w fun e w' => e = .returned (.slice (some ⟨w.heap.size, 0, none⟩) len len) ∧ OwnB w' w.heap.size (some ⟨w.heap.size, 0, none⟩) len len bs ∧ Below w.heap.size w w' ∧ w'.heap.size = w.heap.size + 1 := by
  have hmk := run_make_row' (P := Tryz.prog) 29 5 (.int .u8 0) 1 Tryz.underlying29 infoU8 rfl .i64 .i64 len (by omega) (by omega)
  have hsz := h.size
  have HS : Hid (bs.length = len) := hsz
  clear hsz
  have hA := h.alloc (.cells (madeCells #[.int .u8 0] len) 5)
  have hinf : (Tryz.prog.info? 5).map (·.size) = some 1 := by kernel_rfl
  obtain ⟨cur, hcur⟩ : ∃ cur : List Value, Hid (cur = (madeCells #[.int .u8 0] len).toList) := ⟨_, rfl⟩
  have hcl : cur.length = len := by rw [hcur.out]; simp [size_madeCells]
  have hg : (w.alloc (.cells (madeCells #[.int .u8 0] len) 5)).heap[w.heap.size]? = some (.cells cur.toArray 5 (0, 0)) := by
    rw [hcur.out]
    simpa using heap_alloc_new w (.cells (madeCells #[.int .u8 0] len) 5)
  have hrun : ∃ w3, (Builtin.copy_ #[29, 29] 3 #[.slice (some ⟨w.heap.size, 0, none⟩) len len, .slice a len cap]).run Tryz.prog (w.alloc (.cells (madeCells #[.int .u8 0] len) 5)) = .ok (goInt len) w3 ∧ w3.heap[w.heap.size]? = some (.cells (cellsB bs).toArray 5 (0, 0)) ∧ Below w.heap.size w w3 ∧ w3.heap.size = w.heap.size + 1 := by
    have hb0 : Below w.heap.size w (w.alloc (.cells (madeCells #[.int .u8 0] len) 5)) := (Below.refl _ _).alloc (Nat.le_refl _) _
    rcases Nat.eq_zero_or_pos len with h0 | h0
    · subst h0
      refine ⟨_, run_copy_none (P := Tryz.prog) _ _ _ _ 5 _ _ _ _ _ _ Tryz.underlying29 hinf (by simp), ?_, hb0, by simp⟩
      rw [hg]
      obtain rfl : bs = [] := List.eq_nil_of_length_eq_zero HS.out
      obtain rfl : cur = [] := List.eq_nil_of_length_eq_zero hcl
      rfl
    · obtain ⟨b, off, ha, hc⟩ := hA.here h0
      subst ha
      have hcs : (cellsB bs).length = len := by rw [cellsB_length, HS.out]
      have hr := run_copy_row (P := Tryz.prog) (w.alloc (.cells (madeCells #[.int .u8 0] len) 5)) 29 29 3 5 w.heap.size 0 len len ⟨b, off, none⟩ len cap cur.toArray 5 (cellsB bs) Tryz.underlying29 hinf hg (by rw [hcs]; exact (Nat.min_self len).symm) (fun j v hv => by
        have hj : j < bs.length := by have := (List.getElem?_eq_some_iff.1 hv).1; rwa [cellsB_length] at this
        rw [cellsB_get bs j hj] at hv
        obtain rfl := Option.some.inj hv
        rw [Addr.add_lit]
        exact hc j (by rw [← HS.out]; exact hj)) (by simp [hcs, hcl]) (cellsB_one bs)
      rw [hcs] at hr
      refine ⟨_, hr, ?_, below_setRow hb0 (Nat.le_refl _) _, by simp [World.setRow]⟩
      rw [setRow_heap _ _ _ _ _ _ hg]
      simp [hcl]
  obtain ⟨w3, hr3, hh3, hb3, hs3⟩ := hrun
  go_enter Tryz.func76, Tryz.ntmps76
  go_wp2
  go_returns
  refine ⟨rfl, ⟨HS.out, by rw [cellsB_length, HS.out]; simp, .inr ⟨w.heap.size, len, (cellsB bs).toArray, rfl, Nat.le_refl _, hh3, Nat.le_refl _, by unfold maxLen; omega, by simp [cellsB_length, HS.out], ?_⟩⟩, hb3, hs3⟩
  have : (cellsB bs).length = len * 1 := by rw [cellsB_length, HS.out]; simp
  simp [← this]
end Go.Proofs.YtmlfbihlbiikeaaGreatDoor
namespace Go.Proofs.YtmlfbihlbiikeaaGreatDoor
open Go.Shelf
def keysL_ren : Go.Shelf.Ren := ⟨fun | 7 => 108 | 10 => 162 | n => n, fun | 23 => 85 | 26 => 9 | 3 => 96 | 28 => 172 | 0 => 0 | 27 => 171 | 33 => 95 | 4 => 4 | n => n, fun | n => n⟩
theorem keysL : Go.Proofs.SlLaysZ.n7 Tryz.prog keysL_ren := {
  mixed := by kernel_rfl
  f7 := ⟨Tryz.f108.name, by decide, Tryz.func108.trans (congrArg some (by kernel_rfl))⟩
  f10 := ⟨Tryz.f162.name, by decide, Tryz.func162.trans (congrArg some (by kernel_rfl))⟩
  t0 := Tryz.underlying0
  a0 := Tryz.isAgg0
  z0 := Tryz.sizeOf0
  v0 := Tryz.zeroValue0
  t4 := Tryz.underlying4
  a4 := Tryz.isAgg4
  z4 := Tryz.sizeOf4
  v4 := Tryz.zeroValue4
  t23 := Tryz.underlying85
  a23 := Tryz.isAgg85
  z23 := Tryz.sizeOf85
  v23 := Tryz.zeroValue85
  t26 := Tryz.underlying9
  a26 := Tryz.isAgg9
  z26 := Tryz.sizeOf9
  v26 := Tryz.zeroValue9
  t27 := Tryz.underlying171
  a27 := Tryz.isAgg171
  z27 := Tryz.sizeOf171
  v27 := Tryz.zeroValue171
  t28 := Tryz.underlying172
  a28 := Tryz.isAgg172
  z28 := Tryz.sizeOf172
  v28 := Tryz.zeroValue172
  t33 := Tryz.underlying95
  a33 := Tryz.isAgg95
  z33 := Tryz.sizeOf95
  v33 := Tryz.zeroValue95 }
def sortedL_ren : Go.Shelf.Ren := ⟨fun | 6 => 107 | 8 => 160 | 9 => 161 | 11 => 206 | 13 => 208 | 12 => 207 | 23 => 241 | 24 => 187 | 14 => 232 | 15 => 233 | 16 => 234 | 17 => 235 | 18 => 236 | 19 => 237 | 20 => 238 | 21 => 239 | 22 => 240 | 25 => 257 | 26 => 258 | 27 => 259 | 28 => 260 | 29 => 261 | 30 => 262 | 31 => 270 | n => n, fun | 26 => 9 | 28 => 172 | 24 => 128 | 0 => 0 | 3 => 3 | 37 => 190 | 48 => 220 | 50 => 23 | 4 => 4 | 40 => 290 | 39 => 289 | 45 => 136 | 5 => 5 | 9 => 9 | 51 => 312 | 55 => 315 | 57 => 320 | 58 => 321 | 33 => 95 | n => n, fun | n => n⟩
theorem sortedL : Go.Proofs.SlLaysZ.n6 Tryz.prog sortedL_ren := {
  mixed := by kernel_rfl
  f6 := ⟨Tryz.f107.name, by decide, Tryz.func107.trans (congrArg some (by kernel_rfl))⟩
  f8 := ⟨Tryz.f160.name, by decide, Tryz.func160.trans (congrArg some (by kernel_rfl))⟩
  f11 := ⟨Tryz.f206.name, by decide, Tryz.func206.trans (congrArg some (by kernel_rfl))⟩
  t0 := Tryz.underlying0
  a0 := Tryz.isAgg0
  z0 := Tryz.sizeOf0
  v0 := Tryz.zeroValue0
  t24 := Tryz.underlying128
  a24 := Tryz.isAgg128
  z24 := Tryz.sizeOf128
  v24 := Tryz.zeroValue128
  t26 := Tryz.underlying9
  a26 := Tryz.isAgg9
  z26 := Tryz.sizeOf9
  v26 := Tryz.zeroValue9
  t28 := Tryz.underlying172
  a28 := Tryz.isAgg172
  z28 := Tryz.sizeOf172
  v28 := Tryz.zeroValue172
  i26 := by kernel_rfl }
def sortL_ren : Go.Shelf.Ren := ⟨fun | 6 => 161 | 8 => 208 | 9 => 207 | 19 => 241 | 20 => 187 | 21 => 232 | 22 => 233 | 23 => 234 | 24 => 235 | 25 => 236 | 26 => 237 | 27 => 238 | 28 => 239 | 29 => 240 | 36 => 257 | 31 => 258 | 32 => 259 | 37 => 260 | 38 => 261 | 39 => 262 | 41 => 270 | n => n, fun | 27 => 128 | 29 => 9 | 3 => 3 | 32 => 190 | 26 => 128 | 0 => 0 | 44 => 220 | 46 => 23 | 4 => 4 | 36 => 290 | 35 => 289 | 41 => 136 | 5 => 5 | 9 => 9 | 53 => 312 | 57 => 315 | 63 => 320 | 64 => 321 | n => n, fun | n => n⟩
theorem sortL : Go.Proofs.SlLaysM.n6 Tryz.prog sortL_ren := {
  mixed := by kernel_rfl
  f6 := ⟨Tryz.f161.name, by decide, Tryz.func161.trans (congrArg some (by kernel_rfl))⟩
  f8 := Tryz.func208.trans (congrArg some (by kernel_rfl))
  f9 := ⟨Tryz.f207.name, by decide, Tryz.func207.trans (congrArg some (by kernel_rfl))⟩
  f19 := Tryz.func241.trans (congrArg some (by kernel_rfl))
  f20 := Tryz.func187.trans (congrArg some (by kernel_rfl))
  f21 := ⟨Tryz.f232.name, by decide, Tryz.func232.trans (congrArg some (by kernel_rfl))⟩
  f22 := ⟨Tryz.f233.name, by decide, Tryz.func233.trans (congrArg some (by kernel_rfl))⟩
  f23 := ⟨Tryz.f234.name, by decide, Tryz.func234.trans (congrArg some (by kernel_rfl))⟩
  f24 := ⟨Tryz.f235.name, by decide, Tryz.func235.trans (congrArg some (by kernel_rfl))⟩
  f25 := ⟨Tryz.f236.name, by decide, Tryz.func236.trans (congrArg some (by kernel_rfl))⟩
  f26 := ⟨Tryz.f237.name, by decide, Tryz.func237.trans (congrArg some (by kernel_rfl))⟩
  f27 := ⟨Tryz.f238.name, by decide, Tryz.func238.trans (congrArg some (by kernel_rfl))⟩
  f28 := ⟨Tryz.f239.name, by decide, Tryz.func239.trans (congrArg some (by kernel_rfl))⟩
  f29 := ⟨Tryz.f240.name, by decide, Tryz.func240.trans (congrArg some (by kernel_rfl))⟩
  f31 := Tryz.func258.trans (congrArg some (by kernel_rfl))
  f32 := Tryz.func259.trans (congrArg some (by kernel_rfl))
  f36 := ⟨Tryz.f257.name, by decide, Tryz.func257.trans (congrArg some (by kernel_rfl))⟩
  f37 := ⟨Tryz.f260.name, by decide, Tryz.func260.trans (congrArg some (by kernel_rfl))⟩
  f38 := ⟨Tryz.f261.name, by decide, Tryz.func261.trans (congrArg some (by kernel_rfl))⟩
  f39 := ⟨Tryz.f262.name, by decide, Tryz.func262.trans (congrArg some (by kernel_rfl))⟩
  f41 := ⟨Tryz.f270.name, by decide, Tryz.func270.trans (congrArg some (by kernel_rfl))⟩
  t0 := Tryz.underlying0
  a0 := Tryz.isAgg0
  z0 := Tryz.sizeOf0
  v0 := Tryz.zeroValue0
  t3 := Tryz.underlying3
  a3 := Tryz.isAgg3
  z3 := Tryz.sizeOf3
  v3 := Tryz.zeroValue3
  t4 := Tryz.underlying4
  a4 := Tryz.isAgg4
  z4 := Tryz.sizeOf4
  v4 := Tryz.zeroValue4
  t5 := Tryz.underlying5
  a5 := Tryz.isAgg5
  z5 := Tryz.sizeOf5
  v5 := Tryz.zeroValue5
  t9 := Tryz.underlying9
  a9 := Tryz.isAgg9
  z9 := Tryz.sizeOf9
  v9 := Tryz.zeroValue9
  t26 := Tryz.underlying128
  a26 := Tryz.isAgg128
  z26 := Tryz.sizeOf128
  v26 := Tryz.zeroValue128
  t27 := Tryz.underlying128
  a27 := Tryz.isAgg128
  z27 := Tryz.sizeOf128
  v27 := Tryz.zeroValue128
  t29 := Tryz.underlying9
  a29 := Tryz.isAgg9
  z29 := Tryz.sizeOf9
  v29 := Tryz.zeroValue9
  t32 := Tryz.underlying190
  a32 := Tryz.isAgg190
  z32 := Tryz.sizeOf190
  v32 := Tryz.zeroValue190
  t35 := Tryz.underlying289
  a35 := Tryz.isAgg289
  z35 := Tryz.sizeOf289
  v35 := Tryz.zeroValue289
  t36 := Tryz.underlying290
  a36 := Tryz.isAgg290
  z36 := Tryz.sizeOf290
  v36 := Tryz.zeroValue290
  t41 := Tryz.underlying136
  a41 := Tryz.isAgg136
  z41 := Tryz.sizeOf136
  v41 := Tryz.zeroValue136
  t44 := Tryz.underlying220
  a44 := Tryz.isAgg220
  z44 := Tryz.sizeOf220
  v44 := Tryz.zeroValue220
  t46 := Tryz.underlying23
  a46 := Tryz.isAgg23
  z46 := Tryz.sizeOf23
  v46 := Tryz.zeroValue23
  t53 := Tryz.underlying312
  a53 := Tryz.isAgg312
  z53 := Tryz.sizeOf312
  v53 := Tryz.zeroValue312
  t57 := Tryz.underlying315
  a57 := Tryz.isAgg315
  z57 := Tryz.sizeOf315
  v57 := Tryz.zeroValue315
  t63 := Tryz.underlying320
  a63 := Tryz.isAgg320
  z63 := Tryz.sizeOf320
  v63 := Tryz.zeroValue320
  t64 := Tryz.underlying321
  a64 := Tryz.isAgg321
  z64 := Tryz.sizeOf321
  v64 := Tryz.zeroValue321 }
def cloneL_ren : Go.Shelf.Ren := ⟨fun | 5 => 61 | 7 => 106 | n => n, fun | 23 => 85 | 25 => 9 | 3 => 96 | 4 => 4 | 20 => 20 | n => n, fun | n => n⟩
theorem cloneL : Go.Proofs.SlLaysW.n5 Tryz.prog cloneL_ren := {
  mixed := by kernel_rfl
  f5 := ⟨Tryz.f61.name, by decide, Tryz.func61.trans (congrArg some (by kernel_rfl))⟩
  f7 := Tryz.func106.trans (congrArg some (by kernel_rfl))
  t4 := Tryz.underlying4
  a4 := Tryz.isAgg4
  z4 := Tryz.sizeOf4
  v4 := Tryz.zeroValue4
  t20 := Tryz.underlying20
  a20 := Tryz.isAgg20
  z20 := Tryz.sizeOf20
  v20 := Tryz.zeroValue20
  t23 := Tryz.underlying85
  a23 := Tryz.isAgg85
  z23 := Tryz.sizeOf85
  v23 := Tryz.zeroValue85 }
end Go.Proofs.YtmlfbihlbiikeaaGreatDoor
namespace Go.Proofs.YtmlfbihlbiikeaaGreatDoor
open Go.RowKit Go.Maps Go.Sort Go.Shelf
theorem sortsL (m : Nat) : AnyZ.SortsIn Tryz.prog sortedL_ren Fence.wide m :=
  ⟨fun blk off cap ss W hH hblk hsz => callsIn_wide.2 (AnyM.slices_Sort_string sortL blk off cap ss W hH hblk hsz),
   fun p cap W => callsIn_wide.2 (AnyM.slices_Sort_string_none sortL p cap W)⟩
set_option maxHeartbeats 1000000 in
theorem rising_own {H : Type} (b nn : Nat) (D0 : DataW H) (R : Value → Option (DataW H × List MemPlace)) (w : World) (hown : w.ownsMap Tryz.prog 9 R b nn D0) (hmax : Maps.size D0 ≤ maxLen) (hbytes : Maps.size D0 * 16 ≤ 140737488355328) :
    Calls Tryz.prog 62 #[.map (some b)] w fun e w' => ∃ (v : Value) (ss : List (List UInt8)), e = .returned v ∧ ss.Perm (strKeys D0) ∧
      w'.ownsRow w.heap.size 9 1 v ss.length ((ss.mergeSort (fun x y => decide (x ≤ y))).map encStr) ∧ (v = .slice none 0 0 ↔ ss = []) ∧ Below w.heap.size w w' := by
  refine (callsIn_wide (n := 6)).1 ?_
  have hbl := hown.lt
  have hseq : SeqGives Fence.wide 2 Tryz.prog 162 #[.pointer (some ⟨w.heap.size, 0, none⟩)] encStr (fun ss => ss.Perm (strKeys D0)) (Maps.size D0) (w.alloc (.cells #[.map (some b)] 85)) :=
    AnyZ.keys_gives (ρ := keysL_ren) { keysL with } Fence.wide _ trivial rfl (by omega) w.heap.size b nn D0 _ (by simp) (by simp) (by
      obtain ⟨es, clock, hb, Ft, hs, hD⟩ := hown
      exact ⟨es, clock, (Below.heap_alloc _ _ b hbl).trans hb, Ft, hs, hD⟩)
  have cK : ∀ mb W, CallsIn Fence.wide 5 Tryz.prog 108 #[.map mb] W fun e w' => e = .returned (.func (.func 162) #[] #[.pointer (some ⟨W.heap.size, 0, none⟩)]) ∧ w' = W.alloc (.cells #[.map mb] 85) := fun mb W => AnyZ.keys_in keysL Fence.wide 5 trivial rfl mb W
  have cS := AnyZ.sorted_in sortedL Fence.wide 5 trivial trivial trivial trivial rfl (by omega) (sortsL _) (enters_of Tryz.func161 (by kernel_rfl) rfl) 162 #[.pointer (some ⟨w.heap.size, 0, none⟩)] trivial (enters_of Tryz.func162 (by kernel_rfl) rfl) _ _ hmax hbytes _ hseq
  change CallsIn _ _ Tryz.prog 107 _ _ _ at cS
  have hfK : Fence.wide.fn 108 := trivial
  have hfS : Fence.wide.fn 107 := trivial
  refine callsIn_of_wp Tryz.func62 rfl trivial ?_ rfl
  simp only [Tryz.ntmps62, List.size_toArray, List.length_cons, List.length_nil, Nat.reduceAdd, Nat.reduceSub, Array.replicate_succ, Array.replicate_zero, List.push_toArray, List.append_toArray, List.nil_append, List.cons_append]
  gi_wp2_with (first
    | (gi_at_call 108; refine (cK _ _).mono ?_; rintro e w' ⟨rfl, rfl⟩)
    | (gi_at_call 107; refine cS.mono ?_; rintro e w' ⟨v, ss, rfl, hS, hrow, hnil, hb⟩))
  go_ret
  exact ⟨v, ss, rfl, hS, ownsRow_base_a hrow (by simp), hnil, ((Below.refl _ w).alloc (Nat.le_refl _) _).trans (hb.mono (by simp))⟩
set_option maxHeartbeats 1000000 in
theorem rising_nil (w : World) : Calls Tryz.prog 62 #[.map none] w fun e w' => e = .returned (.slice none 0 0) ∧ Below w.heap.size w w' := by
  refine (callsIn_wide (n := 6)).1 ?_
  have hseq : SeqGives Fence.wide 2 Tryz.prog 162 #[.pointer (some ⟨w.heap.size, 0, none⟩)] encStr (fun ss : List (List UInt8) => ss = []) 0 (w.alloc (.cells #[.map none] 85)) :=
    AnyZ.keys_gives_nil (ρ := keysL_ren) { keysL with } Fence.wide _ trivial rfl w.heap.size _ (by simp) (by simp)
  have cK : ∀ mb W, CallsIn Fence.wide 5 Tryz.prog 108 #[.map mb] W fun e w' => e = .returned (.func (.func 162) #[] #[.pointer (some ⟨W.heap.size, 0, none⟩)]) ∧ w' = W.alloc (.cells #[.map mb] 85) := fun mb W => AnyZ.keys_in keysL Fence.wide 5 trivial rfl mb W
  have cS := AnyZ.sorted_in sortedL Fence.wide 5 trivial trivial trivial trivial rfl (by omega) (sortsL _) (enters_of Tryz.func161 (by kernel_rfl) rfl) 162 #[.pointer (some ⟨w.heap.size, 0, none⟩)] trivial (enters_of Tryz.func162 (by kernel_rfl) rfl) _ 0 (Nat.zero_le _) (by omega) _ hseq
  change CallsIn _ _ Tryz.prog 107 _ _ _ at cS
  have hfK : Fence.wide.fn 108 := trivial
  have hfS : Fence.wide.fn 107 := trivial
  refine callsIn_of_wp Tryz.func62 rfl trivial ?_ rfl
  simp only [Tryz.ntmps62, List.size_toArray, List.length_cons, List.length_nil, Nat.reduceAdd, Nat.reduceSub, Array.replicate_succ, Array.replicate_zero, List.push_toArray, List.append_toArray, List.nil_append, List.cons_append]
  gi_wp2_with (first
    | (gi_at_call 108; refine (cK _ _).mono ?_; rintro e w' ⟨rfl, rfl⟩)
    | (gi_at_call 107; refine cS.mono ?_; rintro e w' ⟨v, ss, rfl, rfl, hrow, hnil, hb⟩; obtain rfl : v = .slice none 0 0 := hnil.2 rfl))
  go_ret
  exact ⟨rfl, ((Below.refl _ w).alloc (Nat.le_refl _) _).trans (hb.mono (by simp))⟩
end Go.Proofs.YtmlfbihlbiikeaaGreatDoor
namespace Go.Proofs.YtmlfbihlbiikeaaGreatDoor
open Go.RowKit Go.Maps
set_option maxRecDepth 100000 in
theorem readable_at {w : World} {p : Nat} {S : PFs} {g : Gh} (h : FsAt w p S g) : Calls Tryz.prog 75 #[at_ p] w fun e w' => e = .returned (.int .i64 (if S.off = true then 44 else 0)) ∧ Below w.heap.size w w' := by
  obtain ⟨q0, q1, q2, q3, q4, _⟩ := h.fs.cells
  simp only [cellsOf] at q3 q4
  have hoff : S.off = (S.fused && (S.fuse == 0)) := rfl
  cases hf : S.fused with
  | false =>
    rw [hf] at q3 q4 hoff
    simp only [Bool.false_eq_true, if_false] at q4
    rw [hoff]
    go_enter Tryz.func75, Tryz.ntmps75
    go_wp2
    go_returns
    exact ⟨rfl, (Below.refl _ _).alloc (Nat.le_refl _) _⟩
  | true =>
    rw [hf] at q3 q4 hoff
    simp only [if_true] at q4
    rw [hoff]
    by_cases h0 : S.fuse = 0
    · rw [h0] at q4 ⊢
      go_enter Tryz.func75, Tryz.ntmps75
      go_wp2
      go_returns
      exact ⟨rfl, (Below.refl _ _).alloc (Nat.le_refl _) _⟩
    · have e : (S.fuse == 0) = false := by simpa using h0
      rw [e]
      go_enter Tryz.func75, Tryz.ntmps75
      go_wp2
      go_returns
      exact ⟨rfl, (Below.refl _ _).alloc (Nat.le_refl _) _⟩
theorem FsAt.below {w w' : World} {p : Nat} {S : PFs} {g : Gh} (h : FsAt w p S g) (hb : Below w.heap.size w w') : FsAt w' p S g := h.frame (fun k hk => hb.block k (h.foot_lt (.inr hk))) (Box.kept h.fs (hb.block p (tag_lt h.tagP))) rfl rfl rfl rfl
set_option maxRecDepth 100000 in
theorem read_at {w : World} {p : Nat} {S : PFs} {g : Gh} (h : FsAt w p S g) (hI : Inv S) (name : ByteArray) : Calls Tryz.prog 31 #[at_ p, .string name] w fun e w' =>
    ∃ a c, e = .returned (.tuple #[.slice a (S.read name.data.toList).1.length c, .int .i64 ((S.read name.data.toList).2 : Nat)]) ∧ OwnB w' w.heap.size a (S.read name.data.toList).1.length c (S.read name.data.toList).1 ∧ Below w.heap.size w w' := by
  go_enter Tryz.func31, Tryz.ntmps31
  go_wp2_with fail
  refine (readable_at h).mono ?_
  rintro e w2 ⟨rfl, hb2⟩
  by_cases ho : S.off = true
  · rw [if_pos ho]
    have hS : S.read name.data.toList = ([], 44) := by rw [PFs.read, if_pos ho]
    go_wp2
    go_returns
    rw [hS]
    exact ⟨none, 0, rfl, ⟨rfl, World.ownsRow_nil _ _ _ 1⟩, hb2⟩
  · rw [if_neg ho]
    have h2 := h.below hb2
    obtain ⟨q0, q1, q2, q3, q4, q5, q6, q7, _⟩ := h2.fs.cells
    simp only [cellsOf] at q7
    have hlk := h2.nm.look hI.short name
    cases hf : findN S.names name.data.toList with
    | none =>
      rw [hf, ptrOf] at hlk
      have hS : S.read name.data.toList = ([], 42) := by rw [PFs.read, if_neg ho, hf]
      go_wp2
      go_returns
      rw [hS]
      exact ⟨none, 0, rfl, ⟨rfl, World.ownsRow_nil _ _ _ 1⟩, hb2⟩
    | some k =>
      rw [hf, ptrOf] at hlk
      have hS : S.read name.data.toList = ((S.fileOf k).b, 0) := by rw [PFs.read, if_neg ho, hf]
      obtain ⟨x, hx, _, hxk⟩ := find_mem hf
      have hk : g.live k := by rw [← hxk]; exact h.liveN x hx
      have hF := h2.files k hk
      have c0 := hF.box.cell 0
      simp at c0
      rw [show g.blk k = (g.fl k).blk from rfl] at hlk
      have hbl := hI.lens k
      go_wp2_with fail
      refine (copied_any w2 _ _ _ _ hF.own.bs (by omega)).mono ?_
      rintro e w3 ⟨rfl, ho3, hb3, _⟩
      go_wp2
      go_returns
      rw [hS]
      exact ⟨_, _, rfl, ho3.mono hb2.size, hb2.trans (hb3.mono hb2.size)⟩
theorem lt_of_ltB : ∀ a b : List UInt8, ltB a b = true → a < b
  | _, [], h => by cases ‹List UInt8› <;> simp [ltB] at h
  | [], _ :: _, _ => List.nil_lt_cons _ _
  | a :: r, b :: s, h => by
    rw [List.cons_lt_cons_iff]
    unfold ltB at h
    split at h
    · rename_i h1
      exact .inl h1
    · rename_i h1
      split at h
      · cases h
      · rename_i h2
        exact .inr ⟨UInt8.toNat_inj.1 (by omega), lt_of_ltB r s h⟩
theorem names_sorted {w : World} {m : Nat} {blk : Nat → Nat} {l : List PName} (h : NmAt w (some m) blk l) : (l.map (·.name)).mergeSort (fun x y => decide (x ≤ y)) = l.map (·.name) := by
  obtain ⟨es, he, hp, _⟩ := World.ownsMap.canon h lawS
  have e : l.map (entOf blk) = es := by simpa [mapOf] using he
  rw [← e] at hp
  refine List.mergeSort_of_pairwise ?_
  rw [List.pairwise_map] at hp ⊢
  refine hp.imp fun {x y} hxy => ?_
  rw [ltB_before] at hxy
  exact decide_eq_true (List.le_of_lt (lt_of_ltB _ _ hxy))
theorem ssAt_of_row {w : World} {B : Nat} {v : Value} {l : List (List UInt8)} (h : w.ownsRow B 9 1 v l.length (l.map Go.Proofs.encStr)) : ∃ a c, v = .slice a l.length c ∧ SsAt w a l.length c l ∧ ∀ ad, a = some ad → B ≤ ad.block ∧ ad.block < w.heap.size := by
  rcases h.2 with ⟨hv, hn⟩ | ⟨g, c, cur, hv, hb, hg, hn, hc, hz, ht⟩
  · rw [hn]
    refine ⟨none, 0, hv, ⟨hn, Nat.le_refl _, Nat.zero_le _, fun _ => rfl, fun h0 => absurd h0 (Nat.lt_irrefl _)⟩, fun ad e => by cases e⟩
  · refine ⟨_, c, hv, ⟨rfl, hn, hc, fun h0 => by simp at h0, fun _ => ⟨g, 0, rfl, fun j hj => ?_⟩⟩, fun ad e => ?_⟩
    · rw [hv] at h
      have hca := World.ownsRow.cellAt h j (by omega)
      rw [Nat.zero_add, hca]
      simp [List.getD, hj, Go.Proofs.YtmlfbihlbiikeaaGreatDoor.strOf]
    · cases e
      exact ⟨hb, (Array.getElem?_eq_some_iff.1 hg).1⟩
end Go.Proofs.YtmlfbihlbiikeaaGreatDoor
