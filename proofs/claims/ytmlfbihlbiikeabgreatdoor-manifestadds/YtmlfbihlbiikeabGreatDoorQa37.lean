/- The contracts of New, Ops, Fuse, Fail, and of copied. -/
import Derived.Test.YtmlfbihlbiikeabGreatDoorQa36
import Derived.Laws.CopyOwn
import Derived.Deep.OwnRows
import Derived.Test.YtmlfbihlbiikeabGreatDoorQa06
namespace Go.Proofs.YtmlfbihlbiikeabGreatDoor
open Go.RowKit Go.Maps
def gh0 : Gh := ⟨fun _ => ⟨0, none, 0⟩, fun _ => False, none, none, none, 0⟩
theorem FsAt.new {w : World} {p q : Nat} (h : FsB w p (cellsOf (PFs.new q) gh0)) : FsAt w p (PFs.new q) gh0 where
  fs := h
  nm := rfl
  lm := rfl
  apart := fun _ e => by cases e
  sn := World.ownsRow_nil _ _ _ 3
  files := fun _ h => h.elim
  inj := fun _ _ h => h.elim
  liveN := fun _ h => by cases h
  liveL := fun _ h => by cases h
  liveS := fun _ h => by cases h
theorem Inv.new {q : Nat} (h : q ≤ 1048576) : Inv (PFs.new q) :=
  ⟨Nat.zero_le _, h, fun e => by simp [PFs.new] at e, fun e => by simp [PFs.new] at e, Nice.nil _, rfl, Nat.zero_le _, fun k => by simp [PFs.fileOf, PFs.new, file0], fun k => by simp [PFs.fileOf, PFs.new, file0], by simp [PFs.new, news]⟩
set_option maxRecDepth 100000 in
theorem new_bad (w : World) (q : Int) (hq : ¬ (0 ≤ q ∧ q ≤ 1048576)) : Calls Tryz.prog 7 #[.int .i64 q] w fun e w' => e = .returned (.tuple #[.pointer none, .int .i64 1]) ∧ w' = w := by
  by_cases h1 : q < 0
  · clear hq
    go_enter Tryz.func7, Tryz.ntmps7
    go_wp2
    go_returns
    exact ⟨rfl, rfl⟩
  · have h2 : 1048576 < q := by omega
    clear hq
    go_enter Tryz.func7, Tryz.ntmps7
    go_wp2
    go_returns
    exact ⟨rfl, rfl⟩
set_option maxRecDepth 100000 in
theorem new_ok (w : World) (q : Int) (h1 : 0 ≤ q) (h2 : q ≤ 1048576) : Calls Tryz.prog 7 #[.int .i64 q] w fun e w' => e = .returned (.tuple #[at_ w.heap.size, .int .i64 0]) ∧ w' = w.alloc (.cells #[.int .i64 q, .int .i64 0, .int .i64 0, .bool false, .int .i64 0, .bool false, .int .i64 0, .map none, .map none, .slice none 0 0] 64) := by
  go_enter Tryz.func7, Tryz.ntmps7
  go_wp2
  go_returns
  exact ⟨rfl, rfl⟩
theorem new_at (w : World) (q : Int) : Calls Tryz.prog 7 #[.int .i64 q] w fun e w' =>
    ((0 ≤ q ∧ q ≤ 1048576) ∧ e = .returned (.tuple #[at_ w.heap.size, .int .i64 0]) ∧ FsAt w' w.heap.size (PFs.new q.toNat) gh0 ∧ Below w.heap.size w w' ∧ w.heap.size < w'.heap.size) ∨
    (¬ (0 ≤ q ∧ q ≤ 1048576) ∧ e = .returned (.tuple #[.pointer none, .int .i64 1]) ∧ w' = w) := by
  by_cases h : 0 ≤ q ∧ q ≤ 1048576
  · refine (new_ok w q h.1 h.2).mono ?_
    rintro e w' ⟨rfl, rfl⟩
    refine .inl ⟨h, rfl, FsAt.new ?_, (Below.refl _ _).alloc (Nat.le_refl _) _, by simp⟩
    refine Box.eq (Box.new w _ _) ?_
    have e : max q 0 = q := by omega
    simp [cellsOf, FsC.arr, PFs.new, gh0, PFs.bulk, e]
  · refine (new_bad w q h).mono ?_
    rintro e w' ⟨rfl, rfl⟩
    exact .inr ⟨h, rfl, rfl⟩
set_option maxRecDepth 100000 in
theorem copied_any (w : World) (a : Option Addr) (len cap : Nat) (bs : List UInt8) (h : BsAt w a len cap bs) (hl : len ≤ 140737488355328) : Calls Tryz.prog 28 #[.slice a len cap] w fun e w' => e = .returned (.slice (some ⟨w.heap.size, 0, none⟩) len len) ∧ OwnB w' w.heap.size (some ⟨w.heap.size, 0, none⟩) len len bs ∧ Below w.heap.size w w' ∧ w'.heap.size = w.heap.size + 1 := by
  have hmk := run_make_row' (P := Tryz.prog) 40 5 (.int .u8 0) 1 Tryz.underlying40 infoU8 rfl .i64 .i64 len (by omega) (by omega)
  have hsz := h.size
  have HS : Hid (bs.length = len) := hsz
  clear hsz
  have hA := h.alloc (.cells (madeCells #[.int .u8 0] len) 5)
  have hinf : (Tryz.prog.info? 5).map (·.size) = some 1 := by kernel_rfl
  obtain ⟨cur, hcur⟩ : ∃ cur : List Value, Hid (cur = (madeCells #[.int .u8 0] len).toList) := ⟨_, rfl⟩
  have hcl : cur.length = len := by rw [hcur.out]; simp [size_madeCells]
  have hg : (w.alloc (.cells (madeCells #[.int .u8 0] len) 5)).heap[w.heap.size]? = some (.cells cur.toArray 5 (0, 0)) := by
    rw [hcur.out]
    simpa using heap_alloc_new w (.cells (madeCells #[.int .u8 0] len) 5)
  have hrun : ∃ w3, (Builtin.copy_ #[40, 40] 3 #[.slice (some ⟨w.heap.size, 0, none⟩) len len, .slice a len cap]).run Tryz.prog (w.alloc (.cells (madeCells #[.int .u8 0] len) 5)) = .ok (goInt len) w3 ∧ w3.heap[w.heap.size]? = some (.cells (cellsB bs).toArray 5 (0, 0)) ∧ Below w.heap.size w w3 ∧ w3.heap.size = w.heap.size + 1 := by
    have hb0 : Below w.heap.size w (w.alloc (.cells (madeCells #[.int .u8 0] len) 5)) := (Below.refl _ _).alloc (Nat.le_refl _) _
    rcases Nat.eq_zero_or_pos len with h0 | h0
    · subst h0
      refine ⟨_, run_copy_none (P := Tryz.prog) _ _ _ _ 5 _ _ _ _ _ _ Tryz.underlying40 hinf (by simp), ?_, hb0, by simp⟩
      rw [hg]
      obtain rfl : bs = [] := List.eq_nil_of_length_eq_zero HS.out
      obtain rfl : cur = [] := List.eq_nil_of_length_eq_zero hcl
      rfl
    · obtain ⟨b, off, ha, hc⟩ := hA.here h0
      subst ha
      have hcs : (cellsB bs).length = len := by rw [cellsB_length, HS.out]
      have hr := run_copy_row (P := Tryz.prog) (w.alloc (.cells (madeCells #[.int .u8 0] len) 5)) 40 40 3 5 w.heap.size 0 len len ⟨b, off, none⟩ len cap cur.toArray 5 (cellsB bs) Tryz.underlying40 hinf hg (by rw [hcs]; exact (Nat.min_self len).symm) (fun j v hv => by
        have hj : j < bs.length := by have := (List.getElem?_eq_some_iff.1 hv).1; rwa [cellsB_length] at this
        rw [cellsB_get bs j hj] at hv
        obtain rfl := Option.some.inj hv
        rw [Addr.add_lit]
        exact hc j (by rw [← HS.out]; exact hj)) (by simp [hcs, hcl]) (cellsB_one bs)
      rw [hcs] at hr
      refine ⟨_, hr, ?_, below_setRow hb0 (Nat.le_refl _) _, by simp [World.setRow]⟩
      rw [setRow_heap _ _ _ _ _ _ hg]
      simp [hcl]
  obtain ⟨w3, hr3, hh3, hb3, hs3⟩ := hrun
  go_enter Tryz.func28, Tryz.ntmps28
  go_wp2
  go_returns
  refine ⟨rfl, ⟨HS.out, by rw [cellsB_length, HS.out]; simp, .inr ⟨w.heap.size, len, (cellsB bs).toArray, rfl, Nat.le_refl _, hh3, Nat.le_refl _, by unfold maxLen; omega, by simp [cellsB_length, HS.out], ?_⟩⟩, hb3, hs3⟩
  have : (cellsB bs).length = len * 1 := by rw [cellsB_length, HS.out]; simp
  simp [← this]
end Go.Proofs.YtmlfbihlbiikeabGreatDoor
namespace Go.Proofs.YtmlfbihlbiikeabGreatDoor
open Go.RowKit Go.Maps
set_option maxRecDepth 100000 in
theorem readable_at {w : World} {p : Nat} {S : PFs} {g : Gh} (h : FsAt w p S g) : Calls Tryz.prog 27 #[at_ p] w fun e w' => e = .returned (.int .i64 (if S.off = true then 44 else 0)) ∧ Below w.heap.size w w' := by
  obtain ⟨q0, q1, q2, q3, q4, _⟩ := h.fs.cells
  simp only [cellsOf] at q3 q4
  have hoff : S.off = (S.fused && (S.fuse == 0)) := rfl
  cases hf : S.fused with
  | false =>
    rw [hf] at q3 q4 hoff
    simp only [Bool.false_eq_true, if_false] at q4
    rw [hoff]
    go_enter Tryz.func27, Tryz.ntmps27
    go_wp2
    go_returns
    exact ⟨rfl, (Below.refl _ _).alloc (Nat.le_refl _) _⟩
  | true =>
    rw [hf] at q3 q4 hoff
    simp only [if_true] at q4
    rw [hoff]
    by_cases h0 : S.fuse = 0
    · rw [h0] at q4 ⊢
      go_enter Tryz.func27, Tryz.ntmps27
      go_wp2
      go_returns
      exact ⟨rfl, (Below.refl _ _).alloc (Nat.le_refl _) _⟩
    · have e : (S.fuse == 0) = false := by simpa using h0
      rw [e]
      go_enter Tryz.func27, Tryz.ntmps27
      go_wp2
      go_returns
      exact ⟨rfl, (Below.refl _ _).alloc (Nat.le_refl _) _⟩
theorem FsAt.below {w w' : World} {p : Nat} {S : PFs} {g : Gh} (h : FsAt w p S g) (hb : Below w.heap.size w w') : FsAt w' p S g := h.frame (fun k hk => hb.block k (h.foot_lt (.inr hk))) (Box.kept h.fs (hb.block p (tag_lt h.tagP))) rfl rfl rfl rfl
set_option maxRecDepth 100000 in
theorem read_at {w : World} {p : Nat} {S : PFs} {g : Gh} (h : FsAt w p S g) (hI : Inv S) (name : ByteArray) : Calls Tryz.prog 10 #[at_ p, .string name] w fun e w' =>
    ∃ a c, e = .returned (.tuple #[.slice a (S.read name.data.toList).1.length c, .int .i64 ((S.read name.data.toList).2 : Nat)]) ∧ OwnB w' w.heap.size a (S.read name.data.toList).1.length c (S.read name.data.toList).1 ∧ Below w.heap.size w w' := by
  go_enter Tryz.func10, Tryz.ntmps10
  go_wp2_with fail
  refine (readable_at h).mono ?_
  rintro e w2 ⟨rfl, hb2⟩
  by_cases ho : S.off = true
  · rw [if_pos ho]
    have hS : S.read name.data.toList = ([], 44) := by rw [PFs.read, if_pos ho]
    go_wp2
    go_returns
    rw [hS]
    exact ⟨none, 0, rfl, ⟨rfl, World.ownsRow_nil _ _ _ 1⟩, hb2⟩
  · rw [if_neg ho]
    have h2 := h.below hb2
    obtain ⟨q0, q1, q2, q3, q4, q5, q6, q7, _⟩ := h2.fs.cells
    simp only [cellsOf] at q7
    have hlk := h2.nm.look hI.short name
    cases hf : findN S.names name.data.toList with
    | none =>
      rw [hf, ptrOf] at hlk
      have hS : S.read name.data.toList = ([], 42) := by rw [PFs.read, if_neg ho, hf]
      go_wp2
      go_returns
      rw [hS]
      exact ⟨none, 0, rfl, ⟨rfl, World.ownsRow_nil _ _ _ 1⟩, hb2⟩
    | some k =>
      rw [hf, ptrOf] at hlk
      have hS : S.read name.data.toList = ((S.fileOf k).b, 0) := by rw [PFs.read, if_neg ho, hf]
      obtain ⟨x, hx, _, hxk⟩ := find_mem hf
      have hk : g.live k := by rw [← hxk]; exact h.liveN x hx
      have hF := h2.files k hk
      have c0 := hF.box.cell 0
      simp at c0
      rw [show g.blk k = (g.fl k).blk from rfl] at hlk
      have hbl := hI.lens k
      go_wp2_with fail
      refine (copied_any w2 _ _ _ _ hF.own.bs (by omega)).mono ?_
      rintro e w3 ⟨rfl, ho3, hb3, _⟩
      go_wp2
      go_returns
      rw [hS]
      exact ⟨_, _, rfl, ho3.mono hb2.size, hb2.trans (hb3.mono hb2.size)⟩
end Go.Proofs.YtmlfbihlbiikeabGreatDoor
namespace Go.Proofs.YtmlfbihlbiikeabGreatDoor
open Go.RowKit Go.Maps
def chg0 : PChange := ⟨0, [], [], 0⟩
theorem cellsC_at (blk : Nat → Nat) : ∀ (l : List PChange) (k j : Nat), k < l.length → j < 3 → (cellsC blk l)[k * 3 + j]? = (cellsC1 blk (l.getD k chg0))[j]?
  | [], k, j, h, _ => by simp at h
  | c :: r, 0, j, _, hj => by
    rw [cellsC, List.getElem?_append_left (by rw [cellsC1_length]; omega)]
    simp [List.getD]
  | c :: r, k + 1, j, h, hj => by
    rw [cellsC, List.getElem?_append_right (by rw [cellsC1_length]; omega), cellsC1_length, show (k + 1) * 3 + j - 3 = k * 3 + j by omega, cellsC_at blk r k j (by simpa using h) hj]
    simp [List.getD]
theorem take_ch (l : List PChange) (k : Nat) (h : k < l.length) : l.take (k + 1) = l.take k ++ [l.getD k chg0] := by
  rw [List.take_add_one]
  simp [List.getD, h]
theorem Chain.at_ {K : Nat} : ∀ {s : List PChange} {l m : List PName} (k : Nat), Chain K l s m → k < s.length → OkC K ((s.take k).foldl changedN l) (s.getD k chg0)
  | [], _, _, _, _, hk => by simp at hk
  | c :: r, l, m, 0, h, _ => h.1
  | c :: r, l, m, k + 1, h, hk => by
    have := Chain.at_ (s := r) (l := changedN l c) k h.2 (by simpa using hk)
    simpa [List.getD] using this
set_option maxRecDepth 100000 in
set_option maxHeartbeats 2000000 in
theorem settle_any {K : Nat} {w : World} {p : Nat} {c : FsC} {blk : Nat → Nat} {l m : List PName} {since : List PChange} (hB : FsB w p c) (hlm : NmAt w c.ml blk l) (hN : Nice K l) (hch : Chain K l since m) (hsum : l.length + since.length ≤ 1000000) (hsl : c.sl = since.length) (hrow : w.ownsRow 0 116 3 (.slice c.sa c.sl c.sc) c.sl (cellsC blk since)) (n : Nat) (hn : n ≤ since.length) :
    Calls Tryz.prog 66 #[at_ p, .int .i64 (n : Int)] w fun e w' => e = .returned (.tuple #[]) ∧ ∃ ml, FsB w' p { c with ml := ml, sa := none, sl := 0, sc := 0 } ∧ NmAt w' ml blk ((since.take n).foldl changedN l) ∧ (ml = c.ml ∨ (c.ml = none ∧ ∃ m, ml = some m ∧ w.heap.size ≤ m)) ∧ Chg (fun i => i = p ∨ c.ml = some i) w w' := by
  obtain ⟨q0, q1, q2, q3, q4, q5, q6, q7, q8, q9⟩ := hB.cells
  have hN3 : n ≤ c.sl := by omega
  have hle : c.sl ≤ c.sc ∧ c.sc ≤ maxLen ∧ (c.sa = none → c.sc = 0) := by
    rcases hrow.2 with ⟨hv, h0⟩ | ⟨g, cp, cur, hv, _, _, h1, h2, _⟩
    · simp only [Value.slice.injEq] at hv
      obtain ⟨h3, h4, h5⟩ := hv
      exact ⟨by omega, by omega, fun _ => h5⟩
    · simp only [Value.slice.injEq, true_and] at hv
      obtain ⟨h3, h5⟩ := hv
      exact ⟨by omega, by omega, fun e => by rw [e] at h3; cases h3⟩
  have HSL : Hid (c.sl = since.length) := hsl
  clear hsl
  have hmax := hle.2.1
  unfold maxLen at hmax
  have hpt := Box.tag hB
  cases hsa : c.sa with
  | none =>
    obtain rfl : n = 0 := by have := hle.2.2 hsa; omega
    rw [hsa] at q9
    have s9 := Box.soft hB 9
    have hz : c.sl = 0 := by have := hle.2.2 hsa; omega
    have hz2 : c.sc = 0 := hle.2.2 hsa
    rw [hz, hz2] at q9
    go_enter Tryz.func66, Tryz.ntmps66
    go_wp2
    refine wp_loop_rounds 1 ?_
    rw [rounds_succ]
    go_wp2
    go_returns
    refine ⟨rfl, c.ml, ?_, ?_, .inl rfl, (Chg.refl (fun i => i = p ∨ c.ml = some i) w).set (p := p) (fun _ => .inl rfl) _ _⟩
    · exact Box.set hB 9 _
    · refine hlm.kept fun m e => Below.heap_setCell _ _ _ _ ?_
      have := hlm
      rw [e] at this
      exact tag_ne this.tag hpt (by decide)
  | some ad =>
    have hrow' := hrow
    rw [hsa] at q9 hrow'
    obtain ⟨gr, rfl⟩ : ∃ gr, ad = ⟨gr, 0, none⟩ := by
      rcases hrow'.2 with ⟨hv, h0⟩ | ⟨g, cp, cur, hv, _⟩
      · simp at hv
      · simp only [Value.slice.injEq, Option.some.injEq] at hv
        exact ⟨g, hv.1⟩
    have hgt := row_tag hrow' (b := gr) rfl
    go_enter Tryz.func66, Tryz.ntmps66
    go_wp2
    go_loopw [13] (fun i wr => ∃ (k : Nat) (mo : Option Nat), k ≤ n ∧ i = .int .i64 (k : Int) ∧ Hid (FsB wr p { c with ml := mo }) ∧ Hid (NmAt wr mo blk ((since.take k).foldl changedN l)) ∧ Hid (mo = c.ml ∨ (c.ml = none ∧ ∃ m, mo = some m ∧ w.heap.size ≤ m)) ∧ Hid (Chg (fun i => i = p ∨ c.ml = some i) w wr)) (fun i _ => n - (intOf i).toNat)
    case atStart => exact ⟨0, c.ml, Nat.zero_le _, rfl, hB, hlm, .inl rfl, Chg.refl _ _⟩
    case round =>
      obtain ⟨k, mo, hk, rfl, HB, HM, HL, HC⟩ := hrel
      have hsz := HC.out.size
      by_cases hlt : k < n
      · have hks : k < since.length := by omega
        have hrk : wr.ownsRow 0 116 3 (.slice (some ⟨gr, 0, none⟩) c.sl c.sc) c.sl (cellsC blk since) := row_same hrow' (fun b e => HC.out.block b (tag_lt (row_tag hrow' e)) (by
          rintro (e1 | e1)
          · exact tag_ne hpt (row_tag hrow' e) (by decide) e1.symm
          · have := hlm
            rw [e1] at this
            exact tag_ne this.tag (row_tag hrow' e) (by decide) rfl))
        obtain ⟨s, u, v, ev⟩ := cellsC1_form blk (since.getD k chg0)
        have p0 := World.ownsRow.cellAt hrk (k * 3 + 0) (by omega)
        have p1 := World.ownsRow.cellAt hrk (k * 3 + 1) (by omega)
        have p2 := World.ownsRow.cellAt hrk (k * 3 + 2) (by omega)
        rw [cellsC_at blk since k _ hks (by omega), ev] at p0 p1 p2
        simp at p0 p1 p2
        have HK : Hid (OkC K ((since.take k).foldl changedN l) (since.getD k chg0)) := Chain.at_ k hch hks
        have HNk : Hid (Nice K ((since.take k).foldl changedN l)) := Chain.nice hN (Chain.take k hch)
        have hlk : ((since.take k).foldl changedN l).length ≤ 1000000 := by
          have := Chain.length (Chain.take k hch)
          have h2 : (since.take k).length ≤ since.length := by simp; omega
          omega
        have hne : ∀ m, mo = some m → m ≠ p := fun m e => by
          have := HM.out
          rw [e] at this
          exact tag_ne this.tag (Box.tag HB.out) (by decide)
        have hdo : ∀ W, Box W p 64 ({ c with ml := mo } : FsC).arr → NmAt W mo blk ((since.take k).foldl changedN l) → Calls Tryz.prog 95 #[.pointer (some ⟨p, 8, none⟩), .agg #[.string s, .string u, .pointer v]] W fun e w' => e = .returned (.tuple #[]) ∧ ∃ m, (mo = some m ∨ (mo = none ∧ W.heap.size ≤ m)) ∧ NmAt w' (some m) blk (changedN ((since.take k).foldl changedN l) (since.getD k chg0)) ∧ Box w' p 64 (({ c with ml := mo } : FsC).arr.setIfInBounds 8 (.map (some m))) ∧ Chg (fun i => mo = some i ∨ (mo = none ∧ i = p)) W w' := by
          intro W h1 h2
          have := do_any W p 8 64 ({ c with ml := mo } : FsC).arr mo blk _ (since.getD k chg0) h1 rfl hne h2 HNk.out HK.out hlk
          rw [ev] at this
          exact this
        have hB0 : Box (wr.alloc (.cells #[.string s, .string u, .pointer v] 116)).drew p 64 ({ c with ml := mo } : FsC).arr := Box.alloc HB.out _
        have hn0 : NmAt (wr.alloc (.cells #[.string s, .string u, .pointer v] 116)).drew mo blk ((since.take k).foldl changedN l) := HM.out.kept (fun m e => Below.heap_alloc _ _ _ (by have := HM.out; rw [e] at this; exact tag_lt this.tag))
        have hk1 : (0 : Int) ≤ (k : Int) := by omega
        have hk2 : (k : Int) < (n : Int) := by omega
        go_wp2
        go_region_with (go_at_call 95; refine (hdo _ hB0 hn0).mono ?_; rintro e w2 ⟨rfl, m2, hm2, hn2, hb2, hc2⟩)
        go_wp2
        go_roundw
        case rel =>
          refine ⟨k + 1, some m2, by omega, by go_num, hb2, ?_, ?_, ?_⟩
          · unfold Hid
            rw [take_ch since k hks, List.foldl_append]
            exact hn2
          · unfold Hid
            rcases hm2 with e | ⟨e, e2⟩
            · rcases HL.out with e1 | ⟨e1, m3, e3, e4⟩
              · exact .inl (by rw [← e, e1])
              · rw [e] at e3
                obtain rfl := Option.some.inj e3
                exact .inr ⟨e1, m2, rfl, e4⟩
            · rcases HL.out with e1 | ⟨e1, m3, e3, e4⟩
              · exact .inr ⟨by rw [← e1, e], m2, rfl, by simp at e2; omega⟩
              · rw [e] at e3
                cases e3
          · refine Chg.andThen (HC.out.alloc _).drew hc2 ?_
            rintro i hi (e | ⟨_, e⟩)
            · rcases HL.out with e1 | ⟨e1, m3, e3, e4⟩
              · exact .inr (by rw [← e1, e])
              · rw [e] at e3
                obtain rfl := Option.some.inj e3
                omega
            · exact .inl e
        case measure => simp [intOf]; omega
      · have HE : Hid (k = n) := by unfold Hid; omega
        obtain ⟨t0, t1, t2, t3, t4, t5, t6, t7, t8, t9⟩ := HB.out.cells
        have s9 := Box.soft HB.out 9
        simp only at t9
        rw [hsa] at t9
        go_wp2
        go_returns
        have e := HE.out
        subst e
        refine ⟨rfl, mo, ?_, ?_, HL.out, HC.out.set (p := p) (fun _ => .inl rfl) _ _⟩
        · exact Box.set HB.out 9 _
        · refine HM.out.kept fun m e => Below.heap_setCell _ _ _ _ ?_
          have := HM.out
          rw [e] at this
          exact tag_ne this.tag (Box.tag HB.out) (by decide)
end Go.Proofs.YtmlfbihlbiikeabGreatDoor
namespace Go.Proofs.YtmlfbihlbiikeabGreatDoor
open Go.RowKit Go.Maps
theorem settle_at {w : World} {p : Nat} {S : PFs} {g : Gh} (h : FsAt w p S g) (hI : Inv S) (n : Nat) (hn : n ≤ S.since.length) :
    Calls Tryz.prog 66 #[at_ p, .int .i64 (n : Int)] w fun e w' => e = .returned (.tuple #[]) ∧ ∃ ml, FsAt w' p { S with lasts := (S.since.take n).foldl changedN S.lasts, since := [] } { g with ml := ml, sa := none, sc := 0 } ∧ (ml = g.ml ∨ (g.ml = none ∧ ∃ m, ml = some m ∧ w.heap.size ≤ m)) ∧ Chg (fun i => i = p ∨ g.ml = some i) w w' := by
  refine (settle_any (c := cellsOf S g) h.fs h.lm hI.lasts hI.chain (by have := hI.count; have := hI.asked; omega) rfl h.sn n hn).mono ?_
  rintro e w' ⟨rfl, ml, hb, hm, hl0, hc⟩
  have hl : ml = g.ml ∨ (g.ml = none ∧ ∃ m, ml = some m ∧ w.heap.size ≤ m) := hl0
  refine ⟨rfl, ml, ?_, hl, hc⟩
  have hfo : ∀ k, ({ S with lasts := (S.since.take n).foldl changedN S.lasts, since := [] } : PFs).fileOf k = S.fileOf k := fun k => rfl
  refine ⟨?_, ?_, hm, ?_, World.ownsRow_nil _ _ _ 3, ?_, h.inj, h.liveN, ?_, fun c hc => by cases hc⟩
  · have e : cellsOf ({ S with lasts := (S.since.take n).foldl changedN S.lasts, since := [] } : PFs) { g with ml := ml, sa := none, sc := 0 } = { cellsOf S g with ml := ml, sa := none, sl := 0, sc := 0 } := by
      unfold cellsOf
      have : ({ S with lasts := (S.since.take n).foldl changedN S.lasts, since := [] } : PFs).bulk S.names = S.bulk S.names := by rw [bulk_eq, bulk_eq]; rfl
      rw [this]
      rfl
    rw [e]
    exact hb
  · refine h.nm.kept fun m e => hc.block m (tag_lt (h.tagN e)) ?_
    rintro (e' | e')
    · exact h.inner_ne (.inl e) e'
    · exact h.apart m e e'
  · intro m e1 e2
    have e2 : ml = some m := e2
    rcases hl with e | ⟨_, m3, e3, e4⟩
    · exact h.apart m e1 (by rw [← e, e2])
    · rw [e2] at e3
      obtain rfl := Option.some.inj e3
      exact absurd (tag_lt (h.tagN e1)) (by omega)
  · intro k hk
    rw [hfo]
    refine (h.files k hk).kept (hc.block _ (tag_lt (h.tagF hk)) ?_) fun b e => hc.block b (tag_lt (h.tagR hk e)) ?_
    · rintro (e | e)
      · exact h.inner_ne (.inr (.inr (.inr ⟨k, hk, .inl rfl⟩))) e
      · exact tag_ne (h.tagL e) (h.tagF hk) (by decide) rfl
    · rintro (e' | e')
      · exact h.inner_ne (.inr (.inr (.inr ⟨k, hk, .inr e⟩))) e'
      · exact tag_ne (h.tagL e') (h.tagR hk e) (by decide) rfl
  · exact Chain.live (Chain.take n hI.chain) h.liveL (fun c hc => h.liveS c (List.mem_of_mem_take hc))
theorem Turn.settled {w w' : World} {p : Nat} {g : Gh} {ml : Option Nat} (hl : ml = g.ml ∨ (g.ml = none ∧ ∃ m, ml = some m ∧ w.heap.size ≤ m)) (hc : Chg (fun i => i = p ∨ g.ml = some i) w w') : Turn p g { g with ml := ml, sa := none, sc := 0 } w w' where
  chg := hc.wide fun k _ e => e.elim .inl (fun e => .inr (.inr (.inl e)))
  foot := by
    rintro k (e | e | e | e)
    · exact .inl (.inl e)
    · have e : ml = some k := e
      rcases hl with e1 | ⟨_, m3, e3, e4⟩
      · exact .inl (.inr (.inl (by rw [← e1, e])))
      · rw [e] at e3
        obtain rfl := Option.some.inj e3
        exact .inr e4
    · cases e
    · exact .inl (.inr (.inr (.inr e)))
set_option maxRecDepth 100000 in
set_option maxHeartbeats 1000000 in
theorem syncDir_at {w : World} {p : Nat} {S : PFs} {g : Gh} (h : FsAt w p S g) (hI : Inv S) (ha : S.asked < 1000000) : Calls Tryz.prog 26 #[at_ p] w fun e w' => e = .returned (.int .i64 (S.syncDir.2 : Nat)) ∧ Inv S.syncDir.1 ∧ ∃ g', FsAt w' p S.syncDir.1 g' ∧ Turn p g g' w w' := by
  obtain ⟨q, ql, qs, qf, qq, qa⟩ := ask_same S
  go_enter Tryz.func26, Tryz.ntmps26
  go_wp2_with fail
  refine (begin_at h hI ha).mono ?_
  rintro e w2 ⟨rfl, h2, hI2, hc2⟩
  by_cases h0 : S.ask.2 = 0
  case neg =>
    have hS : S.syncDir = S.ask := by rw [PFs.syncDir, if_pos h0]
    obtain ⟨er, her⟩ : ∃ er : Int, er = ((S.ask.2 : Nat) : Int) := ⟨_, rfl⟩
    have hne : er ≠ 0 := by omega
    have HE : Hid (er = ((S.ask.2 : Nat) : Int)) := her
    rw [← her]
    clear her
    go_wp2
    go_returns
    rw [hS]
    exact ⟨ret1 (congrArg (Value.int .i64) HE.out), hI2, g, h2, Turn.same (hc2.wide fun _ _ e => .inl e)⟩
  case pos =>
    rw [h0]
    have hS : S.syncDir = ({ S.ask.1 with lasts := S.names, since := [] }, 0) := by rw [PFs.syncDir, if_neg (by omega)]
    obtain ⟨q0, q1, q2, q3, q4, q5, q6, q7, q8, q9⟩ := h2.fs.cells
    simp only [cellsOf] at q9
    rw [qs] at q9
    have hle : S.since.length ≤ 1000000 := hI.fewS
    have hcall := settle_at h2 hI2 S.since.length (by rw [qs]; exact Nat.le_refl _)
    have HQ : Hid (S.ask.1.since = S.since) := qs
    clear qs
    go_wp2_with fail
    refine hcall.mono ?_
    rintro e w3 ⟨rfl, ml, h3, hl3, hc3⟩
    have hall : (S.ask.1.since.take S.since.length).foldl changedN S.ask.1.lasts = S.names := by
      have e : S.since.length = S.ask.1.since.length := by rw [HQ.out]
      rw [e, List.take_length, ← Chain.fold hI2.chain, q]
    rw [hall] at h3
    have ht := Turn.settled hl3 hc3
    go_wp2
    go_returns
    rw [hS]
    refine ⟨rfl, ⟨hI2.asked, hI2.quota, hI2.fuse, hI2.fail, ?_, ?_, ?_, hI2.lens, hI2.last, ?_⟩, _, h3, ⟨Chg.andThen (hc2.wide fun _ _ e => .inl e) ht.chg (fun _ _ e => e), fun k hk => (ht.foot k hk).imp id (fun h => Nat.le_trans hc2.size h)⟩⟩
    · show Nice S.ask.1.files.length S.names
      rw [← q]
      exact hI2.nice
    · show S.names = S.ask.1.names
      rw [q]
    · show S.names.length + 0 ≤ S.ask.1.asked
      have := Chain.length hI2.chain
      have := hI2.count
      rw [← q]
      omega
    · show (S.names.map (·.file) ++ news []).Nodup
      rw [show news [] = [] from rfl, List.append_nil]
      exact hI.nice.files
end Go.Proofs.YtmlfbihlbiikeabGreatDoor
