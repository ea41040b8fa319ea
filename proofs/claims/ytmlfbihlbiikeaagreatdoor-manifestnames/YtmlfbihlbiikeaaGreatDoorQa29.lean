/- The contract of manifest's Append. -/
import Derived.Test.YtmlfbihlbiikeaaGreatDoorQa45
import Derived.Test.YtmlfbihlbiikeaaGreatDoorQa28
import Derived.Test.YtmlfbihlbiikeaaGreatDoorQa44
import Derived.Test.YtmlfbihlbiikeaaGreatDoorQa13
import Derived.Test.YtmlfbihlbiikeaaGreatDoorQa22
import Derived.Test.YtmlfbihlbiikeaaGreatDoorQa06
import Derived.Test.YtmlfbihlbiikeaaGreatDoorQa20
namespace Go.Proofs.YtmlfbihlbiikeaaGreatDoor
set_option maxRecDepth 100000
open Go.RowKit
set_option linter.unusedVariables false
set_option linter.unusedSimpArgs false
end Go.Proofs.YtmlfbihlbiikeaaGreatDoor
namespace Go.Proofs.YtmlfbihlbiikeaaGreatDoor
set_option linter.unusedVariables false
theorem man_back {n : Nat} (h1 : 1 ≤ n) (h2 : n ≤ 1099511627776) : parseR (nameP 3 n) = (3, n) := by
  obtain ⟨a, b⟩ := (parseR_names (nameP 3 n)).num 3 n (.inr (.inr rfl)) h1 h2 rfl
  exact Prod.ext a b
theorem line_suffix (m : List UInt8) : Lib.hasSuffix (lineF m) [10] = true ∧ Lib.trimSuffix (lineF m) [10] = m := by
  have h1 : Lib.hasSuffix (lineF m) [10] = true := by
    unfold Lib.hasSuffix lineF
    simp
  refine ⟨h1, ?_⟩
  unfold Lib.trimSuffix
  rw [if_pos h1]
  unfold lineF
  simp
theorem few_cut (num : Nat) (l : List PE) {cut : Nat} (hl : cut ≤ (manOf l).length) (he : ∀ x ∈ l, x.err = 0) (hn : l.length ≤ 500) : Few num ((manOf l).take cut) := fun j s h => by
  obtain ⟨i, e, hi, _, hr, _⟩ := read_log (l.map PE.enc) [] [] cut (Nat.zero_le _) hl
  have h2 : (walRead ((manOf l).take cut)).1 = (l.map PE.enc).take i := by
    have h := congrArg Prod.fst hr
    exact h
  rw [h2, ← List.map_take, ← List.map_take, decS_enc _ _ (fun x hx => he x (List.mem_of_mem_take (List.mem_of_mem_take hx)))] at h
  have h3 := steps_few _ _ _ h
  have h4 : ((l.take i).take j).length ≤ l.length := by simp; omega
  have h5 : (PSt.zero num).v.all.length = 0 := rfl
  omega
theorem holds_reads {c : Cr} {k : Kn} {num : Nat} {B : List UInt8} (hk : k.quiet) (hn : 1 ≤ num ∧ num ≤ 1099511627776) (hh : Holds c (nameP 3 num) B) : (pf c k).read curB = (lineF (nameP 3 num), 0) ∧ (pf c k).read (nameP 3 num) = (B, 0) := by
  obtain ⟨i, j, h1, h2, h3, h4⟩ := hh
  rw [read_pf hk, read_pf hk, h1, h3]
  exact ⟨by rw [← h2], by rw [← h4]⟩
theorem holds_load {c : Cr} {k : Kn} {num : Nat} {B : List UInt8} {t : PSt} (hk : k.quiet) (hn : 1 ≤ num ∧ num ≤ 1099511627776) (hh : Holds c (nameP 3 num) B) (hT : toldP num B = some t) : loadP (pf c k) = (t, 0) := by
  obtain ⟨h1, h2⟩ := holds_reads hk hn hh
  obtain ⟨h3, h4⟩ := line_suffix (nameP 3 num)
  unfold loadP
  simp only [h1, h3, h4, h2, man_back hn.1 hn.2, hT]
  simp
theorem load_holds {J : Face} (H : FsOk J) {i p : Nat} {w : World} {R : Nat → Prop} {l r : Fss} {c : Cr} {k : Kn} {num cut : Nat} {L : List PE} {t : PSt} (hJ : J w R l r) (hl : l[i]? = some (p, pf c k)) (hg : Gl w) (hRw : ∀ k, R k → k < w.heap.size) (hR8 : ∀ g, g < 6 → R g)
    (hk : k.quiet) (hn : 1 ≤ num ∧ num ≤ 1099511627776) (hh : Holds c (nameP 3 num) ((manOf L).take cut)) (hc : cut ≤ (manOf L).length) (hB : (manOf L).length ≤ 100000000) (he : ∀ x ∈ L, x.err = 0) (hL : L.length ≤ 500) (hT : toldP num ((manOf L).take cut) = some t) :
    Calls Tryz.prog 20 #[at_ p] w (LoadR J R l r w (t, 0)) := by
  obtain ⟨h1, h2⟩ := holds_reads hk hn hh
  obtain ⟨h3, h4⟩ := line_suffix (nameP 3 num)
  have hm := (man_mn hn.1 hn.2).2
  rw [← holds_load hk hn hh hT]
  refine load_any H hJ hl hg hRw hR8 ?_ ?_
  · rw [h1]
    dsimp only
    rw [h4, h2]
    refine ⟨by unfold lineF; simp; omega, ?_⟩
    dsimp only
    rw [List.length_take]
    omega
  · rw [h1]
    dsimp only
    rw [h4, h2, man_back hn.1 hn.2]
    exact few_cut num L hc he hL
theorem run_write {q : Nat} {c : Cr} {k : Kn} {m B : List UInt8} (hm : Mn m) (h1 : findN c.names m = none) (h2 : findN c.names tmpB = none) (hi : ∀ n ∈ c.names, n.file < c.files.length) (hq : 2 * B.length + m.length + 1 + bulkF5 c.files c.names ≤ q) (hk : k.quota = q) :
    ∃ j e k', j ≤ 12 ∧ e < 100 ∧ (e = 0 ↔ j = 12) ∧ (k.quiet → e = 0 ∧ k'.quiet) ∧ k'.quota = q ∧ k'.asked ≤ k.asked + 12 ∧ runF (stepsW m B) (pf c k) = (pf ((c :: crsW c m B).getD j c) k', e) := by
  have h := Ch.run _ c (write_ch c B hm h1 h2 hi hq) k hk
  exact h
def cr1 (m B : List UInt8) : Cr := ⟨[file0, fullF B, fullF (lineF m)], [⟨curB, 2⟩, ⟨m, 1⟩], [⟨curB, 2⟩, ⟨m, 1⟩], []⟩
theorem cr1_end {m : List UInt8} (B : List UInt8) (h : nmW cr0 m 5 cr0.names = [⟨curB, 2⟩, ⟨m, 1⟩]) : endW cr0 m B = cr1 m B := by
  unfold endW cr1
  rw [h]
  rfl
theorem cr1_base {m : List UInt8} (B : List UInt8) (hm : Mn m) (h : nmW cr0 m 5 cr0.names = [⟨curB, 2⟩, ⟨m, 1⟩]) : Base (cr1 m B) m B 2 1 := by
  have := end_base (c := cr0) B hm (by simp [cr0]) (fun k => by simp [cr0, file0])
  rw [cr1_end B h] at this
  exact this
end Go.Proofs.YtmlfbihlbiikeaaGreatDoor
namespace Go.Proofs.YtmlfbihlbiikeaaGreatDoor
set_option linter.unusedVariables false
theorem told_behind {s t : PSt} (h : s.Ok) (h4 : Four s.v) (l : List PE) (he : ∀ x ∈ l, x.err = 0) (ht : stepsS s l = some t) : toldP s.num (manOf (s.eds ++ l)) = some t := by
  rw [told_whole s.num (s.eds ++ l) (by simp [PSt.eds]) (fun x hx => (List.mem_append.1 hx).elim (h.errs x) (he x)), told_adds h h4, ht]
theorem told_self {s : PSt} (h : s.Ok) (h4 : Four s.v) : toldP s.num (manOf s.eds) = some s := by
  have := told_behind h h4 [] (by simp) (rfl : stepsS s [] = some s)
  rw [List.append_nil] at this
  exact this
end Go.Proofs.YtmlfbihlbiikeaaGreatDoor
namespace Go.Proofs.YtmlfbihlbiikeaaGreatDoor
open Go.RowKit
set_option linter.unusedVariables false
set_option linter.unusedSimpArgs false
structure Fw (J : Face) (w0 : World) (p : Nat) (S : PFs) (R : Nat → Prop) (w : World) : Prop where
  j : J w R [(p, S)] []
  lt : ∀ k, R k → k < w.heap.size
  low : ∀ k, k < w0.heap.size → R k
  base : Below w0.heap.size w0 w
  gl0 : Gl w0
  h8 : 6 ≤ w0.heap.size
structure VS (w : World) (R : Nat → Prop) (v : PV) (t : SV) : Prop where
  rows : ∃ B, OwnV w B v t
  mine : ∀ n, n < 4 → ∀ b, blkOf (t.a n) = some b → R b
  wf : WfV v
section
variable {J : Face} {w0 w w' : World} {p : Nat} {S S' : PFs} {R R' : Nat → Prop} {v : PV} {t : SV}
theorem Fw.gl (h : Fw J w0 p S R w) : Gl w := h.gl0.below (Nat.le_refl _) h.base
theorem VS.at (h : VS w R v t) : VnAt w v t := by
  obtain ⟨B, h1⟩ := h.rows
  exact h1.at
theorem VS.none (w : World) (R : Nat → Prop) : VS w R noV sv0 := ⟨⟨w.heap.size, OwnV.none _ _⟩, fun n _ b hb => by simp [sv0, blkOf] at hb, zS_wf⟩
theorem VS.kp (h : VS w R v t) (k : Kp R w w') : VS w' R v t := by
  obtain ⟨B, h1⟩ := h.rows
  exact ⟨⟨B, fun n hn => (h1 n hn).kept fun g hg => k.block g (h.mine n hn g hg) (tag_lt ((h1 n hn).tag hg))⟩, h.mine, h.wf⟩
theorem VS.more (h : VS w R v t) (hR : ∀ k, R k → R' k) : VS w R' v t := ⟨h.rows, fun n hn b hb => hR b (h.mine n hn b hb), h.wf⟩
theorem VS.new {B : Nat} (h : OwnV w B v t) (hw : WfV v) (hR : ∀ k, B ≤ k → k < w.heap.size → R k) : VS w R v t := ⟨⟨B, h⟩, fun n hn b hb => hR b ((h n hn).ge hb) (tag_lt ((h n hn).tag hb)), hw⟩
theorem Fw.turn (h : Fw J w0 p S R w) (hj : J w' R [(p, S')] []) (k : Kp R w w') : Fw J w0 p S' R w' :=
  ⟨hj, fun i hi => Nat.lt_of_lt_of_le (h.lt i hi) k.size, h.low, h.base.trans (k.below h.low h.base.size), h.gl0, h.h8⟩
theorem Fw.call (H : FsOk J) (h : Fw J w0 p S R w) (hb : Below w.heap.size w w') : ∃ R', (∀ k, R k → R' k) ∧ (∀ k, w.heap.size ≤ k → k < w'.heap.size → R' k) ∧ Fw J w0 p S R' w' :=
  ⟨fun k => R k ∨ (w.heap.size ≤ k ∧ k < w'.heap.size), fun k hk => .inl hk, fun k a b => .inr ⟨a, b⟩, H.turn h.j (Chg.of hb), fun i hi => hi.elim (fun a => Nat.lt_of_lt_of_le (h.lt i a) hb.size) (·.2), fun k hk => .inl (h.low k hk), h.base.trans (hb.mono h.base.size), h.gl0, h.h8⟩
structure Nx (R R' : Nat → Prop) (w w' : World) : Prop where
  more : ∀ k, R k → R' k
  kp : Kp R w w'
theorem VS.nx (h : VS w R v t) (n : Nx R R' w w') : VS w' R' v t := (h.kp n.kp).more n.more
structure SB (w : World) (R : Nat → Prop) (b : Nat) (s : PSt) (t : SV) : Prop where
  box : Box w b TSt (sA s t)
  mine : R b
  vs : VS w R s.v t
theorem SB.nx {b : Nat} {s : PSt} (h : SB w R b s t) (n : Nx R R' w w') : SB w' R' b s t := ⟨h.box.kept (n.kp.block _ h.mine h.box.lt), n.more _ h.mine, h.vs.nx n⟩
def FR (J : Face) (w0 : World) (p : Nat) (S' : PFs) (R : Nat → Prop) (w w' : World) : Prop := ∃ R', Fw J w0 p S' R' w' ∧ Nx R R' w w'
theorem FR.mk' (h : Fw J w0 p S R w) (hj : J w' R (([(p, S)] : Fss).set 0 (p, S')) []) (k : Kp R w w') : FR J w0 p S' R w w' := ⟨R, h.turn hj k, fun _ h => h, k⟩
theorem FR.call (H : FsOk J) (h : Fw J w0 p S R w) (hb : Below w.heap.size w w') : FR J w0 p S R w w' := by
  obtain ⟨R', a, _, c⟩ := h.call H hb
  exact ⟨R', c, a, Kp.of hb⟩
theorem Fw.box (H : FsOk J) (h : Fw J w0 p S R w) (s : PSt) {t : SV} (hv : VS w R s.v t) : ∃ R', Fw J w0 p S R' (w.alloc (.cells (sA s t) TSt)) ∧ Nx R R' w (w.alloc (.cells (sA s t) TSt)) ∧ SB (w.alloc (.cells (sA s t) TSt)) R' w.heap.size s t := by
  have hb : Below w.heap.size w (w.alloc (.cells (sA s t) TSt)) := (Below.refl _ _).alloc (Nat.le_refl _) _
  obtain ⟨R', a, b, c⟩ := h.call H hb
  exact ⟨R', c, ⟨a, Kp.of hb⟩, Box.new _ _ _, b _ (Nat.le_refl _) (by simp), hv.nx ⟨a, Kp.of hb⟩⟩
theorem Fw.box2 (H : FsOk J) (h : Fw J w0 p S R w) (s : PSt) {t : SV} (hv : VS w R s.v t) : ∃ W R', Hid (W = w.alloc (.cells #[.int .u64 (s.num : Int), .slice (t.a 0) (s.v 0).length (t.c 0), .slice (t.a 1) (s.v 1).length (t.c 1), .slice (t.a 2) (s.v 2).length (t.c 2), .slice (t.a 3) (s.v 3).length (t.c 3), .int .u64 (s.log : Int), .int .u64 (s.next : Int), .int .u64 (s.last : Int)] TSt)) ∧ Fw J w0 p S R' W ∧ Nx R R' w W ∧ SB W R' w.heap.size s t := by
  obtain ⟨R', a, b, c⟩ := Fw.box H h s hv
  exact ⟨_, R', rfl, a, b, c⟩
theorem fw_new (H : FsOk J) (q : Nat) (hq : q ≤ 1048576) (hg : Gl w0) (h8 : 6 ≤ w0.heap.size) : Calls Tryz.prog 14 #[.int .i64 (q : Int)] w0 fun e w' => ∃ p R, e = .returned (.tuple #[at_ p, .int .i64 0]) ∧ Fw J w0 p (PFs.new q) R w' := by
  refine (H.new (q : Int) (by omega) (H.zero w0)).mono ?_
  rintro e w' (⟨_, p, he, hj, hk⟩ | ⟨hno, _⟩)
  · exact ⟨p, fun k => k < w0.heap.size, he, hj, fun k hk2 => Nat.lt_of_lt_of_le hk2 hk.size, fun k hk2 => hk2, hk.below (fun k hk2 => hk2) (Nat.le_refl _), hg, h8⟩
  · exact absurd ⟨by omega, by omega⟩ hno
theorem fw_write (H : FsOk J) (h : Fw J w0 p S R w) (s : PSt) (t : SV) (hS : S.asked < 900000) (hv : VnAt w s.v t) (hw : WfV s.v) (hn : s.v.all.length ≤ 60000) (hnum : s.num < 18446744073709551616) :
    Calls Tryz.prog 25 #[at_ p, sV s t] w fun e w' => e = .returned (.int .i64 ((writeP s S).2 : Nat)) ∧ FR J w0 p (writeP s S).1 R w w' :=
  (write_any H (i := 0) s t h.j rfl hS h.gl hv hw hn hnum).mono fun e w' ⟨a, b, c⟩ => ⟨a, FR.mk' h b c⟩
theorem loadFR (h : Fw J w0 p S R w) {B : Nat} (hB : w.heap.size ≤ B) (hj : J w' (fun k => R k ∨ (B ≤ k ∧ k < w'.heap.size)) [(p, S)] []) (hk : Kp R w w') (ho : OwnV w' B v t) (hw : WfV v) : ∃ R', Fw J w0 p S R' w' ∧ Nx R R' w w' ∧ VS w' R' v t :=
  ⟨_, ⟨hj, fun i hi => hi.elim (fun a => Nat.lt_of_lt_of_le (h.lt i a) hk.size) (·.2), fun k hk => .inl (h.low k hk), h.base.trans (hk.below h.low h.base.size), h.gl0, h.h8⟩, ⟨fun k hk => .inl hk, hk⟩, VS.new ho hw fun k a b => .inr ⟨a, b⟩⟩
theorem fw_load0 (H : FsOk J) (h : Fw J w0 p S R w) (hl : (S.read curB).1.length ≤ 100000000 ∧ (S.read (Lib.trimSuffix (S.read curB).1 [10])).1.length ≤ 100000000) (hf : Few (parseR (Lib.trimSuffix (S.read curB).1 [10])).2 (S.read (Lib.trimSuffix (S.read curB).1 [10])).1) :
    Calls Tryz.prog 20 #[at_ p] w fun e w' => ∃ t, e = .returned (.tuple #[sV (loadP S).1 t, .int .i64 ((loadP S).2 : Nat)]) ∧ ∃ R', Fw J w0 p S R' w' ∧ Nx R R' w w' ∧ VS w' R' (loadP S).1.v t := by
  refine (load_any H (i := 0) h.j rfl h.gl h.lt (fun g hg => h.low g (Nat.lt_of_lt_of_le hg h.h8)) hl hf).mono ?_
  rintro e w' ⟨t, B, he, hB, ho, hw, hj, hk⟩
  exact ⟨t, he, loadFR h hB hj hk ho hw⟩
theorem fw_load (H : FsOk J) {c : Cr} {kn : Kn} {num cut : Nat} {L : List PE} {s : PSt} (h : Fw J w0 p (pf c kn) R w) (hk : kn.quiet) (hn : 1 ≤ num ∧ num ≤ 1099511627776) (hh : Holds c (nameP 3 num) ((manOf L).take cut)) (hc : cut ≤ (manOf L).length) (hB : (manOf L).length ≤ 100000000) (he : ∀ x ∈ L, x.err = 0) (hL : L.length ≤ 500) (hT : toldP num ((manOf L).take cut) = some s) :
    Calls Tryz.prog 20 #[at_ p] w fun e w' => ∃ t, e = .returned (.tuple #[sV s t, .int .i64 0]) ∧ ∃ R', Fw J w0 p (pf c kn) R' w' ∧ Nx R R' w w' ∧ VS w' R' s.v t := by
  refine (load_holds H (i := 0) h.j rfl h.gl h.lt (fun g hg => h.low g (Nat.lt_of_lt_of_le hg h.h8)) hk hn hh hc hB he hL hT).mono ?_
  rintro e w' ⟨t, B, he, hB, ho, hw, hj, hk⟩
  exact ⟨t, he, loadFR h hB hj hk ho hw⟩
theorem fw_loadW (H : FsOk J) {c : Cr} {kn : Kn} {num : Nat} {L : List PE} {s : PSt} (h : Fw J w0 p (pf c kn) R w) (hk : kn.quiet) (hn : 1 ≤ num ∧ num ≤ 1099511627776) (hh : Holds c (nameP 3 num) (manOf L)) (hB : (manOf L).length ≤ 100000000) (he : ∀ x ∈ L, x.err = 0) (hL : L.length ≤ 500) (hT : toldP num (manOf L) = some s) :
    Calls Tryz.prog 20 #[at_ p] w fun e w' => ∃ t, e = .returned (.tuple #[sV s t, .int .i64 0]) ∧ ∃ R', Fw J w0 p (pf c kn) R' w' ∧ Nx R R' w w' ∧ VS w' R' s.v t :=
  fw_load H h hk hn (cut := (manOf L).length) (by rw [List.take_length]; exact hh) (Nat.le_refl _) hB he hL (by rw [List.take_length]; exact hT)
end
end Go.Proofs.YtmlfbihlbiikeaaGreatDoor
namespace Go.Proofs.YtmlfbihlbiikeaaGreatDoor
open Go.RowKit
set_option linter.unusedVariables false
set_option linter.unusedSimpArgs false
set_option maxRecDepth 100000
open Classical in
noncomputable def sameB (l l' : List PF) : Bool := decide (l = l')
theorem sameB_true {l l' : List PF} : sameB l l' = true ↔ l = l' := by unfold sameB; simp
theorem sameB_yes {l l' : List PF} (h : l = l') : sameB l l' = true := sameB_true.2 h
theorem sameB_no {l l' : List PF} (h : l ≠ l') : sameB l l' = false := by unfold sameB; simp [h]
theorem toList_one {a b : ByteArray} (e : a.toList = b.toList) : a = b := by
  have h1 : a.data.toList = b.data.toList := by rw [ByteArray.toList_eq, ByteArray.toList_eq] at e; exact e
  cases a
  cases b
  simpa using h1
theorem neq_files (f f' : PF) (h : f ≠ f') (W : World) : (binOp .neq 59 (.agg #[.int .i64 f.level, .int .u64 (f.num : Int), .int .i64 f.size, .string f.small.user, .int .u64 (f.small.seq : Int), .int .i64 f.small.kind, .string f.large.user, .int .u64 (f.large.seq : Int), .int .i64 f.large.kind]) (.agg #[.int .i64 f'.level, .int .u64 (f'.num : Int), .int .i64 f'.size, .string f'.small.user, .int .u64 (f'.small.seq : Int), .int .i64 f'.small.kind, .string f'.large.user, .int .u64 (f'.large.seq : Int), .int .i64 f'.large.kind])).run Tryz.prog W = .ok (.bool true) W := by
  simp [go_sem, Tryz.underlying59, Tryz.underlying57, Tryz.underlying23, Tryz.underlying3, Tryz.underlying9]
  intro e1 e2 e3 e4 e5 e6 e7 e8 e9
  refine h ?_
  obtain ⟨l, n, z, ⟨u, q, k⟩, ⟨u', q', k'⟩⟩ := f
  obtain ⟨l2, n2, z2, ⟨v, r, m⟩, ⟨v', r', m'⟩⟩ := f'
  dsimp only at *
  obtain rfl := e1
  obtain rfl : n = n2 := by omega
  obtain rfl := e3
  obtain rfl : u = v := toList_one e4
  obtain rfl : q = r := by omega
  obtain rfl := e6
  obtain rfl : u' = v' := toList_one e7
  obtain rfl : q' = r' := by omega
  obtain rfl := e9
  rfl
set_option maxHeartbeats 1000000 in
theorem sameFiles_any {l l' : List PF} {a a' : Option Addr} {n n' c c' : Nat} {w : World} (h : FlAt w a n c l) (h' : FlAt w a' n' c' l') :
    Calls Tryz.prog 95 #[.slice a n c, .slice a' n' c'] w fun e w' => e = .returned (.bool (sameB l l')) ∧ Below w.heap.size w w' := by
  have HS : Hid (FlAt w a n c l ∧ FlAt w a' n' c' l' ∧ l.length = n ∧ l'.length = n') := ⟨h, h', h.size, h'.size⟩
  have hm := h.row.max
  have hl := h.row.le
  unfold maxLen at hm
  clear h h'
  by_cases hn : n = n'
  · subst hn
    go_enter Tryz.func95, Tryz.ntmps95
    go_wp2_with fail
    go_loopw [5] (fun i wr => ∃ k : Nat, k ≤ n ∧ i = .int .i64 (k : Int) ∧ Hid (Below w.heap.size w wr ∧ l.take k = l'.take k)) (fun i _ => n - (intOf i).toNat)
    case atStart => exact ⟨0, Nat.zero_le _, rfl, Below.refl _ _, by simp⟩
    case round =>
      obtain ⟨k, hk, rfl, HR⟩ := hrel
      by_cases hkn : k < n
      · have hkl : k < l.length := by rw [HS.out.2.2.1]; exact hkn
        have hkl' : k < l'.length := by rw [HS.out.2.2.2]; exact hkn
        obtain ⟨b, o, hidx, _, hcs⟩ := HS.out.1.at hkl
        obtain ⟨b', o', hidx', _, hcs'⟩ := HS.out.2.1.at hkl'
        obtain ⟨c0, c1, c2, c3, c4, c5, c6, c7, c8⟩ := hcs wr HR.out.1
        obtain ⟨d0, d1, d2, d3, d4, d5, d6, d7, d8⟩ := hcs' wr HR.out.1
        have HT : Hid ((l[k] = l'[k] → l.take (k + 1) = l'.take (k + 1)) ∧ (l[k] ≠ l'[k] → l ≠ l')) := by
          refine ⟨fun e => ?_, fun e g => ?_⟩
          · rw [List.take_succ_eq_append_getElem hkl, List.take_succ_eq_append_getElem hkl', HR.out.2, e]
          · subst g
            exact e rfl
        clear hcs hcs'
        generalize l[k] = f at c0 c1 c2 c3 c4 c5 c6 c7 c8 HT
        generalize l'[k] = f' at d0 d1 d2 d3 d4 d5 d6 d7 d8 HT
        by_cases hff : f = f'
        · subst hff
          have hne := fun W => run_neq_file f.level f.num f.size f.small.user f.small.seq f.small.kind f.large.user f.large.seq f.large.kind W
          go_wp2_with fail
          go_quiet (fail)
          go_wp2
          go_roundw
          case rel => exact ⟨k + 1, hkn, by go_num, HR.out.1.trans ⟨rfl, rfl, rfl, Nat.le_refl _, fun _ _ => rfl⟩, HT.out.1 trivial⟩
          case measure => simp only [intOf]; omega
        · have hne := fun W => neq_files f f' hff W
          go_wp2_with fail
          go_quiet (fail)
          go_wp2
          try go_ret
          exact ⟨by rw [sameB_no (HT.out.2 hff)]; exact ret1 rfl, HR.out.1.trans ⟨rfl, rfl, rfl, Nat.le_refl _, fun _ _ => rfl⟩⟩
      · go_wp2
        go_ret
        refine ⟨?_, HR.out.1⟩
        rw [sameB_yes]
        · exact ret1 rfl
        · have h1 := HR.out.2
          rw [List.take_of_length_le (by rw [HS.out.2.2.1]; omega), List.take_of_length_le (by rw [HS.out.2.2.2]; omega)] at h1
          exact h1
  · have hd : ((n : Int) != (n' : Int)) = true := by simp; omega
    have hB : sameB l l' = false := sameB_no (fun e => hn (by rw [← HS.out.2.2.1, ← HS.out.2.2.2, e]))
    rw [hB]
    go_enter Tryz.func95, Tryz.ntmps95
    go_wp2
    try go_ret
    exact ⟨ret1 rfl, Below.refl _ _⟩
noncomputable def sameN (v v' : PV) : Nat → Bool
  | 0 => true
  | n + 1 => sameN v v' n && sameB (v n) (v' n)
theorem sameN_yes {v v' : PV} : ∀ n, (∀ k, k < n → v k = v' k) → sameN v v' n = true
  | 0, _ => rfl
  | n + 1, h => by
    unfold sameN
    rw [sameN_yes n (fun k hk => h k (by omega)), sameB_yes (h n (by omega))]
    rfl
theorem sameN_no {v v' : PV} {n : Nat} (h : sameB (v n) (v' n) = false) : ∀ m, n < m → sameN v v' m = false
  | 0, hm => by omega
  | m + 1, hm => by
    unfold sameN
    by_cases e : n = m
    · subst e
      rw [h]
      simp
    · rw [sameN_no h m (by omega)]
      rfl
set_option maxHeartbeats 4000000 in
theorem vsame_any {v v' : PV} {w : World} {s t : SV} (h : VnAt w v s) (h' : VnAt w v' t) :
    Calls Tryz.prog 52 #[.agg #[.slice (s.a 0) (v 0).length (s.c 0), .slice (s.a 1) (v 1).length (s.c 1), .slice (s.a 2) (v 2).length (s.c 2), .slice (s.a 3) (v 3).length (s.c 3)], .agg #[.slice (t.a 0) (v' 0).length (t.c 0), .slice (t.a 1) (v' 1).length (t.c 1), .slice (t.a 2) (v' 2).length (t.c 2), .slice (t.a 3) (v' 3).length (t.c 3)]] w fun e w' => e = .returned (.bool (sameN v v' 4)) ∧ Below w.heap.size w w' := by
  have HB0 : Hid (Below w.heap.size w ((w.alloc (.cells (vA v s) TVn)).alloc (.cells (vA v' t) TVn)) ∧ Box ((w.alloc (.cells (vA v s) TVn)).alloc (.cells (vA v' t) TVn)) w.heap.size TVn (vA v s) ∧ Box ((w.alloc (.cells (vA v s) TVn)).alloc (.cells (vA v' t) TVn)) (w.heap.size + 1) TVn (vA v' t)) := by
    refine ⟨((Below.refl _ _).alloc (Nat.le_refl _) _).alloc (by simp) _, (Box.new _ _ _).alloc _, ?_⟩
    have := Box.new (w.alloc (.cells (vA v s) TVn)) TVn (vA v' t)
    rw [World.size_alloc] at this
    exact this
  have HS : Hid (∀ (n : Nat) (hn : n < 4) (W : World), Below w.heap.size w W → Calls Tryz.prog 95 #[.slice (s.a n) (v n).length (s.c n), .slice (t.a n) (v' n).length (t.c n)] W fun e w' => e = .returned (.bool (sameB (v n) (v' n))) ∧ Below W.heap.size W w') := fun n hn W hW => sameFiles_any ((h.below hW) n hn) ((h'.below hW) n hn)
  clear h h'
  have HN : Hid ((∀ n, n < 4 → sameB (v n) (v' n) = false → sameN v v' 4 = false) ∧ ((∀ n, n < 4 → sameB (v n) (v' n) = true) → sameN v v' 4 = true)) := ⟨fun n hn e => sameN_no e 4 hn, fun h => sameN_yes 4 fun n hn => sameB_true.1 (h n hn)⟩
  generalize sameN v v' 4 = o at HN ⊢
  go_enter Tryz.func52, Tryz.ntmps52
  go_wp2_with fail
  go_loopw [5] (fun s5 wr => ∃ k : Nat, k ≤ 4 ∧ s5 = .int .i64 (k : Int) ∧ Hid (Below w.heap.size w wr ∧ Box wr w.heap.size TVn (vA v s) ∧ Box wr (w.heap.size + 1) TVn (vA v' t) ∧ ∀ n, n < k → sameB (v n) (v' n) = true)) (fun s5 _ => 4 - (intOf s5).toNat)
  case atStart => exact ⟨0, by omega, rfl, HB0.out.1, HB0.out.2.1, HB0.out.2.2, fun n h => absurd h (by omega)⟩
  case round =>
    obtain ⟨k, hk4, rfl, HI⟩ := hrel
    by_cases hk : k < 4
    · have hkI : (k : Int) < 4 := by omega
      have hx := idxL_arr w.heap.size k hk
      have hy := idxL_arr (w.heap.size + 1) k hk
      have c0 := fun p : Bel wr => (HI.out.2.1.kept (p.h.block _ HI.out.2.1.lt)).level hk
      have c1 := fun p : Bel wr => (HI.out.2.2.1.kept (p.h.block _ HI.out.2.2.1.lt)).level hk
      have hne : Nonempty (Bel wr) := ⟨⟨wr, Below.refl _ _⟩⟩
      have HC : Hid (∀ p : Bel wr, Calls Tryz.prog 95 #[.slice (s.a k) (v k).length (s.c k), .slice (t.a k) (v' k).length (t.c k)] p.now fun e w' => e = .returned (.bool (sameB (v k) (v' k))) ∧ Below p.now.heap.size p.now w') := fun p => HS.out k hk p.now (HI.out.1.trans (p.h.mono HI.out.1.size))
      have HK : Hid (∀ b, sameB (v k) (v' k) = b → (b = false → o = false) ∧ (b = true → ∀ n, n < k + 1 → sameB (v n) (v' n) = true)) := fun b hb => ⟨fun e => HN.out.1 k hk (hb.trans e), fun e n hn => by
        by_cases h2 : n = k
        · subst h2; exact hb.trans e
        · exact HI.out.2.2.2 n (by omega)⟩
      obtain ⟨bb, hbb⟩ : ∃ bb, sameB (v k) (v' k) = bb := ⟨_, rfl⟩
      have HK2 := HK.out bb hbb
      rw [hbb] at HC
      have HK3 : Hid ((bb = false → o = false) ∧ (bb = true → ∀ n, n < k + 1 → sameB (v n) (v' n) = true)) := HK2
      clear HK HK2 hbb
      cases bb with
      | true =>
        go_wp2_with fail
        refine wp_region_bel (by kernel_rfl) (by kernel_rfl) ?_
        repeat (quiet_step (first | (refine bel_call (HC.out _))))
        refine wpQuiet_nil ?_
        rintro _ ⟨p, rfl⟩
        have H3 : Hid (Below w.heap.size w p.now ∧ Box p.now w.heap.size TVn (vA v s) ∧ Box p.now (w.heap.size + 1) TVn (vA v' t) ∧ ∀ n, n < k + 1 → sameB (v n) (v' n) = true) := ⟨HI.out.1.trans (p.h.mono HI.out.1.size), HI.out.2.1.kept (p.h.block _ HI.out.2.1.lt), HI.out.2.2.1.kept (p.h.block _ HI.out.2.2.1.lt), HK3.out.2 trivial⟩
        clear c0 c1 hx hy
        generalize p.now = w3 at H3 ⊢
        go_wp2
        go_roundw
        case rel => exact ⟨k + 1, hk, by go_num, H3.out⟩
        case measure => simp only [intOf]; omega
      | false =>
        go_wp2_with fail
        refine wp_region_bel (by kernel_rfl) (by kernel_rfl) ?_
        repeat (quiet_step (first | (refine bel_call (HC.out _))))
        refine wpQuiet_nil ?_
        rintro _ ⟨p, rfl⟩
        have H3 : Hid (Below w.heap.size w p.now) := HI.out.1.trans (p.h.mono HI.out.1.size)
        have HO : Hid (o = false) := HK3.out.1 trivial
        clear c0 c1 hx hy
        generalize p.now = w3 at H3 ⊢
        go_wp2
        try go_ret
        exact ⟨by rw [HO.out]; exact ret1 rfl, H3.out⟩
    · obtain rfl : k = 4 := by omega
      go_wp2
      go_ret
      exact ⟨by rw [HN.out.2 HI.out.2.2.2]; exact ret1 rfl, HI.out.1⟩
set_option maxHeartbeats 4000000 in
theorem ssame_any {s s' : PSt} {t t' : SV} {w : World} (h : VnAt w s.v t) (h' : VnAt w s'.v t') :
    Calls Tryz.prog 22 #[sV s t, sV s' t'] w fun e w' => (∃ b : Bool, e = .returned (.bool b) ∧ (s.Like s' → b = true)) ∧ Below w.heap.size w w' := by
  obtain ⟨W1, hW1, HW⟩ : ∃ W1, W1 = (w.alloc (.cells (sA s t) TSt)).alloc (.cells (sA s' t') TSt) ∧ Hid (Below w.heap.size w W1 ∧ Box W1 w.heap.size TSt (sA s t) ∧ Box W1 (w.heap.size + 1) TSt (sA s' t')) := by
    refine ⟨_, rfl, ((Below.refl _ _).alloc (Nat.le_refl _) _).alloc (by simp) _, (Box.new _ _ _).alloc _, ?_⟩
    have := Box.new (w.alloc (.cells (sA s t) TSt)) TSt (sA s' t')
    rw [World.size_alloc] at this
    exact this
  have hd : ∀ W, W = (w.alloc (.cells (sA s t) TSt)).alloc (.cells (sA s' t') TSt) → Calls Tryz.prog 52 #[.agg #[.slice (t.a 0) (s.v 0).length (t.c 0), .slice (t.a 1) (s.v 1).length (t.c 1), .slice (t.a 2) (s.v 2).length (t.c 2), .slice (t.a 3) (s.v 3).length (t.c 3)], .agg #[.slice (t'.a 0) (s'.v 0).length (t'.c 0), .slice (t'.a 1) (s'.v 1).length (t'.c 1), .slice (t'.a 2) (s'.v 2).length (t'.c 2), .slice (t'.a 3) (s'.v 3).length (t'.c 3)]] W fun e w' => e = .returned (.bool (sameN s.v s'.v 4)) ∧ Below W1.heap.size W1 w' := by
    rintro W rfl
    rw [← hW1]
    exact vsame_any (h.below HW.out.1) (h'.below HW.out.1)
  obtain ⟨q, hq⟩ : ∃ q, q = sameN s.v s'.v 4 := ⟨_, rfl⟩
  rw [← hq] at hd
  have HQ : Hid (s.Like s' → q = true) := fun e => by rw [hq]; exact sameN_yes 4 e.v
  clear h h' hW1 hq
  obtain ⟨b0, e0, g0⟩ : ∃ b, ((s.num : Int) == (s'.num : Int)) = b ∧ Hid (s.Like s' → b = true) := ⟨_, rfl, fun e => by rw [e.num]; simp⟩
  obtain ⟨b1, e1, g1⟩ : ∃ b, ((s.log : Int) == (s'.log : Int)) = b ∧ Hid (s.Like s' → b = true) := ⟨_, rfl, fun e => by rw [e.log]; simp⟩
  obtain ⟨b2, e2, g2⟩ : ∃ b, ((s.next : Int) == (s'.next : Int)) = b ∧ Hid (s.Like s' → b = true) := ⟨_, rfl, fun e => by rw [e.next]; simp⟩
  obtain ⟨b3, e3, g3⟩ : ∃ b, ((s.last : Int) == (s'.last : Int)) = b ∧ Hid (s.Like s' → b = true) := ⟨_, rfl, fun e => by rw [e.last]; simp⟩
  go_enter Tryz.func22, Tryz.ntmps22
  go_wp2_with fail
  refine (hd _ rfl).mono ?_
  rintro _ w2 ⟨rfl, hb2⟩
  have H2 : Hid (Below w.heap.size w w2 ∧ Box w2 w.heap.size TSt (sA s t) ∧ Box w2 (w.heap.size + 1) TSt (sA s' t')) := ⟨HW.out.1.trans (hb2.mono HW.out.1.size), HW.out.2.1.kept (hb2.block _ HW.out.2.1.lt), HW.out.2.2.kept (hb2.block _ HW.out.2.2.lt)⟩
  obtain ⟨c0, c1, c2, c3, c4, c5, c6, c7⟩ := H2.out.2.1.eight
  obtain ⟨d0, d1, d2, d3, d4, d5, d6, d7⟩ := H2.out.2.2.eight
  clear hb2 hd HW
  cases q with
  | false =>
    go_wp2
    try go_ret
    exact ⟨⟨false, ret1 rfl, HQ.out⟩, H2.out.1⟩
  | true =>
    cases b0 with
    | false =>
      go_wp2
      try go_ret
      exact ⟨⟨false, ret1 rfl, g0.out⟩, H2.out.1⟩
    | true =>
      cases b1 with
      | false =>
        go_wp2
        try go_ret
        exact ⟨⟨false, ret1 rfl, g1.out⟩, H2.out.1⟩
      | true =>
        cases b2 with
        | false =>
          go_wp2
          try go_ret
          exact ⟨⟨false, ret1 rfl, g2.out⟩, H2.out.1⟩
        | true =>
          cases b3 with
          | false =>
            go_wp2
            try go_ret
            exact ⟨⟨false, ret1 rfl, g3.out⟩, H2.out.1⟩
          | true =>
            go_wp2
            try go_ret
            exact ⟨⟨true, ret1 rfl, fun _ => rfl⟩, H2.out.1⟩
end Go.Proofs.YtmlfbihlbiikeaaGreatDoor
