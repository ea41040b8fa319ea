/- The contract of manifest's Append. -/
import Derived.Test.YtmlfbihlbiikeaaGreatDoorQc46
import Derived.Test.YtmlfbihlbiikeaaGreatDoorQc28
import Derived.Test.YtmlfbihlbiikeaaGreatDoorQc45
import Derived.Test.YtmlfbihlbiikeaaGreatDoorQc13
import Derived.Test.YtmlfbihlbiikeaaGreatDoorQc22
namespace Go.Proofs.YtmlfbihlbiikeaaGreatDoor
set_option maxRecDepth 100000
open Go.RowKit
set_option linter.unusedVariables false
set_option linter.unusedSimpArgs false
end Go.Proofs.YtmlfbihlbiikeaaGreatDoor
namespace Go.Proofs.YtmlfbihlbiikeaaGreatDoor
set_option linter.unusedVariables false
theorem chG_len (m : Nat) : ∀ {α : Type} (l : List α), l.length ≤ 100 * m → (chG 100 l).length ≤ m := by
  have key : ∀ {α : Type} (f : Nat) (l : List α) (m : Nat), l.length ≤ 100 * m → (chGF f 100 l).length ≤ m := fun {α} f => by
    induction f with
    | zero => exact fun l m h => Nat.zero_le _
    | succ f ih =>
      intro l m h
      unfold chGF
      by_cases hl : l = []
      · rw [if_pos hl]; exact Nat.zero_le _
      · rw [if_neg hl]
        have hp := List.length_pos_iff.2 hl
        have h2 := ih (l.drop 100) (m - 1) (by rw [List.length_drop]; omega)
        rw [List.length_cons]
        omega
  exact fun {α} l h => key (α := α) _ l m h
theorem eds_len {s : PSt} {m : Nat} (h : s.v.all.length ≤ 100 * m) : s.eds.length ≤ m + 1 := by
  unfold PSt.eds
  rw [List.length_cons, List.length_map]
  have := chG_len m s.v.all h
  omega
theorem bytes_len {s : PSt} (h : s.Ok) {m : Nat} (hm : s.v.all.length ≤ 100 * m) : s.bytes.length ≤ 22000 * (m + 1) := by
  have h1 := man_le s.eds (ed_short h) []
  have h2 := eds_len hm
  unfold PSt.bytes manOf
  rw [List.length_nil] at h1
  omega
theorem man_back {n : Nat} (h1 : 1 ≤ n) (h2 : n ≤ 1099511627776) : parseR (nameP 3 n) = (3, n) := by
  obtain ⟨a, b⟩ := (parseR_names (nameP 3 n)).num 3 n (.inr (.inr rfl)) h1 h2 rfl
  exact Prod.ext a b
theorem line_suffix (m : List UInt8) : Lib.hasSuffix (lineF m) [10] = true ∧ Lib.trimSuffix (lineF m) [10] = m := by
  have h1 : Lib.hasSuffix (lineF m) [10] = true := by
    unfold Lib.hasSuffix lineF
    simp
  refine ⟨h1, ?_⟩
  unfold Lib.trimSuffix
  rw [if_pos h1]
  unfold lineF
  simp
theorem few_cut (num : Nat) (l : List PE) {cut : Nat} (hl : cut ≤ (manOf l).length) (he : ∀ x ∈ l, x.err = 0) (hn : l.length ≤ 500) : Few num ((manOf l).take cut) := fun j s h => by
  obtain ⟨i, e, hi, _, hr, _⟩ := read_log (l.map PE.enc) [] [] cut (Nat.zero_le _) hl
  have h2 : (walRead ((manOf l).take cut)).1 = (l.map PE.enc).take i := by
    have h := congrArg Prod.fst hr
    exact h
  rw [h2, ← List.map_take, ← List.map_take, decS_enc _ _ (fun x hx => he x (List.mem_of_mem_take (List.mem_of_mem_take hx)))] at h
  have h3 := steps_few _ _ _ h
  have h4 : ((l.take i).take j).length ≤ l.length := by simp; omega
  have h5 : (PSt.zero num).v.all.length = 0 := rfl
  omega
theorem holds_reads {c : Cr} {k : Kn} {num : Nat} {B : List UInt8} (hk : k.quiet) (hn : 1 ≤ num ∧ num ≤ 1099511627776) (hh : Holds c (nameP 3 num) B) : (pf c k).read curB = (lineF (nameP 3 num), 0) ∧ (pf c k).read (nameP 3 num) = (B, 0) := by
  obtain ⟨i, j, h1, h2, h3, h4⟩ := hh
  rw [read_pf hk, read_pf hk, h1, h3]
  exact ⟨by rw [← h2], by rw [← h4]⟩
theorem holds_load {c : Cr} {k : Kn} {num : Nat} {B : List UInt8} {t : PSt} (hk : k.quiet) (hn : 1 ≤ num ∧ num ≤ 1099511627776) (hh : Holds c (nameP 3 num) B) (hT : toldP num B = some t) : loadP (pf c k) = (t, 0) := by
  obtain ⟨h1, h2⟩ := holds_reads hk hn hh
  obtain ⟨h3, h4⟩ := line_suffix (nameP 3 num)
  unfold loadP
  simp only [h1, h3, h4, h2, man_back hn.1 hn.2, hT]
  simp
theorem load_holds {J : Face} (H : FsOk J) {i p : Nat} {w : World} {R : Nat → Prop} {l r : Fss} {c : Cr} {k : Kn} {num cut : Nat} {L : List PE} {t : PSt} (hJ : J w R l r) (hl : l[i]? = some (p, pf c k)) (hg : Gl w) (hRw : ∀ k, R k → k < w.heap.size) (hR8 : ∀ g, g < 6 → R g)
    (hk : k.quiet) (hn : 1 ≤ num ∧ num ≤ 1099511627776) (hh : Holds c (nameP 3 num) ((manOf L).take cut)) (hc : cut ≤ (manOf L).length) (hB : (manOf L).length ≤ 100000000) (he : ∀ x ∈ L, x.err = 0) (hL : L.length ≤ 500) (hT : toldP num ((manOf L).take cut) = some t) :
    Calls Tryz.prog 20 #[at_ p] w (LoadR J R l r w (t, 0)) := by
  obtain ⟨h1, h2⟩ := holds_reads hk hn hh
  obtain ⟨h3, h4⟩ := line_suffix (nameP 3 num)
  have hm := (man_mn hn.1 hn.2).2
  rw [← holds_load hk hn hh hT]
  refine load_any H hJ hl hg hRw hR8 ?_ ?_
  · rw [h1]
    dsimp only
    rw [h4, h2]
    refine ⟨by unfold lineF; simp; omega, ?_⟩
    dsimp only
    rw [List.length_take]
    omega
  · rw [h1]
    dsimp only
    rw [h4, h2, man_back hn.1 hn.2]
    exact few_cut num L hc he hL
theorem run_write {q : Nat} {c : Cr} {k : Kn} {m B : List UInt8} (hm : Mn m) (h1 : findN c.names m = none) (h2 : findN c.names tmpB = none) (hi : ∀ n ∈ c.names, n.file < c.files.length) (hq : 2 * B.length + m.length + 1 + bulkF5 c.files c.names ≤ q) (hk : k.quota = q) :
    ∃ j e k', j ≤ 12 ∧ e < 100 ∧ (e = 0 ↔ j = 12) ∧ (k.quiet → e = 0 ∧ k'.quiet) ∧ k'.quota = q ∧ k'.asked ≤ k.asked + 12 ∧ runF (stepsW m B) (pf c k) = (pf ((c :: crsW c m B).getD j c) k', e) := by
  have h := Ch.run _ c (write_ch c B hm h1 h2 hi hq) k hk
  exact h
def cr1 (m B : List UInt8) : Cr := ⟨[file0, fullF B, fullF (lineF m)], [⟨curB, 2⟩, ⟨m, 1⟩], [⟨curB, 2⟩, ⟨m, 1⟩], []⟩
theorem cr1_end {m : List UInt8} (B : List UInt8) (h : nmW cr0 m 5 cr0.names = [⟨curB, 2⟩, ⟨m, 1⟩]) : endW cr0 m B = cr1 m B := by
  unfold endW cr1
  rw [h]
  rfl
theorem cr1_find {m x : List UInt8} (B : List UInt8) (h1 : x ≠ m) (h2 : x ≠ curB) : findN (cr1 m B).names x = none := by
  unfold findN cr1
  have a : (curB == x) = false := beq_false_of_ne (Ne.symm h2)
  have b : (m == x) = false := beq_false_of_ne (Ne.symm h1)
  simp [List.find?, a, b]
theorem cr1_base {m : List UInt8} (B : List UInt8) (hm : Mn m) (h : nmW cr0 m 5 cr0.names = [⟨curB, 2⟩, ⟨m, 1⟩]) : Base (cr1 m B) m B 2 1 := by
  have := end_base (c := cr0) B hm (by simp [cr0]) (fun k => by simp [cr0, file0])
  rw [cr1_end B h] at this
  exact this
structure Fine (k : Kn) (n : Nat) : Prop where
  quiet : k.quiet
  quota : k.quota = 1048576
  asked : k.asked ≤ n
theorem write_new {s : PSt} (hs : chkS s = 0) (hm : nmW cr0 (nameP 3 s.num) 5 cr0.names = [⟨curB, 2⟩, ⟨nameP 3 s.num, 1⟩]) (hB : s.bytes.length ≤ 500000) : ∃ k, writeP s (PFs.new 1048576) = (pf (cr1 (nameP 3 s.num) s.bytes) k, 0) ∧ Fine k 12 := by
  obtain ⟨_, h1, h2⟩ := chkS_zero hs
  obtain ⟨hn, hl⟩ := man_mn h1 h2
  obtain ⟨j, e, k', _, _, hj, hq, hqu, hak, he⟩ := run_write (c := cr0) (k := ⟨1048576, false, 0, false, 0, 0⟩) (m := nameP 3 s.num) (B := s.bytes) hn rfl rfl (by simp [cr0]) (by simp [cr0, bulkF5]; omega) rfl
  obtain ⟨h0, hk'⟩ := hq ⟨rfl, rfl⟩
  obtain rfl := hj.1 h0
  subst h0
  refine ⟨k', ?_, hk', hqu, by simpa using hak⟩
  unfold writeP
  rw [if_neg (by omega)]
  rw [← cr1_end _ hm]
  exact he
end Go.Proofs.YtmlfbihlbiikeaaGreatDoor
namespace Go.Proofs.YtmlfbihlbiikeaaGreatDoor
set_option linter.unusedVariables false
def stA (s : PSt) (x : PE) : PSt := if (applyV s.v x).1 = 0 then ⟨s.num, (applyV s.v x).2, s.log, s.next, s.last⟩ else s
def st0 (num last : Nat) : PSt := ⟨num, noV, 1 + num % 7, num + 1, last % 72057594037927935⟩
def stateP (num last : Nat) (l : List PE) : PSt := (l.take 6).foldl stA (st0 num last)
structure StOk (s0 : PSt) (n : Nat) (s : PSt) : Prop where
  v : VOk s.v
  four : Four s.v
  few : s.v.all.length ≤ n
  num : s.num = s0.num
  log : s.log = s0.log
  next : s.next = s0.next
  last : s.last = s0.last
theorem apply_few {v u : PV} {x : PE} (h : applyV v x = (0, u)) : u.all.length ≤ v.all.length + 100 := by
  obtain ⟨_, he, _⟩ := apply_zero h
  have h1 := all_grow h
  have h2 := (PE.err_zero he).2.1
  omega
theorem stA_ok {s0 s : PSt} {n : Nat} (h : StOk s0 n s) (x : PE) : StOk s0 (n + 100) (stA s x) := by
  unfold stA
  rcases e : applyV s.v x with ⟨er, u⟩
  dsimp only
  by_cases h0 : er = 0
  · subst h0
    rw [if_pos rfl]
    have h1 := apply_few e
    have h2 := h.few
    exact ⟨(apply_ok e).1, four_apply h.four e, by show u.all.length ≤ _; omega, h.num, h.log, h.next, h.last⟩
  · rw [if_neg h0]
    exact ⟨h.v, h.four, Nat.le_trans h.few (by omega), h.num, h.log, h.next, h.last⟩
theorem fold_ok {s0 : PSt} : ∀ (l : List PE) {s : PSt} {n : Nat}, StOk s0 n s → StOk s0 (n + 100 * l.length) (l.foldl stA s)
  | [], s, n, h => h
  | x :: l, s, n, h => by
    have h1 := fold_ok l (stA_ok h x)
    have e : n + 100 + 100 * l.length = n + 100 * (l.length + 1) := by omega
    rw [e] at h1
    exact h1
theorem st0_ok (num last : Nat) : StOk (st0 num last) 0 (st0 num last) := ⟨VOk.none, four_no, Nat.le_refl _, rfl, rfl, rfl, rfl⟩
theorem state_st (num last : Nat) (l : List PE) : StOk (st0 num last) 600 (stateP num last l) := by
  have h := fold_ok (l.take 6) (st0_ok num last)
  have h6 : (l.take 6).length ≤ 6 := by simp; omega
  exact ⟨h.v, h.four, Nat.le_trans h.few (by omega), h.num, h.log, h.next, h.last⟩
theorem StOk.ok {num last n : Nat} {s : PSt} (h : StOk (st0 num last) n s) (hn : num ≤ 1000000) : s.Ok := by
  have h1 := h.log
  have h2 := h.next
  have h3 := h.last
  have h4 : (st0 num last).log = 1 + num % 7 := rfl
  have h5 : (st0 num last).next = num + 1 := rfl
  have h6 : (st0 num last).last = last % 72057594037927935 := rfl
  exact ⟨h.v, by omega, by omega, by omega⟩
theorem StOk.chk {num last n : Nat} {s : PSt} (h : StOk (st0 num last) n s) (h1 : 1 ≤ num) (hn : num ≤ 1000000) : chkS s = 0 := by
  have e : s.num = num := h.num
  exact chkS_yes (h.ok hn) (by omega) (by omega)
theorem told_behind {s t : PSt} (h : s.Ok) (h4 : Four s.v) (l : List PE) (he : ∀ x ∈ l, x.err = 0) (ht : stepsS s l = some t) : toldP s.num (manOf (s.eds ++ l)) = some t := by
  rw [told_whole s.num (s.eds ++ l) (by simp [PSt.eds]) (fun x hx => (List.mem_append.1 hx).elim (h.errs x) (he x)), told_adds h h4, ht]
theorem told_self {s : PSt} (h : s.Ok) (h4 : Four s.v) : toldP s.num (manOf s.eds) = some s := by
  have := told_behind h h4 [] (by simp) (rfl : stepsS s [] = some s)
  rw [List.append_nil] at this
  exact this
structure Std (num : Nat) (s : PSt) : Prop where
  ok : s.Ok
  four : Four s.v
  chk : chkS s = 0
  num : s.num = num
  few : s.v.all.length ≤ 60000
  len : s.bytes.length ≤ 200000
  edl : s.eds.length ≤ 400
  told : toldP s.num (manOf s.eds) = some s
theorem StOk.std {num last n : Nat} {s : PSt} (h : StOk (st0 num last) n s) (hn : n ≤ 800) (h1 : 1 ≤ num) (h2 : num ≤ 1000) : Std num s := by
  have hf := h.few
  have ho := h.ok (by omega)
  have hb := bytes_len ho (m := 8) (by omega)
  have he := eds_len (s := s) (m := 8) (by omega)
  exact ⟨ho, h.four, h.chk h1 (by omega), h.num, by omega, by omega, by omega, told_self ho h.four⟩
theorem state_std (num last : Nat) (l : List PE) (h1 : 1 ≤ num) (h2 : num ≤ 1000) : Std num (stateP num last l) := (state_st num last l).std (by decide) h1 h2
end Go.Proofs.YtmlfbihlbiikeaaGreatDoor
namespace Go.Proofs.YtmlfbihlbiikeaaGreatDoor
open Go.RowKit
set_option linter.unusedVariables false
set_option linter.unusedSimpArgs false
structure Fw (J : Face) (w0 : World) (p : Nat) (S : PFs) (R : Nat → Prop) (w : World) : Prop where
  j : J w R [(p, S)] []
  lt : ∀ k, R k → k < w.heap.size
  low : ∀ k, k < w0.heap.size → R k
  base : Below w0.heap.size w0 w
  gl0 : Gl w0
  h8 : 6 ≤ w0.heap.size
structure VS (w : World) (R : Nat → Prop) (v : PV) (t : SV) : Prop where
  rows : ∃ B, OwnV w B v t
  mine : ∀ n, n < 4 → ∀ b, blkOf (t.a n) = some b → R b
  wf : WfV v
section
variable {J : Face} {w0 w w' : World} {p : Nat} {S S' : PFs} {R R' : Nat → Prop} {v : PV} {t : SV}
theorem Fw.gl (h : Fw J w0 p S R w) : Gl w := h.gl0.below (Nat.le_refl _) h.base
theorem VS.at (h : VS w R v t) : VnAt w v t := by
  obtain ⟨B, h1⟩ := h.rows
  exact h1.at
theorem VS.none (w : World) (R : Nat → Prop) : VS w R noV sv0 := ⟨⟨w.heap.size, OwnV.none _ _⟩, fun n _ b hb => by simp [sv0, blkOf] at hb, zS_wf⟩
theorem VS.kp (h : VS w R v t) (k : Kp R w w') : VS w' R v t := by
  obtain ⟨B, h1⟩ := h.rows
  exact ⟨⟨B, fun n hn => (h1 n hn).kept fun g hg => k.block g (h.mine n hn g hg) (tag_lt ((h1 n hn).tag hg))⟩, h.mine, h.wf⟩
theorem VS.more (h : VS w R v t) (hR : ∀ k, R k → R' k) : VS w R' v t := ⟨h.rows, fun n hn b hb => hR b (h.mine n hn b hb), h.wf⟩
theorem VS.new {B : Nat} (h : OwnV w B v t) (hw : WfV v) (hR : ∀ k, B ≤ k → k < w.heap.size → R k) : VS w R v t := ⟨⟨B, h⟩, fun n hn b hb => hR b ((h n hn).ge hb) (tag_lt ((h n hn).tag hb)), hw⟩
theorem Fw.turn (h : Fw J w0 p S R w) (hj : J w' R [(p, S')] []) (k : Kp R w w') : Fw J w0 p S' R w' :=
  ⟨hj, fun i hi => Nat.lt_of_lt_of_le (h.lt i hi) k.size, h.low, h.base.trans (k.below h.low h.base.size), h.gl0, h.h8⟩
theorem Fw.call (H : FsOk J) (h : Fw J w0 p S R w) (hb : Below w.heap.size w w') : ∃ R', (∀ k, R k → R' k) ∧ (∀ k, w.heap.size ≤ k → k < w'.heap.size → R' k) ∧ Fw J w0 p S R' w' :=
  ⟨fun k => R k ∨ (w.heap.size ≤ k ∧ k < w'.heap.size), fun k hk => .inl hk, fun k a b => .inr ⟨a, b⟩, H.turn h.j (Chg.of hb), fun i hi => hi.elim (fun a => Nat.lt_of_lt_of_le (h.lt i a) hb.size) (·.2), fun k hk => .inl (h.low k hk), h.base.trans (hb.mono h.base.size), h.gl0, h.h8⟩
structure Nx (R R' : Nat → Prop) (w w' : World) : Prop where
  more : ∀ k, R k → R' k
  kp : Kp R w w'
theorem VS.nx (h : VS w R v t) (n : Nx R R' w w') : VS w' R' v t := (h.kp n.kp).more n.more
structure SB (w : World) (R : Nat → Prop) (b : Nat) (s : PSt) (t : SV) : Prop where
  box : Box w b TSt (sA s t)
  mine : R b
  vs : VS w R s.v t
theorem SB.nx {b : Nat} {s : PSt} (h : SB w R b s t) (n : Nx R R' w w') : SB w' R' b s t := ⟨h.box.kept (n.kp.block _ h.mine h.box.lt), n.more _ h.mine, h.vs.nx n⟩
def FR (J : Face) (w0 : World) (p : Nat) (S' : PFs) (R : Nat → Prop) (w w' : World) : Prop := ∃ R', Fw J w0 p S' R' w' ∧ Nx R R' w w'
theorem FR.mk' (h : Fw J w0 p S R w) (hj : J w' R (([(p, S)] : Fss).set 0 (p, S')) []) (k : Kp R w w') : FR J w0 p S' R w w' := ⟨R, h.turn hj k, fun _ h => h, k⟩
theorem FR.call (H : FsOk J) (h : Fw J w0 p S R w) (hb : Below w.heap.size w w') : FR J w0 p S R w w' := by
  obtain ⟨R', a, _, c⟩ := h.call H hb
  exact ⟨R', c, a, Kp.of hb⟩
theorem Fw.box (H : FsOk J) (h : Fw J w0 p S R w) (s : PSt) {t : SV} (hv : VS w R s.v t) : ∃ R', Fw J w0 p S R' (w.alloc (.cells (sA s t) TSt)) ∧ Nx R R' w (w.alloc (.cells (sA s t) TSt)) ∧ SB (w.alloc (.cells (sA s t) TSt)) R' w.heap.size s t := by
  have hb : Below w.heap.size w (w.alloc (.cells (sA s t) TSt)) := (Below.refl _ _).alloc (Nat.le_refl _) _
  obtain ⟨R', a, b, c⟩ := h.call H hb
  exact ⟨R', c, ⟨a, Kp.of hb⟩, Box.new _ _ _, b _ (Nat.le_refl _) (by simp), hv.nx ⟨a, Kp.of hb⟩⟩
theorem Fw.box2 (H : FsOk J) (h : Fw J w0 p S R w) (s : PSt) {t : SV} (hv : VS w R s.v t) : ∃ W R', Hid (W = w.alloc (.cells #[.int .u64 (s.num : Int), .slice (t.a 0) (s.v 0).length (t.c 0), .slice (t.a 1) (s.v 1).length (t.c 1), .slice (t.a 2) (s.v 2).length (t.c 2), .slice (t.a 3) (s.v 3).length (t.c 3), .int .u64 (s.log : Int), .int .u64 (s.next : Int), .int .u64 (s.last : Int)] TSt)) ∧ Fw J w0 p S R' W ∧ Nx R R' w W ∧ SB W R' w.heap.size s t := by
  obtain ⟨R', a, b, c⟩ := Fw.box H h s hv
  exact ⟨_, R', rfl, a, b, c⟩
theorem fw_new (H : FsOk J) (q : Nat) (hq : q ≤ 1048576) (hg : Gl w0) (h8 : 6 ≤ w0.heap.size) : Calls Tryz.prog 14 #[.int .i64 (q : Int)] w0 fun e w' => ∃ p R, e = .returned (.tuple #[at_ p, .int .i64 0]) ∧ Fw J w0 p (PFs.new q) R w' := by
  refine (H.new (q : Int) (by omega) (H.zero w0)).mono ?_
  rintro e w' (⟨_, p, he, hj, hk⟩ | ⟨hno, _⟩)
  · exact ⟨p, fun k => k < w0.heap.size, he, hj, fun k hk2 => Nat.lt_of_lt_of_le hk2 hk.size, fun k hk2 => hk2, hk.below (fun k hk2 => hk2) (Nat.le_refl _), hg, h8⟩
  · exact absurd ⟨by omega, by omega⟩ hno
theorem fw_write (H : FsOk J) (h : Fw J w0 p S R w) (s : PSt) (t : SV) (hS : S.asked < 900000) (hv : VnAt w s.v t) (hw : WfV s.v) (hn : s.v.all.length ≤ 60000) (hnum : s.num < 18446744073709551616) :
    Calls Tryz.prog 25 #[at_ p, sV s t] w fun e w' => e = .returned (.int .i64 ((writeP s S).2 : Nat)) ∧ FR J w0 p (writeP s S).1 R w w' :=
  (write_any H (i := 0) s t h.j rfl hS h.gl hv hw hn hnum).mono fun e w' ⟨a, b, c⟩ => ⟨a, FR.mk' h b c⟩
theorem loadFR (h : Fw J w0 p S R w) {B : Nat} (hB : w.heap.size ≤ B) (hj : J w' (fun k => R k ∨ (B ≤ k ∧ k < w'.heap.size)) [(p, S)] []) (hk : Kp R w w') (ho : OwnV w' B v t) (hw : WfV v) : ∃ R', Fw J w0 p S R' w' ∧ Nx R R' w w' ∧ VS w' R' v t :=
  ⟨_, ⟨hj, fun i hi => hi.elim (fun a => Nat.lt_of_lt_of_le (h.lt i a) hk.size) (·.2), fun k hk => .inl (h.low k hk), h.base.trans (hk.below h.low h.base.size), h.gl0, h.h8⟩, ⟨fun k hk => .inl hk, hk⟩, VS.new ho hw fun k a b => .inr ⟨a, b⟩⟩
theorem fw_load0 (H : FsOk J) (h : Fw J w0 p S R w) (hl : (S.read curB).1.length ≤ 100000000 ∧ (S.read (Lib.trimSuffix (S.read curB).1 [10])).1.length ≤ 100000000) (hf : Few (parseR (Lib.trimSuffix (S.read curB).1 [10])).2 (S.read (Lib.trimSuffix (S.read curB).1 [10])).1) :
    Calls Tryz.prog 20 #[at_ p] w fun e w' => ∃ t, e = .returned (.tuple #[sV (loadP S).1 t, .int .i64 ((loadP S).2 : Nat)]) ∧ ∃ R', Fw J w0 p S R' w' ∧ Nx R R' w w' ∧ VS w' R' (loadP S).1.v t := by
  refine (load_any H (i := 0) h.j rfl h.gl h.lt (fun g hg => h.low g (Nat.lt_of_lt_of_le hg h.h8)) hl hf).mono ?_
  rintro e w' ⟨t, B, he, hB, ho, hw, hj, hk⟩
  exact ⟨t, he, loadFR h hB hj hk ho hw⟩
theorem fw_load (H : FsOk J) {c : Cr} {kn : Kn} {num cut : Nat} {L : List PE} {s : PSt} (h : Fw J w0 p (pf c kn) R w) (hk : kn.quiet) (hn : 1 ≤ num ∧ num ≤ 1099511627776) (hh : Holds c (nameP 3 num) ((manOf L).take cut)) (hc : cut ≤ (manOf L).length) (hB : (manOf L).length ≤ 100000000) (he : ∀ x ∈ L, x.err = 0) (hL : L.length ≤ 500) (hT : toldP num ((manOf L).take cut) = some s) :
    Calls Tryz.prog 20 #[at_ p] w fun e w' => ∃ t, e = .returned (.tuple #[sV s t, .int .i64 0]) ∧ ∃ R', Fw J w0 p (pf c kn) R' w' ∧ Nx R R' w w' ∧ VS w' R' s.v t := by
  refine (load_holds H (i := 0) h.j rfl h.gl h.lt (fun g hg => h.low g (Nat.lt_of_lt_of_le hg h.h8)) hk hn hh hc hB he hL hT).mono ?_
  rintro e w' ⟨t, B, he, hB, ho, hw, hj, hk⟩
  exact ⟨t, he, loadFR h hB hj hk ho hw⟩
theorem fw_loadW (H : FsOk J) {c : Cr} {kn : Kn} {num : Nat} {L : List PE} {s : PSt} (h : Fw J w0 p (pf c kn) R w) (hk : kn.quiet) (hn : 1 ≤ num ∧ num ≤ 1099511627776) (hh : Holds c (nameP 3 num) (manOf L)) (hB : (manOf L).length ≤ 100000000) (he : ∀ x ∈ L, x.err = 0) (hL : L.length ≤ 500) (hT : toldP num (manOf L) = some s) :
    Calls Tryz.prog 20 #[at_ p] w fun e w' => ∃ t, e = .returned (.tuple #[sV s t, .int .i64 0]) ∧ ∃ R', Fw J w0 p (pf c kn) R' w' ∧ Nx R R' w w' ∧ VS w' R' s.v t :=
  fw_load H h hk hn (cut := (manOf L).length) (by rw [List.take_length]; exact hh) (Nat.le_refl _) hB he hL (by rw [List.take_length]; exact hT)
end
end Go.Proofs.YtmlfbihlbiikeaaGreatDoor
