/- Wherever a Write or an Append stops, and whatever a crash leaves: the manifest that counted is there, or the new one. -/
import Derived.Test.YtmlfbihlbiikeaaGreatDoorQa25
import Derived.Test.YtmlfbihlbiikeaaGreatDoorQa07
import Derived.Test.YtmlfbihlbiikeaaGreatDoorQa14
import Derived.Test.YtmlfbihlbiikeaaGreatDoorQa02
import Derived.Maps.OwnSet
import Derived.Handy
import Derived.Maps.Ext
import Derived.Sort.KeysCollected
import Derived.Test.YtmlfbihlbiikeaaGreatDoorQa01
namespace Go.Proofs.YtmlfbihlbiikeaaGreatDoor
set_option linter.unusedVariables false
set_option linter.unusedSimpArgs false
def Holds (c : Cr) (m B : List UInt8) : Prop := ∃ i j, findN c.names curB = some i ∧ (c.files.getD i file0).b = lineF m ∧ findN c.names m = some j ∧ (c.files.getD j file0).b = B
structure Base (c : Cr) (m B : List UInt8) (i j : Nat) : Prop where
  lasts : c.lasts = c.names
  since : c.since = []
  cur : findN c.names curB = some i
  line : c.files.getD i file0 = fullF (lineF m)
  man : findN c.names m = some j
  bytes : c.files.getD j file0 = fullF B
  apart : i ≠ j
  full : ∀ k, (c.files.getD k file0).last = (c.files.getD k file0).b.length
  idx : ∀ n ∈ c.names, n.file < c.files.length
  tmp : findN c.names tmpB = none
theorem Base.holds {c : Cr} {m B : List UInt8} {i j : Nat} (h : Base c m B i j) : Holds c m B := ⟨i, j, h.cur, by rw [h.line]; rfl, h.man, by rw [h.bytes]; rfl⟩
theorem mem_ins {n x : PName} : ∀ {l : List PName}, x ∈ insN n l → x = n ∨ x ∈ l
  | [], h => .inl (List.mem_singleton.1 h)
  | y :: r, h => by
    unfold insN at h
    split at h
    · exact List.mem_cons.1 h
    · rcases List.mem_cons.1 h with rfl | h
      · exact .inr (by simp)
      · rcases mem_ins h with h | h
        · exact .inl h
        · exact .inr (by simp [h])
theorem mem_without5 {l : List PName} {a : List UInt8} {x : PName} (h : x ∈ without l a) : x ∈ l := (List.mem_filter.1 h).1
theorem mem_changed {l : List PName} {ch : PChange} {x : PName} (h : x ∈ changedN l ch) : x.file = ch.file ∨ x ∈ l := by
  unfold changedN withN at h
  split at h
  · rcases mem_ins h with rfl | h
    · exact .inl rfl
    · exact .inr (mem_without5 h)
  · split at h
    · rcases mem_ins h with rfl | h
      · exact .inl rfl
      · exact .inr (mem_without5 (mem_without5 h))
    · exact .inr (mem_without5 h)
theorem nmW_mem (c : Cr) (m : List UInt8) (l : List PName) (hl : ∀ n ∈ l, n.file < c.files.length) : ∀ n ∈ nmW c m 5 l, n.file < c.files.length + 3 := fun n hn => by
  rw [show nmW c m 5 l = changedN (nmW c m 4 l) ⟨2, tmpB, curB, c.files.length + 2⟩ from rfl] at hn
  rcases mem_changed hn with h | hn
  · have h' : n.file = c.files.length + 2 := h
    omega
  rw [show nmW c m 4 l = changedN (nmW c m 3 l) ⟨1, tmpB, [], c.files.length + 2⟩ from rfl] at hn
  rcases mem_changed hn with h | hn
  · have h' : n.file = c.files.length + 2 := h
    omega
  rw [show nmW c m 3 l = changedN (nmW c m 2 l) ⟨2, tmpB, m, c.files.length + 1⟩ from rfl] at hn
  rcases mem_changed hn with h | hn
  · have h' : n.file = c.files.length + 1 := h
    omega
  rw [show nmW c m 2 l = changedN (nmW c m 1 l) ⟨1, tmpB, [], c.files.length + 1⟩ from rfl] at hn
  rcases mem_changed hn with h | hn
  · have h' : n.file = c.files.length + 1 := h
    omega
  rw [show nmW c m 1 l = changedN l ⟨1, m, [], c.files.length⟩ from rfl] at hn
  rcases mem_changed hn with h | hn
  · have h' : n.file = c.files.length := h
    omega
  · have := hl n hn
    omega
theorem end_base {c : Cr} {m : List UInt8} (B : List UInt8) (hm : Mn m) (hi : ∀ n ∈ c.names, n.file < c.files.length) (hf : ∀ k, (c.files.getD k file0).last = (c.files.getD k file0).b.length) : Base (endW c m B) m B (c.files.length + 2) (c.files.length + 1) where
  lasts := rfl
  since := rfl
  cur := by show findN (nmW c m 5 c.names) curB = _; rw [nm5 c hm, if_pos rfl]
  line := getD_new _ _ 2
  man := by show findN (nmW c m 5 c.names) m = _; rw [nm5 c hm, if_neg hm.cur, if_neg hm.tmp, if_pos rfl]
  bytes := getD_new _ _ 1
  apart := by omega
  full := fun k => by
    show ((c.files ++ [file0, fullF B, fullF (lineF m)]).getD k file0).last = ((c.files ++ [file0, fullF B, fullF (lineF m)]).getD k file0).b.length
    by_cases hk : k < c.files.length
    · rw [getD_old _ _ hk]
      exact hf k
    · obtain ⟨d, rfl⟩ := Nat.exists_eq_add_of_le (Nat.le_of_not_lt hk)
      rw [getD_new]
      have z : ∀ f ∈ [file0, fullF B, fullF (lineF m)], f.last = f.b.length := by
        intro f hf
        simp only [List.mem_cons, List.not_mem_nil, or_false] at hf
        rcases hf with rfl | rfl | rfl <;> rfl
      rw [List.getD_eq_getElem?_getD]
      cases e : ([file0, fullF B, fullF (lineF m)] : List PFile)[d]? with
      | none => rfl
      | some f => exact z f (List.mem_of_getElem? e)
  idx := fun n hn => by
    unfold endW at hn
    dsimp only at hn
    have h1 := nmW_mem c m c.names hi n hn
    have h2 : (endW c m B).files.length = c.files.length + 3 := List.length_append
    omega
  tmp := by
    unfold endW
    dsimp only
    rw [nm5 c hm, if_neg tmp_cur, if_pos rfl]
theorem getD_set_ne (F : List PFile) {i j : Nat} (h : i ≠ j) (x : PFile) : (F.set i x).getD j file0 = F.getD j file0 := by
  rw [List.getD_eq_getElem?_getD, List.getElem?_set_ne h, List.getD_eq_getElem?_getD]
def manD (d : UInt8) : List UInt8 := [77, 65, 78, 73, 70, 69, 83, 84, 45, 48, 48, 48, 48, 48, d]
def cr0 : Cr := ⟨[], [], [], []⟩
theorem fresh_3 : nmW cr0 (manD 51) 5 cr0.names = [⟨curB, 2⟩, ⟨manD 51, 1⟩] := by rfl
theorem name_d {d n : Nat} (h : n < 10) (h0 : 1 ≤ n) (hd : d = 48 + n) : nameP 3 n = manD (UInt8.ofNat d) := by
  subst hd
  rw [nameP_man h0 (by omega)]
  unfold numB pad6
  rw [decDigits_small h]
  rfl
theorem name_3 : nameP 3 3 = manD 51 := name_d (d := 51) (by decide) (by decide) rfl
end Go.Proofs.YtmlfbihlbiikeaaGreatDoor
namespace Go.Proofs.YtmlfbihlbiikeaaGreatDoor
open Go.RowKit
set_option linter.unusedVariables false
set_option linter.unusedSimpArgs false
set_option maxRecDepth 100000 in
theorem idxL_arr (p k : Nat) (hk : k < 4) (W : World) : (Instr.indexAt 42 (.pointer (some ⟨p, 0, none⟩)) (.int .i64 (k : Int))).run Tryz.prog W = .ok (.pointer (some ⟨p, k, none⟩)) W := by
  have h1 : (k : Int) < 4 := by omega
  have hsz : (sizeOf 41).run Tryz.prog W = .ok 1 W := by kernel_rfl
  simp [Instr.indexAt, run_underlying Tryz.underlying42, asIntOf, h1, hk, show ¬ 4 ≤ k by omega, hsz, Addr.add_lit, go_sem]
theorem Box.level {w : World} {p : Nat} {t : TypeId} {v : PV} {s : SV} (h : Box w p t (vA v s)) {n : Nat} (hn : n < 4) : w.cell? ⟨p, n, none⟩ = some (.slice (s.a n) (v n).length (s.c n)) := by
  rw [h.cell]
  exact four (P := fun n => (vA v s)[n]? = some (.slice (s.a n) (v n).length (s.c n))) hn rfl rfl rfl rfl
end Go.Proofs.YtmlfbihlbiikeaaGreatDoor
namespace Go.Proofs.YtmlfbihlbiikeaaGreatDoor
open Go.RowKit
set_option linter.unusedVariables false
set_option linter.unusedSimpArgs false
end Go.Proofs.YtmlfbihlbiikeaaGreatDoor
namespace Go.Proofs.YtmlfbihlbiikeaaGreatDoor
open Go.RowKit Go.Maps
def ptrElem (v : Value) : Option (DataW Unit × List MemPlace) := match v with
  | .pointer none => some (.nil, [])
  | .pointer (some ⟨b, 0, none⟩) => some (.lit (.int .i64 (b : Int)), [])
  | _ => none
theorem ptrElem_at (b : Nat) : ptrElem (at_ b) = some (.lit (.int .i64 (b : Int)), []) := rfl
theorem ptrElem_inv {v : Value} {b : Nat} {ps : List MemPlace} (h : ptrElem v = some (.lit (.int .i64 (b : Int)), ps)) : v = at_ b := by
  unfold ptrElem at h
  split at h
  · simp at h
  · rename_i c
    simp only [Option.some.injEq, Prod.mk.injEq, DataW.lit.injEq, Lit.int.injEq, true_and] at h
    obtain rfl : c = b := by omega
    rfl
  · simp at h
theorem ptrElem_nil_inv {v : Value} {ps : List MemPlace} (h : ptrElem v = some (.nil, ps)) : v = .pointer none := by
  unfold ptrElem at h
  split at h
  · rfl
  · simp at h
  · simp at h
abbrev entOf (blk : Nat → Nat) (x : PName) : Lit × DataW Unit := (.string x.name, .lit (.int .i64 ((blk x.file : Nat) : Int)))
def mapOf (blk : Nat → Nat) (l : List PName) : DataW Unit := .map (l.map (entOf blk))
theorem ltB_before : ∀ a b : List UInt8, (Lit.string a).before (.string b) = ltB a b
  | [], [] => rfl
  | [], _ :: _ => rfl
  | _ :: _, [] => rfl
  | a :: r, b :: s => by
    have ih := ltB_before r s
    simp only [Lit.before, bytesBefore, ltB] at ih ⊢
    by_cases h1 : a < b
    · have : a.toNat < b.toNat := h1
      simp [h1, this]
    · have n1 : ¬ a.toNat < b.toNat := h1
      simp only [h1, decide_false, Bool.false_or, n1, if_false]
      by_cases h2 : a = b
      · subst h2
        simp [ih]
      · have : b.toNat < a.toNat := by
          have : a.toNat ≠ b.toNat := fun e => h2 (UInt8.toNat_inj.1 e)
          omega
        simp [h2, this]
theorem mapOf_ins (blk : Nat → Nat) (n : PName) : ∀ l : List PName, DataW.insert (entOf blk n) (l.map (entOf blk)) = (insN n l).map (entOf blk)
  | [] => rfl
  | x :: r => by
    rw [List.map_cons, DataW.insert, insN, ltB_before]
    split
    · rfl
    · rw [mapOf_ins blk n r]; rfl
theorem mapOf_filter (blk : Nat → Nat) (name : List UInt8) : ∀ l : List PName, (l.map (entOf blk)).filter (fun p => !p.1.sameKey (.string name)) = (without l name).map (entOf blk)
  | [] => rfl
  | x :: r => by
    have ih := mapOf_filter blk name r
    unfold without at ih ⊢
    rw [List.map_cons, List.filter_cons, List.filter_cons]
    have e : (!(entOf blk x).1.sameKey (.string name)) = (x.name != name) := rfl
    rw [e, ih]
    split <;> rfl
theorem mapOf_put (blk : Nat → Nat) (l : List PName) (n : PName) : (mapOf blk l).put (.string n.name) (.lit (.int .i64 ((blk n.file : Nat) : Int))) = mapOf blk (withN l n) := by
  unfold mapOf withN
  rw [← mapOf_ins, ← mapOf_filter]
  rfl
theorem mapOf_del (blk : Nat → Nat) (l : List PName) (name : List UInt8) : (mapOf blk l).del (.string name) = mapOf blk (without l name) := by
  unfold mapOf
  rw [← mapOf_filter]
  rfl
theorem atKey_list (es : List (Lit × DataW Unit)) (k : Lit) (z : DataW Unit) : (DataW.map es).atKey k z = ((es.find? (fun p => p.1.sameKey k)).map (·.2)).getD z := by
  simp only [DataW.atKey]
  cases es.find? (fun p => p.1.sameKey k) <;> rfl
theorem mapOf_at (blk : Nat → Nat) (name : List UInt8) (l : List PName) : (mapOf blk l).atKey (.string name) .nil = match findN l name with | some k => .lit (.int .i64 ((blk k : Nat) : Int)) | none => .nil := by
  unfold mapOf
  rw [atKey_list]
  induction l with
  | nil => rfl
  | cons x r ih =>
    have e : ((entOf blk x).1.sameKey (.string name)) = (x.name == name) := rfl
    unfold findN at ih ⊢
    rw [List.map_cons, List.find?_cons, List.find?_cons, e]
    cases x.name == name
    · exact ih
    · rfl
theorem mapOf_keys (blk : Nat → Nat) (l : List PName) : strKeys (mapOf blk l) = l.map (·.name) := by
  show (l.map (entOf blk)).map _ = _
  rw [List.map_map]
  rfl
theorem mapOf_size (blk : Nat → Nat) (l : List PName) : Maps.size (mapOf blk l) = l.length := by simp [mapOf, Maps.size]
theorem mapOf_congr {blk blk' : Nat → Nat} {l : List PName} (h : ∀ x ∈ l, blk x.file = blk' x.file) : mapOf blk l = mapOf blk' l := by
  unfold mapOf
  rw [List.map_congr_left fun x hx => by show entOf blk x = entOf blk' x; unfold entOf; rw [h x hx]]
theorem lawS : Keyed Tryz.prog 9 := string_keyed Tryz.underlying9
def NmAt (w : World) (mo : Option Nat) (blk : Nat → Nat) (l : List PName) : Prop := match mo with
  | none => l = []
  | some m => w.ownsMap Tryz.prog 9 ptrElem m l.length (mapOf blk l)
theorem own_tight {w : World} {m n : Nat} {D : DataW Unit} (h : w.ownsMap Tryz.prog 9 ptrElem m n D) : w.ownsMap Tryz.prog 9 ptrElem m (Maps.size D) D := by
  obtain ⟨es, clock, hb, F, hs, rfl⟩ := h
  exact ⟨es, clock, hb, F, by rw [Maps.size, length_read]; exact Nat.le_refl _, rfl⟩
theorem NmAt.of {w : World} {m n : Nat} {blk : Nat → Nat} {l : List PName} (h : w.ownsMap Tryz.prog 9 ptrElem m n (mapOf blk l)) : NmAt w (some m) blk l := by
  have := own_tight h
  rw [mapOf_size] at this
  exact this
theorem NmAt.kept {w w' : World} {mo : Option Nat} {blk : Nat → Nat} {l : List PName} (h : NmAt w mo blk l) (hk : ∀ m, mo = some m → w'.heap[m]? = w.heap[m]?) : NmAt w' mo blk l := by
  cases mo with
  | none => exact h
  | some m =>
    obtain ⟨es, clock, hb, F, hs, hD⟩ := h
    exact ⟨es, clock, (hk m rfl).trans hb, F, hs, hD⟩
theorem NmAt.isMap {w : World} {m : Nat} {blk : Nat → Nat} {l : List PName} (h : NmAt w (some m) blk l) : ∃ es clock, w.heap[m]? = some (.map es clock) := by
  obtain ⟨es, clock, hb, _⟩ := h
  exact ⟨es, clock, hb⟩
def ptrOf (blk : Nat → Nat) : Option Nat → Value
  | some k => at_ (blk k)
  | none => .pointer none
theorem zeroPtr (w : World) : (zeroValue 96).run Tryz.prog w = .ok (.pointer none) w := by kernel_rfl
theorem look_long {w : World} {m : Nat} {es : Array MapEntry} {clock : Nat} (hb : w.heap[m]? = some (.map es clock)) (F : WideElems.Fit Tryz.prog 9 ptrElem es clock) (s : ByteArray) (hs : ¬ s.size ≤ maxLen) :
    (Instr.lookup 85 (.map (some m)) (.string s) false).run Tryz.prog w = .ok (.pointer none) w := by
  have hks : ∀ y ∈ es.toList, MapKept.IsKey .string y.key ∧ y.key ≠ .string s := fun y hy => by
    obtain ⟨z, hz⟩ := F.reads y hy
    have := WideElems.rd_key hz
    obtain ⟨x, hx, _, hlen⟩ := Maps.keyOf_str Tryz.underlying9 this
    rw [hx]
    refine ⟨trivial, fun e => hs ?_⟩
    have e2 : (⟨x.toArray⟩ : ByteArray) = s := Value.string.inj e
    rw [← e2]
    exact hlen
  have hf : Instr.findNow .string (.string s) es.toList 0 = some none := by
    rcases MapKept.findNow_spec (d := .string) (k := .string s) trivial es.toList 0 (fun x hx => (hks x hx).1) with ⟨h1, _⟩ | ⟨j, e, _, h2, h3⟩
    · exact h1
    · exact absurd h3 (hks e (List.mem_of_getElem? h2)).2
  have h1 := MapKept.run_findKey (P := Tryz.prog) (w := w) Tryz.underlying9 hf
  have h2 := MapKept.run_checkKey (P := Tryz.prog) (w := w) (k := .string s) Tryz.underlying9 trivial es.isEmpty 9999
  simp [Instr.lookup, run_underlying Tryz.underlying85, MapKept.run_getObj_map hb, h2, h1, Result.andThen]
theorem NmAt.look {w : World} {mo : Option Nat} {blk : Nat → Nat} {l : List PName} (h : NmAt w mo blk l) (hl : ∀ x ∈ l, x.name.length ≤ 32) (s : ByteArray) :
    (Instr.lookup 85 (.map mo) (.string s) false).run Tryz.prog w = .ok (ptrOf blk (findN l s.data.toList)) w := by
  by_cases hs : s.size ≤ maxLen
  · have hkey : keyOf Tryz.prog 9 (.string s) = some (.string s.data.toList) := WideMaps.keyOf_string_mk Tryz.underlying9 hs
    cases mo with
    | none =>
      obtain rfl : l = [] := h
      exact Maps.look_nil false lawS Tryz.underlying85 (zeroPtr w) hkey
    | some m =>
      obtain ⟨v, ps, hrun, hv⟩ := World.ownsMap.lookup h lawS Tryz.underlying85 (zeroPtr w) (zd := .nil) (zp := []) rfl hkey
      rw [hrun]
      rw [mapOf_at] at hv
      cases hf : findN l s.data.toList with
      | none =>
        rw [hf] at hv
        rw [ptrElem_nil_inv hv]
        rfl
      | some k =>
        rw [hf] at hv
        rw [ptrElem_inv hv]
        rfl
  · have hf : findN l s.data.toList = none := by
      unfold findN
      rw [List.find?_eq_none.2, Option.map_none]
      intro x hx e
      have := hl x hx
      rw [beq_iff_eq] at e
      rw [e] at this
      have e3 : s.data.toList.length = s.size := rfl
      apply hs
      unfold maxLen
      omega
    rw [hf]
    cases mo with
    | none =>
      have h2 := MapKept.run_checkKey (P := Tryz.prog) (w := w) (k := .string s) Tryz.underlying9 trivial true 9999
      have h1 := MapKept.run_findKey (P := Tryz.prog) (w := w) (kt := 9) (k := .string s) (l := []) Tryz.underlying9 rfl
      simp [Instr.lookup, run_underlying Tryz.underlying85, h2, h1, Result.andThen]
      rfl
    | some m =>
      obtain ⟨es, clock, hb, F, _, _⟩ := h
      exact look_long hb F s hs
end Go.Proofs.YtmlfbihlbiikeaaGreatDoor
namespace Go.Proofs.YtmlfbihlbiikeaaGreatDoor
open Go.RowKit
structure FsC where
  q : Int
  u : Int
  o : Int
  fs : Bool
  fn : Int
  ss : Bool
  sn : Int
  mn : Option Nat
  ml : Option Nat
  sa : Option Addr
  sl : Nat
  sc : Nat
def FsC.arr (c : FsC) : Array Value := #[.int .i64 c.q, .int .i64 c.u, .int .i64 c.o, .bool c.fs, .int .i64 c.fn, .bool c.ss, .int .i64 c.sn, .map c.mn, .map c.ml, .slice c.sa c.sl c.sc]
def FsB (w : World) (p : Nat) (c : FsC) : Prop := Box w p 88 c.arr
theorem grown_alloc {w w' : World} {row : Option Nat} (h : w.grownBy w' row) (o : Obj) : w.grownBy (w'.alloc o) row :=
  ⟨h.os, h.tape, h.output, by have := h.size; simp; omega, fun k hk hr => (Below.heap_alloc _ _ k (Nat.lt_of_lt_of_le hk h.size)).trans (h.block k hk hr)⟩
theorem grown_set {w w' : World} {p : Nat} (h : w.grownBy w' (some p)) (j : Nat) (v : Value) : w.grownBy (w'.setCell ⟨p, j, none⟩ v) (some p) :=
  ⟨h.os, h.tape, h.output, by have := h.size; simpa using this, fun k hk hr => (Below.heap_setCell _ _ _ k (fun e => hr (by rw [e]))).trans (h.block k hk hr)⟩
theorem FsB.cells {w : World} {p : Nat} {c : FsC} (h : FsB w p c) : w.cell? ⟨p, 0, none⟩ = some (.int .i64 c.q) ∧ w.cell? ⟨p, 1, none⟩ = some (.int .i64 c.u) ∧ w.cell? ⟨p, 2, none⟩ = some (.int .i64 c.o) ∧ w.cell? ⟨p, 3, none⟩ = some (.bool c.fs) ∧ w.cell? ⟨p, 4, none⟩ = some (.int .i64 c.fn) ∧ w.cell? ⟨p, 5, none⟩ = some (.bool c.ss) ∧ w.cell? ⟨p, 6, none⟩ = some (.int .i64 c.sn) ∧ w.cell? ⟨p, 7, none⟩ = some (.map c.mn) ∧ w.cell? ⟨p, 8, none⟩ = some (.map c.ml) ∧ w.cell? ⟨p, 9, none⟩ = some (.slice c.sa c.sl c.sc) :=
  ⟨Box.cell h 0, Box.cell h 1, Box.cell h 2, Box.cell h 3, Box.cell h 4, Box.cell h 5, Box.cell h 6, Box.cell h 7, Box.cell h 8, Box.cell h 9⟩
end Go.Proofs.YtmlfbihlbiikeaaGreatDoor
namespace Go.Proofs.YtmlfbihlbiikeaaGreatDoor
open Go.RowKit
def FsC.ask (c : FsC) : FsC × Int :=
  if (c.fs && (c.fn == 0)) = true then ({ c with o := c.o + 1 }, 44)
  else if (c.ss && (c.sn == 0)) = true then ({ c with o := c.o + 1, fn := if c.fs then c.fn - 1 else c.fn, ss := false, sn := 0 }, 45)
  else ({ c with o := c.o + 1, fn := if c.fs then c.fn - 1 else c.fn, sn := if c.ss then c.sn - 1 else c.sn }, 0)
set_option maxRecDepth 100000 in
set_option maxHeartbeats 1000000 in
theorem begin_any (w : World) (p : Nat) (c : FsC) (h : FsB w p c) (ho : 0 ≤ c.o ∧ c.o ≤ 2000000) (hf : 0 ≤ c.fn ∧ c.fn ≤ 9223372036854775807) (hs : 0 ≤ c.sn ∧ c.sn ≤ 9223372036854775807) :
    Calls Tryz.prog 38 #[at_ p] w fun e w' => e = .returned (.int .i64 c.ask.2) ∧ FsB w' p c.ask.1 ∧ w.grownBy w' (some p) := by
  obtain ⟨c0, c1, c2, c3, c4, c5, c6, c7, c8, c9⟩ := h.cells
  have f2 := Box.soft h 2
  have f4 := Box.soft h 4
  have f5 := Box.soft h 5
  have f6 := Box.soft h 6
  have hlt := Box.lt h
  obtain ⟨q, u, o, fs, fn, ss, sn, mn, ml, sa, sl, sc⟩ := c
  simp only at c0 c1 c2 c3 c4 c5 c6 c7 c8 c9 ho hf hs
  cases fs <;> cases ss
  all_goals
    go_enter Tryz.func38, Tryz.ntmps38
    go_wp2
  all_goals go_returns
  all_goals
    refine ⟨ret1 ?_, ?_, ?_⟩
    · simp [FsC.ask, *]
    · apply Box.eq
      · repeat (first | with_reducible apply Box.alloc | with_reducible apply Box.set)
        exact h
      · simp [FsC.ask, FsC.arr, *]
    · repeat (first | with_reducible apply grown_alloc | with_reducible apply grown_set)
      exact World.grownBy.refl _ _
end Go.Proofs.YtmlfbihlbiikeaaGreatDoor
