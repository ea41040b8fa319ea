/- Names as a map of pointers: what a look-up, a store and a delete are, told for lists of names. -/
import Derived.Test.YtkelahekfkhcfaaFsFace
import Derived.Maps.OwnSet
import Derived.Handy
import Derived.Maps.Ext
import Derived.Sort.KeysCollected
namespace Go.Proofs.Ytkelahekfkhcfaa
open Go.RowKit Go.Maps
/-- A pointer to a block's beginning, by its number. -/
def ptrElem (v : Value) : Option (DataW Unit × List MemPlace) := match v with
  | .pointer none => some (.nil, [])
  | .pointer (some ⟨b, 0, none⟩) => some (.lit (.int .i64 (b : Int)), [])
  | _ => none
theorem ptrElem_at (b : Nat) : ptrElem (at_ b) = some (.lit (.int .i64 (b : Int)), []) := rfl
theorem ptrElem_inv {v : Value} {b : Nat} {ps : List MemPlace} (h : ptrElem v = some (.lit (.int .i64 (b : Int)), ps)) : v = at_ b := by
  unfold ptrElem at h
  split at h
  · simp at h
  · rename_i c
    simp only [Option.some.injEq, Prod.mk.injEq, DataW.lit.injEq, Lit.int.injEq, true_and] at h
    obtain rfl : c = b := by omega
    rfl
  · simp at h
theorem ptrElem_nil_inv {v : Value} {ps : List MemPlace} (h : ptrElem v = some (.nil, ps)) : v = .pointer none := by
  unfold ptrElem at h
  split at h
  · rfl
  · simp at h
  · simp at h
abbrev entOf (blk : Nat → Nat) (x : PName) : Lit × DataW Unit := (.string x.name, .lit (.int .i64 ((blk x.file : Nat) : Int)))
def mapOf (blk : Nat → Nat) (l : List PName) : DataW Unit := .map (l.map (entOf blk))
theorem ltB_before : ∀ a b : List UInt8, (Lit.string a).before (.string b) = ltB a b
  | [], [] => rfl
  | [], _ :: _ => rfl
  | _ :: _, [] => rfl
  | a :: r, b :: s => by
    have ih := ltB_before r s
    simp only [Lit.before, bytesBefore, ltB] at ih ⊢
    by_cases h1 : a < b
    · have : a.toNat < b.toNat := h1
      simp [h1, this]
    · have n1 : ¬ a.toNat < b.toNat := h1
      simp only [h1, decide_false, Bool.false_or, n1, if_false]
      by_cases h2 : a = b
      · subst h2
        simp [ih]
      · have : b.toNat < a.toNat := by
          have : a.toNat ≠ b.toNat := fun e => h2 (UInt8.toNat_inj.1 e)
          omega
        simp [h2, this]
theorem mapOf_ins (blk : Nat → Nat) (n : PName) : ∀ l : List PName, DataW.insert (entOf blk n) (l.map (entOf blk)) = (insN n l).map (entOf blk)
  | [] => rfl
  | x :: r => by
    rw [List.map_cons, DataW.insert, insN, ltB_before]
    split
    · rfl
    · rw [mapOf_ins blk n r]; rfl
theorem mapOf_filter (blk : Nat → Nat) (name : List UInt8) : ∀ l : List PName, (l.map (entOf blk)).filter (fun p => !p.1.sameKey (.string name)) = (without l name).map (entOf blk)
  | [] => rfl
  | x :: r => by
    have ih := mapOf_filter blk name r
    unfold without at ih ⊢
    rw [List.map_cons, List.filter_cons, List.filter_cons]
    have e : (!(entOf blk x).1.sameKey (.string name)) = (x.name != name) := rfl
    rw [e, ih]
    split <;> rfl
theorem mapOf_put (blk : Nat → Nat) (l : List PName) (n : PName) : (mapOf blk l).put (.string n.name) (.lit (.int .i64 ((blk n.file : Nat) : Int))) = mapOf blk (withN l n) := by
  unfold mapOf withN
  rw [← mapOf_ins, ← mapOf_filter]
  rfl
theorem mapOf_del (blk : Nat → Nat) (l : List PName) (name : List UInt8) : (mapOf blk l).del (.string name) = mapOf blk (without l name) := by
  unfold mapOf
  rw [← mapOf_filter]
  rfl
theorem atKey_list (es : List (Lit × DataW Unit)) (k : Lit) (z : DataW Unit) : (DataW.map es).atKey k z = ((es.find? (fun p => p.1.sameKey k)).map (·.2)).getD z := by
  simp only [DataW.atKey]
  cases es.find? (fun p => p.1.sameKey k) <;> rfl
theorem mapOf_at (blk : Nat → Nat) (name : List UInt8) (l : List PName) : (mapOf blk l).atKey (.string name) .nil = match findN l name with | some k => .lit (.int .i64 ((blk k : Nat) : Int)) | none => .nil := by
  unfold mapOf
  rw [atKey_list]
  induction l with
  | nil => rfl
  | cons x r ih =>
    have e : ((entOf blk x).1.sameKey (.string name)) = (x.name == name) := rfl
    unfold findN at ih ⊢
    rw [List.map_cons, List.find?_cons, List.find?_cons, e]
    cases x.name == name
    · exact ih
    · rfl
theorem mapOf_keys (blk : Nat → Nat) (l : List PName) : strKeys (mapOf blk l) = l.map (·.name) := by
  show (l.map (entOf blk)).map _ = _
  rw [List.map_map]
  rfl
theorem mapOf_size (blk : Nat → Nat) (l : List PName) : Maps.size (mapOf blk l) = l.length := by simp [mapOf, Maps.size]
theorem mapOf_congr {blk blk' : Nat → Nat} {l : List PName} (h : ∀ x ∈ l, blk x.file = blk' x.file) : mapOf blk l = mapOf blk' l := by
  unfold mapOf
  rw [List.map_congr_left fun x hx => by show entOf blk x = entOf blk' x; unfold entOf; rw [h x hx]]
theorem lawS : Keyed Try.prog 9 := string_keyed Try.underlying9
/-- The map reads as these names. -/
def NmAt (w : World) (mo : Option Nat) (blk : Nat → Nat) (l : List PName) : Prop := match mo with
  | none => l = []
  | some m => w.ownsMap Try.prog 9 ptrElem m l.length (mapOf blk l)
theorem own_tight {w : World} {m n : Nat} {D : DataW Unit} (h : w.ownsMap Try.prog 9 ptrElem m n D) : w.ownsMap Try.prog 9 ptrElem m (Maps.size D) D := by
  obtain ⟨es, clock, hb, F, hs, rfl⟩ := h
  exact ⟨es, clock, hb, F, by rw [Maps.size, length_read]; exact Nat.le_refl _, rfl⟩
theorem NmAt.of {w : World} {m n : Nat} {blk : Nat → Nat} {l : List PName} (h : w.ownsMap Try.prog 9 ptrElem m n (mapOf blk l)) : NmAt w (some m) blk l := by
  have := own_tight h
  rw [mapOf_size] at this
  exact this
theorem NmAt.kept {w w' : World} {mo : Option Nat} {blk : Nat → Nat} {l : List PName} (h : NmAt w mo blk l) (hk : ∀ m, mo = some m → w'.heap[m]? = w.heap[m]?) : NmAt w' mo blk l := by
  cases mo with
  | none => exact h
  | some m =>
    obtain ⟨es, clock, hb, F, hs, hD⟩ := h
    exact ⟨es, clock, (hk m rfl).trans hb, F, hs, hD⟩
theorem NmAt.isMap {w : World} {m : Nat} {blk : Nat → Nat} {l : List PName} (h : NmAt w (some m) blk l) : ∃ es clock, w.heap[m]? = some (.map es clock) := by
  obtain ⟨es, clock, hb, _⟩ := h
  exact ⟨es, clock, hb⟩
/-- What a look-up gives. -/
def ptrOf (blk : Nat → Nat) : Option Nat → Value
  | some k => at_ (blk k)
  | none => .pointer none
theorem zeroPtr (w : World) : (zeroValue 70).run Try.prog w = .ok (.pointer none) w := by kernel_rfl
theorem look_long {w : World} {m : Nat} {es : Array MapEntry} {clock : Nat} (hb : w.heap[m]? = some (.map es clock)) (F : WideElems.Fit Try.prog 9 ptrElem es clock) (s : ByteArray) (hs : ¬ s.size ≤ maxLen) :
    (Instr.lookup 61 (.map (some m)) (.string s) false).run Try.prog w = .ok (.pointer none) w := by
  have hks : ∀ y ∈ es.toList, MapKept.IsKey .string y.key ∧ y.key ≠ .string s := fun y hy => by
    obtain ⟨z, hz⟩ := F.reads y hy
    have := WideElems.rd_key hz
    obtain ⟨x, hx, _, hlen⟩ := Maps.keyOf_str Try.underlying9 this
    rw [hx]
    refine ⟨trivial, fun e => hs ?_⟩
    have e2 : (⟨x.toArray⟩ : ByteArray) = s := Value.string.inj e
    rw [← e2]
    exact hlen
  have hf : Instr.findNow .string (.string s) es.toList 0 = some none := by
    rcases MapKept.findNow_spec (d := .string) (k := .string s) trivial es.toList 0 (fun x hx => (hks x hx).1) with ⟨h1, _⟩ | ⟨j, e, _, h2, h3⟩
    · exact h1
    · exact absurd h3 (hks e (List.mem_of_getElem? h2)).2
  have h1 := MapKept.run_findKey (P := Try.prog) (w := w) Try.underlying9 hf
  have h2 := MapKept.run_checkKey (P := Try.prog) (w := w) (k := .string s) Try.underlying9 trivial es.isEmpty 9999
  simp [Instr.lookup, run_underlying Try.underlying61, MapKept.run_getObj_map hb, h2, h1, Result.andThen]
theorem NmAt.look {w : World} {mo : Option Nat} {blk : Nat → Nat} {l : List PName} (h : NmAt w mo blk l) (hl : ∀ x ∈ l, x.name.length ≤ 32) (s : ByteArray) :
    (Instr.lookup 61 (.map mo) (.string s) false).run Try.prog w = .ok (ptrOf blk (findN l s.data.toList)) w := by
  by_cases hs : s.size ≤ maxLen
  · have hkey : keyOf Try.prog 9 (.string s) = some (.string s.data.toList) := WideMaps.keyOf_string_mk Try.underlying9 hs
    cases mo with
    | none =>
      obtain rfl : l = [] := h
      exact Maps.look_nil false lawS Try.underlying61 (zeroPtr w) hkey
    | some m =>
      obtain ⟨v, ps, hrun, hv⟩ := World.ownsMap.lookup h lawS Try.underlying61 (zeroPtr w) (zd := .nil) (zp := []) rfl hkey
      rw [hrun]
      rw [mapOf_at] at hv
      cases hf : findN l s.data.toList with
      | none =>
        rw [hf] at hv
        rw [ptrElem_nil_inv hv]
        rfl
      | some k =>
        rw [hf] at hv
        rw [ptrElem_inv hv]
        rfl
  · have hf : findN l s.data.toList = none := by
      unfold findN
      rw [List.find?_eq_none.2, Option.map_none]
      intro x hx e
      have := hl x hx
      rw [beq_iff_eq] at e
      rw [e] at this
      have e3 : s.data.toList.length = s.size := rfl
      apply hs
      unfold maxLen
      omega
    rw [hf]
    cases mo with
    | none =>
      have h2 := MapKept.run_checkKey (P := Try.prog) (w := w) (k := .string s) Try.underlying9 trivial true 9999
      have h1 := MapKept.run_findKey (P := Try.prog) (w := w) (kt := 9) (k := .string s) (l := []) Try.underlying9 rfl
      simp [Instr.lookup, run_underlying Try.underlying61, h2, h1, Result.andThen]
      rfl
    | some m =>
      obtain ⟨es, clock, hb, F, _, _⟩ := h
      exact look_long hb F s hs
end Go.Proofs.Ytkelahekfkhcfaa
