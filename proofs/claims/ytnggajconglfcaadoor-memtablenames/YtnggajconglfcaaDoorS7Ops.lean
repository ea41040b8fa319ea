/- Closed facts on operations: strings in order, pointers to nodes held against each other. -/
import Derived.Test.YtnggajconglfcaaDoorS7Mem
import Derived.LaidEqlPtr
import Derived.Handy
namespace Go.Proofs.YtnggajconglfcaaDoor
open Go.RowKit
abbrev TQ : TypeId := 87
theorem str_geq (a b : ByteArray) (w : World) : (binOp .geq 9 (.string a) (.string b)).run Tryd.prog w = .ok (.bool (!Op.bytesLess a.toList b.toList)) w := by simp [binOp, Op.stringOp]
theorem infoNode : (Tryd.prog.info? TN).map (fun i => i.size) = some 9 := by kernel_rfl
theorem node_eq_in (w : World) (a b : Addr) (r : Bool) (h : (sameAddr a b).run Tryd.prog w = .ok r w) (d : Nat) : (Op.equalIn (d + 1) TQ (.pointer (some a)) (.pointer (some b))).run Tryd.prog w = .ok r w := by
  cases hj : Tryd.prog.info? TN with
  | none => have := infoNode; rw [hj] at this; cases this
  | some j =>
    have hsz : j.size ≠ 0 := by
      have := infoNode
      rw [hj] at this
      simp at this
      omega
    simp [Op.equalIn, run_underlying Tryd.underlying87, sizeOf, typeInfo, hj, hsz, h]
theorem node_neq (w : World) (a b : Addr) (r : Bool) (h : (sameAddr a b).run Tryd.prog w = .ok r w) : (binOp .neq TQ (.pointer (some a)) (.pointer (some b))).run Tryd.prog w = .ok (.bool (!r)) w := by
  simp only [binOp]
  simp [Op.equal, Op.maxDepth, node_eq_in w a b r h 9999]
theorem node_eql (w : World) (a b : Addr) (r : Bool) (h : (sameAddr a b).run Tryd.prog w = .ok r w) : (binOp .eql TQ (.pointer (some a)) (.pointer (some b))).run Tryd.prog w = .ok (.bool r) w := by
  simp only [binOp]
  simp [Op.equal, Op.maxDepth, node_eq_in w a b r h 9999]
theorem node_neq_nil (w : World) (a : Addr) : (binOp .neq TQ (.pointer none) (.pointer (some a))).run Tryd.prog w = .ok (.bool true) w := by
  have h : ∀ d : Nat, (Op.equalIn (d + 1) TQ (.pointer none) (.pointer (some a))).run Tryd.prog w = .ok false w := fun d => by
    simp [Op.equalIn, run_underlying Tryd.underlying87]
  simp only [binOp]
  simp [Op.equal, Op.maxDepth, h 9999]
theorem node_neq_nil2 (w : World) (a : Addr) : (binOp .neq TQ (.pointer (some a)) (.pointer none)).run Tryd.prog w = .ok (.bool true) w := by
  have h : ∀ d : Nat, (Op.equalIn (d + 1) TQ (.pointer (some a)) (.pointer none)).run Tryd.prog w = .ok false w := fun d => by
    simp [Op.equalIn, run_underlying Tryd.underlying87]
  simp only [binOp]
  simp [Op.equal, Op.maxDepth, h 9999]
theorem node_neq_nils (w : World) : (binOp .neq TQ (.pointer none) (.pointer none)).run Tryd.prog w = .ok (.bool false) w := by
  have h : ∀ d : Nat, (Op.equalIn (d + 1) TQ (.pointer none) (.pointer none)).run Tryd.prog w = .ok true w := fun d => by
    simp [Op.equalIn, run_underlying Tryd.underlying87]
  simp only [binOp]
  simp [Op.equal, Op.maxDepth, h 9999]
/-- Two links held against each other. -/
theorem lnk_neq {w : World} {p : Nat} {S : PS} {g : SG} (h : SkAt w p S g) {a b : Option Nat} (ha : ∀ j, a = some j → j < S.ops.length) (hb : ∀ j, b = some j → j < S.ops.length) : (binOp .neq TQ (lnk g a) (lnk g b)).run Tryd.prog w = .ok (.bool (!decide (a = b))) w := by
  cases a with
  | none =>
    cases b with
    | none => exact node_neq_nils w
    | some y => exact node_neq_nil w _
  | some x =>
    cases b with
    | none => exact node_neq_nil2 w _
    | some y =>
      by_cases e : x = y
      · subst e
        simpa [lnk] using node_neq w _ _ true (run_sameAddr_same (P := Tryd.prog) (w := w) ⟨g.n x, 0, none⟩)
      · obtain ⟨a1, b1⟩ := h.nodeBox (ha x rfl)
        obtain ⟨a2, b2⟩ := h.nodeBox (hb y rfl)
        have hne : (⟨g.n x, 0, none⟩ : Addr) ≠ ⟨g.n y, 0, none⟩ := fun e' => e (h.inj (ha x rfl) (hb y rfl) (congrArg Addr.block e'))
        have := node_neq w _ _ false (run_sameAddr_other (P := Tryd.prog) (w := w) hne b1 b2)
        simpa [lnk, e] using this
end Go.Proofs.YtnggajconglfcaaDoor
