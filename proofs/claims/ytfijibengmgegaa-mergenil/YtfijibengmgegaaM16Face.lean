/- What the walks of the statements ask of merge's own iterator. -/
import Derived.Test.YtfijibengmgegaaM16Seek
namespace Go.Proofs.Ytfijibengmgegaa
open Go.RowKit
set_option linter.unusedVariables false
set_option linter.unusedSimpArgs false
/-- A world, the blocks of the iterator, where it lies, its lists, where it is. -/
abbrev MgRel := World → (Nat → Prop) → Nat → List (List KV) → Option Nat → Prop
/-- Behind a call of a method. -/
def MgPost (D : MgRel) (R : Nat → Prop) (p : Nat) (L : List (List KV)) (o : Option Nat) (w w' : World) : Prop := ∃ R' : Nat → Prop, D w' R' p L o ∧ (∀ k, R' k → R k ∨ w.heap.size ≤ k) ∧ Chg R w w'
def FewL (L : List (List KV)) : Prop := L.length ≤ 1000 ∧ (allL L).length ≤ 2932031007317
abbrev nilIt : Value := .pointer none
abbrev kvV (e : KV) : Value := .agg (kvc e).toArray
structure MgOk (D : MgRel) : Prop where
  kept : ∀ {W W' : World} {R : Nat → Prop} {p : Nat} {L : List (List KV)} {o : Option Nat}, D W R p L o → W.heap.size ≤ W'.heap.size → (∀ k, R k → W'.heap[k]? = W.heap[k]?) → D W' R p L o
  lt : ∀ {W : World} {R : Nat → Prop} {p : Nat} {L : List (List KV)} {o : Option Nat}, D W R p L o → ∀ k, R k → k < W.heap.size
  fit : ∀ {W : World} {R : Nat → Prop} {p : Nat} {L : List (List KV)} {o : Option Nat}, D W R p L o → ∀ i, o = some i → i < (allL L).length
  new : ∀ (a : Option Addr) (n c : Nat) (L : List (List KV)) (w : World), LsAt w a n c L → FewL L → Calls Try.prog 11 #[.slice a n c] w fun e w' => Below w.heap.size w w' ∧ ((RiseL L ∧ ∃ p R, e = .returned (.tuple #[at_ p, .int .i64 0]) ∧ D w' R p L none ∧ ∀ k, R k → w.heap.size ≤ k) ∨ (¬ RiseL L ∧ e = .returned (.tuple #[nilIt, .int .i64 160])))
  first : ∀ {w : World} {R : Nat → Prop} {p : Nat} {L : List (List KV)} {o : Option Nat}, D w R p L o → Calls Try.prog 17 #[at_ p] w fun e w' => e = .returned (.tuple #[]) ∧ MgPost D R p L (goP (allL L) 1 kvZ.1 o) w w'
  last : ∀ {w : World} {R : Nat → Prop} {p : Nat} {L : List (List KV)} {o : Option Nat}, D w R p L o → Calls Try.prog 21 #[at_ p] w fun e w' => e = .returned (.tuple #[]) ∧ MgPost D R p L (goP (allL L) 2 kvZ.1 o) w w'
  seek : ∀ {w : World} {R : Nat → Prop} {p : Nat} {L : List (List KV)} {o : Option Nat} (k : IK), D w R p L o → Calls Try.prog 22 #[at_ p, keyV k] w fun e w' => e = .returned (.tuple #[]) ∧ MgPost D R p L (goP (allL L) 3 k o) w w'
  next : ∀ {w : World} {R : Nat → Prop} {p : Nat} {L : List (List KV)} {o : Option Nat}, D w R p L o → Calls Try.prog 19 #[at_ p] w fun e w' => e = .returned (.tuple #[]) ∧ MgPost D R p L (goP (allL L) 4 kvZ.1 o) w w'
  prev : ∀ {w : World} {R : Nat → Prop} {p : Nat} {L : List (List KV)} {o : Option Nat}, D w R p L o → Calls Try.prog 18 #[at_ p] w fun e w' => e = .returned (.tuple #[]) ∧ MgPost D R p L (goP (allL L) 5 kvZ.1 o) w w'
  at' : ∀ {w : World} {R : Nat → Prop} {p : Nat} {L : List (List KV)} {o : Option Nat}, D w R p L o → Calls Try.prog 13 #[at_ p] w fun e w' => e = .returned (.tuple #[kvV (told16 (allL L) o).1, .bool (told16 (allL L) o).2]) ∧ MgPost D R p L o w w'
/-- Of no iterator. -/
structure MgNil : Prop where
  first : ∀ w : World, Calls Try.prog 17 #[nilIt] w fun e w' => e = .returned (.tuple #[]) ∧ Below w.heap.size w w'
  last : ∀ w : World, Calls Try.prog 21 #[nilIt] w fun e w' => e = .returned (.tuple #[]) ∧ Below w.heap.size w w'
  seek : ∀ (k : IK) (w : World), Calls Try.prog 22 #[nilIt, keyV k] w fun e w' => e = .returned (.tuple #[]) ∧ Below w.heap.size w w'
  next : ∀ w : World, Calls Try.prog 19 #[nilIt] w fun e w' => e = .returned (.tuple #[]) ∧ Below w.heap.size w w'
  prev : ∀ w : World, Calls Try.prog 18 #[nilIt] w fun e w' => e = .returned (.tuple #[]) ∧ Below w.heap.size w w'
  at' : ∀ w : World, Calls Try.prog 13 #[nilIt] w fun e w' => e = .returned (.tuple #[kvV kvZ, .bool false]) ∧ Below w.heap.size w w'
end Go.Proofs.Ytfijibengmgegaa
