/- What the walks of the statements ask of merge's own iterator. -/
import Derived.Test.YtfijibengmgegaaM16Seek
namespace Go.Proofs.Ytfijibengmgegaa
open Go.RowKit
set_option linter.unusedVariables false
set_option linter.unusedSimpArgs false
/-- A world, the blocks of the iterator, where it lies, its lists, where it is. -/
abbrev MgRel := World → (Nat → Prop) → Nat → List (List KV) → Option Nat → Prop
/-- Behind a call of a method. -/
def MgPost (D : MgRel) (R : Nat → Prop) (p : Nat) (L : List (List KV)) (o : Option Nat) (w w' : World) : Prop := ∃ R' : Nat → Prop, D w' R' p L o ∧ (∀ k, R' k → R k ∨ w.heap.size ≤ k) ∧ Chg R w w'
def FewL (L : List (List KV)) : Prop := L.length ≤ 1000 ∧ (allL L).length ≤ 2932031007317
abbrev nilIt : Value := .pointer none
abbrev kvV (e : KV) : Value := .agg (kvc e).toArray
structure MgOk (D : MgRel) : Prop where
  kept : ∀ {W W' : World} {R : Nat → Prop} {p : Nat} {L : List (List KV)} {o : Option Nat}, D W R p L o → W.heap.size ≤ W'.heap.size → (∀ k, R k → W'.heap[k]? = W.heap[k]?) → D W' R p L o
  lt : ∀ {W : World} {R : Nat → Prop} {p : Nat} {L : List (List KV)} {o : Option Nat}, D W R p L o → ∀ k, R k → k < W.heap.size
  fit : ∀ {W : World} {R : Nat → Prop} {p : Nat} {L : List (List KV)} {o : Option Nat}, D W R p L o → ∀ i, o = some i → i < (allL L).length
  new : ∀ (a : Option Addr) (n c : Nat) (L : List (List KV)) (w : World), LsAt w a n c L → FewL L → Calls Try.prog 11 #[.slice a n c] w fun e w' => Below w.heap.size w w' ∧ ((RiseL L ∧ ∃ p R, e = .returned (.tuple #[at_ p, .int .i64 0]) ∧ D w' R p L none ∧ ∀ k, R k → w.heap.size ≤ k) ∨ (¬ RiseL L ∧ e = .returned (.tuple #[nilIt, .int .i64 160])))
  first : ∀ {w : World} {R : Nat → Prop} {p : Nat} {L : List (List KV)} {o : Option Nat}, D w R p L o → Calls Try.prog 17 #[at_ p] w fun e w' => e = .returned (.tuple #[]) ∧ MgPost D R p L (goP (allL L) 1 kvZ.1 o) w w'
  last : ∀ {w : World} {R : Nat → Prop} {p : Nat} {L : List (List KV)} {o : Option Nat}, D w R p L o → Calls Try.prog 21 #[at_ p] w fun e w' => e = .returned (.tuple #[]) ∧ MgPost D R p L (goP (allL L) 2 kvZ.1 o) w w'
  seek : ∀ {w : World} {R : Nat → Prop} {p : Nat} {L : List (List KV)} {o : Option Nat} (k : IK), D w R p L o → Calls Try.prog 22 #[at_ p, keyV k] w fun e w' => e = .returned (.tuple #[]) ∧ MgPost D R p L (goP (allL L) 3 k o) w w'
  next : ∀ {w : World} {R : Nat → Prop} {p : Nat} {L : List (List KV)} {o : Option Nat}, D w R p L o → Calls Try.prog 19 #[at_ p] w fun e w' => e = .returned (.tuple #[]) ∧ MgPost D R p L (goP (allL L) 4 kvZ.1 o) w w'
  prev : ∀ {w : World} {R : Nat → Prop} {p : Nat} {L : List (List KV)} {o : Option Nat}, D w R p L o → Calls Try.prog 18 #[at_ p] w fun e w' => e = .returned (.tuple #[]) ∧ MgPost D R p L (goP (allL L) 5 kvZ.1 o) w w'
  at' : ∀ {w : World} {R : Nat → Prop} {p : Nat} {L : List (List KV)} {o : Option Nat}, D w R p L o → Calls Try.prog 13 #[at_ p] w fun e w' => e = .returned (.tuple #[kvV (told16 (allL L) o).1, .bool (told16 (allL L) o).2]) ∧ MgPost D R p L o w w'
/-- Of no iterator. -/
structure MgNil : Prop where
  first : ∀ w : World, Calls Try.prog 17 #[nilIt] w fun e w' => e = .returned (.tuple #[]) ∧ Below w.heap.size w w'
  last : ∀ w : World, Calls Try.prog 21 #[nilIt] w fun e w' => e = .returned (.tuple #[]) ∧ Below w.heap.size w w'
  seek : ∀ (k : IK) (w : World), Calls Try.prog 22 #[nilIt, keyV k] w fun e w' => e = .returned (.tuple #[]) ∧ Below w.heap.size w w'
  next : ∀ w : World, Calls Try.prog 19 #[nilIt] w fun e w' => e = .returned (.tuple #[]) ∧ Below w.heap.size w w'
  prev : ∀ w : World, Calls Try.prog 18 #[nilIt] w fun e w' => e = .returned (.tuple #[]) ∧ Below w.heap.size w w'
  at' : ∀ w : World, Calls Try.prog 13 #[nilIt] w fun e w' => e = .returned (.tuple #[kvV kvZ, .bool false]) ∧ Below w.heap.size w w'
end Go.Proofs.Ytfijibengmgegaa
/- An iterator and what lies beside it, from call to call. -/
namespace Go.Proofs.Ytfijibengmgegaa
open Go.RowKit
set_option linter.unusedVariables false
set_option linter.unusedSimpArgs false
/-- Since the world Wn, in which it was made: its blocks R, and blocks K that are not its own. -/
structure MgS (D : MgRel) (Wn : World) (M : Nat) (W : World) (R : Nat → Prop) (p : Nat) (L : List (List KV)) (o : Option Nat) (K : Nat → Prop) : Prop where
  low : Below M Wn W
  top : M ≤ W.heap.size
  it : D W R p L o
  ge : ∀ k, R k → M ≤ k
  keep : ∀ k, K k → k < W.heap.size ∧ ¬ R k
section
variable {D : MgRel} {Wn W W' : World} {M : Nat} {R : Nat → Prop} {p : Nat} {L : List (List KV)} {o o' : Option Nat} {K K' : Nat → Prop}
theorem MgS.step (h : MgS D Wn M W R p L o K) (hp : MgPost D R p L o' W W') : ∃ R', MgS D Wn M W' R' p L o' K ∧ (∀ k, K k → W'.heap[k]? = W.heap[k]?) ∧ W.heap.size ≤ W'.heap.size := by
  obtain ⟨R', h1, h2, h3⟩ := hp
  refine ⟨R', ⟨h.low.trans (h3.below h.ge h.top), Nat.le_trans h.top h3.size, h1, fun k hk => ?_, fun k hk => ⟨Nat.lt_of_lt_of_le (h.keep k hk).1 h3.size, fun hr => ?_⟩⟩, fun k hk => h3.block k (h.keep k hk).1 (h.keep k hk).2, h3.size⟩
  · rcases h2 k hk with h4 | h4
    · exact h.ge k h4
    · exact Nat.le_trans h.top h4
  · rcases h2 k hr with h4 | h4
    · exact (h.keep k hk).2 h4
    · have := (h.keep k hk).1
      omega
/-- Behind what only lays new blocks. -/
theorem MgS.below (F : MgOk D) (h : MgS D Wn M W R p L o K) (hb : Below W.heap.size W W') : MgS D Wn M W' R p L o K :=
  ⟨h.low.trans (hb.mono h.top), Nat.le_trans h.top hb.size, F.kept h.it hb.size fun k hk => hb.block k (F.lt h.it k hk), h.ge, fun k hk => ⟨Nat.lt_of_lt_of_le (h.keep k hk).1 hb.size, (h.keep k hk).2⟩⟩
/-- Behind what turns only kept blocks, and lays new ones. -/
theorem MgS.chg (F : MgOk D) (h : MgS D Wn M W R p L o K) {Q : Nat → Prop} (hc : Chg Q W W') (hQ : ∀ k, Q k → K k ∧ M ≤ k) : MgS D Wn M W' R p L o K :=
  ⟨h.low.trans (hc.below (fun k hk => (hQ k hk).2) h.top), Nat.le_trans h.top hc.size, F.kept h.it hc.size fun k hk => hc.block k (F.lt h.it k hk) (fun hq => (h.keep k (hQ k hq).1).2 hk), h.ge, fun k hk => ⟨Nat.lt_of_lt_of_le (h.keep k hk).1 hc.size, (h.keep k hk).2⟩⟩
/-- More that is kept: what was laid since. -/
theorem MgS.more (F : MgOk D) (h : MgS D Wn M W R p L o K) (h' : MgS D Wn M W' R p L o K) (hK : ∀ k, K' k → K k ∨ (W.heap.size ≤ k ∧ k < W'.heap.size)) : MgS D Wn M W' R p L o K' :=
  ⟨h'.low, h'.top, h'.it, h'.ge, fun k hk => by
    rcases hK k hk with h1 | ⟨h1, h2⟩
    · exact h'.keep k h1
    · exact ⟨h2, fun hr => by have := F.lt h.it k hr; omega⟩⟩
theorem MgS.less (h : MgS D Wn M W R p L o K) (hK : ∀ k, K' k → K k) : MgS D Wn M W R p L o K' := ⟨h.low, h.top, h.it, h.ge, fun k hk => h.keep k (hK k hk)⟩
/-- A new block. -/
theorem MgS.alloc (F : MgOk D) (h : MgS D Wn M W R p L o K) (b : Obj) : MgS D Wn M (W.alloc b) R p L o fun k => K k ∨ k = W.heap.size :=
  h.more F (h.below F ((Below.refl _ _).alloc (Nat.le_refl _) _)) fun k hk => by
    rcases hk with hk | rfl
    · exact .inl hk
    · exact .inr ⟨Nat.le_refl _, by simp⟩
theorem MgS.drew (F : MgOk D) (h : MgS D Wn M W R p L o K) : MgS D Wn M W.drew R p L o K := h.below F (Below.refl _ _).drew
theorem MgS.drewN (F : MgOk D) (h : MgS D Wn M W R p L o K) (d : Nat) : MgS D Wn M (W.drewN d) R p L o K := h.below F (Below.drewM (Below.refl _ _) d)
theorem MgS.made (h : D W' R p L o) (hb : Below M Wn W') (hM : M ≤ W'.heap.size) (hR : ∀ k, R k → M ≤ k) : MgS D Wn M W' R p L o fun _ => False := ⟨hb, hM, h, hR, fun _ hk => hk.elim⟩
end
end Go.Proofs.Ytfijibengmgegaa
