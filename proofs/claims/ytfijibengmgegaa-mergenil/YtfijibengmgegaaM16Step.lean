/- An iterator and what lies beside it, from call to call. -/
import Derived.Test.YtfijibengmgegaaM16Face
namespace Go.Proofs.Ytfijibengmgegaa
open Go.RowKit
set_option linter.unusedVariables false
set_option linter.unusedSimpArgs false
/-- Since the world Wn, in which it was made: its blocks R, and blocks K that are not its own. -/
structure MgS (D : MgRel) (Wn : World) (M : Nat) (W : World) (R : Nat → Prop) (p : Nat) (L : List (List KV)) (o : Option Nat) (K : Nat → Prop) : Prop where
  low : Below M Wn W
  top : M ≤ W.heap.size
  it : D W R p L o
  ge : ∀ k, R k → M ≤ k
  keep : ∀ k, K k → k < W.heap.size ∧ ¬ R k
section
variable {D : MgRel} {Wn W W' : World} {M : Nat} {R : Nat → Prop} {p : Nat} {L : List (List KV)} {o o' : Option Nat} {K K' : Nat → Prop}
theorem MgS.step (h : MgS D Wn M W R p L o K) (hp : MgPost D R p L o' W W') : ∃ R', MgS D Wn M W' R' p L o' K ∧ (∀ k, K k → W'.heap[k]? = W.heap[k]?) ∧ W.heap.size ≤ W'.heap.size := by
  obtain ⟨R', h1, h2, h3⟩ := hp
  refine ⟨R', ⟨h.low.trans (h3.below h.ge h.top), Nat.le_trans h.top h3.size, h1, fun k hk => ?_, fun k hk => ⟨Nat.lt_of_lt_of_le (h.keep k hk).1 h3.size, fun hr => ?_⟩⟩, fun k hk => h3.block k (h.keep k hk).1 (h.keep k hk).2, h3.size⟩
  · rcases h2 k hk with h4 | h4
    · exact h.ge k h4
    · exact Nat.le_trans h.top h4
  · rcases h2 k hr with h4 | h4
    · exact (h.keep k hk).2 h4
    · have := (h.keep k hk).1
      omega
/-- Behind what only lays new blocks. -/
theorem MgS.below (F : MgOk D) (h : MgS D Wn M W R p L o K) (hb : Below W.heap.size W W') : MgS D Wn M W' R p L o K :=
  ⟨h.low.trans (hb.mono h.top), Nat.le_trans h.top hb.size, F.kept h.it hb.size fun k hk => hb.block k (F.lt h.it k hk), h.ge, fun k hk => ⟨Nat.lt_of_lt_of_le (h.keep k hk).1 hb.size, (h.keep k hk).2⟩⟩
/-- Behind what turns only kept blocks, and lays new ones. -/
theorem MgS.chg (F : MgOk D) (h : MgS D Wn M W R p L o K) {Q : Nat → Prop} (hc : Chg Q W W') (hQ : ∀ k, Q k → K k ∧ M ≤ k) : MgS D Wn M W' R p L o K :=
  ⟨h.low.trans (hc.below (fun k hk => (hQ k hk).2) h.top), Nat.le_trans h.top hc.size, F.kept h.it hc.size fun k hk => hc.block k (F.lt h.it k hk) (fun hq => (h.keep k (hQ k hq).1).2 hk), h.ge, fun k hk => ⟨Nat.lt_of_lt_of_le (h.keep k hk).1 hc.size, (h.keep k hk).2⟩⟩
/-- More that is kept: what was laid since. -/
theorem MgS.more (F : MgOk D) (h : MgS D Wn M W R p L o K) (h' : MgS D Wn M W' R p L o K) (hK : ∀ k, K' k → K k ∨ (W.heap.size ≤ k ∧ k < W'.heap.size)) : MgS D Wn M W' R p L o K' :=
  ⟨h'.low, h'.top, h'.it, h'.ge, fun k hk => by
    rcases hK k hk with h1 | ⟨h1, h2⟩
    · exact h'.keep k h1
    · exact ⟨h2, fun hr => by have := F.lt h.it k hr; omega⟩⟩
theorem MgS.less (h : MgS D Wn M W R p L o K) (hK : ∀ k, K' k → K k) : MgS D Wn M W R p L o K' := ⟨h.low, h.top, h.it, h.ge, fun k hk => h.keep k (hK k hk)⟩
/-- A new block. -/
theorem MgS.alloc (F : MgOk D) (h : MgS D Wn M W R p L o K) (b : Obj) : MgS D Wn M (W.alloc b) R p L o fun k => K k ∨ k = W.heap.size :=
  h.more F (h.below F ((Below.refl _ _).alloc (Nat.le_refl _) _)) fun k hk => by
    rcases hk with hk | rfl
    · exact .inl hk
    · exact .inr ⟨Nat.le_refl _, by simp⟩
theorem MgS.drew (F : MgOk D) (h : MgS D Wn M W R p L o K) : MgS D Wn M W.drew R p L o K := h.below F (Below.refl _ _).drew
theorem MgS.drewN (F : MgOk D) (h : MgS D Wn M W R p L o K) (d : Nat) : MgS D Wn M (W.drewN d) R p L o K := h.below F (Below.drewM (Below.refl _ _) d)
theorem MgS.made (h : D W' R p L o) (hb : Below M Wn W') (hM : M ≤ W'.heap.size) (hR : ∀ k, R k → M ≤ k) : MgS D Wn M W' R p L o fun _ => False := ⟨hb, hM, h, hR, fun _ hk => hk.elim⟩
end
end Go.Proofs.Ytfijibengmgegaa
