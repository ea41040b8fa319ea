/- A list that a call made itself; what levels are when all is done. -/
import Derived.Test.YtnjkfmglohcmhaaS7Begin
import Derived.Test.YtnjkfmglohcmhaaS7Whole
import Derived.Test.YtnjkfmglohcmhaaS7New
import Derived.Test.YtnjkfmglohcmhaaS7Keys
import Derived.Test.YtnjkfmglohcmhaaS7Seek
namespace Go.Proofs.Ytnjkfmglohcmhaa
open Go.RowKit
set_option linter.unusedVariables false
structure Own7 (w0 w : World) (p : Nat) (S : PS) (g : SG) : Prop where
  at' : SkAt w p S g
  base : Below w0.heap.size w0 w
  mine : ∀ k, Foot p g k → w0.heap.size ≤ k
section
variable {w0 w w' : World} {p : Nat} {S S' : PS} {g g' : SG}
theorem Own7.chg (h : Own7 w0 w p S g) (hs : SkAt w' p S' g') (hc : Chg (Foot p g) w w') (hf : ∀ k, Foot p g' k → Foot p g k ∨ w.heap.size ≤ k) : Own7 w0 w' p S' g' :=
  ⟨hs, h.base.trans (hc.below h.mine h.base.size), fun k hk => by
    rcases hf k hk with h1 | h1
    · exact h.mine k h1
    · exact Nat.le_trans h.base.size h1⟩
theorem Own7.step (h : Own7 w0 w p S g) (hs : SkAt w' p S' g) (hc : Chg (Foot p g) w w') : Own7 w0 w' p S' g := h.chg hs hc fun _ hk => .inl hk
theorem Own7.below (h : Own7 w0 w p S g) (hb : Below w.heap.size w w') : Own7 w0 w' p S g := ⟨h.at'.below hb, h.base.trans (hb.mono h.base.size), h.mine⟩
end
theorem sorted_ext {r : Nat → Nat → Prop} (asym : ∀ x y, r x y → r y x → False) : ∀ {l k : List Nat}, l.Pairwise r → k.Pairwise r → (∀ x, x ∈ l ↔ x ∈ k) → l = k
  | [], [], _, _, _ => rfl
  | [], y :: s, _, _, h => absurd ((h y).2 (by simp)) (by simp)
  | x :: r', [], _, _, h => absurd ((h x).1 (by simp)) (by simp)
  | x :: r', y :: s, hl, hk, h => by
    have hl' := List.pairwise_cons.1 hl
    have hk' := List.pairwise_cons.1 hk
    have hxy : x = y := by
      rcases List.mem_cons.1 ((h x).1 (by simp)) with e | e
      · exact e
      · rcases List.mem_cons.1 ((h y).2 (by simp)) with e2 | e2
        · exact e2.symm
        · exact (asym x y (hl'.1 y e2) (hk'.1 x e)).elim
    subst hxy
    have hnx : x ∉ r' := fun e => asym x x (hl'.1 x e) (hl'.1 x e)
    have hns : x ∉ s := fun e => asym x x (hk'.1 x e) (hk'.1 x e)
    rw [sorted_ext asym hl'.2 hk'.2 fun z => ⟨fun hz => by
      rcases List.mem_cons.1 ((h z).1 (List.mem_cons_of_mem _ hz)) with e | e
      · exact absurd (e ▸ hz) hnx
      · exact e, fun hz => by
      rcases List.mem_cons.1 ((h z).2 (List.mem_cons_of_mem _ hz)) with e | e
      · exact absurd (e ▸ hz) hns
      · exact e⟩]
section
variable {S T : PS}
theorem PS.key_of_keys {i : Nat} (hi : i < S.ops.length) : S.key i = S.keys.getD i ⟨#[]⟩ := by simp [PS.key, PS.op, PS.keys, List.getD, hi]
theorem PS.height_of_hs {i : Nat} (hi : i < S.ops.length) : (S.op i).height = S.hs.getD i 0 := by simp [PS.op, PS.hs, List.getD, hi]
def PS.allDone (S : PS) : Prop := ∀ i, i < S.ops.length → S.done i = true
theorem PS.Inv.mem_done (h : S.Inv) (ha : S.allDone) {l : Nat} (hl : l < 8) (i : Nat) : i ∈ S.lev l ↔ i < S.ops.length ∧ l < S.hs.getD i 0 := by
  rw [h.mem l hl i]
  constructor
  · rintro ⟨h1, h2⟩
    refine ⟨h1, ?_⟩
    rw [← PS.height_of_hs h1]
    unfold PO.upto at h2
    rw [if_pos (PS.done_true (ha i h1))] at h2
    exact h2
  · rintro ⟨h1, h2⟩
    refine ⟨h1, ?_⟩
    unfold PO.upto
    rw [if_pos (PS.done_true (ha i h1)), PS.height_of_hs h1]
    exact h2
theorem kl_asym2 {a b : ByteArray} (h : kl a b = true) (k : kl b a = true) : False := by
  rw [kl_asym h] at k
  cases k
/-- When all is done, levels are told by keys and heights alone. -/
theorem PS.Inv.same_levels (h : S.Inv) (k : T.Inv) (hS : S.allDone) (hT : T.allDone) (hk : S.keys = T.keys) (hh : S.hs = T.hs) {l : Nat} (hl : l < 8) : S.lev l = T.lev l := by
  have hn : S.ops.length = T.ops.length := by have := congrArg List.length hk; simpa [PS.keys] using this
  refine sorted_ext (r := fun x y => kl (S.key x) (S.key y) = true) (fun x y a b => kl_asym2 a b) (h.sorted l hl) ?_ fun x => ?_
  · refine (k.sorted l hl).imp_of_mem fun {x y} hx hy hxy => ?_
    have hx' := k.lt hl hx
    have hy' := k.lt hl hy
    rw [PS.key_of_keys (by omega), PS.key_of_keys (by omega), hk, ← PS.key_of_keys hx', ← PS.key_of_keys hy']
    exact hxy
  · rw [h.mem_done hS hl, k.mem_done hT hl, hn, hh]
end
end Go.Proofs.Ytnjkfmglohcmhaa
