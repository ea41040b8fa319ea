/- A list that a law made, with its keys and heights. -/
import Derived.Test.YtnjkfmglohcmhaaS7Begun
import Derived.Test.YtnjkfmglohcmhaaS7Awake
namespace Go.Proofs.Ytnjkfmglohcmhaa
open Go.RowKit
set_option linter.unusedVariables false
structure L7 (w0 w : World) (p : Nat) (S : PS) (g : SG) (ka : Option Addr) (kc : Nat) (ha : Option Addr) (hc : Nat) : Prop where
  own : Own7 w0 w p S g
  keys : OwnS w w0.heap.size ka S.ops.length kc S.keys
  hs : OwnN w w0.heap.size ha S.ops.length hc (hsI S)
section
variable {w0 w1 w w' : World} {p : Nat} {S S' : PS} {g g' : SG} {ka ha : Option Addr} {kc hc : Nat}
theorem OwnN.less {B B' : Nat} {a : Option Addr} {n c : Nat} {l : List Int} (h : OwnN w B a n c l) (hB : B' ≤ B) : OwnN w B' a n c l := by
  refine ⟨h.size, ⟨h.row.1, ?_⟩, h.wf⟩
  rcases h.row.2 with hn | ⟨g, c, cur, hv, hb, rest⟩
  · exact .inl hn
  · exact .inr ⟨g, c, cur, hv, Nat.le_trans hB hb, rest⟩
theorem L7.of (h : Own7 w0 w1 p (PS.new 1000) g) (hb : Begun w1 w p S g' ka kc ha hc) (hc' : Chg (Foot p g) w1 w) (hf : ∀ k, Foot p g' k → Foot p g k ∨ w1.heap.size ≤ k) : L7 w0 w p S g' ka kc ha hc :=
  ⟨h.chg hb.at' hc' hf, hb.keys.less h.base.size, hb.hs.less h.base.size⟩
theorem L7.step (h : L7 w0 w p S g ka kc ha hc) (hs : SkAt w' p S' g) (hc' : Chg (Foot p g) w w') (hg : Goes S S') : L7 w0 w' p S' g ka kc ha hc :=
  ⟨h.own.step hs hc', by rw [hg.len, hg.keys]; exact h.keys.chg hc' (fun k hk => h.keys.off h.own.at' hk), by unfold hsI; rw [hg.len, hg.hs]; exact h.hs.chg hc' (fun k hk => h.hs.off h.own.at' hk)⟩
theorem L7.below (h : L7 w0 w p S g ka kc ha hc) (hb : Below w.heap.size w w') : L7 w0 w' p S g ka kc ha hc := ⟨h.own.below hb, h.keys.below hb, h.hs.below hb⟩
theorem L7.off (h : Own7 w0 w p S g) {a : Option Addr} {n c : Nat} {l : List PutV} (hp : PsAt w0 a n c l) (hn : 0 < n) : Off7 p g a := fun b off e hf => by
  obtain ⟨b', off', e', hc⟩ := hp.here hn
  rw [e] at e'
  obtain ⟨rfl, rfl⟩ : b = b' ∧ off = off' := by simpa using e'
  have h1 := World.block_lt_of_cell? w0 _ (hc 0 hn).1
  have h2 := h.mine b hf
  have h3 : b < w0.heap.size := h1
  omega
end
end Go.Proofs.Ytnjkfmglohcmhaa
