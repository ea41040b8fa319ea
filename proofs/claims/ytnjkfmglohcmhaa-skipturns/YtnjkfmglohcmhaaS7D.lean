/- Two lists that a law made. -/
import Derived.Test.YtnjkfmglohcmhaaS7L
namespace Go.Proofs.Ytnjkfmglohcmhaa
open Go.RowKit
set_option linter.unusedVariables false
structure D7 (w0 w : World) (p : Nat) (S : PS) (g : SG) (ka : Option Addr) (kc : Nat) (ha : Option Addr) (hc : Nat) (p' : Nat) (S' : PS) (g' : SG) : Prop where
  one : L7 w0 w p S g ka kc ha hc
  two : Own7 w0 w p' S' g'
  apart : ∀ k, Foot p g k → ¬ Foot p' g' k
section
variable {w0 w w' : World} {p p' : Nat} {S S' T : PS} {g g' : SG} {ka ha : Option Addr} {kc hc : Nat}
theorem D7.below (h : D7 w0 w p S g ka kc ha hc p' S' g') (hb : Below w.heap.size w w') : D7 w0 w' p S g ka kc ha hc p' S' g' := ⟨h.one.below hb, h.two.below hb, h.apart⟩
theorem D7.step1 (h : D7 w0 w p S g ka kc ha hc p' S' g') (hs : SkAt w' p T g) (hc' : Chg (Foot p g) w w') (hg : Goes S T) : D7 w0 w' p T g ka kc ha hc p' S' g' :=
  ⟨h.one.step hs hc' hg, ⟨h.two.at'.chg hc' h.apart, (h.one.own.step hs hc').base, h.two.mine⟩, h.apart⟩
theorem D7.step2 (h : D7 w0 w p S g ka kc ha hc p' S' g') (hs : SkAt w' p' T g') (hc' : Chg (Foot p' g') w w') : D7 w0 w' p S g ka kc ha hc p' T g' :=
  have h2 := h.two.step hs hc'
  ⟨⟨⟨h.one.own.at'.chg hc' (fun k hk hf => h.apart k hf hk), h2.base, h.one.own.mine⟩, h.one.keys.chg hc' (fun k hk => h.one.keys.off h.two.at' hk), h.one.hs.chg hc' (fun k hk => h.one.hs.off h.two.at' hk)⟩, h2, h.apart⟩
end
theorem PS.Inv.full {S : PS} (h : S.Inv) (ha : S.allDone) : (S.lev 0).length = S.ops.length := by
  refine Nat.le_antisymm (nodup_count _ _ (h.nodup (by omega)) (fun x hx => h.lt (by omega) hx)) ?_
  have := List.Nodup.length_le_of_subset (List.nodup_range (n := S.ops.length)) (l₂ := S.lev 0) (fun x hx => by
    have hx' := List.mem_range.1 hx
    rw [h.mem_done ha (by omega)]
    refine ⟨hx', ?_⟩
    rw [← PS.height_of_hs hx']
    have := (h.ok x hx').high
    omega)
  simpa using this
theorem PS.Inv.hsIn {S : PS} (h : S.Inv) {i : Nat} (hi : i < S.ops.length) : 1 ≤ S.hs.getD i 0 ∧ S.hs.getD i 0 ≤ 8 := by
  rw [← PS.height_of_hs hi]
  exact (h.ok i hi).high
theorem hsI_at {S : PS} {i : Nat} : (hsI S).getD i 0 = ((S.hs.getD i 0 : Nat) : Int) := by
  unfold hsI
  by_cases h : i < S.hs.length
  · simp [List.getD, h]
  · simp [List.getD, h]
theorem most_wrap {h n : Nat} (hh : h ≤ 8) (hn : n ≤ 1000) : wrap64 (wrap64 ((h : Int) * ((n : Int) + 16)) + 16) = ((h * (n + 16) + 16 : Nat) : Int) := by
  have h1 : h * (n + 16) ≤ 8 * (n + 16) := Nat.mul_le_mul_right _ hh
  have e : (h : Int) * ((n : Int) + 16) = ((h * (n + 16) : Nat) : Int) := by simp
  rw [e]
  generalize h * (n + 16) = q at h1
  unfold wrap64
  omega
theorem most_le {h n : Nat} (hh : h ≤ 8) (hn : n ≤ 1000) : h * (n + 16) + 16 ≤ 1000000 := by
  have h1 : h * (n + 16) ≤ 8 * (n + 16) := Nat.mul_le_mul_right _ hh
  generalize h * (n + 16) = q at h1
  omega
end Go.Proofs.Ytnjkfmglohcmhaa
