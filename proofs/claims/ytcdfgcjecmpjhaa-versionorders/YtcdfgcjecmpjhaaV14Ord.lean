/- Files laid one behind the other, in whatever order: plainly, and two versions in two variables. -/
import Derived.Test.YtcdfgcjecmpjhaaV14Bk
namespace Go.Proofs.Ytcdfgcjecmpjhaa
open Go.RowKit
set_option linter.unusedVariables false
set_option linter.unusedSimpArgs false
/-- A version holds just these files. -/
structure LdA (l : List PF) (v : PV) : Prop where
  ok : VOk v
  wf : WfV v
  mem : ∀ g, g ∈ v.all ↔ g ∈ l
  pw : l.Pairwise Compat
  err : ∀ f ∈ l, f.err = 0
theorem wfV_no : WfV noV := fun n hn f hf => by cases hf
theorem LdA.nil : LdA [] noV := ⟨VOk.none, wfV_no, fun g => by simp [PV.all, noV], List.Pairwise.nil, by simp⟩
theorem LdA.len {l : List PF} {v : PV} (h : LdA l v) : v.all.length = l.length := by
  have h1 := nodup_len (m := l.map PF.num) h.ok.one (fun n hn => by
    obtain ⟨f, hf, rfl⟩ := List.mem_map.1 hn
    exact List.mem_map.2 ⟨f, (h.mem f).1 hf, rfl⟩)
  have h2 : (l.map PF.num).Nodup := by
    unfold List.Nodup
    rw [List.pairwise_map]
    exact h.pw.imp (fun hab e => hab.1 e.symm)
  have h3 := nodup_len (m := v.all.map PF.num) h2 (fun n hn => by
    obtain ⟨f, hf, rfl⟩ := List.mem_map.1 hn
    exact List.mem_map.2 ⟨f, (h.mem f).2 hf, rfl⟩)
  simp only [List.length_map] at h1 h3
  omega
theorem wf_one {f : PF} (h : WfF f) : WfE (oneE f) := fun g hg => by
  obtain rfl := List.mem_singleton.1 hg
  exact h
theorem LdA.snoc {l : List PF} {v u : PV} {f : PF} (h : LdA l v) (he : applyV v (oneE f) = (0, u)) (hf : WfF f) : LdA (l ++ [f]) u := by
  obtain ⟨h1, h2⟩ := one_ok he
  obtain ⟨h3, h4⟩ := (one_iff h.ok f).1 (by rw [he])
  refine ⟨h1, apply_wf he h.wf (wf_one hf), fun g => ?_, ?_, fun g hg => ?_⟩
  · rw [h2 g, h.mem g, List.mem_append, List.mem_singleton, or_comm]
  · rw [List.pairwise_append]
    refine ⟨h.pw, List.pairwise_singleton _ _, fun a ha b hb => ?_⟩
    obtain rfl := List.mem_singleton.1 hb
    exact (h4 a ((h.mem a).2 ha)).symm
  · rcases List.mem_append.1 hg with hg | hg
    · exact h.err g hg
    · obtain rfl := List.mem_singleton.1 hg
      exact h3
theorem LdA.cons {l : List PF} {v : PV} {f : PF} (h : LdA l v) (hp : (f :: l).Pairwise Compat) (hf : f.err = 0) (hw : WfF f) : ∃ u, applyV v (oneE f) = (0, u) ∧ LdA (f :: l) u := by
  have h0 := (one_iff h.ok f).2 ⟨hf, fun g hg => (List.pairwise_cons.1 hp).1 g ((h.mem g).1 hg)⟩
  have he : applyV v (oneE f) = (0, (applyV v (oneE f)).2) := by rw [← h0]
  obtain ⟨h1, h2⟩ := one_ok he
  refine ⟨_, he, h1, apply_wf he h.wf (wf_one hw), fun g => ?_, hp, fun g hg => ?_⟩
  · rw [h2 g, h.mem g, List.mem_cons]
  · rcases List.mem_cons.1 hg with rfl | hg
    · exact hf
    · exact h.err g hg
theorem LdA.whole {l : List PF} {v : PV} (h : LdA l v) (hn : l.length ≤ 100) (hw : ∀ f ∈ l, WfF f) : ∃ u, applyV noV ⟨0, 0, 0, [], l⟩ = (0, u) ∧ LdA l u := by
  obtain ⟨u, hu, h1, h2⟩ := all_ok hn h.err h.pw
  exact ⟨u, hu, h1, apply_wf hu wfV_no hw, h2, h.pw, h.err⟩
theorem LdA.same {l : List PF} {v u : PV} (h : LdA l v) (k : LdA l u) : ∀ n, n < 4 → v n = u n := VOk.ext h.ok k.ok (fun f => by rw [h.mem f, k.mem f])
/-- Two versions in two variables, one behind the other. -/
structure Or (w : World) (p4 : Nat) (va : PV) (sa : SV) (vb : PV) (sb : SV) (V : World) : Prop where
  below : Below w.heap.size w V
  oa : OwnV V (p4 + 2) va sa
  ob : OwnV V (p4 + 2) vb sb
  ba : Box V p4 TVn (vA va sa)
  bb : Box V (p4 + 1) TVn (vA vb sb)
  ge : w.heap.size ≤ p4
theorem Or.later {w V V' : World} {p4 : Nat} {va vb : PV} {sa sb : SV} (h : Or w p4 va sa vb sb V) (hb : Below V.heap.size V V') : Or w p4 va sa vb sb V' :=
  ⟨h.below.trans (hb.mono h.below.size), h.oa.below hb, h.ob.below hb, h.ba.kept (hb.block _ h.ba.lt), h.bb.kept (hb.block _ h.bb.lt), h.ge⟩
theorem Or.setA {w V : World} {p4 : Nat} {va vb u : PV} {sa sb t : SV} (h : Or w p4 va sa vb sb V) (ho : OwnV V (p4 + 2) u t) : Or w p4 u t vb sb ((((V.setCell ⟨p4, 0, none⟩ (.slice (t.a 0) (u 0).length (t.c 0))).setCell ⟨p4, 1, none⟩ (.slice (t.a 1) (u 1).length (t.c 1))).setCell ⟨p4, 2, none⟩ (.slice (t.a 2) (u 2).length (t.c 2))).setCell ⟨p4, 3, none⟩ (.slice (t.a 3) (u 3).length (t.c 3))) := by
  have hc : Chg (fun k => k = p4) V ((((V.setCell ⟨p4, 0, none⟩ (.slice (t.a 0) (u 0).length (t.c 0))).setCell ⟨p4, 1, none⟩ (.slice (t.a 1) (u 1).length (t.c 1))).setCell ⟨p4, 2, none⟩ (.slice (t.a 2) (u 2).length (t.c 2))).setCell ⟨p4, 3, none⟩ (.slice (t.a 3) (u 3).length (t.c 3))) := ((((Chg.refl (fun k => k = p4) V).set (fun _ => rfl) _ _).set (fun _ => rfl) _ _).set (fun _ => rfl) _ _).set (fun _ => rfl) _ _
  have hm : ∀ {v : PV} {s : SV}, OwnV V (p4 + 2) v s → OwnV _ (p4 + 2) v s := fun hv n hn => (hv n hn).kept (fun g hg => hc.block _ (tag_lt ((hv n hn).tag hg)) (fun e => by have := (hv n hn).ge hg; omega))
  exact ⟨h.below.trans (hc.below (fun k hk => by have := h.ge; omega) h.below.size), hm ho, hm h.ob, ((((h.ba.set 0 _).set 1 _).set 2 _).set 3 _).eq rfl, h.bb.kept (hc.block _ h.bb.lt (by omega)), h.ge⟩
theorem Or.setB {w V : World} {p4 : Nat} {va vb u : PV} {sa sb t : SV} (h : Or w p4 va sa vb sb V) (ho : OwnV V (p4 + 2) u t) : Or w p4 va sa u t ((((V.setCell ⟨p4 + 1, 0, none⟩ (.slice (t.a 0) (u 0).length (t.c 0))).setCell ⟨p4 + 1, 1, none⟩ (.slice (t.a 1) (u 1).length (t.c 1))).setCell ⟨p4 + 1, 2, none⟩ (.slice (t.a 2) (u 2).length (t.c 2))).setCell ⟨p4 + 1, 3, none⟩ (.slice (t.a 3) (u 3).length (t.c 3))) := by
  have hc : Chg (fun k => k = p4 + 1) V ((((V.setCell ⟨p4 + 1, 0, none⟩ (.slice (t.a 0) (u 0).length (t.c 0))).setCell ⟨p4 + 1, 1, none⟩ (.slice (t.a 1) (u 1).length (t.c 1))).setCell ⟨p4 + 1, 2, none⟩ (.slice (t.a 2) (u 2).length (t.c 2))).setCell ⟨p4 + 1, 3, none⟩ (.slice (t.a 3) (u 3).length (t.c 3))) := ((((Chg.refl (fun k => k = p4 + 1) V).set (fun _ => rfl) _ _).set (fun _ => rfl) _ _).set (fun _ => rfl) _ _).set (fun _ => rfl) _ _
  have hm : ∀ {v : PV} {s : SV}, OwnV V (p4 + 2) v s → OwnV _ (p4 + 2) v s := fun hv n hn => (hv n hn).kept (fun g hg => hc.block _ (tag_lt ((hv n hn).tag hg)) (fun e => by have := (hv n hn).ge hg; omega))
  exact ⟨h.below.trans (hc.below (fun k hk => by have := h.ge; omega) h.below.size), hm h.oa, hm ho, h.ba.kept (hc.block _ h.ba.lt (by omega)), ((((h.bb.set 0 _).set 1 _).set 2 _).set 3 _).eq rfl, h.ge⟩
theorem Or.new {w V : World} (h : Below w.heap.size w V) : Or w V.heap.size noV sv0 noV sv0 ((V.alloc (.cells #[.slice none 0 0, .slice none 0 0, .slice none 0 0, .slice none 0 0] TVn)).alloc (.cells #[.slice none 0 0, .slice none 0 0, .slice none 0 0, .slice none 0 0] TVn)) := by
  refine ⟨(h.alloc h.size _).alloc (by have := h.size; simp; omega) _, OwnV.none _ _, OwnV.none _ _, (Box.new _ _ _).alloc _, ?_, h.size⟩
  have := Box.new (V.alloc (.cells #[.slice none 0 0, .slice none 0 0, .slice none 0 0, .slice none 0 0] TVn)) TVn #[.slice none 0 0, .slice none 0 0, .slice none 0 0, .slice none 0 0]
  rw [show (V.alloc (.cells #[.slice none 0 0, .slice none 0 0, .slice none 0 0, .slice none 0 0] TVn)).heap.size = V.heap.size + 1 by simp] at this
  exact this
end Go.Proofs.Ytcdfgcjecmpjhaa
