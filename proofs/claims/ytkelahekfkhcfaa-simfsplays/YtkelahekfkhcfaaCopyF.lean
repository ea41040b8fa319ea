/- The contract of a file's copy; a file that a copy takes up. -/
import Derived.Test.YtkelahekfkhcfaaCrashStep
namespace Go.Proofs.Ytkelahekfkhcfaa
open Go.RowKit Go.Maps
set_option maxRecDepth 100000 in
set_option maxHeartbeats 1000000 in
theorem copyF_any (w : World) (f : FG) (x : PFile) (h : FileAt w f x) (hb : x.b.length ≤ 1048576) :
    Calls Try.prog 42 #[at_ f.blk] w fun e w' => e = .returned (at_ (w.heap.size + 1)) ∧ FileAt w' ⟨w.heap.size + 1, some ⟨w.heap.size, 0, none⟩, x.b.length⟩ x ∧ Below w.heap.size w w' := by
  have c0 := h.box.cell 0
  have c1 := h.box.cell 1
  simp at c0 c1
  have hlt := h.box.lt
  have hcp := copied_any w.drew f.a x.b.length f.cap x.b h.own.bs.drew (by omega)
  obtain ⟨L, HL⟩ : ∃ L, Hid (L = x.b.length) := ⟨_, rfl⟩
  obtain ⟨T, HT⟩ : ∃ T, Hid (T = x.last) := ⟨_, rfl⟩
  rw [← HL.out] at c0 hcp
  rw [← HT.out] at c1
  go_enter Try.func42, Try.ntmps42
  go_wp2_with fail
  go_region_with (go_at_call 54; refine hcp.mono ?_; rintro e w2 ⟨rfl, ho2, hb2, hs2⟩; have d1 : w2.cell? ⟨f.blk, 1, none⟩ = some (.int .i64 (T : Int)) := (World.cell?_of_block (hb2.block f.blk hlt)).trans c1)
  all_goals
    go_wp2_with fail
    go_returns
    have e1 : w2.heap.size = w.heap.size + 1 := hs2
    have hb3 : Below w.heap.size w w2 := ⟨hb2.os, hb2.tape, hb2.output, hb2.size, hb2.block⟩
    refine ⟨rfl, ?_, hb3.alloc (by rw [e1]; omega) _⟩
    refine ⟨?_, ?_⟩
    · have := Box.new w2 79 #[.slice (some ⟨w.heap.size, 0, none⟩) L L, .int .i64 (T : Int)]
      rw [e1] at this
      rw [← HL.out, ← HT.out]
      exact this
    · rw [← HL.out]
      exact (ho2.mono (Nat.zero_le _)).alloc _
theorem heap_setCell_congr {w w' : World} {a : Addr} {x : Value} (k : Nat) (h : w'.heap[k]? = w.heap[k]?) : (w'.setCell a x).heap[k]? = (w.setCell a x).heap[k]? := by
  by_cases e : k = a.block
  · subst e
    simp only [World.setCell, Array.getElem?_modify, h]
  · rw [Below.heap_setCell _ _ _ _ e, Below.heap_setCell _ _ _ _ e, h]
/-- A file that was nobody's is taken up. -/
def Gh.adopt (g : Gh) (k : Nat) (f : FG) : Gh := { g with fl := fun j => if j = k then f else g.fl j, live := fun j => g.live j ∨ j = k }
theorem Gh.adopt_other (g : Gh) (k : Nat) (f : FG) {j : Nat} (h : j ≠ k) : (g.adopt k f).fl j = g.fl j := by simp [Gh.adopt, h]
theorem Gh.adopt_same (g : Gh) (k : Nat) (f : FG) : (g.adopt k f).fl k = f := by simp [Gh.adopt]
theorem FsAt.adopt {w w' : World} {p : Nat} {S : PFs} {g : Gh} {k : Nat} {f : FG} (h : FsAt w p S g) (hk : ¬ g.live k) (hb : Below w.heap.size w w') (hf : FileAt w' f (S.fileOf k)) (h1 : w.heap.size ≤ f.blk) (h2 : ∀ b, f.row = some b → w.heap.size ≤ b) : FsAt w' p S (g.adopt k f) := by
  have hold : ∀ i, i < w.heap.size → w'.heap[i]? = w.heap[i]? := fun i hi => hb.block i hi
  have hbn : ∀ j, g.live j → (g.adopt k f).blk j = g.blk j := fun j hj => by
    unfold Gh.blk
    rw [g.adopt_other k f (fun e => hk (by rw [← e]; exact hj))]
  refine ⟨Box.kept h.fs (hold p (tag_lt h.tagP)), ?_, ?_, h.apart, ?_, ?_, ?_, fun x hx => .inl (h.liveN x hx), fun x hx => .inl (h.liveL x hx), fun c hc e => .inl (h.liveS c hc e)⟩
  · have := h.nm.kept fun m e => hold m (tag_lt (h.tagN e))
    unfold NmAt at this ⊢
    rw [mapOf_congr fun x hx => hbn x.file (h.liveN x hx)]
    exact this
  · have := h.lm.kept fun m e => hold m (tag_lt (h.tagL e))
    unfold NmAt at this ⊢
    rw [mapOf_congr fun x hx => hbn x.file (h.liveL x hx)]
    exact this
  · rw [cellsC_congr fun c hc e => hbn c.file (h.liveS c hc e)]
    exact row_same h.sn fun b e => hold b (tag_lt (row_tag h.sn e))
  · intro j hj
    by_cases e : j = k
    · subst e
      rw [g.adopt_same]
      exact hf
    · have hj' : g.live j := hj.resolve_right e
      rw [g.adopt_other k f e]
      exact (h.files j hj').kept (hold _ (tag_lt (h.tagF hj'))) fun b e => hold b (tag_lt (h.tagR hj' e))
  · intro i j hi hj hij
    by_cases ei : i = k
    · subst ei
      have hj' : g.live j := hj.resolve_right (Ne.symm hij)
      rw [g.adopt_same, g.adopt_other i f (Ne.symm hij)]
      exact ⟨fun e => absurd (tag_lt (h.tagF hj')) (by rw [← e]; omega), fun b e1 e2 => absurd (tag_lt (h.tagR hj' e2)) (by have := h2 b e1; omega)⟩
    · have hi' : g.live i := hi.resolve_right ei
      rw [g.adopt_other k f ei]
      by_cases ej : j = k
      · subst ej
        rw [g.adopt_same]
        exact ⟨fun e => absurd (tag_lt (h.tagF hi')) (by rw [e]; omega), fun b e1 e2 => absurd (tag_lt (h.tagR hi' e1)) (by have := h2 b e2; omega)⟩
      · rw [g.adopt_other k f ej]
        exact h.inj i j hi' (hj.resolve_right ej) hij
theorem Inner.adopt {g : Gh} {k i : Nat} {f : FG} (hi : Inner (g.adopt k f) i) : Inner g i ∨ i = f.blk ∨ f.row = some i := by
  rcases hi with e | e | e | ⟨j, hj, e⟩
  · exact .inl (.inl e)
  · exact .inl (.inr (.inl e))
  · exact .inl (.inr (.inr (.inl e)))
  · by_cases ej : j = k
    · subst ej
      rw [g.adopt_same] at e
      exact .inr e
    · rw [g.adopt_other k f ej] at e
      exact .inl (.inr (.inr (.inr ⟨j, hj.resolve_right ej, e⟩)))
end Go.Proofs.Ytkelahekfkhcfaa
