/- The contract of the shelf's put, where nothing is there. -/
import Derived.Test.YtnggajconglfcaaDoorM8Put
namespace Go.Proofs.YtnggajconglfcaaDoor
open Go.RowKit
set_option linter.unusedVariables false
set_option linter.unusedSimpArgs false
section
variable {w w' : World} {la : Option Addr} {lc : Nat} {t : ByteArray} {p : Nat} {v1 v2 v3 : Value}
theorem StAt.lit1 (w : World) (t : ByteArray) : StAt (w.alloc (.cells #[.string t] 9)) (some ⟨w.heap.size, 0, none⟩) 1 1 [t] := ⟨rfl, Nat.le_refl _, by unfold maxLen; omega, fun _ => ⟨w.heap.size, 0, rfl, fun j hj => by
  obtain rfl : j = 0 := by omega
  exact (Box.new w 9 #[.string t]).cell 0⟩⟩
set_option maxRecDepth 100000 in
set_option maxHeartbeats 1000000 in
theorem put_none (h : ShAt w [] la lc) (hb : Box w p TT #[.slice la 0 lc, v1, v2, v3]) (hz : t.size ≤ 9223372036854775807) (hg : Glob w) (hh : Int) :
    Calls Tryd.prog 23 #[at_ p, .string t, .int .i64 hh] w fun e w' => e = .returned (.tuple #[]) ∧ ∃ ls' la' lc', PutIn w w' p v1 v2 v3 [] ls' la la' lc' t := by
  have hp : w.cell? ⟨p, 0, none⟩ = some (.slice la 0 lc) := hb.cell 0
  have HL := listOf_at (StAt.lit1 w t) (by simp) (by omega) (fun b hb => by rw [List.mem_singleton.1 hb]; exact hz) (hg.alloc _)
  have HB : Hid (Box w p TT #[.slice la 0 lc, v1, v2, v3]) := hb
  have hll := h.len_le
  unfold maxLen at hll
  have hpl := hb.lt
  clear h hb
  go_enter Tryd.func23, Tryd.ntmps23
  go_wp2_with fail
  refine HL.mono ?_
  rintro _ w1 ⟨l, rfl, hl⟩
  have hB1 : Below w.heap.size w w1 := ((Below.refl _ _).alloc (Nat.le_refl _) _).trans (hl.base.mono (by simp))
  have bx1 : Box w1 p TT #[.slice la 0 lc, v1, v2, v3] := HB.out.kept (hB1.block p hpl)
  have hp1 : w1.cell? ⟨p, 0, none⟩ = some (.slice la 0 lc) := bx1.cell 0
  have f1 := bx1.soft 0
  have hpl1 := bx1.lt
  have HX : Hid (Listed (w.alloc (.cells #[.string t] 9)) w1 l [t] ∧ Below w.heap.size w w1 ∧ Box w1 p TT #[.slice la 0 lc, v1, v2, v3]) := ⟨hl, hB1, bx1⟩
  clear HL hl hB1 bx1
  go_wp2
  go_returns
  refine ⟨rfl, [l], some ⟨w1.heap.size, 0, none⟩, 1, ?_⟩
  obtain ⟨hl, hB1, bx1⟩ := HX.out
  have ht := hl.t (by simp)
  have hnp : p ≠ w1.heap.size := by omega
  have hlk : ∀ k, l.foot k → ((w1.setCell ⟨p, 0, none⟩ (.slice (some ⟨w1.heap.size, 0, none⟩) 1 1)).alloc (.cells #[at_ l.p] TLp)).heap[k]? = w1.heap[k]? := fun k hk => by
    have hkl := hl.at'.lt hk
    have hkp : k ≠ p := fun e => by
      obtain ⟨t', h1, h2⟩ := hl.at'.tags hk
      rw [e, bx1.tag] at h1
      rw [← Option.some.inj h1] at h2
      exact not_skTag_TT (.inl h2)
    rw [Below.heap_alloc _ _ _ (by simpa using hkl), Below.heap_setCell _ _ _ _ hkp]
  refine ⟨⟨?_, fun l' hl' => ?_, List.pairwise_singleton _ _, ?_⟩, ?_, fun x => ?_, ?_, fun k hk => ?_⟩
  · refine ⟨rfl, .inr ⟨w1.heap.size, 1, #[at_ l.p], rfl, Nat.zero_le _, ?_, Nat.le_refl _, by unfold maxLen; omega, rfl, rfl⟩⟩
    have := Box.new (w1.setCell ⟨p, 0, none⟩ (.slice (some ⟨w1.heap.size, 0, none⟩) 1 1)) TLp #[at_ l.p]
    rw [show (w1.setCell ⟨p, 0, none⟩ (.slice (some ⟨w1.heap.size, 0, none⟩) 1 1)).heap.size = w1.heap.size by simp] at this
    exact this
  · rw [List.mem_singleton.1 hl']
    refine ⟨hl.at'.keep hlk, hl.all, hl.room, ?_⟩
    have := congrArg List.length hl.keys
    simp [PS.keys] at this
    omega
  · show (l.t ++ []).Pairwise _
    rw [ht]
    simp
  · exact ((bx1.set 0 _).alloc _)
  · show x ∈ l.t ++ [] ↔ _
    rw [ht]
    simp [texts]
  · exact Chg.alloc (Chg.set (R := fun k => k = p ∨ ShFoot [] la k) (Chg.of hB1) (fun _ => .inl rfl) 0 _) _
  · rcases hk with hk | ⟨l', hl', hk⟩
    · have : w1.heap.size = k := Option.some.inj hk
      have := hB1.size
      exact .inr (by omega)
    · rw [List.mem_singleton.1 hl'] at hk
      have := hl.mine k hk
      simp at this
      exact .inr (by omega)
end
end Go.Proofs.YtnggajconglfcaaDoor
