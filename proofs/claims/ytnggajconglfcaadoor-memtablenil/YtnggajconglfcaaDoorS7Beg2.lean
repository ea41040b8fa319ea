/- An operation is begun: the worlds on the way. -/
import Derived.Test.YtnggajconglfcaaDoorS7Beg
namespace Go.Proofs.YtnggajconglfcaaDoor
open Go.RowKit
set_option linter.unusedVariables false
theorem listArr_row {room m n c n' c' : Nat} {a a' : Option Addr} {v : Nat → Value} : (listArr room v m a n c).setIfInBounds 11 (.slice a' n' c') = listArr room v m a' n' c' := by simp [listArr]
section
variable {w w1 w2 w4 : World} {p : Nat} {S : PS} {g : SG} {key : ByteArray} {h r c : Nat}
theorem SkAt.begunAll (hs : SkAt w p S g) (hinv : (S.begin key h).Inv) {X : Obj}
    (hm1 : ∃ D : DataW Unit, w1.ownsMap Tryd.prog 9 unitElem g.m (S.ops.length + 1) D ∧ ∀ s : ByteArray, Maps.has D (.string s.data.toList) = true ↔ s ∈ S.keys ++ [key])
    (hg1 : (w.alloc X).grownBy w1 (some g.m))
    (hn : Box w2 w1.heap.size TN (nodeArr key (fun _ => .pointer none)))
    (ho : Box w2 (w1.heap.size + 1) TO (OC.arr ⟨at_ w1.heap.size, h, 7, ⟨p, 1, none⟩, .pointer none, fun _ => .pointer none, nextV (w1.heap.size + 1) 0⟩))
    (hb2 : Below w1.heap.size w1 w2)
    (hr4 : w4.ownsRow 0 TP 1 (.slice (some ⟨r, 0, none⟩) (S.ops.length + 1) c) (S.ops.length + 1) (g.ob.map at_ ++ [at_ (w1.heap.size + 1)]))
    (hg4 : (w2.alloc (.cells #[at_ (w1.heap.size + 1)] TP)).grownBy w4 (Value.slice g.a S.ops.length g.c).ownBlock)
    (hl4 : (Value.slice g.a S.ops.length g.c).ownBlock = some r ∨ w2.heap.size ≤ r) :
    SkAt (w4.setCell ⟨p, 11, none⟩ (.slice (some ⟨r, 0, none⟩) (S.ops.length + 1) c)) p (S.begin key h) (g.more w1.heap.size (w1.heap.size + 1) (some ⟨r, 0, none⟩) c) ∧ Chg (Foot p g) w (w4.setCell ⟨p, 11, none⟩ (.slice (some ⟨r, 0, none⟩) (S.ops.length + 1) c)) ∧ (∀ k, Foot p (g.more w1.heap.size (w1.heap.size + 1) (some ⟨r, 0, none⟩) c) k → Foot p g k ∨ w.heap.size ≤ k) := by
  have e1 : (w.alloc X).heap.size = w.heap.size + 1 := by simp
  have s1 := hg1.size
  rw [e1] at s1
  have s2 := hb2.size
  have k1 : ∀ k, k < w.heap.size → k ≠ g.m → w1.heap[k]? = w.heap[k]? := fun k hk hne => (hg1.block k (by rw [e1]; omega) (fun e => hne (Option.some.inj e))).trans (Below.heap_alloc _ _ _ hk)
  have k2 : ∀ k, k < w1.heap.size → w2.heap[k]? = w1.heap[k]? := fun k hk => hb2.block k hk
  have k4 : ∀ k, k < w2.heap.size → (Value.slice g.a S.ops.length g.c).ownBlock ≠ some k → w4.heap[k]? = w2.heap[k]? := fun k hk hne => (hg4.block k (by simp; omega) (fun e => hne e.symm)).trans (Below.heap_alloc _ _ _ hk)
  have k5 : ∀ k, k ≠ p → (w4.setCell ⟨p, 11, none⟩ (.slice (some ⟨r, 0, none⟩) (S.ops.length + 1) c)).heap[k]? = w4.heap[k]? := fun k hk => Below.heap_setCell _ _ _ _ hk
  have rowNe : ∀ k t, tag w k = some t → t ≠ TP → (Value.slice g.a S.ops.length g.c).ownBlock ≠ some k := fun k t ht hne e => tag_ne ht (h := hne) (hs.rowTag e) rfl
  have all4 : ∀ k t, tag w k = some t → t ≠ TP → t ≠ 1000 → w4.heap[k]? = w.heap[k]? := fun k t ht h1 h2 => by
    have hlt := tag_lt ht
    rw [k4 k (by omega) (rowNe k t ht h1), k2 k (by omega), k1 k hlt (tag_ne ht hs.mapTag h2)]
  have hp4 : Box w4 p TL _ := hs.head.kept (all4 p TL hs.head.tag (by decide) (by decide))
  have hp5 := (hp4.set 11 (.slice (some ⟨r, 0, none⟩) (S.ops.length + 1) c)).eq listArr_row
  have tn : tag w2 w1.heap.size = some TN := hn.tag
  have to : tag w2 (w1.heap.size + 1) = some TO := ho.tag
  have plt := hs.head.lt
  have newRow : ∀ k, w.heap.size ≤ k → (Value.slice g.a S.ops.length g.c).ownBlock ≠ some k := fun k hk e => by
    have := tag_lt (hs.rowTag e)
    omega
  have hn5 := (hn.kept (k4 _ hn.lt (newRow _ (by omega)))).kept (k5 w1.heap.size (by omega))
  have ho5 := (ho.kept (k4 _ ho.lt (newRow _ (by omega)))).kept (k5 (w1.heap.size + 1) (by omega))
  have tr : tag w4 r = some TP := row_tag hr4 rfl
  have hrp : r ≠ p := tag_ne tr hp4.tag (by decide)
  refine ⟨hs.begun hinv hp5 (fun k hk => ?_) hn5 ho5 (fun hc => ?_) (row_same hr4 fun b e => ?_) ?_, ?_, fun k hk => ?_⟩
  · rcases hk with hk | hk
    · obtain ⟨i, hi, rfl⟩ := mem_getD hk
      have ht := hs.nodeTag (i := i) (by rw [← hs.nlen]; exact hi)
      have ht' : tag w (g.nb.getD i 0) = some TN := ht
      rw [k5 _ (tag_ne ht' hs.head.tag (by decide)), all4 _ _ ht' (by decide) (by decide)]
    · obtain ⟨i, hi, rfl⟩ := mem_getD hk
      have ht := hs.opTag (i := i) (by rw [← hs.olen]; exact hi)
      have ht' : tag w (g.ob.getD i 0) = some TO := ht
      rw [k5 _ (tag_ne ht' hs.head.tag (by decide)), all4 _ _ ht' (by decide) (by decide)]
  · have := hs.lt (k := w1.heap.size + 1) (.inr (.inr (.inl hc)))
    omega
  · obtain rfl := Option.some.inj e
    exact k5 _ hrp
  · obtain ⟨D, hD, hk⟩ := hm1
    have mlt := tag_lt hs.mapTag
    exact ⟨D, map_kept hD (by rw [k5 _ (tag_ne hs.mapTag hs.head.tag (by decide)), k4 _ (by omega) (rowNe _ _ hs.mapTag (by decide)), k2 _ (by omega)]), hk⟩
  · have c1 : Chg (Foot p g) w w1 := ((Chg.refl (Foot p g) w).alloc X).andThen (Chg.grown hg1) (fun k _ e => by
      obtain rfl := Option.some.inj e
      exact .inr (.inr (.inr (.inl rfl))))
    have c2 : Chg (Foot p g) w w2 := c1.andThen (Chg.of (R := Foot p g) hb2) (fun _ _ h => h)
    have c4 : Chg (Foot p g) w w4 := (c2.alloc _).andThen (Chg.grown hg4) (fun k _ e => .inr (.inr (.inr (.inr (by rw [← own_blk g.a S.ops.length g.c]; exact e)))))
    exact c4.set (fun _ => .inl rfl) _ _
  · rcases hk with rfl | hk | hk | rfl | hk
    · exact .inl (.inl rfl)
    · rcases List.mem_append.1 hk with hk | hk
      · exact .inl (.inr (.inl hk))
      · right
        rw [List.mem_singleton.1 hk]
        omega
    · rcases List.mem_append.1 hk with hk | hk
      · exact .inl (.inr (.inr (.inl hk)))
      · right
        rw [List.mem_singleton.1 hk]
        omega
    · exact .inl (.inr (.inr (.inr (.inl rfl))))
    · obtain rfl := Option.some.inj hk
      rcases hl4 with e | e
      · exact .inl (.inr (.inr (.inr (.inr (by rw [← own_blk g.a S.ops.length g.c]; exact e)))))
      · right
        show w.heap.size ≤ r
        omega
end
end Go.Proofs.YtnggajconglfcaaDoor
