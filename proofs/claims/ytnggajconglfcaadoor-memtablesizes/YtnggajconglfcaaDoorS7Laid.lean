/- A key comes into a level: what became of the list in memory. -/
import Derived.Test.YtnggajconglfcaaDoorPdPass
namespace Go.Proofs.YtnggajconglfcaaDoor
open Go.RowKit
theorem listArr_congr {room m n c : Nat} {a : Option Addr} {v v' : Nat → Value} (h : ∀ l, l < 8 → v l = v' l) : listArr room v m a n c = listArr room v' m a n c := by
  unfold listArr
  rw [h 0 (by decide), h 1 (by decide), h 2 (by decide), h 3 (by decide), h 4 (by decide), h 5 (by decide), h 6 (by decide), h 7 (by decide)]
section
variable {w w' w2 : World} {p : Nat} {S : PS} {g : SG} {i : Nat} {o : PO}
/-- A node's link in a level that it is not in. -/
theorem SkAt.setOwn (h : SkAt w p S g) (hi : i < S.ops.length) {l : Nat} (hl : l < 8) (hni : i ∉ S.lev l) (x : Value) : SkAt (w.setCell ⟨g.n i, 1 + l, none⟩ x) p S g ∧ (w.setCell ⟨g.n i, 1 + l, none⟩ x).cell? ⟨g.n i, 1 + l, none⟩ = some x := by
  obtain ⟨v, hv, hb⟩ := h.node i hi
  have hb' := hb.set (1 + l) x
  rw [nodeArr_set hl] at hb'
  have keep : ∀ k, k ≠ g.n i → (w.setCell ⟨g.n i, 1 + l, none⟩ x).heap[k]? = w.heap[k]? := fun k hk => Below.heap_setCell _ _ _ _ hk
  refine ⟨⟨h.inv, h.head.kept (keep _ (tag_ne h.head.tag (h.nodeTag hi) (by decide))), h.nlen, h.olen, h.ond, fun j hj => ?_, fun j hj => (h.op j hj).kept (keep _ (tag_ne (h.opTag hj) (h.nodeTag hi) (by decide))), row_same h.row fun b e => keep _ (tag_ne (h.rowTag e) (h.nodeTag hi) (by decide)), ?_⟩, ?_⟩
  · by_cases e : j = i
    · subst e
      refine ⟨_, fun k hk hm => ?_, hb'⟩
      rw [updV, if_neg (fun e : k = l => hni (e ▸ hm))]
      exact hv k hk hm
    · exact (h.node j hj).kept (keep _ (fun e' => e (h.inj hj hi e')))
  · obtain ⟨D, h1, h2⟩ := h.map
    exact ⟨D, map_kept h1 (keep _ (tag_ne h.mapTag (h.nodeTag hi) (by decide))), h2⟩
  · rw [hb'.cell, nodeArr_at hl, updV, if_pos rfl]
theorem SkAt.plcTag (h : SkAt w p S g) {l a : Nat} (hl : l < 8) (ha : InL (S.lev l) a) : tag w (plc p g a).block = some TL ∨ tag w (plc p g a).block = some TN := by
  rcases ha with rfl | ⟨j, rfl, hj⟩
  · exact .inl h.head.tag
  · exact .inr (h.nodeTag (h.inv.lt hl hj))
theorem SkAt.laid (h : SkAt w p S g) (hi : i < S.ops.length) (hp : (S.op i).ph = 1) (hown : w.cell? ⟨g.n i, 1 + (S.op i).level, none⟩ = some (lnk g (S.nx i)))
    (hc : Chg (Is (g.o i)) (w.setCell ⟨(plc p g (S.op i).pos).block, (plc p g (S.op i).pos).off + 1 + (S.op i).level, none⟩ (at_ (g.n i))) w') (hinv : (S.put i o (S.more i)).Inv) (hk : o.key = S.key i) (hop : OpIs w' p g i o) : SkAt w' p (S.put i o (S.more i)) g := by
  have h3 : (S.op i).ph ≠ 3 := by omega
  have ok := h.inv.ok i hi
  have h8 := (ok.low h3).1
  have hin := (ok.pos h3).inL
  have hni := h.inv.notIn hi h3
  have hpt := h.plcTag h8 hin
  have keep : ∀ k, k < w.heap.size → k ≠ g.o i → k ≠ (plc p g (S.op i).pos).block → w'.heap[k]? = w.heap[k]? := fun k h1 h2 h4 => (hc.block k (by simpa using h1) h2).trans (Below.heap_setCell _ _ _ _ h4)
  have other : ∀ k t, tag w k = some t → t ≠ TL → t ≠ TN → t ≠ TO → w'.heap[k]? = w.heap[k]? := fun k t ht h1 h2 h4 => keep k (tag_lt ht) (tag_ne ht (h.opTag hi) h4) (by
    rcases hpt with e | e
    · exact tag_ne ht e h1
    · exact tag_ne ht e h2)
  refine ⟨hinv, ?_, by rw [PS.put_len]; exact h.nlen, by rw [PS.put_len]; exact h.olen, h.ond, fun j hj => ?_, fun j hj => ?_, ?_, ?_⟩
  · rw [PS.put_len]
    show Box w' p TL (listArr S.room (fun l => lnk g (nxt (S.more i l) 0)) g.m g.a S.ops.length g.c)
    by_cases h0 : (S.op i).pos = 0
    · rw [h0] at hc
      have hb := (h.head.set (2 + (S.op i).level) (at_ (g.n i)))
      rw [listArr_set h8] at hb
      have hb2 := hb.kept (hc.block p (by simpa using h.head.lt) (tag_ne h.head.tag (h.opTag hi) (by decide)))
      refine hb2.eq (listArr_congr fun l hl => ?_)
      unfold updV PS.more
      split
      · rename_i e
        rw [h0, nxt_ins_at (.inl rfl)]
        rfl
      · rfl
    · refine (h.head.kept (keep p h.head.lt (tag_ne h.head.tag (h.opTag hi) (by decide)) ?_)).eq (listArr_congr fun l hl => ?_)
      · rcases hin with e | ⟨j, e, hj⟩
        · exact absurd e h0
        · rw [e]
          exact tag_ne h.head.tag (h.nodeTag (h.inv.lt h8 hj)) (by decide)
      · unfold PS.more
        split
        · rename_i e
          rw [nxt_ins_other (by rw [e]; exact hin) (fun e => h0 e.symm) (by omega)]
        · rfl
  · rw [PS.put_len] at hj
    rw [PS.put_key hk]
    show NodeIs w' g j (S.key j) (S.more i)
    obtain ⟨v, hv, hb⟩ := h.node j hj
    by_cases e : j = i
    · subst e
      refine ⟨v, fun l hl hm => ?_, hb.kept (keep _ hb.lt (tag_ne (h.nodeTag hj) (h.opTag hj) (by decide)) ?_)⟩
      · unfold PS.more
        split
        · rename_i e
          subst e
          rw [nxt_ins_new hin hni]
          rw [hb.cell, nodeArr_at h8] at hown
          exact Option.some.inj hown
        · rename_i e
          rcases PS.mem_more.1 hm with ⟨e', _⟩ | hm
          · exact absurd e' e
          · exact hv l hl hm
      · rcases hin with e | ⟨k, e, hk'⟩
        · rw [e]
          exact tag_ne (h.nodeTag hj) h.head.tag (by decide)
        · rw [e]
          intro e'
          exact hni ((h.inj hj (h.inv.lt h8 hk') e') ▸ hk')
    · by_cases e1 : (S.op i).pos = j + 1
      · rw [e1] at hc
        have hb1 : Box (w.setCell ⟨g.n j, 0 + 1 + (S.op i).level, none⟩ (at_ (g.n i))) (g.n j) TN (nodeArr (S.key j) (updV v (S.op i).level (at_ (g.n i)))) := by
          rw [Nat.zero_add]
          exact (hb.set _ _).eq (nodeArr_set h8 _)
        refine ⟨_, fun l hl hm => ?_, hb1.kept (hc.block (g.n j) hb1.lt (tag_ne (h.nodeTag hj) (h.opTag hi) (by decide)))⟩
        unfold updV PS.more
        split
        · rename_i e2
          subst e2
          rw [e1] at hin ⊢
          rw [nxt_ins_at hin]
          rfl
        · rename_i e2
          rcases PS.mem_more.1 hm with ⟨e', _⟩ | hm
          · exact absurd e' e2
          · exact hv l hl hm
      · refine ⟨v, fun l hl hm => ?_, hb.kept (keep _ hb.lt (tag_ne (h.nodeTag hj) (h.opTag hi) (by decide)) ?_)⟩
        · rcases PS.mem_more.1 hm with ⟨_, e'⟩ | hm
          · exact absurd e' e
          · rw [hv l hl hm]
            unfold PS.more
            split
            · rename_i e2
              rw [nxt_ins_other (by rw [e2]; exact hin) (fun e => e1 e.symm) (by omega)]
            · rfl
        · rcases hin with e2 | ⟨k, e2, hk'⟩
          · rw [e2]
            exact tag_ne (h.nodeTag hj) h.head.tag (by decide)
          · rw [e2]
            intro e'
            have := h.inj hj (h.inv.lt h8 hk') e'
            exact e1 (by omega)
  · rw [PS.put_len] at hj
    by_cases e : j = i
    · subst e
      rw [PS.put_op hi]
      exact hop
    · rw [PS.put_other e]
      refine (h.op j hj).kept (keep _ (tag_lt (h.opTag hj)) (fun e' => e (h.oinj hj hi e')) ?_)
      rcases hpt with e' | e'
      · exact tag_ne (h.opTag hj) e' (by decide)
      · exact tag_ne (h.opTag hj) e' (by decide)
  · rw [PS.put_len]
    exact row_same h.row fun b e => other b _ (h.rowTag e) (by decide) (by decide) (by decide)
  · obtain ⟨D, h1, h2⟩ := h.map
    rw [PS.put_len, PS.put_keys hk]
    exact ⟨D, map_kept h1 (other _ _ h.mapTag (by decide) (by decide) (by decide)), h2⟩
end
end Go.Proofs.YtnggajconglfcaaDoor
