/- One operation of a list is set; what became of the list. -/
import Derived.Test.YtnggajconglfcaaDoorS7Pass
namespace Go.Proofs.YtnggajconglfcaaDoor
open Go.RowKit
section
variable {w w' : World} {p : Nat} {S : PS} {g : SG} {i : Nat} {o : PO}
theorem SkAt.opTag (h : SkAt w p S g) (hi : i < S.ops.length) : tag w (g.o i) = some TO := by
  obtain ⟨arr, hb⟩ := h.opBox hi
  exact hb.tag
theorem SkAt.nodeTag (h : SkAt w p S g) (hi : i < S.ops.length) : tag w (g.n i) = some TN := by
  obtain ⟨arr, hb⟩ := h.nodeBox hi
  exact hb.tag
theorem SkAt.rowTag (h : SkAt w p S g) {b : Nat} (e : (Value.slice g.a S.ops.length g.c).ownBlock = some b) : tag w b = some TP := row_tag h.row e
theorem SkAt.mapTag (h : SkAt w p S g) : tag w g.m = some 1000 := by
  obtain ⟨D, h1, _⟩ := h.map
  exact tag_map h1
theorem PS.put_keys (hk : o.key = S.key i) {lev : Nat → List Nat} : (S.put i o lev).keys = S.keys := by
  unfold PS.keys PS.put
  simp only
  refine List.ext_getElem (by simp) fun k h1 h2 => ?_
  simp only [List.getElem_map, List.getElem_set]
  split
  · rename_i e
    subst e
    simp at h2
    rw [hk]
    simp [PS.key, PS.op, List.getD, h2]
  · rfl
theorem PS.put_idx {lev : Nat → List Nat} (j : Nat) (P : PO → Prop) (hi : i < S.ops.length) (h1 : P o) (h2 : j ≠ i → P (S.op j)) : P ((S.put i o lev).op j) := by
  by_cases e : j = i
  · subst e
    rw [PS.put_op hi]
    exact h1
  · rw [PS.put_other e]
    exact h2 e
theorem SkAt.setOp (h : SkAt w p S g) (hi : i < S.ops.length) (hc : Chg (Is (g.o i)) w w') (hinv : (S.put i o S.lev).Inv) (hk : o.key = S.key i) (hop : OpIs w' p g i o) : SkAt w' p (S.put i o S.lev) g where
  inv := hinv
  head := by
    have := h.head.kept (hc.block p h.head.lt (tag_ne h.head.tag (h.opTag hi) (by decide)))
    rw [PS.put_len]
    exact this
  nlen := by rw [PS.put_len]; exact h.nlen
  olen := by rw [PS.put_len]; exact h.olen
  ond := h.ond
  node := fun j hj => by
    rw [PS.put_len] at hj
    rw [PS.put_key hk]
    exact (h.node j hj).kept (hc.block _ (tag_lt (h.nodeTag hj)) (tag_ne (h.nodeTag hj) (h.opTag hi) (by decide)))
  op := fun j hj => by
    rw [PS.put_len] at hj
    by_cases e : j = i
    · subst e
      rw [PS.put_op hi]
      exact hop
    · rw [PS.put_other e]
      exact (h.op j hj).kept (hc.block _ (tag_lt (h.opTag hj)) (fun e' => e (h.oinj hj hi e')))
  row := by
    rw [PS.put_len]
    exact row_same h.row fun b e => hc.block b (tag_lt (h.rowTag e)) (tag_ne (h.rowTag e) (h.opTag hi) (by decide))
  map := by
    obtain ⟨D, h1, h2⟩ := h.map
    rw [PS.put_len, PS.put_keys hk]
    exact ⟨D, map_kept h1 (hc.block _ (tag_lt h.mapTag) (tag_ne h.mapTag (h.opTag hi) (by decide))), h2⟩
theorem SkAt.isFoot (h : SkAt w p S g) (hi : i < S.ops.length) (hc : Chg (Is (g.o i)) w w') : Chg (Foot p g) w w' := hc.wide fun k _ e => .inr (.inr (.inl (by rw [e]; exact SG.o_mem (by rw [h.olen]; exact hi))))
/-- What pass does to an operation. -/
structure Passed (w w' : World) (p : Nat) (g : SG) (S : PS) (i : Nat) (ah : Nat → Value) (r : Bool) : Prop where
  box : Box w' (g.o i) TO (OC.arr ⟨at_ (g.n i), (S.op i).height, (S.op i).level, plc p g (if r then (S.went i).pos else (S.op i).pos), lnk g (S.nx i), ah, nextV (g.o i) (S.op i).ph⟩)
  chg : Chg (Is (g.o i)) w w'
theorem pass_at (h : SkAt w p S g) (hi : i < S.ops.length) (h3 : (S.op i).ph ≠ 3) {ah : Nat → Value} (hb : Box w (g.o i) TO (OC.arr ⟨at_ (g.n i), (S.op i).height, (S.op i).level, plc p g (S.op i).pos, lnk g (S.op i).seen, ah, nextV (g.o i) (S.op i).ph⟩)) :
    Calls Tryd.prog 81 #[at_ (g.o i)] w fun e w' => e = .returned (.bool (S.goes i)) ∧ Passed w w' p g S i ah (S.goes i) := by
  have ok := h.inv.ok i hi
  have h8 := (ok.low h3).1
  have hlink := h.link h8 (ok.pos h3).inL
  have hko := h.keyCell hi
  have hno := tag_ne (h.nodeTag hi) (h.opTag hi) (by decide)
  have hpl : plc p g (S.op i).pos = ⟨(plc p g (S.op i).pos).block, (plc p g (S.op i).pos).off, none⟩ := by cases (S.op i).pos <;> rfl
  rw [hpl] at hb
  cases hn : nxt (S.lev (S.op i).level) (S.op i).pos with
  | none =>
    rw [hn] at hlink
    have hg : S.goes i = false := by simp [PS.goes, PS.nx, hn]
    refine (pass_nil hb h8 hlink).mono ?_
    rintro e w' ⟨rfl, h1, h2⟩
    rw [hg]
    refine ⟨rfl, ?_, h2⟩
    rw [← hpl] at h1
    simpa [PS.nx, hn, lnk] using h1
  | some j =>
    rw [hn] at hlink
    have hj : j < S.ops.length := h.inv.lt h8 (nxt_mem hn)
    have hkj := h.keyCell hj
    have hnj := tag_ne (h.nodeTag hj) (h.opTag hi) (by decide)
    cases hg : kl (S.key j) (S.key i) with
    | true =>
      have hg' : S.goes i = true := by simp [PS.goes, PS.nx, hn, hg]
      refine (pass_lt hb h8 hlink hkj hko hnj hno hg).mono ?_
      rintro e w' ⟨rfl, h1, h2⟩
      rw [hg']
      refine ⟨rfl, ?_, h2⟩
      simpa [PS.nx, hn, lnk, PS.went, plc] using h1
    | false =>
      have hg' : S.goes i = false := by simp [PS.goes, PS.nx, hn, hg]
      refine (pass_ge hb h8 hlink hkj hko hnj hno hg).mono ?_
      rintro e w' ⟨rfl, h1, h2⟩
      rw [hg']
      refine ⟨rfl, ?_, h2⟩
      rw [← hpl] at h1
      simpa [PS.nx, hn, lnk] using h1
end
end Go.Proofs.YtnggajconglfcaaDoor
