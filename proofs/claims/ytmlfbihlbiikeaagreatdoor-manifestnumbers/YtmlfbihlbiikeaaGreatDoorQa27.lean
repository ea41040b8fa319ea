/- Rows of edits of the call's own; what a round of stateBytes keeps. -/
import Derived.Test.YtmlfbihlbiikeaaGreatDoorQa26
import Derived.Test.YtmlfbihlbiikeaaGreatDoorQa11
import Derived.Test.YtmlfbihlbiikeaaGreatDoorQa24
import Derived.Test.YtmlfbihlbiikeaaGreatDoorQa18
import Derived.Test.YtmlfbihlbiikeaaGreatDoorQa20
namespace Go.Proofs.YtmlfbihlbiikeaaGreatDoor
set_option maxRecDepth 100000
open Go.RowKit Go.Shelf
set_option linter.unusedVariables false
set_option linter.unusedSimpArgs false
abbrev TEs : TypeId := 52
theorem infoEd : (Tryz.prog.info? TE).map (fun i => (i.zero, i.size, i.bytes)) = some (some (.agg #[.int .u64 0, .int .u64 0, .int .u64 0, .slice none 0 0, .slice none 0 0]), 5, 72) := by kernel_rfl
structure OwnE (w : World) (B : Nat) (a : Option Addr) (n c : Nat) (l : List (PE × SE)) : Prop where
  size : l.length = n
  row : w.ownsRow B TE 5 (.slice a n c) n (l.flatMap ec)
section
variable {w w' : World} {B : Nat} {a : Option Addr} {n c : Nat} {l : List (PE × SE)}
theorem OwnE.below (h : OwnE w B a n c l) (hb : Below w.heap.size w w') : OwnE w' B a n c l := ⟨h.size, row_below h.row hb⟩
theorem OwnE.kept (h : OwnE w B a n c l) (hk : ∀ k, blkOf a = some k → w'.heap[k]? = w.heap[k]?) : OwnE w' B a n c l := ⟨h.size, row_same h.row (fun b e => hk b (by rw [← own_blk a n c]; exact e))⟩
theorem OwnE.tag (h : OwnE w B a n c l) {k : Nat} (hk : blkOf a = some k) : tag w k = some TE := row_tag h.row (by rw [own_blk]; exact hk)
theorem OwnE.ge (h : OwnE w B a n c l) {k : Nat} (hk : blkOf a = some k) : B ≤ k := (h.row.lt k (by rw [own_blk]; exact hk)).1
theorem OwnE.alloc (h : OwnE w B a n c l) (o : Obj) : OwnE (w.alloc o) B a n c l := ⟨h.size, h.row.alloc o⟩
theorem OwnE.row5 (h : OwnE w B a n c l) : VsAt 5 w a n c (l.flatMap ec) := VsAt.ofOwn h.row (by rw [flat_len ec_len, h.size])
end
theorem OwnE.one (W : World) (B : Nat) (hB : B ≤ W.heap.size) (e : PE × SE) : OwnE (W.alloc (.cells #[.int .u64 (e.1.log : Int), .int .u64 (e.1.next : Int), .int .u64 (e.1.last : Int), .slice e.2.a e.1.dels.length e.2.c, .slice e.2.a' e.1.adds.length e.2.c'] TE)) B (some ⟨W.heap.size, 0, none⟩) 1 1 [e] :=
  ⟨rfl, by simp [ec], .inr ⟨W.heap.size, _, _, rfl, hB, heap_alloc_new W _, Nat.le_refl _, by unfold maxLen; omega, rfl, by simp [ec]⟩⟩
theorem wpListIn_pushE {F : Fence} {n : Nat} (W : World) {ops : Array Oper} {rest : List Oper} {o : Oper} {a : Act} {Q : Exit → Act → World → Prop} (hgd : o.guard = none) (s x : Operand)
    (ho : o.op = .call { callee := .builtin .append, args := #[s, x], argTypes := #[TEs, TEs] })
    (B : Nat) (a1 : Option Addr) (n1 c1 : Nat) (l : List (PE × SE)) (hs : a.eval s = .slice a1 n1 c1) (hown : OwnE W B a1 n1 c1 l) (p : Nat)
    (e : PE × SE) (hx : a.eval x = .slice (some ⟨p, 0, none⟩) 1 1) (hp : Box W p TE #[.int .u64 (e.1.log : Int), .int .u64 (e.1.next : Int), .int .u64 (e.1.last : Int), .slice e.2.a e.1.dels.length e.2.c, .slice e.2.a' e.1.adds.length e.2.c']) (hl : n1 + 1 ≤ 1000000000000) (hB : B ≤ W.heap.size)
    (h : ∀ a' c' w', OwnE w' B a' (n1 + 1) c' (l ++ [e]) → W.grownBy w' (blkOf a1) → wpListIn F n Tryz.prog ops Q rest (a.put o.dst (.slice a' (n1 + 1) c')) w') :
    wpListIn F n Tryz.prog ops Q (o :: rest) a W := by
  obtain ⟨i, hi, hz0, hz1, hz2⟩ := info_parts infoEd
  have hll := hown.size
  refine wpListIn_append_own _ hgd s x _ ho B TE i _ 5 72 Tryz.underlying52 hi hz0 hz1 hz2 rfl (by decide) _ n1 (l.flatMap ec) hs hown.row ⟨p, 0, none⟩ 1 1 (ec e) hx rfl ?_ ?_ (by unfold maxLen; omega) (by omega) hB ?_
  · intro j u hu
    rw [Addr.add_lit]
    show W.cell? ⟨p, 0 + j, none⟩ = some u
    rw [Nat.zero_add, hp.cell, ← Array.getElem?_toList]
    exact hu
  · intro u hu
    simp [ec] at hu
    rcases hu with rfl | rfl | rfl | rfl | rfl <;> rfl
  · intro v' w' hr hg _
    rcases hr.2 with ⟨rfl, h0⟩ | ⟨g, c', cur, rfl, _⟩
    · omega
    · exact h _ _ _ ⟨by simp [hll], by rw [List.flatMap_append]; simpa using hr⟩ (by rw [← own_blk a1 n1 c1]; exact hg)
structure EI (w : World) (q : Nat) (ac : Option Addr) (cc : Nat) (all : List PF) (p : Nat) (l : List (PE × SE)) (W : World) : Prop where
  base : Below w.heap.size w W
  le : w.heap.size ≤ p
  lq : p < q
  x2 : Box W q 41 #[.slice ac all.length cc]
  x3 : Box W (q + 1) 3 #[.int .i64 100]
  fl : OwnF W w.heap.size ac all.length cc all
  own : ∃ ae ce, Box W p TEs #[.slice ae l.length ce] ∧ OwnE W w.heap.size ae l.length ce l
section
variable {w : World} {q : Nat} {ac : Option Addr} {cc : Nat} {all : List PF} {p : Nat} {l : List (PE × SE)} {W W' : World}
theorem ownF_cells {a : Option Addr} {n c B : Nat} {l : List PF} (h : OwnF W B a n c l) {k : Nat} (hk : blkOf a = some k) : ∃ arr fz, W.heap[k]? = some (Obj.cells arr TF fz) := by
  rcases h.row.2 with ⟨hv, _⟩ | ⟨g, c', cur, hv, hb, hgg, _⟩
  · simp only [Value.slice.injEq] at hv
    rw [hv.1] at hk
    cases hk
  · simp only [Value.slice.injEq] at hv
    rw [hv.1] at hk
    cases hk
    exact ⟨_, _, hgg⟩
theorem ownE_cells {a : Option Addr} {n c B : Nat} {l : List (PE × SE)} (h : OwnE W B a n c l) {k : Nat} (hk : blkOf a = some k) : ∃ arr fz, W.heap[k]? = some (Obj.cells arr TE fz) := by
  rcases h.row.2 with ⟨hv, _⟩ | ⟨g, c', cur, hv, hb, hgg, _⟩
  · simp only [Value.slice.injEq] at hv
    rw [hv.1] at hk
    cases hk
  · simp only [Value.slice.injEq] at hv
    rw [hv.1] at hk
    cases hk
    exact ⟨_, _, hgg⟩
theorem EI.keep (h : EI w q ac cc all p l W) (hb : Below w.heap.size w W') (hk : ∀ (k : Nat) (arr : Array Value) (t : TypeId) (fz : Nat × Nat), W.heap[k]? = some (Obj.cells arr t fz) → W'.heap[k]? = some (Obj.cells arr t fz)) : EI w q ac cc all p l W' := by
  obtain ⟨ae, ce, h5, h6⟩ := h.own
  refine ⟨hb, h.le, h.lq, hk _ _ _ _ h.x2, hk _ _ _ _ h.x3, h.fl.kept fun k e => ?_, ae, ce, hk _ _ _ _ h5, h6.kept fun k e => ?_⟩
  · obtain ⟨arr, fz, hc⟩ := ownF_cells h.fl e
    rw [hc, hk _ _ _ _ hc]
  · obtain ⟨arr, fz, hc⟩ := ownE_cells h6 e
    rw [hc, hk _ _ _ _ hc]
theorem EI.call (h : EI w q ac cc all p l W) (hb : Below W.heap.size W W') : EI w q ac cc all p l W' := h.keep (h.base.trans (hb.mono h.base.size)) fun k arr t fz hk => (hb.block k (Array.getElem?_eq_some_iff.1 hk).1).trans hk
theorem EI.from (w : World) (q : Nat) (ac : Option Addr) (cc : Nat) (all : List PF) (p : Nat) (B : Nat) (hB : w.heap.size ≤ B) {α : Type} (L : List α → List (PE × SE) → Prop) : OwnFrom B (fun pre W => ∃ l, L pre l ∧ EI w q ac cc all p l W) := by
  rintro pre W W' row ⟨l, hl, h⟩ hg hr
  refine ⟨l, hl, h.keep (h.base.grown hg h.base.size (fun k e => by have := (hr k e).1; omega)) fun k arr t fz hk => ?_⟩
  exact (hg.block k (Array.getElem?_eq_some_iff.1 hk).1 (fun e => by
    obtain ⟨_, o, ho, hcl⟩ := hr _ e.symm
    rw [hk] at ho
    cases ho
    cases hcl)).trans hk
theorem EI.push (h : EI w q ac cc all p l W) {ae : Option Addr} {ce : Nat} (hx : Box W p TEs #[.slice ae l.length ce]) (ho : OwnE W w.heap.size ae l.length ce l) {a' : Option Addr} {c' : Nat} {e : PE × SE} (ho' : OwnE W' w.heap.size a' (l.length + 1) c' (l ++ [e])) (hg : W.grownBy W' (blkOf ae)) :
    EI w q ac cc all p (l ++ [e]) (W'.setCell ⟨p, 0, none⟩ (.slice a' (l.length + 1) c')) ∧ (W'.cell? ⟨p, 0, none⟩ = some (.slice ae l.length ce) ∧ W'.frozen? ⟨p, 0, none⟩ = false) ∧ KeepsOthers W (W'.setCell ⟨p, 0, none⟩ (.slice a' (l.length + 1) c')) ∧ Kp15 w.heap.size q W (W'.setCell ⟨p, 0, none⟩ (.slice a' (l.length + 1) c')) := by
  have hlq := h.lq
  have hle := h.le
  have hne : ∀ k t, Go.Proofs.YtmlfbihlbiikeaaGreatDoor.tag W k = some t → t ≠ TE → ¬ some k = blkOf ae := fun k t hk ht he => ht (by have := ho.tag he.symm; rw [hk] at this; exact Option.some.inj this)
  have k2 := h.x2.kept (hg.block _ h.x2.lt (hne _ _ h.x2.tag (by decide)))
  have k3 := h.x3.kept (hg.block _ h.x3.lt (hne _ _ h.x3.tag (by decide)))
  have kx := hx.kept (hg.block _ hx.lt (hne _ _ hx.tag (by decide)))
  have kf : OwnF W' w.heap.size ac all.length cc all := h.fl.kept fun k e => hg.block k (tag_lt (h.fl.tag e)) (hne _ _ (h.fl.tag e) (by decide))
  have hb : Below w.heap.size w W' := h.base.grown hg h.base.size (fun k e => ho.ge e)
  refine ⟨⟨hb.setCell (by show w.heap.size ≤ p; exact hle) _, h.le, h.lq, k2.other (by omega) 0 _, k3.other (by omega) 0 _, kf.kept fun k e => Below.heap_setCell _ _ _ _ (fun he => ?_), a', c', (kx.set 0 _).eq (by simp), ?_⟩, ⟨kx.cell 0, kx.soft 0⟩, ?_, ?_⟩
  · have := kf.tag e
    rw [he, show Go.Proofs.YtmlfbihlbiikeaaGreatDoor.tag W' p = some TEs from kx.tag] at this
    exact absurd (Option.some.inj this) (by decide)
  · rw [show (l ++ [e]).length = l.length + 1 by simp]
    refine ho'.kept fun k hk => Below.heap_setCell _ _ _ _ (fun he => ?_)
    have := ho'.tag hk
    rw [he, show Go.Proofs.YtmlfbihlbiikeaaGreatDoor.tag W' p = some TEs from kx.tag] at this
    exact absurd (Option.some.inj this) (by decide)
  · refine (KeepsOthers.of_grownBy hg (fun j o e hj => ?_)).trans (KeepsOthers.setCell _ _ _)
    obtain ⟨arr, fz, hc⟩ := ownE_cells ho e
    rw [hc] at hj
    cases hj
    rfl
  · exact ⟨((Below.refl _ W).grown hg h.base.size (fun k e => ho.ge e)).setCell (by show w.heap.size ≤ p; exact hle) _, (Below.heap_setCell _ _ _ _ (by show q ≠ p; omega)).trans (hg.block _ h.x2.lt (hne _ _ h.x2.tag (by decide))), (Below.heap_setCell _ _ _ _ (by show q + 1 ≠ p; omega)).trans (hg.block _ h.x3.lt (hne _ _ h.x3.tag (by decide)))⟩
end
theorem ed_short {s : PSt} (h : s.Ok) : ∀ x ∈ s.eds, x.enc.length ≤ 20000 := fun x hx => by
  have he := h.errs x hx
  obtain ⟨h1, h2, _, _, _, h6, h7⟩ := PE.err_zero he
  have e1 := uvEnc_length x.log
  have e2 := uvEnc_length x.next
  have e3 := uvEnc_length x.last
  have e4 := uvEnc_length x.dels.length
  have e5 := uvEnc_length x.adds.length
  have hd : x.dels = [] := by
    rcases List.mem_cons.1 hx with rfl | hx
    · rfl
    · obtain ⟨c, hc, rfl⟩ := List.mem_map.1 hx
      rfl
  have d2 := flat_le (f := PF.enc) (m := 194) (l := x.adds) (fun f hf => PF.enc_len (h7 f hf))
  unfold PE.enc
  simp only [List.length_append]
  rw [hd] at e4 ⊢
  simp only [List.flatMap_nil, List.length_nil] at *
  omega
end Go.Proofs.YtmlfbihlbiikeaaGreatDoor
namespace Go.Proofs.YtmlfbihlbiikeaaGreatDoor
set_option maxRecDepth 100000
open Go.RowKit Go.Shelf
attribute [local go_sem] Oper.semAt_some
set_option linter.unusedVariables false
set_option linter.unusedSimpArgs false
def BytesR (w : World) (b : List UInt8) (e : Ending) (w' : World) : Prop := ∃ a' c', e = .returned (.slice a' b.length c') ∧ OwnB w' w.heap.size a' b.length c' b ∧ Below w.heap.size w w'
def EdL (s : PSt) (ac : Option Addr) (cc : Nat) (pre : List (FlX ac s.v.all.length cc s.v.all)) (l : List (PE × SE)) : Prop :=
  l.map Prod.fst = s.numE :: (FlX.ls pre).map layE ∧ ∀ e ∈ l, ∀ V : World, FlAt V ac s.v.all.length cc s.v.all → EdAt V e.1 e.2
theorem EdL.snoc {s : PSt} {ac : Option Addr} {cc : Nat} {pre : List (FlX ac s.v.all.length cc s.v.all)} {l : List (PE × SE)} (h : EdL s ac cc pre l) (x : FlX ac s.v.all.length cc s.v.all) : EdL s ac cc (pre ++ [x]) (l ++ [(layE x.1.2, ⟨none, 0, x.1.1, x.1.2.length⟩)]) := by
  refine ⟨by rw [List.map_append, h.1, fls_snoc, List.map_append]; rfl, fun e he V hV => ?_⟩
  rcases List.mem_append.1 he with he | he
  · exact h.2 e he V hV
  · obtain rfl := List.mem_singleton.1 he
    exact ⟨GsAt.nil V, x.2.1 V hV⟩
theorem EdL.len {s : PSt} {ac : Option Addr} {cc : Nat} {pre : List (FlX ac s.v.all.length cc s.v.all)} {l : List (PE × SE)} (h : EdL s ac cc pre l) : l.length = pre.length + 1 := by
  have := congrArg List.length h.1
  simpa [FlX.ls] using this
theorem chG_len_le {α : Type} {iv : Nat} (hi : 1 ≤ iv) (l : List α) : (chG iv l).length ≤ l.length := by
  refine chG_ind hi (P := fun l => (chG iv l).length ≤ l.length) (by simp [chG_nil]) (fun l hne ih => ?_) l
  have h0 : 0 < l.length := List.length_pos_iff.2 hne
  rw [chG_cons hi hne, List.length_cons]
  rw [List.length_drop] at ih
  omega
theorem man_le : ∀ l : List PE, (∀ x ∈ l, x.enc.length ≤ 20000) → ∀ A : List UInt8, (logFrom A (l.map PE.enc)).length ≤ A.length + 22000 * l.length
  | [], _, A => Nat.le_refl _
  | x :: l, h, A => by
    have h1 := man_le l (fun y hy => h y (by simp [hy])) (A ++ putP A.length true x.enc)
    have h2 := put_short A.length x.enc
    have h3 := h x (by simp)
    show (logFrom (A ++ putP A.length true x.enc) (l.map PE.enc)).length ≤ _
    rw [List.length_append] at h1
    rw [List.length_cons]
    omega
theorem man_take {l : List PE} {k : Nat} (hk : k < l.length) : manOf (l.take (k + 1)) = manOf (l.take k) ++ putP (manOf (l.take k)).length true (l[k]).enc := by
  rw [List.take_succ_eq_append_getElem hk, manOf_snoc]
set_option maxHeartbeats 4000000 in
theorem stateBytes_any (s : PSt) (t : SV) (w : World) (hv : VnAt w s.v t) (hok : s.Ok) (hw : WfV s.v) (hn : s.v.all.length ≤ 60000) :
    Calls Tryz.prog 56 #[sV s t] w (BytesR w s.bytes) := by
  obtain ⟨W0, hW0, HW⟩ : ∃ W0, W0 = w.alloc (.cells (sA s t) TSt) ∧ Hid (Below w.heap.size w W0 ∧ Box W0 w.heap.size TSt (sA s t) ∧ VnAt W0 s.v t) := ⟨_, rfl, (Below.refl _ _).alloc (Nat.le_refl _) _, Box.new _ _ _, hv.below ((Below.refl _ _).alloc (Nat.le_refl _) _)⟩
  have HS : Hid (s.Ok ∧ WfV s.v ∧ s.v.all.length ≤ 60000) := ⟨hok, hw, hn⟩
  have HN : Hid (∀ W, Calls Tryz.prog 96 #[sV s t] W fun e w' => e = .returned (.agg #[.int .u64 (s.log : Int), .int .u64 (s.next : Int), .int .u64 (s.last : Int), .slice none 0 0, .slice none 0 0]) ∧ Below W.heap.size W w') := fun W => numbers_any s t W
  have hmix : Tryz.prog.follows Departure.mixedOrders = true := by kernel_rfl
  clear hv hok hw hn
  refine (callsIn_wide (n := 6)).1 ?_
  refine callsIn_of_wp_marks Tryz.func56 rfl trivial ?_ rfl
  simp only [Tryz.ntmps56, List.size_toArray, List.length_cons, List.length_nil, Nat.reduceAdd, Nat.reduceSub, Array.replicate_succ, Array.replicate_zero, List.push_toArray, List.append_toArray, List.nil_append, List.cons_append]
  have HB0 := HW.out.2.1.eight
  rw [hW0] at HB0
  obtain ⟨c0, c1, c2, c3, c4, c5, c6, c7⟩ := HB0
  gi_wp2_with fail
  refine ⟨trivial, ?_⟩
  refine (callsIn_wide.2 (HN.out _)).mono ?_
  rintro _ w1 ⟨rfl, hb1⟩
  have H1 : Hid (Below w.heap.size w w1 ∧ Box w1 w.heap.size TSt (sA s t) ∧ VnAt w1 s.v t) := by
    have e : Below W0.heap.size W0 w1 := by rw [hW0]; exact hb1
    exact ⟨HW.out.1.trans (e.mono HW.out.1.size), HW.out.2.1.kept (e.block _ HW.out.2.1.lt), HW.out.2.2.below e⟩
  clear hb1 hW0 HN
  obtain ⟨c0, c1, c2, c3, c4, c5, c6, c7⟩ := H1.out.2.1.eight
  obtain ⟨W2, eW2, H2⟩ : ∃ W2, W2 = (w1.alloc (.cells #[.int .u64 (s.log : Int), .int .u64 (s.next : Int), .int .u64 (s.last : Int), .slice none 0 0, .slice none 0 0] TE)).alloc (.cells #[.slice (some ⟨w1.heap.size, 0, none⟩) 1 1] TEs) ∧ Hid (Below w.heap.size w W2 ∧ Box W2 w.heap.size TSt (sA s t) ∧ VnAt W2 s.v t ∧ Box W2 (w1.heap.size + 1) TEs #[.slice (some ⟨w1.heap.size, 0, none⟩) 1 1] ∧ OwnE W2 w.heap.size (some ⟨w1.heap.size, 0, none⟩) 1 1 [(s.numE, sz0)] ∧ W2.heap.size = w1.heap.size + 2 ∧ w.heap.size ≤ w1.heap.size) := by
    have hs := H1.out.1.size
    have hb2 : Below w1.heap.size w1 ((w1.alloc (.cells #[.int .u64 (s.log : Int), .int .u64 (s.next : Int), .int .u64 (s.last : Int), .slice none 0 0, .slice none 0 0] TE)).alloc (.cells #[.slice (some ⟨w1.heap.size, 0, none⟩) 1 1] TEs)) := ((Below.refl _ _).alloc (Nat.le_refl _) _).alloc (by simp) _
    refine ⟨_, rfl, H1.out.1.trans (hb2.mono hs), H1.out.2.1.kept (hb2.block _ H1.out.2.1.lt), H1.out.2.2.below hb2, ?_, ?_, by simp, hs⟩
    · have := Box.new (w1.alloc (.cells #[.int .u64 (s.log : Int), .int .u64 (s.next : Int), .int .u64 (s.last : Int), .slice none 0 0, .slice none 0 0] TE)) TEs #[.slice (some ⟨w1.heap.size, 0, none⟩) 1 1]
      simpa using this
    · exact (OwnE.one w1 w.heap.size hs (s.numE, sz0)).alloc _
  gi_wp2_with fail
  refine ⟨trivial, ?_⟩
  rw [← eW2]
  have c0' := H2.out.2.1.eight
  refine (callsIn_wide.2 (concatF_any s.v t w.heap.size HS.out.2.2 W2 H2.out.2.2.1 (fun j hj => ?_))).mono ?_
  · exact four (P := fun j => W2.cell? ⟨w.heap.size, 1 + j, none⟩ = some (.slice (t.a j) (s.v j).length (t.c j))) hj c0'.2.1 c0'.2.2.1 c0'.2.2.2.1 c0'.2.2.2.2.1
  clear c0 c1 c2 c3 c4 c5 c6 c7 c0' eW2 H1
  rintro _ w3 ⟨ac, cc, rfl, hof, hb3⟩
  have H3 : Hid (Below w.heap.size w w3 ∧ Box w3 (w1.heap.size + 1) TEs #[.slice (some ⟨w1.heap.size, 0, none⟩) 1 1] ∧ OwnE w3 w.heap.size (some ⟨w1.heap.size, 0, none⟩) 1 1 [(s.numE, sz0)] ∧ OwnF w3 w.heap.size ac s.v.all.length cc s.v.all ∧ w1.heap.size + 2 ≤ w3.heap.size ∧ w.heap.size ≤ w1.heap.size) :=
    ⟨H2.out.1.trans (hb3.mono H2.out.1.size), H2.out.2.2.2.1.kept (hb3.block _ H2.out.2.2.2.1.lt), H2.out.2.2.2.2.1.below hb3, hof.less H2.out.1.size, by have := hb3.size; have := H2.out.2.2.2.2.2.1; omega, H2.out.2.2.2.2.2.2⟩
  clear hof hb3 H2
  gi_wp2_with fail
  refine ⟨trivial, ?_⟩
  refine (callsIn_wide.2 (fchunk_any ac s.v.all.length cc 100 (by omega) w3)).mono ?_
  rintro _ w4 ⟨rfl, hw4⟩
  obtain ⟨p, hp⟩ : ∃ p, p = w1.heap.size + 1 := ⟨_, rfl⟩
  obtain ⟨q, hq⟩ : ∃ q, q = w3.heap.size := ⟨_, rfl⟩
  have H4 : Hid (EI w q ac cc s.v.all p [(s.numE, sz0)] w4 ∧ w4.heap.size = q + 2) := by
    subst hw4 hp hq
    have hb4 : Below w3.heap.size w3 ((w3.alloc (.cells #[.slice ac s.v.all.length cc] 41)).alloc (.cells #[.int .i64 (100 : Nat)] 3)) := ((Below.refl _ _).alloc (Nat.le_refl _) _).alloc (by simp) _
    have hs3 := H3.out.1.size
    have hq := H3.out.2.2.2.2.1
    refine ⟨⟨H3.out.1.trans (hb4.mono hs3), by have := H3.out.2.2.2.2.2; omega, by omega, ?_, ?_, H3.out.2.2.2.1.below hb4, _, _, H3.out.2.1.kept (hb4.block _ H3.out.2.1.lt), H3.out.2.2.1.below hb4⟩, by simp⟩
    · exact (Box.new w3 _ _).alloc _
    · have := Box.new (w3.alloc (.cells #[.slice ac s.v.all.length cc] 41)) 3 #[.int .i64 (100 : Nat)]
      simpa using this
  rw [← hp, ← hq]
  clear hw4 H3
  clear hp hq
  gi_wp2_with fail
  have hq2 := H4.out.2
  refine wpIn_rangeFunc_ownG (F := Fence.wide) rfl (by omega) (gf := 158) (lb := #[.pointer (some ⟨q, 0, none⟩), .pointer (some ⟨q + 1, 0, none⟩)]) rfl trivial (enters_of Tryz.func158 (by kernel_rfl) rfl)
    (fchunk_stops 5 (by omega) w4 ac s.v.all.length cc 100 s.v.all H4.out.1.fl.fs (by have := HS.out.2.2; omega) (by omega) (by omega) q w.heap.size w4 H4.out.1.x2 H4.out.1.x3) Kp15.trans (Kp15.put H4.out.1.base.size (by omega)) (Below.refl _ _) (fun _ => rfl)
    (fun pre W => ∃ l, EdL s ac cc pre l ∧ EI w q ac cc s.v.all p l W) (fun _ _ _ => False) (EI.from w q ac cc s.v.all p _ H4.out.1.base.size _) (fun c pre W W' row h => h.elim) ⟨_, ⟨by simp [FlX.ls], fun e he V hV => by obtain rfl := List.mem_singleton.1 he; exact ⟨GsAt.nil V, FlAt.nil V⟩⟩, H4.out.1⟩
    (fun x => { tmps := #[sV s t, .pointer (some ⟨w.heap.size, 0, none⟩), .slice none 0 0, .pointer (some ⟨p, 0, none⟩), .slice x.1.1 x.1.2.length x.1.2.length, undef, undef, undef, undef, undef, undef, undef, sV s t, .agg #[.int .u64 (s.log : Int), .int .u64 (s.next : Int), .int .u64 (s.last : Int), .slice none 0 0, .slice none 0 0], .slice (some ⟨w1.heap.size, 0, none⟩) 1 1, .pointer (some ⟨w.heap.size, 1, none⟩), .pointer (some ⟨w.heap.size, 1, none⟩), .slice (some ⟨w.heap.size, 1, none⟩) 4 4, .slice ac s.v.all.length cc,
        .func (.func 158) #[] #[.pointer (some ⟨q, 0, none⟩), .pointer (some ⟨q + 1, 0, none⟩)], .slice x.1.1 x.1.2.length x.1.2.length, undef, undef, undef, undef, undef, undef, undef, undef, undef, undef, undef, undef, undef, undef, undef, undef, undef, undef, undef, undef, undef, undef, undef, undef, undef, undef, undef, undef], defers := [] }) ?assign ?body ?done ?stop
  case assign =>
    intro lb x W K hK
    simp only [FlX.vals]
    gi_wp2
    exact hK
  case stop =>
    rintro D c pre W hD _ h
    exact h.elim
  case body =>
    rintro lb pre x W ⟨l, hl, hI⟩ hpl
    have HI : Hid (EdL s ac cc pre l ∧ EI w q ac cc s.v.all p l W) := ⟨hl, hI⟩
    obtain ⟨ae, ce, hx, ho⟩ := hI.own
    have c0 : W.cell? ⟨p, 0, none⟩ = some (.slice ae l.length ce) := hx.cell 0
    have HO : Hid (Box W p TEs #[.slice ae l.length ce] ∧ OwnE W w.heap.size ae l.length ce l) := ⟨hx, ho⟩
    have hll : l.length + 1 ≤ 70000 := by
      have h1 := hl.len
      have h2 := chG_len_le (iv := 100) (by omega) s.v.all
      have h3 := HS.out.2.2
      omega
    clear hl hI hx ho hpl
    obtain ⟨W1, eW1, H1⟩ : ∃ W1, Hid (W1 = W.alloc (.cells #[.int .u64 0, .int .u64 0, .int .u64 0, .slice none 0 0, .slice x.1.1 x.1.2.length x.1.2.length] TE)) ∧ Hid (EI w q ac cc s.v.all p l W1 ∧ Box W1 p TEs #[.slice ae l.length ce] ∧ OwnE W1 w.heap.size ae l.length ce l ∧ Box W1 W.heap.size TE #[.int .u64 0, .int .u64 0, .int .u64 0, .slice none 0 0, .slice x.1.1 x.1.2.length x.1.2.length] ∧ KeepsOthers W W1 ∧ Kp15 w.heap.size q W W1) := by
      have hb : ∀ o : Obj, Below W.heap.size W (W.alloc o) := fun o => (Below.refl _ _).alloc (Nat.le_refl _) _
      exact ⟨_, rfl, HI.out.2.call (hb _), HO.out.1.alloc _, HO.out.2.alloc _, Box.new _ _ _, KeepsOthers.of_grownBy (grown_none (hb _)) (fun j o e _ => by cases e), (hb _).mono HI.out.2.base.size, (hb _).block _ HI.out.2.x2.lt, (hb _).block _ HI.out.2.x3.lt⟩
    gi_wp2_with (gi_at_builtin; rw [← eW1.out]; refine wpListIn_pushE W1 rfl _ _ rfl w.heap.size ae l.length ce l rfl H1.out.2.2.1 W.heap.size (layE x.1.2, ⟨none, 0, x.1.1, x.1.2.length⟩) rfl H1.out.2.2.2.1 (by omega) H1.out.1.base.size ?_)
    intro a2 c2 w2 ho2 hg2
    obtain ⟨HE, ⟨z0, z1⟩, HK, HP⟩ := H1.out.1.push H1.out.2.1 H1.out.2.2.1 ho2 hg2
    have H5 : Hid (EI w q ac cc s.v.all p (l ++ [(layE x.1.2, ⟨none, 0, x.1.1, x.1.2.length⟩)]) (w2.setCell ⟨p, 0, none⟩ (.slice a2 (l.length + 1) c2)) ∧ KeepsOthers W (w2.setCell ⟨p, 0, none⟩ (.slice a2 (l.length + 1) c2)) ∧ Kp15 w.heap.size q W (w2.setCell ⟨p, 0, none⟩ (.slice a2 (l.length + 1) c2))) := ⟨HE, H1.out.2.2.2.2.1.trans HK, H1.out.2.2.2.2.2.trans HP⟩
    clear HE HK HP ho2 hg2 eW1
    gi_wp2_with fail
    exact ⟨H5.out.2.1.from _, H5.out.2.2, _, HI.out.1.snoc x, H5.out.1⟩
  case done =>
    rintro D xs W hD hS ⟨l, hl, hI⟩ hK
    have HKD : Hid _ := hK
    obtain ⟨ae, ce, hx, ho⟩ := hI.own
    have c0 : W.cell? ⟨p, 0, none⟩ = some (.slice ae l.length ce) := hx.cell 0
    have hes : l.map Prod.fst = s.eds := by rw [hl.1, hS]; rfl
    have HES : Hid (l.map Prod.fst = s.eds) := hes
    have HL : Hid (EsAt W ae l.length ce l) := by
      refine ⟨rfl, ho.row5, fun e he => ?_⟩
      have hm : e.1 ∈ s.eds := by rw [← hes]; exact List.mem_map_of_mem he
      have hz := PE.err_zero (HS.out.1.errs _ hm)
      refine ⟨hl.2 e he W hI.fl.fs, ?_, by have := hz.1; omega, by have := hz.2.1; omega⟩
      rcases List.mem_cons.1 hm with e1 | hm
      · rw [e1]
        intro f hf
        cases hf
      · obtain ⟨c, hc, e1⟩ := List.mem_map.1 hm
        intro f hf
        rw [← e1] at hf
        obtain ⟨m, hm2, hf2⟩ := mem_all.1 ((chG_mem (iv := 100) (by omega) s.v.all c hc).2.2 f hf)
        exact HS.out.2.1 m hm2 f hf2
    have HB : Hid (Below w.heap.size w W) := hI.base
    have hll : l.length ≤ 70000 := by
      have h1 := hl.len
      have h2 := chG_len_le (iv := 100) (by omega) s.v.all
      have h3 := HS.out.2.2
      have h4 : xs.length = (chG 100 s.v.all).length := by rw [← hS]; simp [FlX.ls]
      omega
    clear hl hI hx ho hes hK
    gi_wp2_with fail
    gi_loopw [5, 28] (fun x5 x28 wr => ∃ (k no co : Nat) (ao : Option Addr), k ≤ l.length ∧ x28 = .int .i64 (k : Int) ∧ x5 = .slice ao no co ∧ Hid (OwnB wr W.heap.size ao no co (manOf (s.eds.take k)) ∧ Below W.heap.size W wr)) (fun _ x28 _ => l.length - (intOf x28).toNat)
    case atStart => exact ⟨0, 0, 0, none, Nat.zero_le _, rfl, rfl, OwnB.nilAt _ _, Below.refl _ _⟩
    case round =>
      obtain ⟨k, no, co, ao, hk, rfl, rfl, HI⟩ := hrel
      by_cases hkl : k < l.length
      · obtain ⟨b, o, hix, hblt, hcs⟩ := HL.out.at hkl
        obtain ⟨d0, d1, d2, d3, d4⟩ := hcs wr HI.out.2
        have hee : s.eds.length = l.length := by rw [← HES.out, List.length_map]
        have hke : k < s.eds.length := by omega
        have hfe : (l[k]).1 = s.eds[k] := by simp [← HES.out]
        have hmem : (l[k]).1 ∈ s.eds := by rw [hfe]; exact List.getElem_mem _
        have HEN : Hid ((l[k]).1.lay = (l[k]).1.enc ∧ (l[k]).1.err = 0 ∧ (l[k]).1.enc.length ≤ 20000) := ⟨PE.lay_yes (HS.out.1.errs _ hmem), HS.out.1.errs _ hmem, ed_short HS.out.1 _ hmem⟩
        have HMT : Hid (manOf (s.eds.take (k + 1)) = manOf (s.eds.take k) ++ putP no true (l[k]).1.enc) := by
          unfold Hid
          rw [man_take hke, HI.out.1.size, hfe]
        have hno : no ≤ 1600000000 := by
          have h1 := man_le (s.eds.take k) (fun x hx => ed_short HS.out.1 x (List.mem_of_mem_take hx)) []
          have h2 := HI.out.1.size
          rw [List.length_take] at h1
          unfold manOf at h2
          simp only [List.length_nil] at h1
          omega
        have HED : Hid (EdAt W (l[k]).1 (l[k]).2 ∧ WfE (l[k]).1) := ⟨(HL.out.each _ (List.getElem_mem hkl)).1, (HL.out.each _ (List.getElem_mem hkl)).2.1⟩
        clear hfe hmem hee hke hcs
        generalize (l[k]).1 = x at *
        generalize (l[k]).2 = sx at *
        obtain ⟨W1, eW1, H1⟩ : ∃ W1, Hid (W1 = wr.alloc (.cells #[.int .u64 (x.log : Int), .int .u64 (x.next : Int), .int .u64 (x.last : Int), .slice sx.a x.dels.length sx.c, .slice sx.a' x.adds.length sx.c'] TE)) ∧ Hid (OwnB W1 W.heap.size ao no co (manOf (s.eds.take k)) ∧ Below W.heap.size W W1 ∧ EdAt W1 x sx) :=
          ⟨_, rfl, HI.out.1.below ((Below.refl _ _).alloc (Nat.le_refl _) _), HI.out.2.alloc HI.out.2.size _, (HED.out.1.below HI.out.2).below ((Below.refl _ _).alloc (Nat.le_refl _) _)⟩
        gi_wp2_with fail
        refine ⟨trivial, ?_⟩
        rw [← eW1.out]
        refine (callsIn_wide.2 (eenc_any x sx W1 H1.out.2.2 HED.out.2)).mono ?_
        rw [HEN.out.1, HEN.out.2.1]
        rintro _ w2 ⟨a2, c2, rfl, ho2, hb2⟩
        have H2 : Hid (OwnB w2 W.heap.size ao no co (manOf (s.eds.take k)) ∧ Below W.heap.size W w2 ∧ BsAt w2 a2 x.enc.length c2 x.enc) := ⟨H1.out.1.below hb2, H1.out.2.1.trans (hb2.mono H1.out.2.1.size), ho2.bs⟩
        have hlen := HEN.out.2.2
        clear ho2 hb2 eW1 H1 d0 d1 d2 d3 d4
        generalize hxl : x.enc.length = xl at *
        gi_wp2_with fail
        refine ⟨trivial, ?_⟩
        refine (callsIn_wide.2 (put_at no a2 xl c2 x.enc w2 H2.out.2.2 (by omega) (by omega))).mono ?_
        have HPL : Hid ((putP no true x.enc).length ≤ 139000) := by
          have h1 := put_short no x.enc
          unfold Hid
          omega
        have hpl := HPL.out
        generalize HPP : putP no true x.enc = pp at *
        generalize hppl : pp.length = pl at *
        rintro _ w3 ⟨a3, c3, rfl, ho3, hb3⟩
        have H3 : Hid (OwnB w3 W.heap.size ao no co (manOf (s.eds.take k)) ∧ Below W.heap.size W w3 ∧ BsAt w3 a3 pl c3 pp) := ⟨H2.out.1.below hb3, H2.out.2.1.trans (hb3.mono H2.out.2.1.size), ho3.bs⟩
        clear ho3 hb3 H2
        gi_wp2_with (gi_at_builtin; refine wpListIn_app w3 rfl _ _ rfl W.heap.size ao no co _ rfl H3.out.1 a3 pl c3 pp rfl H3.out.2.2 (by omega) H3.out.2.1.size ?_)
        intro a4 c4 w4' ho4 hg4
        have H4 : Hid (OwnB w4' W.heap.size a4 (no + pl) c4 (manOf (s.eds.take (k + 1))) ∧ Below W.heap.size W w4') := by
          rw [HMT.out]
          exact ⟨ho4, H3.out.2.1.grown hg4 H3.out.2.1.size (fun k e => (H3.out.1.row.lt k (by rw [own_blk]; exact e)).1)⟩
        clear ho4 hg4 H3
        gi_wp2_with fail
        refine ⟨⟨k + 1, no + pl, c4, a4, by omega, by go_num, rfl, H4.out⟩, ?_⟩
        simp only [intOf]
        omega
      · obtain rfl : k = l.length := by omega
        have hfull : s.eds.take l.length = s.eds := List.take_of_length_le (by rw [← HES.out, List.length_map]; exact Nat.le_refl _)
        have HO := HI.out.1
        rw [hfull] at HO
        have hsz := HO.size
        have hDW : D < W.heap.size := (Array.getElem?_eq_some_iff.1 HKD.out).1
        have hKr : wr.heap[D]? = some (.deferred (some [])) := (HI.out.2.block _ hDW).trans HKD.out
        have hD2 : w.heap.size ≤ D := Nat.le_trans H4.out.1.base.size hD
        gi_wp2_with fail
        refine ⟨by simp, .inl ⟨_, _, rfl, run_takeDeferred hKr, ?_⟩⟩
        have hsz' : s.bytes.length = no := hsz
        have hnc : ∀ k, (Value.slice ao no co).ownBlock = some k → k ≠ D := fun k e hkD => by
          have h1 := row_tag HO.row e
          rw [hkD] at h1
          unfold Go.Proofs.YtmlfbihlbiikeaaGreatDoor.tag at h1
          rw [hKr] at h1
          cases h1
        refine ⟨.slice ao no co, by simp [results, Tryz.results56, go_sem], ao, co, by rw [hsz'], ?_, ?_⟩
        · rw [hsz']
          exact ⟨HO.size, row_same (row_less HO.row HB.out.size) (fun k e => World.putObj_heap_other (hnc k e))⟩
        · refine (HB.out.trans (HI.out.2.mono HB.out.size)).trans ?_
          exact (Below.refl _ wr).grown (grownBy_putObj' wr D _) (Nat.le_trans HB.out.size HI.out.2.size) (fun k e => by cases e; exact hD2)
end Go.Proofs.YtmlfbihlbiikeaaGreatDoor
