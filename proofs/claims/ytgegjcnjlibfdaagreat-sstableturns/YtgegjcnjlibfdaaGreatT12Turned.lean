/- A table with a byte of its blocks that is another: what is told of it, plainly. -/
import Derived.Test.YtgegjcnjlibfdaaGreatQa22
namespace Go.Proofs.YtgegjcnjlibfdaaGreat
set_option maxRecDepth 100000
open Go.RowKit
set_option linter.unusedVariables false
set_option linter.unusedSimpArgs false
theorem bodyT_app (a b : List (List UInt8 × IK)) : bodyT (a ++ b) = bodyT a ++ bodyT b := by simp [bodyT]
theorem bodyT_cons (x : List UInt8 × IK) (b : List (List UInt8 × IK)) : bodyT (x :: b) = x.1 ++ bodyT b := rfl
theorem body_set (x : UInt8) : ∀ (ps : List (List UInt8 × IK)) (k : Nat), k < (bodyT ps).length → ∃ pre y post i, ps = pre ++ y :: post ∧ i < y.1.length ∧ (bodyT ps).set k x = bodyT (pre ++ (y.1.set i x, y.2) :: post) ∧ y.1.getD i 0 = (bodyT ps).getD k 0
  | [], k, h => by simp [bodyT] at h
  | y :: r, k, h => by
    rw [bodyT_cons] at h ⊢
    by_cases hk : k < y.1.length
    · refine ⟨[], y, r, k, rfl, hk, ?_, ?_⟩
      · rw [List.set_append_left _ _ hk]
        rfl
      · simp [List.getD, List.getElem?_append_left hk]
    · rw [List.length_append] at h
      obtain ⟨pre, z, post, i, h1, h2, h3, h4⟩ := body_set x r (k - y.1.length) (by omega)
      refine ⟨y :: pre, z, post, i, by rw [h1]; rfl, h2, ?_, ?_⟩
      · rw [List.set_append_right _ _ (by omega), h3]
        rfl
      · rw [h4]
        simp [List.getD, List.getElem?_append_right (by omega : y.1.length ≤ k)]
theorem ixE_other (p p' : List UInt8) (k : IK) (h : p'.length = p.length) (post : List (List UInt8 × IK)) : ∀ (pre : List (List UInt8 × IK)) (a : Nat), ixE a (pre ++ (p', k) :: post) = ixE a (pre ++ (p, k) :: post)
  | [], a => by
    show (k, strOf (plV a (p'.length - 4))) :: ixE (a + p'.length) post = (k, strOf (plV a (p.length - 4))) :: ixE (a + p.length) post
    rw [h]
  | y :: pre, a => by
    show (y.2, _) :: ixE _ (pre ++ (p', k) :: post) = (y.2, _) :: ixE _ (pre ++ (p, k) :: post)
    rw [ixE_other p p' k h post pre]
theorem Gs.left {iv : Nat} {a b : List (List KV)} (h : Gs iv (a ++ b)) : Gs iv a :=
  ⟨h.one, h.top, fun g hg => h.some g (List.mem_append_left _ hg), by have := h.ok; rw [List.flatten_append] at this; exact (chkL_app this).1, fun g hg => h.small g (List.mem_append_left _ hg)⟩
theorem allGo_app : ∀ (a b : List (List UInt8 × IK)) (acc l : List KV), allGo acc a = .ok l → allGo acc (a ++ b) = allGo l b
  | [], b, acc, l, h => by
    unfold allGo at h
    cases h
    rfl
  | x :: a, b, acc, l, h => by
    unfold allGo at h
    show allGo acc (x :: (a ++ b)) = _
    unfold allGo
    cases hr : readS x.1 x.2 with
    | error e => rw [hr] at h; cases h
    | ok m =>
      rw [hr] at h
      simp only at h ⊢
      by_cases hc : clash acc m = true
      · rw [if_pos hc] at h
        cases h
      · rw [if_neg hc] at h ⊢
        have := allGo_app a b _ l h
        rw [this]
        cases b <;> rfl
theorem readS_bad {p : List UInt8} (h : okP p = false) (k : IK) : readS p k = .error 122 := by
  unfold readS
  rw [if_pos h]
/-- The table that is opened then. -/
theorem turned {iv bl bits : Nat} (h1 : 1 ≤ iv) (h2 : iv ≤ 16) {l : List KV} (hc : chkL l = 0) (hne : l ≠ []) (hn : l.length ≤ 1000) (hok : okB bits = true) {k : Nat} {x : UInt8} (hk : k < (bodyT (tdOf iv (grps iv bl l))).length) (hx : (tblB iv bl bits l).getD k 0 ≠ x) :
    ∃ T, openT ((tblB iv bl bits l).set k x) = .ok T ∧ allT T = .error 122 ∧ ∀ u s, getT T u s = ⟨⟨#[]⟩, 0, 122⟩ ∨ getT T u s = toldK (lgetK l u s) := by
  have hg := gs_ok h1 h2 bl hc hn
  have hte := tells_built (bl := bl) (bits := bits) h1 h2 hc hne hn hok
  have hl := tblB_le (bl := bl) (bits := bits) h1 h2 hc hn hok
  have hix : chkL (ixE 0 (tdOf iv (grps iv bl l))) = 0 := ix_chk (fun x hx => (tdOf_ok hg x hx).1) (tdOf_rises _ hg) 0
  have h4 : ∀ x ∈ tdOf iv (grps iv bl l), 4 ≤ x.1.length := fun x hx => (tdOf_ok hg x hx).2
  have hget := hte.get
  unfold tblB at hl hx ⊢
  obtain ⟨pre, y, post, i, e1, e2, e3, e4⟩ := body_set x (tdOf iv (grps iv bl l)) k hk
  have hxy : y.1.getD i 0 ≠ x := by
    rw [e4]
    intro e
    apply hx
    rw [← e]
    unfold tabB
    simp [List.getD, List.getElem?_append_left hk]
  obtain ⟨g1, g2, eg, eg1, eg2⟩ := List.map_eq_append_iff.1 (show (grps iv bl l).map (fun g => (partB (layP iv g), lastK g)) = pre ++ y :: post from e1)
  obtain ⟨g, g3, eg3, eg4, eg5⟩ := List.map_eq_cons_iff.1 eg2
  have hbad : okP (y.1.set i x) = false := by
    rw [← eg4] at e2 hxy ⊢
    dsimp only at e2 hxy ⊢
    exact okP_turned (layP iv g) i x (by rw [partB_len] at e2; exact e2) hxy
  have hlen : (y.1.set i x).length = y.1.length := List.length_set
  have eix : ixE 0 (pre ++ (y.1.set i x, y.2) :: post) = ixE 0 (tdOf iv (grps iv bl l)) := by
    rw [e1]
    exact ixE_other y.1 _ y.2 hlen post pre 0
  have eixB : ixB (pre ++ (y.1.set i x, y.2) :: post) = ixB (tdOf iv (grps iv bl l)) := by unfold ixB; rw [eix]
  have ebl : (bodyT (pre ++ (y.1.set i x, y.2) :: post)).length = (bodyT (tdOf iv (grps iv bl l))).length := by rw [← e3, List.length_set]
  have etab : (tabB (tdOf iv (grps iv bl l)) (fltN bits l) l.length).set k x = tabB (pre ++ (y.1.set i x, y.2) :: post) (fltN bits l) l.length := by
    unfold tabB
    rw [List.set_append_left _ _ hk, e3, eixB, ebl]
  rw [etab]
  have hl' : (tabB (pre ++ (y.1.set i x, y.2) :: post) (fltN bits l) l.length).length < 4294967296 := by
    rw [← etab, List.length_set]
    omega
  refine ⟨⟨fltN bits l, pre ++ (y.1.set i x, y.2) :: post, l.length⟩, open_tab (by simp) ?_ (by rw [eix]; exact hix) hl' (by omega), ?_, fun u s => ?_⟩
  · intro z hz
    rcases List.mem_append.1 hz with hz | hz
    · exact h4 z (by rw [e1]; exact List.mem_append_left _ hz)
    · rcases List.mem_cons.1 hz with rfl | hz
      · dsimp only
        rw [hlen]
        exact h4 y (by rw [e1]; simp)
      · exact h4 z (by rw [e1]; exact List.mem_append_right _ (List.mem_cons_of_mem _ hz))
  · have hgl : Gs iv g1 := by
      rw [eg] at hg
      exact hg.left
    have ha := all_laid g1 [] hgl (by simp)
    rw [show tdOf iv g1 = pre from eg1] at ha
    unfold allT
    dsimp only
    rw [allGo_app pre _ [] _ ha]
    unfold allGo
    rw [readS_bad hbad]
  · have hgu := hget u s
    rw [← hgu]
    unfold getT
    dsimp only
    by_cases hm : mayN (fltN bits l) u.data.toList = false
    · exact .inr (by rw [if_pos hm, if_pos hm])
    rw [if_neg hm, if_neg hm, e1, List.find?_append, List.find?_append, List.find?_cons, List.find?_cons]
    cases hp : pre.find? (fun x => decide (0 ≤ x.2.cmp (theK u s))) with
    | some z => exact .inr (by simp)
    | none =>
      by_cases hy : 0 ≤ y.2.cmp (theK u s)
      · left
        rw [decide_eq_true hy]
        simp only [Option.or_some, Option.none_or, Option.getD_none]
        rw [readS_bad hbad]
      · right
        rw [decide_eq_false hy]
/-- How many bytes the blocks have is what the last bytes tell. -/
theorem tbl_fa {iv bl bits : Nat} (h1 : 1 ≤ iv) (h2 : iv ≤ 16) {l : List KV} (hc : chkL l = 0) (hn : l.length ≤ 1000) (hok : okB bits = true) :
    num4 (tblB iv bl bits l) ((tblB iv bl bits l).length - 28) = (bodyT (tdOf iv (grps iv bl l))).length ∧ (bodyT (tdOf iv (grps iv bl l))).length + 28 ≤ (tblB iv bl bits l).length ∧ (l ≠ [] → 4 ≤ (bodyT (tdOf iv (grps iv bl l))).length) := by
  have hl := tblB_le (bl := bl) (bits := bits) h1 h2 hc hn hok
  unfold tblB at hl ⊢
  have h := (ft_tab (n := l.length) (f := fltN bits l) (ps := tdOf iv (grps iv bl l)) (by omega) (by omega)).1
  have h3 := congrArg Ft.fa h
  refine ⟨h3, ?_, fun hne => ?_⟩
  · rw [tabB_len]
    omega
  · rw [grps_cons iv bl hne]
    show 4 ≤ (partB _ ++ _).length
    rw [List.length_append, partB_len]
    omega
theorem num4_bytes {b : List UInt8} {i : Nat} (h : i + 4 ≤ b.length) : num4 b i = (b.getD i 0).toNat + (b.getD (i + 1) 0).toNat * 256 + (b.getD (i + 2) 0).toNat * 65536 + (b.getD (i + 3) 0).toNat * 16777216 := by
  unfold num4 segB
  have e : (b.drop i).take 4 = [b.getD i 0, b.getD (i + 1) 0, b.getD (i + 2) 0, b.getD (i + 3) 0] := by
    apply List.ext_getElem?
    intro j
    rw [List.getElem?_take]
    by_cases hj : j < 4
    · rw [if_pos hj, List.getElem?_drop]
      have : j = 0 ∨ j = 1 ∨ j = 2 ∨ j = 3 := by omega
      rcases this with rfl | rfl | rfl | rfl <;> simp [List.getD, List.getElem?_eq_getElem (by omega : i < b.length), List.getElem?_eq_getElem (by omega : i + 1 < b.length), List.getElem?_eq_getElem (by omega : i + 2 < b.length), List.getElem?_eq_getElem (by omega : i + 3 < b.length)]
    · rw [if_neg hj, List.getElem?_eq_none (by simp; omega)]
  rw [e]
  simp only [leNat]
  omega
end Go.Proofs.YtgegjcnjlibfdaaGreat
