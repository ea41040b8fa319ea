/- What is laid as a table is opened, read and asked; also with a byte that is another. Plainly. -/
import Derived.Test.YtgegjcnjlibfdaaGreatQa06
import Derived.Test.YtgegjcnjlibfdaaGreatQa03
namespace Go.Proofs.YtgegjcnjlibfdaaGreat
set_option maxRecDepth 100000
/-- The index' entries of parts with their last keys. -/
def ixE : Nat → List (List UInt8 × IK) → List KV
  | _, [] => []
  | a, x :: r => (x.2, strOf (plV a (x.1.length - 4))) :: ixE (a + x.1.length) r
def bodyT (ps : List (List UInt8 × IK)) : List UInt8 := (ps.map (·.1)).flatten
def footB (fa fn xa xn n : Nat) : List UInt8 := fxEnc fa 4 ++ (fxEnc fn 4 ++ (fxEnc xa 4 ++ (fxEnc xn 4 ++ (fxEnc n 4 ++ wordB))))
theorem footB_len (fa fn xa xn n : Nat) : (footB fa fn xa xn n).length = 28 := by simp [footB, fxEnc_length, wordB]
def ixB (ps : List (List UInt8 × IK)) : List UInt8 := layP 1 (ixE 0 ps)
def tabB (ps : List (List UInt8 × IK)) (f : List UInt8) (n : Nat) : List UInt8 :=
  bodyT ps ++ (partB f ++ (partB (ixB ps) ++ footB (bodyT ps).length f.length ((bodyT ps).length + f.length + 4) (ixB ps).length n))
theorem tabB_len (ps : List (List UInt8 × IK)) (f : List UInt8) (n : Nat) : (tabB ps f n).length = (bodyT ps).length + f.length + (ixB ps).length + 36 := by
  simp [tabB, partB_len, footB_len]
  omega
theorem seg_at (a m c : List UInt8) (i k : Nat) (hi : i = a.length) (hk : k = m.length) : segB (a ++ (m ++ c)) i k = m := by
  subst hi hk
  unfold segB
  rw [List.drop_left' rfl, List.take_left' rfl]
theorem num4_at (a c : List UInt8) (v i : Nat) (hi : i = a.length) (hv : v < 4294967296) : num4 (a ++ (fxEnc v 4 ++ c)) i = v := by
  unfold num4
  rw [seg_at a _ c i 4 hi (fxEnc_length _ _).symm, four_enc _ hv]
theorem ft_tab {ps : List (List UInt8 × IK)} {f : List UInt8} {n : Nat} (hl : (tabB ps f n).length < 4294967296) (hn : n < 4294967296) :
    ftAt (tabB ps f n) = ⟨(bodyT ps).length, f.length, (bodyT ps).length + f.length + 4, (ixB ps).length, n⟩ ∧ (tabB ps f n).drop ((tabB ps f n).length - 8) = wordB := by
  have hlen := tabB_len ps f n
  have h1 : (partB f).length = f.length + 4 := partB_len _
  have h2 : (partB (ixB ps)).length = (ixB ps).length + 4 := partB_len _
  have hf : ∀ (v : Nat), (fxEnc v 4).length = 4 := fun v => fxEnc_length v 4
  unfold ftAt
  generalize hL : (tabB ps f n).length = L at *
  unfold tabB footB
  refine ⟨?_, ?_⟩
  · congr 1
    · have := num4_at (bodyT ps ++ (partB f ++ partB (ixB ps))) (fxEnc f.length 4 ++ (fxEnc ((bodyT ps).length + f.length + 4) 4 ++ (fxEnc (ixB ps).length 4 ++ (fxEnc n 4 ++ wordB)))) (bodyT ps).length (L - 28) (by simp [h1, h2]; omega) (by omega)
      simpa [List.append_assoc] using this
    · have := num4_at (bodyT ps ++ (partB f ++ (partB (ixB ps) ++ fxEnc (bodyT ps).length 4))) (fxEnc ((bodyT ps).length + f.length + 4) 4 ++ (fxEnc (ixB ps).length 4 ++ (fxEnc n 4 ++ wordB))) f.length (L - 24) (by simp [h1, h2, hf]; omega) (by omega)
      simpa [List.append_assoc] using this
    · have := num4_at (bodyT ps ++ (partB f ++ (partB (ixB ps) ++ (fxEnc (bodyT ps).length 4 ++ fxEnc f.length 4)))) (fxEnc (ixB ps).length 4 ++ (fxEnc n 4 ++ wordB)) ((bodyT ps).length + f.length + 4) (L - 20) (by simp [h1, h2, hf]; omega) (by omega)
      simpa [List.append_assoc] using this
    · have := num4_at (bodyT ps ++ (partB f ++ (partB (ixB ps) ++ (fxEnc (bodyT ps).length 4 ++ (fxEnc f.length 4 ++ fxEnc ((bodyT ps).length + f.length + 4) 4))))) (fxEnc n 4 ++ wordB) (ixB ps).length (L - 16) (by simp [h1, h2, hf]; omega) (by omega)
      simpa [List.append_assoc] using this
    · have := num4_at (bodyT ps ++ (partB f ++ (partB (ixB ps) ++ (fxEnc (bodyT ps).length 4 ++ (fxEnc f.length 4 ++ (fxEnc ((bodyT ps).length + f.length + 4) 4 ++ fxEnc (ixB ps).length 4)))))) wordB n (L - 12) (by simp [h1, h2, hf]; omega) hn
      simpa [List.append_assoc] using this
  · have e : bodyT ps ++ (partB f ++ (partB (ixB ps) ++ (fxEnc (bodyT ps).length 4 ++ (fxEnc f.length 4 ++ (fxEnc ((bodyT ps).length + f.length + 4) 4 ++ (fxEnc (ixB ps).length 4 ++ (fxEnc n 4 ++ wordB))))))) = (bodyT ps ++ (partB f ++ (partB (ixB ps) ++ (fxEnc (bodyT ps).length 4 ++ (fxEnc f.length 4 ++ (fxEnc ((bodyT ps).length + f.length + 4) 4 ++ (fxEnc (ixB ps).length 4 ++ fxEnc n 4))))))) ++ wordB := by simp [List.append_assoc]
    rw [e]
    exact List.drop_left' (by simp [h1, h2, hf]; omega)
theorem str_data (l : List UInt8) : (strOf l).data.toList = l := by simp [strOf]
theorem idx_laid : ∀ (ps : List (List UInt8 × IK)) (pre : List UInt8), (∀ x ∈ ps, 4 ≤ x.1.length) → (pre ++ bodyT ps).length < 18446744073709551616 → idxGo (pre ++ bodyT ps) pre.length (ixE pre.length ps) = some ps
  | [], pre, _, _ => by simp [idxGo, ixE, bodyT]
  | x :: r, pre, h4, hl => by
    have h4x := h4 x (by simp)
    have e : bodyT (x :: r) = x.1 ++ bodyT r := rfl
    have ih := idx_laid r (pre ++ x.1) (fun y hy => h4 y (List.mem_cons_of_mem _ hy)) (by rw [List.append_assoc, ← e]; exact hl)
    rw [e] at hl ⊢
    rw [List.append_assoc] at ih
    rw [List.length_append] at ih
    simp only [List.length_append] at hl
    unfold ixE idxGo
    rw [str_data, plOf_laid (by omega) (by omega)]
    dsimp only
    have e4 : pre.length + (x.1.length - 4) + 4 = pre.length + x.1.length := by omega
    rw [e4, if_pos ⟨rfl, by simp⟩, ih, seg_at pre x.1 (bodyT r) _ _ rfl (by omega)]
    rfl
/-- What is laid as a table is opened. -/
theorem open_tab {ps : List (List UInt8 × IK)} {f : List UInt8} {n : Nat} (hne : ps ≠ []) (h4 : ∀ x ∈ ps, 4 ≤ x.1.length) (hc : chkL (ixE 0 ps) = 0) (hl : (tabB ps f n).length < 4294967296) (hn : n < 4294967296) : openT (tabB ps f n) = .ok ⟨f, ps, n⟩ := by
  obtain ⟨hft, hw⟩ := ft_tab hl hn
  have hlen := tabB_len ps f n
  have hfo : footOk (tabB ps f n) = true := by
    unfold footOk
    rw [hft]
    dsimp only
    exact decide_eq_true ⟨by omega, hw, rfl, by omega⟩
  have e1 : segB (tabB ps f n) (bodyT ps).length (f.length + 4) = partB f := seg_at _ _ _ _ _ rfl (partB_len _).symm
  have e2 : segB (tabB ps f n) ((bodyT ps).length + f.length + 4) ((ixB ps).length + 4) = partB (ixB ps) := by
    have := seg_at (bodyT ps ++ partB f) (partB (ixB ps)) (footB (bodyT ps).length f.length ((bodyT ps).length + f.length + 4) (ixB ps).length n) ((bodyT ps).length + f.length + 4) ((ixB ps).length + 4) (by simp [partB_len]; omega) (partB_len _).symm
    unfold tabB
    rw [List.append_assoc] at this
    exact this
  have e3 : segB (tabB ps f n) ((bodyT ps).length + f.length + 4) (ixB ps).length = ixB ps := by
    have : segB (tabB ps f n) ((bodyT ps).length + f.length + 4) (ixB ps).length = (segB (tabB ps f n) ((bodyT ps).length + f.length + 4) ((ixB ps).length + 4)).take (ixB ps).length := by
      unfold segB
      rw [List.take_take, Nat.min_eq_left (by omega)]
    rw [this, e2]
    simp [partB]
  have e4 : segB (tabB ps f n) (bodyT ps).length f.length = f := by
    have : segB (tabB ps f n) (bodyT ps).length f.length = (segB (tabB ps f n) (bodyT ps).length (f.length + 4)).take f.length := by
      unfold segB
      rw [List.take_take, Nat.min_eq_left (by omega)]
    rw [this, e1]
    simp [partB]
  have e5 : (tabB ps f n).take (bodyT ps).length = bodyT ps := List.take_left' rfl
  unfold openT
  rw [hfo, hft]
  dsimp only
  rw [e1, okP_part, e2, okP_part, e3, e4, e5]
  have ho : openP (ixB ps) = some (strs 1 (ixE 0 ps), chunks 1 (ixE 0 ps)) := open_laid (by omega) (by omega) hc (by have : (layP 1 (ixE 0 ps)).length = (ixB ps).length := rfl; omega)
  rw [ho]
  dsimp only
  have hxe : ixE 0 ps ≠ [] := by cases ps with | nil => exact absurd rfl hne | cons x r => simp [ixE]
  have hx := idx_laid ps [] h4 (by simp; omega)
  simp only [List.nil_append, List.length_nil] at hx
  have hno : ¬ (ixE 0 ps = [] ∨ layP 1 (ixE 0 ps) ≠ ixB ps) := by
    rintro (h | h)
    · exact hxe h
    · exact h rfl
  rw [chunks_flat (Nat.le_refl 1), if_neg hno, hx]
  simp
def lastK (g : List KV) : IK := match g.getLast? with
  | some e => e.1
  | none => ⟨⟨#[]⟩, 0, 0⟩
def tdOf (iv : Nat) (gs : List (List KV)) : List (List UInt8 × IK) := gs.map fun g => (partB (layP iv g), lastK g)
theorem lastK_mem {g : List KV} (h : g ≠ []) : ∃ e ∈ g, g.getLast? = some e ∧ lastK g = e.1 := by
  refine ⟨g.getLast h, List.getLast_mem h, List.getLast?_eq_some_getLast h, ?_⟩
  unfold lastK
  rw [List.getLast?_eq_some_getLast h]
theorem read_laid {iv : Nat} (h1 : 1 ≤ iv) (h2 : iv ≤ 16) {g : List KV} (hg : g ≠ []) (hc : chkL g = 0) (hl : (layP iv g).length < 4294967296) : readS (partB (layP iv g)) (lastK g) = .ok g := by
  unfold readS
  rw [okP_part, bodyB_part, open_laid h1 h2 hc hl]
  dsimp only
  obtain ⟨e, _, he, hk⟩ := lastK_mem hg
  rw [chunks_flat h1]
  have : lastIs g (lastK g) = true := by
    unfold lastIs
    rw [he, hk]
    exact sameK_iff.2 rfl
  rw [if_pos this]
  simp
structure Gs (iv : Nat) (gs : List (List KV)) : Prop where
  one : 1 ≤ iv
  top : iv ≤ 16
  some : ∀ g ∈ gs, g ≠ []
  ok : chkL gs.flatten = 0
  small : ∀ g ∈ gs, (layP iv g).length < 4294967296
theorem chkL_app {a b : List KV} (h : chkL (a ++ b) = 0) : chkL a = 0 ∧ chkL b = 0 ∧ ∀ x ∈ a, ∀ y ∈ b, x.1.cmp y.1 < 0 := by
  obtain ⟨h1, h2⟩ := chkL_zero.1 h
  obtain ⟨h3, h4, h5⟩ := rises_append.1 h2
  exact ⟨chkL_zero.2 ⟨fun e he => h1 e (List.mem_append_left _ he), h3⟩, chkL_zero.2 ⟨fun e he => h1 e (List.mem_append_right _ he), h4⟩, h5⟩
theorem Gs.tail {iv : Nat} {g : List KV} {gs : List (List KV)} (h : Gs iv (g :: gs)) : Gs iv gs := ⟨h.one, h.top, fun x hx => h.some x (List.mem_cons_of_mem _ hx), (chkL_app h.ok).2.1, fun x hx => h.small x (List.mem_cons_of_mem _ hx)⟩
theorem Gs.read {iv : Nat} {gs : List (List KV)} (h : Gs iv gs) {g : List KV} (hg : g ∈ gs) : readS (partB (layP iv g)) (lastK g) = .ok g := by
  refine read_laid h.one h.top (h.some g hg) ?_ (h.small g hg)
  obtain ⟨h1, h2⟩ := chkL_zero.1 h.ok
  refine chkL_zero.2 ⟨fun e he => h1 e (List.mem_flatten.2 ⟨g, hg, he⟩), ?_⟩
  exact List.Pairwise.sublist (List.sublist_flatten_of_mem hg) h2
theorem no_clash {acc l : List KV} (h : ∀ x ∈ acc, ∀ y ∈ l, x.1.cmp y.1 < 0) : clash acc l = false := by
  unfold clash
  split
  · rename_i x y hx hy
    have := h x (List.mem_of_getLast? hx) y (List.mem_of_mem_head? hy)
    exact decide_eq_false (by omega)
  · rfl
theorem all_laid {iv : Nat} : ∀ (gs : List (List KV)) (acc : List KV), Gs iv gs → (∀ x ∈ acc, ∀ y ∈ gs.flatten, x.1.cmp y.1 < 0) → allGo acc (tdOf iv gs) = .ok (acc ++ gs.flatten)
  | [], acc, _, _ => by simp [allGo, tdOf]
  | g :: gs, acc, h, ha => by
    have hr := h.read (g := g) (by simp)
    have hcl : clash acc g = false := no_clash fun x hx y hy => ha x hx y (by simp [hy])
    have ih := all_laid gs (acc ++ g) h.tail (fun x hx y hy => by
      rcases List.mem_append.1 hx with hx | hx
      · exact ha x hx y (by rw [List.flatten_cons]; exact List.mem_append_right _ hy)
      · exact (chkL_app h.ok).2.2 x hx y hy)
    show allGo acc ((partB (layP iv g), lastK g) :: tdOf iv gs) = _
    unfold allGo
    rw [hr]
    dsimp only
    rw [hcl, ih, List.flatten_cons, List.append_assoc]
    rfl
theorem ixE_mem : ∀ (ps : List (List UInt8 × IK)) (a : Nat) (e : KV), e ∈ ixE a ps → ∃ x ∈ ps, e.1 = x.2 ∧ e.2.size ≤ 20
  | x :: r, a, e, h => by
    rcases List.mem_cons.1 h with rfl | h
    · exact ⟨x, by simp, rfl, by rw [str_len]; exact plV_len _ _⟩
    · obtain ⟨y, hy, h2⟩ := ixE_mem r _ e h
      exact ⟨y, List.mem_cons_of_mem _ hy, h2⟩
theorem ixE_rises : ∀ (ps : List (List UInt8 × IK)) (a : Nat), ps.Pairwise (fun x y => x.2.cmp y.2 < 0) → Rises (ixE a ps)
  | [], _, _ => List.Pairwise.nil
  | x :: r, a, h => by
    obtain ⟨h1, h2⟩ := List.pairwise_cons.1 h
    refine List.pairwise_cons.2 ⟨fun e he => ?_, ixE_rises r _ h2⟩
    obtain ⟨y, hy, e1, _⟩ := ixE_mem r _ e he
    rw [e1]
    exact h1 y hy
theorem tdOf_rises {iv : Nat} : ∀ (gs : List (List KV)), Gs iv gs → (tdOf iv gs).Pairwise (fun x y => x.2.cmp y.2 < 0)
  | [], _ => List.Pairwise.nil
  | g :: gs, h => by
    refine List.pairwise_cons.2 ⟨fun y hy => ?_, tdOf_rises gs h.tail⟩
    obtain ⟨g2, hg2, rfl⟩ := List.mem_map.1 hy
    obtain ⟨e, he, _, e1⟩ := lastK_mem (h.some g (by simp))
    obtain ⟨e', he', _, e2⟩ := lastK_mem (h.some g2 (List.mem_cons_of_mem _ hg2))
    dsimp only
    rw [e1, e2]
    exact (chkL_app h.ok).2.2 e he e' (List.mem_flatten.2 ⟨g2, hg2, he'⟩)
theorem tdOf_ok {iv : Nat} {gs : List (List KV)} (h : Gs iv gs) : ∀ x ∈ tdOf iv gs, x.2.err = 0 ∧ 4 ≤ x.1.length := by
  intro x hx
  obtain ⟨g, hg, rfl⟩ := List.mem_map.1 hx
  obtain ⟨e, he, _, e1⟩ := lastK_mem (h.some g hg)
  refine ⟨?_, by dsimp only; rw [partB_len]; omega⟩
  dsimp only
  rw [e1]
  exact ((chkL_zero.1 h.ok).1 e (List.mem_flatten.2 ⟨g, hg, he⟩)).1
theorem ix_chk {ps : List (List UInt8 × IK)} (h1 : ∀ x ∈ ps, x.2.err = 0) (h2 : ps.Pairwise (fun x y => x.2.cmp y.2 < 0)) (a : Nat) : chkL (ixE a ps) = 0 :=
  chkL_zero.2 ⟨fun e he => by
    obtain ⟨x, hx, e1, e2⟩ := ixE_mem ps a e he
    exact ⟨by rw [e1]; exact h1 x hx, by omega⟩, ixE_rises ps a h2⟩
theorem rises_last {g : List KV} (hr : Rises g) {e z : KV} (he : e ∈ g) (hz : g.getLast? = some z) : e.1.cmp z.1 ≤ 0 := by
  have hne : g ≠ [] := by
    rintro rfl
    cases hz
  have hgz : g.getLast hne = z := by
    rw [List.getLast?_eq_some_getLast hne] at hz
    exact Option.some.inj hz
  obtain ⟨r, rfl⟩ : ∃ r, g = r ++ [z] := ⟨g.dropLast, by rw [← hgz]; exact (List.dropLast_concat_getLast hne).symm⟩
  rcases List.mem_append.1 he with h | h
  · exact Int.le_of_lt ((rises_append.1 hr).2.2 e h z (by simp))
  · rw [List.mem_singleton.1 h, IK.cmp_self]
    exact Int.le_refl _
/-- Sought by blocks, and then among one: the first of all. -/
theorem find_blocks {iv : Nat} (k : IK) : ∀ (gs : List (List KV)), Gs iv gs →
    ((tdOf iv gs).find? (fun x => decide (0 ≤ x.2.cmp k)) = none ∧ gs.flatten.find? (fun e => decide (0 ≤ e.1.cmp k)) = none) ∨
    ∃ g ∈ gs, (tdOf iv gs).find? (fun x => decide (0 ≤ x.2.cmp k)) = some (partB (layP iv g), lastK g) ∧ gs.flatten.find? (fun e => decide (0 ≤ e.1.cmp k)) = g.find? (fun e => decide (0 ≤ e.1.cmp k))
  | [], _ => .inl ⟨rfl, rfl⟩
  | g :: gs, h => by
    obtain ⟨z, hz, hl, e1⟩ := lastK_mem (h.some g (by simp))
    show ((((partB (layP iv g), lastK g) :: tdOf iv gs).find? _ = none) ∧ _) ∨ ∃ g' ∈ g :: gs, ((partB (layP iv g), lastK g) :: tdOf iv gs).find? _ = _ ∧ _
    rw [List.find?_cons, List.flatten_cons, List.find?_append]
    dsimp only
    by_cases hk : 0 ≤ (lastK g).cmp k
    · rw [decide_eq_true hk]
      refine .inr ⟨g, by simp, rfl, ?_⟩
      cases hf : g.find? (fun e => decide (0 ≤ e.1.cmp k)) with
      | some y => rfl
      | none =>
        exfalso
        have := List.find?_eq_none.1 hf z hz
        rw [← e1, decide_eq_true hk] at this
        exact this rfl
    · rw [decide_eq_false hk]
      have hf : g.find? (fun e => decide (0 ≤ e.1.cmp k)) = none := by
        refine List.find?_eq_none.2 fun y hy hd => ?_
        have h1 := of_decide_eq_true hd
        have h2 := rises_last (chkL_zero.1 (chkL_app h.ok).1).2 hy hl
        rw [e1] at hk
        have := (kcmp_row y.1.user.toList z.1.user.toList k.user.toList y.1.seq z.1.seq k.seq y.1.kind z.1.kind k.kind).2 h2 (by unfold IK.cmp at hk; omega)
        unfold IK.cmp at h1
        omega
      rw [hf]
      rcases find_blocks k gs h.tail with ⟨a, b⟩ | ⟨g', hg', a, b⟩
      · exact .inl ⟨a, by simpa using b⟩
      · exact .inr ⟨g', List.mem_cons_of_mem _ hg', a, by simpa using b⟩
theorem get_laid {iv : Nat} {gs : List (List KV)} (h : Gs iv gs) (f : List UInt8) (n : Nat) (u : ByteArray) (s : Nat) :
    getT ⟨f, tdOf iv gs, n⟩ u s = if mayN f u.data.toList = false then noA else ansOf u (theK u s) gs.flatten := by
  unfold getT
  dsimp only
  split
  · rfl
  · rcases find_blocks (theK u s) gs h with ⟨a, b⟩ | ⟨g, hg, a, b⟩
    · rw [a]
      unfold ansOf
      rw [b]
    · rw [a]
      dsimp only
      rw [h.read hg]
      dsimp only
      unfold ansOf
      rw [b]
end Go.Proofs.YtgegjcnjlibfdaaGreat
/- Entries in groups, plainly: as many at once as a block has. -/
namespace Go.Proofs.YtgegjcnjlibfdaaGreat
set_option maxRecDepth 100000
theorem lay_len (iv : Nat) (l : List KV) : (layP iv l).length = (strs iv l).flatten.length + 4 * (strs iv l).length + 5 := by
  rw [layP_join]
  exact join_len
theorem lay_mono1 {iv : Nat} (hi : 1 ≤ iv) (l : List KV) (k : Nat) (hk : k < l.length) : (layP iv (l.take k)).length ≤ (layP iv (l.take (k + 1))).length := by
  obtain ⟨h1, h2, h3⟩ := strs_take hi l k hk
  rw [lay_len, lay_len, h1, List.length_append]
  by_cases h : k % iv = 0
  · have := (h2 h).2
    omega
  · have := (h3 h).2
    omega
theorem lay_mono {iv : Nat} (hi : 1 ≤ iv) (l : List KV) : ∀ (d k : Nat), k + d ≤ l.length → (layP iv (l.take k)).length ≤ (layP iv (l.take (k + d))).length
  | 0, k, _ => Nat.le_refl _
  | d + 1, k, h => Nat.le_trans (lay_mono hi l d k (by omega)) (lay_mono1 hi l (k + d) (by omega))
def fullN (iv bl : Nat) (l : List KV) (m : Nat) : Bool := decide (bl ≤ (layP iv (l.take m)).length)
theorem full_mono {iv bl : Nat} (hi : 1 ≤ iv) {l : List KV} {a b : Nat} (hab : a ≤ b) (hb : b ≤ l.length) (h : fullN iv bl l a = true) : fullN iv bl l b = true := by
  have h1 := of_decide_eq_true h
  have h2 := lay_mono hi l (b - a) a (by omega)
  rw [show a + (b - a) = b by omega] at h2
  exact decide_eq_true (by omega)
/-- How many entries the first block has. -/
structure IsFill (iv bl : Nat) (l : List KV) (n : Nat) : Prop where
  pos : 1 ≤ n
  le : n ≤ l.length
  no : ∀ m, 1 ≤ m → m < n → fullN iv bl l m = false
  yes : n = l.length ∨ fullN iv bl l n = true
theorem IsFill.uniq {iv bl : Nat} {l : List KV} {n m : Nat} (h : IsFill iv bl l n) (g : IsFill iv bl l m) : n = m := by
  have h1 := h.pos
  have h2 := h.le
  have g1 := g.pos
  have g2 := g.le
  rcases Nat.lt_trichotomy n m with hlt | he | hgt
  · rcases h.yes with e | e
    · omega
    · rw [g.no n h1 hlt] at e
      cases e
  · exact he
  · rcases g.yes with e | e
    · omega
    · rw [h.no m g1 hgt] at e
      cases e
def fillN (iv bl : Nat) (l : List KV) : Nat := match (List.range l.length).find? (fun i => fullN iv bl l (i + 1)) with
  | some i => i + 1
  | none => l.length
theorem fillN_is (iv bl : Nat) {l : List KV} (h : l ≠ []) : IsFill iv bl l (fillN iv bl l) := by
  have hl : 0 < l.length := List.length_pos_iff.2 h
  unfold fillN
  cases hf : (List.range l.length).find? (fun i => fullN iv bl l (i + 1)) with
  | none =>
    have h2 := List.find?_eq_none.1 hf
    dsimp only
    refine ⟨hl, Nat.le_refl _, fun m h1 hm => ?_, .inl rfl⟩
    have := h2 (m - 1) (List.mem_range.2 (by omega))
    rw [show m - 1 + 1 = m by omega] at this
    simpa using this
  | some i =>
    obtain ⟨h1, xs, bs, h2, h3⟩ := List.find?_eq_some_iff_append.1 hf
    dsimp only
    have hi : i < l.length := List.mem_range.1 (by rw [h2]; simp)
    have hr : xs = List.range i := by
      have h4 : (List.range l.length).take xs.length = xs := by rw [h2]; simp
      have h5 : (List.range l.length)[xs.length]? = some i := by rw [h2]; simp
      have h6 : xs.length = i := by
        have := List.getElem?_range (n := l.length) (i := xs.length) (by have := congrArg List.length h2; simp at this; omega)
        rw [this] at h5
        exact Option.some.inj h5
      rw [← h4, h6, List.take_range, Nat.min_eq_left (by omega)]
    refine ⟨by simp, hi, fun m hm1 hm => ?_, .inr h1⟩
    have := h3 (m - 1) (by rw [hr]; exact List.mem_range.2 (by omega))
    rw [show m - 1 + 1 = m by omega] at this
    simpa using this
def grpF : Nat → Nat → Nat → List KV → List (List KV)
  | 0, _, _, _ => []
  | f + 1, iv, bl, l => if l = [] then [] else l.take (fillN iv bl l) :: grpF f iv bl (l.drop (fillN iv bl l))
def grps (iv bl : Nat) (l : List KV) : List (List KV) := grpF l.length iv bl l
theorem grpF_more (iv bl : Nat) : ∀ (f g : Nat) (l : List KV), l.length ≤ f → l.length ≤ g → grpF f iv bl l = grpF g iv bl l
  | 0, 0, l, _, _ => rfl
  | 0, g + 1, l, h, _ => by
    have := List.eq_nil_of_length_eq_zero (Nat.le_zero.1 h)
    subst this
    simp [grpF]
  | f + 1, 0, l, _, h => by
    have := List.eq_nil_of_length_eq_zero (Nat.le_zero.1 h)
    subst this
    simp [grpF]
  | f + 1, g + 1, l, hf, hg => by
    unfold grpF
    split
    · rfl
    · rename_i hne
      have h1 := (fillN_is iv bl hne).pos
      have h2 := (fillN_is iv bl hne).le
      rw [grpF_more iv bl f g _ (by rw [List.length_drop]; omega) (by rw [List.length_drop]; omega)]
theorem grps_nil (iv bl : Nat) : grps iv bl [] = [] := rfl
theorem grps_cons (iv bl : Nat) {l : List KV} (h : l ≠ []) : grps iv bl l = l.take (fillN iv bl l) :: grps iv bl (l.drop (fillN iv bl l)) := by
  have h1 := (fillN_is iv bl h).pos
  have h2 := (fillN_is iv bl h).le
  unfold grps
  obtain ⟨n, hn⟩ : ∃ n, l.length = n + 1 := ⟨l.length - 1, by omega⟩
  rw [hn]
  conv => lhs; unfold grpF
  rw [if_neg h, grpF_more iv bl n _ _ (by rw [List.length_drop]; omega) (Nat.le_refl _)]
theorem grps_ind (iv bl : Nat) {P : List KV → Prop} (h0 : P []) (h1 : ∀ l, l ≠ [] → P (l.drop (fillN iv bl l)) → P l) : ∀ l, P l := by
  intro l
  generalize hn : l.length = n
  induction n using Nat.strongRecOn generalizing l with
  | _ n ih =>
    by_cases h : l = []
    · rw [h]; exact h0
    · have hp := (fillN_is iv bl h).pos
      have hl : 0 < l.length := List.length_pos_iff.2 h
      exact h1 l h (ih _ (by rw [← hn, List.length_drop]; omega) _ rfl)
theorem grps_flat (iv bl : Nat) (l : List KV) : (grps iv bl l).flatten = l := by
  refine grps_ind iv bl (P := fun l => (grps iv bl l).flatten = l) rfl (fun l h ih => ?_) l
  rw [grps_cons iv bl h, List.flatten_cons, ih, List.take_append_drop]
theorem grps_mem (iv bl : Nat) (l : List KV) : ∀ g ∈ grps iv bl l, g ≠ [] ∧ g.length ≤ l.length := by
  refine grps_ind iv bl (P := fun l => ∀ g ∈ grps iv bl l, g ≠ [] ∧ g.length ≤ l.length) (by simp [grps_nil]) (fun l h ih => ?_) l
  rw [grps_cons iv bl h]
  intro g hg
  have h1 := (fillN_is iv bl h).pos
  have h2 := (fillN_is iv bl h).le
  rcases List.mem_cons.1 hg with rfl | hg
  · refine ⟨fun e => ?_, by rw [List.length_take]; omega⟩
    have := congrArg List.length e
    rw [List.length_take, List.length_nil] at this
    omega
  · have := ih g hg
    rw [List.length_drop] at this
    exact ⟨this.1, by omega⟩
theorem grps_len (iv bl : Nat) (l : List KV) : (grps iv bl l).length ≤ l.length := by
  refine grps_ind iv bl (P := fun l => (grps iv bl l).length ≤ l.length) (by simp [grps_nil]) (fun l h ih => ?_) l
  rw [grps_cons iv bl h, List.length_cons]
  rw [List.length_drop] at ih
  have h1 := (fillN_is iv bl h).pos
  have hl : 0 < l.length := List.length_pos_iff.2 h
  omega
end Go.Proofs.YtgegjcnjlibfdaaGreat
/- The contract of codec.Fixed: for any bytes and any size it returns what the plain function fxRead tells. -/
namespace Go.Proofs.YtgegjcnjlibfdaaGreat
open Go.RowKit

theorem fx_step (acc c k : Nat) (hc : c < 256) (ha : acc < 2 ^ (8 * k)) (hk : k ≤ 7) :
    bits .or .u64 (acc : Int) (IntKind.u64.wrap ((c : Int) * 2 ^ (8 * k))) = ((acc + c * 2 ^ (8 * k) : Nat) : Int) := by
  obtain ⟨h2, h3, h4⟩ := fx_or acc c k ha hk hc
  have e2 : IntKind.u64.wrap ((c : Int) * 2 ^ (8 * k)) = (((c * 2 ^ (8 * k)) % 18446744073709551616 : Nat) : Int) := by
    simp [IntKind.wrap, IntKind.bits, IntKind.signed]
  rw [e2, nbits_or64 _ _ h4 (Nat.mod_lt _ (by omega)), h2]

set_option maxRecDepth 100000 in
set_option maxHeartbeats 400000 in
theorem fixed_any (a : Option Addr) (len cap : Nat) (bs : List UInt8) (size : Int) (w : World) (h : BsAt w a len cap bs) :
    Calls Tryz.prog 74 #[.slice a len cap, .int .i64 size] w fun e w' => e = .returned (.tuple #[.int .u64 ((fxRead bs size).1 : Nat), .int .i64 ((fxRead bs size).2 : Nat)]) ∧ w' = w := by
  have hcap := h.max
  have hle := h.le
  have hlen := h.size
  unfold maxLen at hcap
  by_cases hs : size < 1 ∨ 8 < size
  · have HE : Hid (fxRead bs size = (0, 1)) := by unfold fxRead Hid; rw [if_pos hs]
    go_enter Tryz.func74, Tryz.ntmps74
    go_wp2_with (go_at_call 98; refine (fits_no _ _ hs).mono ?_; rintro e w' ⟨rfl, rfl⟩)
    go_ret2
    rw [HE.out]
    exact ⟨ret2 rfl rfl, rfl⟩
  · have hs1 : 1 ≤ size := by omega
    have hs2 : size ≤ 8 := by omega
    obtain ⟨n, rfl⟩ : ∃ n : Nat, size = (n : Int) := ⟨size.toNat, by omega⟩
    by_cases hl : len < n
    · have HE : Hid (fxRead bs n = (0, 10)) := by unfold fxRead Hid; rw [if_neg hs, if_pos (by simp; omega)]
      clear hs
      go_enter Tryz.func74, Tryz.ntmps74
      go_wp2_with (go_at_call 98; refine (fits_yes _ _ hs1 hs2).mono ?_; rintro e w' ⟨rfl, rfl⟩)
      go_ret2
      rw [HE.out]
      exact ⟨ret2 rfl rfl, rfl⟩
    · have HE : Hid (fxRead bs n = (leNat (bs.take n), 0)) := by unfold fxRead Hid; rw [if_neg hs, if_neg (by simp; omega)]; simp
      obtain ⟨b, off, rfl, hc⟩ := h.here (by omega)
      have HL : Hid (bs.length = len) := hlen
      clear hs hlen h
      have HC : Hid (∀ j, j < len → w.cell? ⟨b, off + j, none⟩ = some (.int .u8 ((bs.getD j 0).toNat : Int))) := hc
      clear hc
      go_enter Tryz.func74, Tryz.ntmps74
      go_wp2_with (go_at_call 98; refine (fits_yes _ _ hs1 hs2).mono ?_; rintro e w' ⟨rfl, rfl⟩)
      go_loop [6, 20] (fun x i => ∃ k acc : Nat, k ≤ n ∧ i = .int .i64 k ∧ x = .int .u64 acc ∧ Hid (acc = leNat (bs.take k))) (fun _ i => n - (intOf i).toNat)
      case atStart => exact ⟨0, 0, Nat.zero_le _, rfl, rfl, by simp [Hid, leNat]⟩
      case round =>
        obtain ⟨k, acc, hk, rfl, rfl, HR⟩ := hrel
        by_cases hlt : k < n
        · have hck := HC.out k (by omega)
          have hc8 : (bs.getD k 0).toNat < 256 := UInt8.toNat_lt _
          have hs := leNat_take_succ bs k (by have := HL.out; omega)
          have ha := leNat_take_lt bs k (by have := HL.out; omega)
          rw [← HR.out] at hs ha
          generalize hcd : (bs.getD k 0).toNat = c at hck hc8 hs
          have HS : Hid (leNat (bs.take (k + 1)) = acc + c * 2 ^ (8 * k)) := hs
          have HA : Hid (acc < 2 ^ (8 * k)) := ha
          clear hcd hs ha
          go_wp2
          go_round
          case rel =>
            exact ⟨k + 1, acc + c * 2 ^ (8 * k), by omega, by go_num, congrArg (Value.int .u64) (fx_step acc c k hc8 HA.out (by omega)), HS.out.symm⟩
          case measure => simp [intOf]; omega
        · go_wp2
          go_ret2
          rw [HE.out]
          have hkn : k = n := by omega
          exact ⟨ret2 (by rw [HR.out, hkn]; rfl) rfl, rfl⟩
end Go.Proofs.YtgegjcnjlibfdaaGreat
