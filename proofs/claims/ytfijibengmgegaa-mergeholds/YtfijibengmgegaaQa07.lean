/- Of each list its entries come among all, in their order, plainly: told by going through all. -/
import Derived.Test.YtfijibengmgegaaM16Few
import Derived.Deep.AppendLies
namespace Go.Proofs.Ytfijibengmgegaa
set_option linter.unusedVariables false
set_option linter.unusedSimpArgs false
/-- A row in a strict order is told by what is in it. -/
theorem row_ext16 {α : Type} {R : α → α → Prop} : ∀ {l l' : List α}, l.Pairwise R → l'.Pairwise R → (∀ x ∈ l, ∀ y ∈ l, R x y → ¬ R y x) → (∀ x, x ∈ l ↔ x ∈ l') → l = l'
  | [], [], _, _, _, _ => rfl
  | [], y :: r', _, _, _, h => by have := (h y).2 (by simp); simp at this
  | x :: r, [], _, _, _, h => by have := (h x).1 (by simp); simp at this
  | x :: r, y :: r', h1, h2, ha, h => by
    have p1 := List.pairwise_cons.1 h1
    have p2 := List.pairwise_cons.1 h2
    have hxy : x = y := by
      rcases List.mem_cons.1 ((h x).1 (by simp)) with e | e
      · exact e
      · rcases List.mem_cons.1 ((h y).2 (by simp)) with e' | e'
        · exact e'.symm
        · exact absurd (p2.1 x e) (ha x (by simp) y (by simp [e']) (p1.1 y e'))
    subst hxy
    have hnx : ∀ z, z ∈ r → z ≠ x := fun z hz e => by
      subst e
      exact ha z (by simp) z (by simp) (p1.1 z hz) (p1.1 z hz)
    have hnx' : ∀ z, z ∈ r' → z ≠ x := fun z hz e => by
      subst e
      exact ha z (by simp) z (by simp) (p2.1 z hz) (p2.1 z hz)
    rw [row_ext16 p1.2 p2.2 (fun a ha' b hb' => ha a (by simp [ha']) b (by simp [hb'])) (fun z => ?_)]
    constructor
    · intro hz
      rcases List.mem_cons.1 ((h z).1 (by simp [hz])) with e | e
      · exact absurd e (hnx z hz)
      · exact e
    · intro hz
      rcases List.mem_cons.1 ((h z).2 (by simp [hz])) with e | e
      · exact absurd e (hnx' z hz)
      · exact e
/-- The places of one list. -/
theorem places_of {L : List (List KV)} (hL : RiseL L) (n : Nat) : (allP L).filter (fun p => decide (p.1 = n)) = (List.range (lenL L n)).map fun j => ((n, j) : PlL) := by
  refine row_ext16 (R := aheadL L) ((all_rises hL).filter _) ?_ (fun x _ y _ h => ahead_not h) (fun p => ?_)
  · refine List.pairwise_map.2 (List.Pairwise.imp_of_mem ?_ List.pairwise_lt_range)
    intro a b ha hb hab
    exact .inl (rise_ahead hL hab (List.mem_range.1 hb))
  · rw [List.mem_filter, mem_allP, List.mem_map]
    constructor
    · rintro ⟨h1, h2⟩
      have h3 : p.1 = n := by simpa using h2
      exact ⟨p.2, List.mem_range.2 (by rw [← h3]; exact h1), by rw [← h3]⟩
    · rintro ⟨j, hj, rfl⟩
      exact ⟨List.mem_range.1 hj, by simp⟩
theorem row_sub {L : List (List KV)} (hL : RiseL L) (n : Nat) : (rowL L n).Sublist (allL L) := by
  have h : (((allP L).filter (fun p => decide (p.1 = n))).map (entL L)).Sublist (allL L) := (List.filter_sublist).map _
  rw [places_of hL n, List.map_map] at h
  have e : (List.range (lenL L n)).map (entL L ∘ fun j => ((n, j) : PlL)) = rowL L n := by
    refine List.ext_getElem (by simp [lenL, rowL]) fun i h1 h2 => ?_
    rw [List.getElem_map, List.getElem_range]
    exact (rowL_at h2).symm
  rwa [e] at h
/-- How far one has come in a row, behind some entries. -/
def gone16 (r : List KV) (n : Nat) (xs : List KV) : Nat := xs.foldl (fun n x => if n < r.length ∧ eqKV x (r.getD n kvZ) = true then n + 1 else n) n
theorem gone_sub (r : List KV) : ∀ (xs : List KV) (n : Nat), n ≤ r.length → (r.drop n).Sublist xs → gone16 r n xs = r.length
  | [], n, hn, h => by
    have : r.drop n = [] := List.eq_nil_of_sublist_nil h
    have h1 := congrArg List.length this
    simp at h1
    show n = _
    omega
  | x :: xs, n, hn, h => by
    show gone16 r (if n < r.length ∧ eqKV x (r.getD n kvZ) = true then n + 1 else n) xs = r.length
    by_cases hl : n < r.length
    · have hd : r.drop n = r[n] :: r.drop (n + 1) := List.drop_eq_getElem_cons hl
      have hg : r.getD n kvZ = r[n] := by simp [List.getD, hl]
      rw [hg]
      rw [hd] at h
      by_cases he : eqKV x r[n] = true
      · rw [if_pos ⟨hl, he⟩]
        refine gone_sub r xs (n + 1) (by omega) ?_
        cases h with
        | cons _ h => exact (List.sublist_cons_self _ _).trans h
        | cons_cons _ h => exact h
      · rw [if_neg (fun c => he c.2)]
        refine gone_sub r xs n hn ?_
        rw [hd]
        cases h with
        | cons _ h => exact h
        | cons_cons _ h => exact absurd (eqKV_iff.2 rfl) he
    · rw [if_neg (fun c => hl c.1)]
      have : n = r.length := by omega
      subst this
      exact gone_sub r xs _ (Nat.le_refl _) (by simp)
theorem gone_snoc (r : List KV) (n : Nat) (xs : List KV) (x : KV) : gone16 r n (xs ++ [x]) = if gone16 r n xs < r.length ∧ eqKV x (r.getD (gone16 r n xs) kvZ) = true then gone16 r n xs + 1 else gone16 r n xs := by
  unfold gone16
  rw [List.foldl_append]
  rfl
theorem gone_le (r : List KV) : ∀ (xs : List KV) (n : Nat), n ≤ r.length → gone16 r n xs ≤ r.length
  | [], n, h => h
  | x :: xs, n, h => gone_le r xs _ (by dsimp only; split <;> omega)
end Go.Proofs.Ytfijibengmgegaa
/- An entry onto a row, beside an iterator. -/
namespace Go.Proofs.Ytfijibengmgegaa
open Go.RowKit
set_option linter.unusedVariables false
set_option linter.unusedSimpArgs false
theorem wpList_pushL (W : World) {ops : Array Oper} {rest : List Oper} {o : Oper} {a : Act} {Q : Exit → Act → World → Prop} (hgd : o.guard = none) (s x : Operand)
    (ho : o.op = .call { callee := .builtin .append, args := #[s, x], argTypes := #[26, 26] })
    (B : Nat) (a1 : Option Addr) (n1 c1 : Nat) (l : List KV) (hs : a.eval s = .slice a1 n1 c1) (hown : OwnK W B a1 n1 c1 l)
    (v : KV) (cv : Array Value) (hcv : cv.toList = kvc v) (g : Nat) (hg : g = W.heap.size) (hx : a.eval x = .slice (some ⟨g, 0, none⟩) 1 1)
    (hb : n1 + 1 ≤ 2932031007317) (hB : B ≤ W.heap.size)
    (h : ∀ a' c' w', OwnK w' B a' (n1 + 1) c' (l ++ [v]) → (W.alloc (.cells cv TKV)).grownBy w' (blkOf a1) → (∀ k, blkOf a' = some k → blkOf a1 = some k ∨ k = W.heap.size + 1) → wpList Try.prog ops Q rest (a.put o.dst (.slice a' (n1 + 1) c')) w') :
    wpList Try.prog ops Q (o :: rest) a (W.alloc (.cells cv TKV)) := by
  subst hg
  obtain ⟨i, hi, hz0, hz1, hz2⟩ := info_parts infoKV
  have hl := hown.size
  have hone : ∀ u ∈ kvc v, u.oneCell' = true := by
    have := cellsKV_one [v]
    simpa [cellsKV] using this
  refine wpList_append_lies (W.alloc (.cells cv TKV)) hgd s x 26 ho B TKV i _ 4 48 Try.underlying26 hi hz0 hz1 hz2 rfl (by decide) _ n1 _ hs (hown.alloc (.cells cv TKV)).row ⟨W.heap.size, 0, none⟩ 1 1 (kvc v) hx (by simp [kvc]) (fun j u hu => ?_) hone (by omega) (by unfold maxLen; omega) (by omega) (by simp; omega) (W.heap.size + 1) (by simp) ?_
  · rw [Addr.add_lit, Nat.zero_add, (Box.new W TKV cv).cell, ← Array.getElem?_toList, hcv]
    exact hu
  · intro g c' w' hr hg hl2 _
    rw [own_blk] at hg hl2
    refine h (some ⟨g, 0, none⟩) c' w' ⟨by rw [List.length_append]; simp; omega, ?_⟩ hg (fun k e => ?_)
    · rw [cellsKV_append]
      simpa [cellsKV] using hr
    · have e' : g = k := by simpa [blkOf] using e
      subst e'
      exact hl2
/-- What stays when a row of its own grows. -/
theorem MgS.push {D : MgRel} (F : MgOk D) {w0 W w' : World} {M : Nat} {R : Nat → Prop} {p : Nat} {L : List (List KV)} {o : Option Nat} {K : Nat → Prop} (h : MgS D w0 M W R p L o K) {a1 : Option Addr} {n1 c1 : Nat} {l : List KV}
    (hK : ∀ k, blkOf a1 = some k → K k) (hown : OwnK W M a1 n1 c1 l) {b : Obj} {a' : Option Addr} {c' m : Nat} {l' : List KV} (ho : OwnK w' M a' m c' l') (hg : (W.alloc b).grownBy w' (blkOf a1)) (hl : ∀ k, blkOf a' = some k → blkOf a1 = some k ∨ k = W.heap.size + 1) :
    MgS D w0 M w' R p L o (fun k => K k ∨ blkOf a' = some k) ∧ Chg (fun k => blkOf a1 = some k) W w' := by
  have hc : Chg (fun k => blkOf a1 = some k) W w' := ((Chg.refl _ W).alloc b).andThen (R' := fun k => blkOf a1 = some k) (Chg.grown hg) (fun _ _ x => x)
  refine ⟨h.more F (h.chg F hc fun k hk => ⟨hK k hk, hown.ge hk⟩) fun k hk => ?_, hc⟩
  rcases hk with hk | hk
  · exact .inl hk
  · rcases hl k hk with h1 | h1
    · exact .inl (hK k h1)
    · exact .inr ⟨by omega, tag_lt (ho.tag hk)⟩
end Go.Proofs.Ytfijibengmgegaa
