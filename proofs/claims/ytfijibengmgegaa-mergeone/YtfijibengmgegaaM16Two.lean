/- One list in parts, plainly; two iterators side by side. -/
import Derived.Test.YtfijibengmgegaaQa07
import Derived.Test.YtfijibengmgegaaM16WHolds
namespace Go.Proofs.Ytfijibengmgegaa
open Go.RowKit
set_option linter.unusedVariables false
set_option linter.unusedSimpArgs false
theorem perm_flat (L : List (List KV)) : (allL L).Perm L.flatten := by
  have h := (perm_all L).map (entL L)
  have e : (places L).map (entL L) = L.flatten := by
    unfold places
    rw [List.map_flatMap]
    have e1 : ∀ i, ((List.range (lenL L i)).map fun j => ((i, j) : PlL)).map (entL L) = rowL L i := fun i => by
      rw [List.map_map]
      refine List.ext_getElem (by simp [lenL, rowL]) fun j h1 h2 => ?_
      rw [List.getElem_map, List.getElem_range]
      exact (rowL_at h2).symm
    have e2 : (List.range L.length).map (rowL L) = L := by
      refine List.ext_getElem (by simp) fun j h1 h2 => ?_
      rw [List.getElem_map, List.getElem_range]
      simp [rowL, List.getD, h2]
    rw [show (fun a => List.map (entL L) (List.map (fun j => ((a, j) : PlL)) (List.range (lenL L a)))) = rowL L from funext e1]
    show ((List.range L.length).map (rowL L)).flatten = L.flatten
    rw [e2]
  rw [e] at h
  exact h
theorem all_le {L : List (List KV)} (hL : RiseL L) : (allL L).Pairwise fun a b => a.1.cmp b.1 ≤ 0 := by
  unfold allL
  refine List.pairwise_map.2 ((all_rises hL).imp fun {a b} h => ?_)
  rcases h with h | h
  · exact Int.le_of_lt h
  · exact Int.le_of_eq h.1
/-- All entries of lists that are one rising list's, in whatever parts. -/
theorem all_parts {L : List (List KV)} {l : List KV} (hL : RiseL L) (hl : RiseK l) (hp : L.flatten.Perm l) : allL L = l := by
  have h1 := (perm_flat L).trans hp
  have hne : l.Pairwise fun a b => a.1.cmp b.1 ≠ 0 := hl.imp fun h => by omega
  have hne2 : (allL L).Pairwise fun a b => a.1.cmp b.1 ≠ 0 := (h1.pairwise_iff (fun {a b} h => by rw [IK.cmp_turn]; omega)).2 hne
  have hlt : (allL L).Pairwise fun a b => a.1.cmp b.1 < 0 := (hne2.and (all_le hL)).imp fun ⟨h2, h3⟩ => by omega
  exact row_ext16 hlt hl (fun a _ b _ h h' => by rw [IK.cmp_turn] at h'; omega) fun x => h1.mem_iff
def partK (l : List KV) (pr : Nat → Bool) (k : Nat) : List KV := ((List.range k).filter pr).map fun i => l.getD i kvZ
theorem partK_succ (l : List KV) (pr : Nat → Bool) {k : Nat} (hk : k < l.length) : partK l pr (k + 1) = partK l pr k ++ if pr k = true then [l[k]] else [] := by
  unfold partK
  rw [List.range_succ, List.filter_append, List.map_append]
  cases h : pr k with
  | true => simp [List.filter, h, List.getD, hk]
  | false => simp [List.filter, h]
theorem range_getD (l : List KV) : (List.range l.length).map (fun i => l.getD i kvZ) = l := by
  refine List.ext_getElem (by simp) fun j h1 h2 => ?_
  rw [List.getElem_map, List.getElem_range]
  simp [List.getD, h2]
theorem partK_sub (l : List KV) (pr : Nat → Bool) : (partK l pr l.length).Sublist l := by
  have h : (partK l pr l.length).Sublist ((List.range l.length).map fun i => l.getD i kvZ) := (List.filter_sublist).map _
  rwa [range_getD] at h
theorem partK_perm (l : List KV) (pr : Nat → Bool) : (partK l (fun i => !pr i) l.length ++ partK l pr l.length).Perm l := by
  have h := ((List.filter_append_perm pr (List.range l.length)).map fun i => l.getD i kvZ)
  rw [range_getD, List.map_append] at h
  exact (List.perm_append_comm).trans h
theorem partK_len (l : List KV) (pr : Nat → Bool) (k : Nat) : (partK l pr k).length ≤ k := by
  unfold partK
  rw [List.length_map]
  exact Nat.le_trans (List.length_filter_le _ _) (by simp)
theorem rise_parts {l : List KV} (hl : RiseK l) (pr : Nat → Bool) : RiseL [partK l (fun i => !pr i) l.length, partK l pr l.length] := fun m hm => by
  simp only [List.mem_cons, List.not_mem_nil, or_false] at hm
  rcases hm with rfl | rfl
  · exact List.Pairwise.sublist (partK_sub _ _) hl
  · exact List.Pairwise.sublist (partK_sub _ _) hl
theorem all_two {l : List KV} (hl : RiseK l) (pr : Nat → Bool) : allL [partK l (fun i => !pr i) l.length, partK l pr l.length] = l :=
  all_parts (rise_parts hl pr) hl (by simpa using partK_perm l pr)
theorem all_one {l : List KV} (hl : RiseK l) : allL [[], l, []] = l := by
  refine all_parts (fun m hm => ?_) hl (by simp)
  simp only [List.mem_cons, List.not_mem_nil, or_false] at hm
  rcases hm with rfl | rfl | rfl
  · exact List.Pairwise.nil
  · exact hl
  · exact List.Pairwise.nil
theorem all_one_len (l : List KV) : (allL [[], l, []]).length = l.length := by rw [(perm_flat _).length_eq]; simp
theorem rise_one {l : List KV} (h : RiseL [[], l, []]) : RiseK l := h l (by simp)
/-- Two iterators. -/
structure Two (D : MgRel) (w0 : World) (M : Nat) (W : World) (Rx : Nat → Prop) (px : Nat) (Lx : List (List KV)) (ox : Option Nat) (Ry : Nat → Prop) (py : Nat) (Ly : List (List KV)) (oy : Option Nat) (K : Nat → Prop) : Prop where
  x : MgS D w0 M W Rx px Lx ox fun k => K k ∨ Ry k
  y : MgS D w0 M W Ry py Ly oy fun k => K k ∨ Rx k
section
variable {D : MgRel} {w0 W W' : World} {M : Nat} {Rx Ry : Nat → Prop} {px py : Nat} {Lx Ly : List (List KV)} {ox oy o' : Option Nat} {K : Nat → Prop}
theorem Two.turn (h : Two D w0 M W Rx px Lx ox Ry py Ly oy K) : Two D w0 M W Ry py Ly oy Rx px Lx ox K := ⟨h.y, h.x⟩
theorem Two.step (F : MgOk D) (h : Two D w0 M W Rx px Lx ox Ry py Ly oy K) (hp : MgPost D Rx px Lx o' W W') : ∃ R', Two D w0 M W' R' px Lx o' Ry py Ly oy K ∧ (∀ k, K k → W'.heap[k]? = W.heap[k]?) ∧ W.heap.size ≤ W'.heap.size := by
  obtain ⟨R', h1, h2, h3⟩ := hp
  obtain ⟨R2, g1, g2, g3⟩ := h.x.step ⟨R', h1, h2, h3⟩
  have hs : MgS D w0 M W' R' px Lx o' fun k => K k ∨ Ry k := by
    refine ⟨g1.low, g1.top, h1, fun k hk => ?_, fun k hk => ⟨Nat.lt_of_lt_of_le (h.x.keep k hk).1 h3.size, fun hr => ?_⟩⟩
    · rcases h2 k hk with h4 | h4
      · exact h.x.ge k h4
      · exact Nat.le_trans h.x.top h4
    · rcases h2 k hr with h4 | h4
      · exact (h.x.keep k hk).2 h4
      · have := (h.x.keep k hk).1
        omega
  refine ⟨R', ⟨hs, ?_⟩, fun k hk => g2 k (.inl hk), g3⟩
  have hy : MgS D w0 M W' Ry py Ly oy fun k => K k ∨ Rx k := h.y.chg F h3 fun k hk => ⟨.inr hk, h.x.ge k hk⟩
  exact h.y.more F hy fun k hk => by
    rcases hk with hk | hk
    · exact .inl (.inl hk)
    · rcases h2 k hk with h4 | h4
      · exact .inl (.inr h4)
      · exact .inr ⟨h4, F.lt h1 k hk⟩
theorem Two.alloc (F : MgOk D) (h : Two D w0 M W Rx px Lx ox Ry py Ly oy K) (b : Obj) : Two D w0 M (W.alloc b) Rx px Lx ox Ry py Ly oy fun k => K k ∨ k = W.heap.size :=
  ⟨(h.x.alloc F b).less fun k hk => by rcases hk with (hk | hk) | hk <;> simp [hk], (h.y.alloc F b).less fun k hk => by rcases hk with (hk | hk) | hk <;> simp [hk]⟩
theorem Two.less {K' : Nat → Prop} (h : Two D w0 M W Rx px Lx ox Ry py Ly oy K) (hK : ∀ k, K' k → K k) : Two D w0 M W Rx px Lx ox Ry py Ly oy K' :=
  ⟨h.x.less fun k hk => hk.imp (hK k) id, h.y.less fun k hk => hk.imp (hK k) id⟩
theorem Two.drewN (F : MgOk D) (h : Two D w0 M W Rx px Lx ox Ry py Ly oy K) (d : Nat) : Two D w0 M (W.drewN d) Rx px Lx ox Ry py Ly oy K := ⟨h.x.drewN F d, h.y.drewN F d⟩
/-- A second one is made. -/
theorem Two.of (F : MgOk D) (h : MgS D w0 M W Rx px Lx ox K) (hb : Below W.heap.size W W') (hd : D W' Ry py Ly oy) (hR : ∀ k, Ry k → W.heap.size ≤ k) : Two D w0 M W' Rx px Lx ox Ry py Ly oy fun _ => False := by
  have hx := h.below F hb
  refine ⟨h.more F hx fun k hk => ?_, hx.low, hx.top, hd, fun k hk => Nat.le_trans h.top (hR k hk), fun k hk => ?_⟩
  · rcases hk with hk | hk
    · exact hk.elim
    · exact .inr ⟨hR k hk, F.lt hd k hk⟩
  · rcases hk with hk | hk
    · exact hk.elim
    · have h1 := F.lt h.it k hk
      exact ⟨F.lt hx.it k hk, fun hy => by have := hR k hy; omega⟩
end
end Go.Proofs.Ytfijibengmgegaa
