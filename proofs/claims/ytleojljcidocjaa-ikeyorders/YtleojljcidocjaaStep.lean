/- One byte appended to the bytes of a string, as a step of a region that draws its order. -/
import Derived.Test.YtleojljcidocjaaOwn
import Derived.Test.YtleojljcidocjaaOfStr
import Derived.Deep.RegionLawGrows
namespace Go.Proofs.Ytleojljcidocjaa
open Go.RowKit

theorem bytesRow_size (S : ByteArray) (cap : Nat) (h : S.size ≤ cap) : (bytesRow S cap).size = cap := by
  have e : S.data.size = S.size := rfl
  simp [bytesRow]
  omega
theorem BsAt.ofRow {w : World} {g cap : Nat} {S : ByteArray} {fz : Nat × Nat} (hg : w.heap[g]? = some (.cells (bytesRow S cap) 5 fz)) (hs : S.size ≤ cap) (hc : cap ≤ maxLen) : BsAt w (some ⟨g, 0, none⟩) S.size cap S.data.toList := by
  have hl : S.data.toList.length = S.size := by rw [Array.length_toList]; rfl
  refine ⟨hl, hs, hc, by simp, fun _ => ⟨g, 0, rfl, fun j hj => ?_⟩⟩
  rw [cell_of_row w g (0 + j) (bytesRow S cap) 5 fz hg]
  have hj' : j < S.data.size := hj
  simp [bytesRow, List.getD, Array.getElem?_append, hj]

theorem step_app1 {ops : Array Oper} {o : Oper} {a : Act} {w : World} {K : Act → World → Prop} {Q : Exit → Act → World → Prop} {E : Prop}
    (hgd : o.guard = none) (s x : Operand) (ho : o.op = Op.call { callee := Callee.builtin Builtin.append, args := #[s, x], argTypes := #[26, 26] })
    (B g : Nat) (S : ByteArray) (cap n : Nat) (hn : S.size = n) (hs : a.eval s = .slice (some ⟨g, 0, none⟩) n cap) (hg : w.heap[g]? = some (.cells (bytesRow S cap) 5 ((bytesRow S cap).size, (bytesRow S cap).size + 1))) (hcap : S.size ≤ cap) (hcm : cap ≤ maxLen) (hB : B ≤ g)
    (p : Nat) (y : Int) (b : UInt8) (hy : y = (b.toNat : Int)) (hx : a.eval x = .slice (some ⟨p, 0, none⟩) 1 1) (hc : w.cell? ⟨p, 0, none⟩ = some (.int .u8 y)) (hl : n + 1 ≤ 140737488355328)
    (h : ∀ a' c' w', BsAt w' a' (n + 1) c' (S.data.toList ++ [b]) → Below B w w' → K (a.put o.dst (.slice a' (n + 1) c')) w') :
    if Region.wanted o (yielded ops a.tmps) = true then Oper.wp Try.prog o a w K Q else E := by
  subst hn
  obtain ⟨i, hi, hz0, hz1, hz2⟩ := info_parts infoU8
  have hbs := BsAt.ofRow hg hcap hcm
  have hgl : g < w.heap.size := (Array.getElem?_eq_some_iff.1 hg).1
  have hlen : S.data.toList.length = S.size := by rw [Array.length_toList]; rfl
  have hnews : ∀ j u, ([Value.int .u8 y] : List Value)[j]? = some u → w.cell? ((⟨p, 0, none⟩ : Addr).add j) = some u := by
    intro j u hu
    cases j with
    | zero =>
      simp at hu
      subst hu
      rw [Addr.add_lit]
      exact hc
    | succ j => simp at hu
  have h1c : ∀ u ∈ ([Value.int .u8 y] : List Value), u.oneCell' = true := by
    intro u hu
    simp at hu
    subst hu
    rfl
  have holds : ∀ q, some (⟨g, 0, none⟩ : Addr) = some q → ∀ j u, (cellsB S.data.toList)[j]? = some u → w.cell? (q.add j) = some u := by
    intro q hq j u hu
    obtain rfl := Option.some.inj hq
    have hj : j < S.data.toList.length := by have := (List.getElem?_eq_some_iff.1 hu).1; rwa [cellsB_length] at this
    obtain ⟨b', off, he, hcc⟩ := hbs.here (by omega)
    simp at he
    obtain ⟨rfl, rfl⟩ := he
    rw [cellsB_get _ j hj] at hu
    obtain rfl := Option.some.inj hu
    rw [Addr.add_lit]
    exact hcc j (by omega)
  by_cases hroom : S.size + 1 ≤ cap
  · have hsz := bytesRow_size S cap hcap
    refine step_append_room hgd s x 26 ho 5 i 1 Try.underlying26 hi hz1 g 0 S.size cap hs ⟨p, 0, none⟩ 1 1 [.int .u8 y] hx rfl hnews h1c hroom ?_ ?_
    · intro j hj
      simp at hj
      subst hj
      constructor
      · rw [cell_of_row w g _ (bytesRow S cap) 5 _ hg]
        simp
        omega
      · unfold World.frozen?
        rw [hg]
        simp
        omega
    · refine h _ _ _ ?_ ?_
      · refine ⟨by rw [List.length_append, hlen]; rfl, hroom, hcm, by simp, fun _ => ⟨g, 0, rfl, fun j hj => ?_⟩⟩
        simp only [World.setCells, Nat.zero_add, Nat.mul_one]
        by_cases hjs : j = S.size
        · subst hjs
          have hsome : ∃ u, w.cell? ⟨g, S.size, none⟩ = some u := by
            rw [cell_of_row w g _ (bytesRow S cap) 5 _ hg]
            exact ⟨_, Array.getElem?_eq_getElem (by omega)⟩
          obtain ⟨u, hu⟩ := hsome
          rw [World.cell?_setCell_same _ _ _ hu, hy]
          rw [List.getD, List.getElem?_append_right (by omega), hlen]
          simp
        · rw [World.cell?_setCell_other _ _ _ _ (fun e => hjs (by have := congrArg Addr.off e; simp at this; omega))]
          obtain ⟨b', off, he, hcc⟩ := hbs.here (by omega)
          simp at he
          obtain ⟨rfl, rfl⟩ := he
          have := hcc j (by omega)
          rw [Nat.zero_add] at this
          rw [this]
          rw [List.getD, List.getD, List.getElem?_append_left (by omega)]
      · simp only [World.setCells]
        exact (Below.refl B w).setCell hB _
  · refine step_append_grows hgd s x 26 ho 5 i (.int .u8 0) 1 1 Try.underlying26 hi hz0 hz1 hz2 rfl (by decide) _ S.size cap (cellsB S.data.toList) hs (by simp) (by rw [cellsB_length, hlen, Nat.mul_one]) holds ⟨p, 0, none⟩ 1 1 [.int .u8 y] hx rfl hnews h1c (by omega) (by unfold maxLen; omega) (by omega) ?_
    intro v' w' hr hgrow
    have e1 : ([Value.int .u8 y] : List Value) = cellsB [b] := by simp [cellsB, hy]
    rw [e1, ← cellsB_append] at hr
    obtain ⟨a', c', rfl, ho'⟩ := own_of_row hr
    exact h a' c' w' ho'.bs ((Below.refl B w).grown hgrow (by omega) (fun k hk => by cases hk))
end Go.Proofs.Ytleojljcidocjaa
