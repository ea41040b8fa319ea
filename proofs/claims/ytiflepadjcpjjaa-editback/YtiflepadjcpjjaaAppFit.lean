/- Bytes appended to a slice of the call's own, where all together may have somewhat more than 2^47. -/
import Derived.Test.YtiflepadjcpjjaaOwn
namespace Go.Proofs.Ytiflepadjcpjjaa
open Go.RowKit
theorem nextslicecap_near {need old : Nat} (h : old < need) : Builtin.nextslicecap need old ≤ need + need / 4 + 1024 := by
  unfold Builtin.nextslicecap
  split
  · omega
  · split
    · omega
    · rw [growBy_four]
      repeat' split
      all_goals omega
/-- The bytes that are appended, by their cells. -/
theorem BsAt.cellsAt {w : World} {ad : Addr} {n c : Nat} {cs : List UInt8} (h : BsAt w (some ad) n c cs) : ∀ j u, (cellsB cs)[j]? = some u → w.cell? (ad.add j) = some u := by
  intro j u hu
  have hj : j < cs.length := by have := (List.getElem?_eq_some_iff.1 hu).1; rwa [cellsB_length] at this
  have hs := h.size
  obtain ⟨b, off, he, hc⟩ := h.here (by omega)
  obtain rfl := Option.some.inj he
  rw [cellsB_get cs j hj] at hu
  obtain rfl := Option.some.inj hu
  rw [Addr.add_lit]
  exact hc j (by omega)
/-- What a new row that holds them is. -/
theorem OwnB.laid {w : World} {B n cap : Nat} {bs : List UInt8} (rest : Array Value) (hB : B ≤ w.heap.size) (hn : bs.length = n) (hc : n ≤ cap) (hm : cap ≤ maxLen) (hr : n + rest.size = cap) :
    OwnB (w.drew.alloc (.cells ((cellsB bs).toArray ++ rest) 5)) B (some ⟨w.heap.size, 0, none⟩) n cap bs := by
  refine ⟨hn, by rw [cellsB_length, hn]; omega, .inr ⟨w.heap.size, cap, _, rfl, hB, heap_alloc_new w.drew _, hc, hm, ?_, ?_⟩⟩
  · simp [cellsB_length]
    omega
  · rw [Array.toList_append, Nat.mul_one]
    exact List.take_left' (by simp [cellsB_length, hn])
theorem wpList_appFit (w : World) {ops : Array Oper} {rest : List Oper} {o : Oper} {a : Act} {Q : Exit → Act → World → Prop} (hgd : o.guard = none) (s x : Operand)
    (ho : o.op = .call { callee := .builtin .append, args := #[s, x], argTypes := #[28, 28] })
    (B : Nat) (a1 : Option Addr) (n1 c1 : Nat) (bs : List UInt8) (hs : a.eval s = .slice a1 n1 c1) (hown : OwnB w B a1 n1 c1 bs) (hp : 0 < n1)
    (a2 : Option Addr) (n2 c2 : Nat) (cs : List UInt8) (hx : a.eval x = .slice a2 n2 c2) (hsrc : BsAt w a2 n2 c2 cs)
    (hl : n1 + n2 ≤ 150000000000000) (hB : B ≤ w.heap.size)
    (h : ∀ a' c' w', OwnB w' B a' (n1 + n2) c' (bs ++ cs) → Below B w w' → wpList Try.prog ops Q rest (a.put o.dst (.slice a' (n1 + n2) c')) w') :
    wpList Try.prog ops Q (o :: rest) a w := by
  obtain ⟨g, rfl, _⟩ := hown.cells hp
  by_cases hsm : n1 + n2 ≤ 140737488355328
  · exact wpList_app w hgd s x ho B _ n1 c1 bs hs hown a2 n2 c2 cs hx hsrc hsm hB (fun a' c' w' h1 h2 _ => h a' c' w' h1 h2)
  · cases a2 with
    | none =>
      have hc0 := hsrc.bare rfl
      have hle := hsrc.le
      obtain rfl : n2 = 0 := by omega
      subst hc0
      obtain rfl := List.eq_nil_of_length_eq_zero hsrc.size
      obtain ⟨i, hi, hz0, hz1, hz2⟩ := info_parts infoU8
      refine wpList_append_own_none hgd s x _ ho B 5 i 1 Try.underlying28 hi _ n1 _ hs hown.row hx ?_
      exact h _ _ w (by rw [Nat.add_zero, List.append_nil]; exact hown) (Below.refl _ _)
    | some ad =>
      obtain ⟨i, hi, hz0, hz1, hz2⟩ := info_parts infoU8
      have hs1 := hown.size
      have hs2 := hsrc.size
      have hap : ∀ v' w', (Builtin.append_ #[28, 28] o.type #[.slice (some ⟨g, 0, none⟩) n1 c1, .slice (some ad) n2 c2]).run Try.prog w = .ok v' w' → wpList Try.prog ops Q rest (a.put o.dst v') w' → wpList Try.prog ops Q (o :: rest) a w := by
        intro v' w' hr hk
        refine wpList_plain hgd fun _ hK => ?_
        unfold Oper.wp execOp
        simp only [ho, resolve, invoke, builtin, Sem.run_bind, Sem.run_pure, Result.andThen_ok, List.map_toArray, List.map_cons, List.map_nil, hs, hx, hr]
        exact hK _ _ hk
      rcases hown.row.2 with ⟨hv, _⟩ | ⟨g', cap, cur, hv, hbg, hg, hnc, hcm, hcs, htake⟩
      · simp at hv
      · simp only [Value.slice.injEq, Option.some.injEq, Addr.mk.injEq, and_true, true_and] at hv
        obtain ⟨rfl, rfl⟩ := hv
        by_cases hroom : n1 + n2 ≤ c1
        · have hfit : n1 * i.size + (cellsB cs).length ≤ cur.size := by rw [cellsB_length, hz1, hcs]; omega
          have hr := run_append_room (P := Try.prog) w _ o.type _ i Try.underlying28 hi g n1 c1 cur hg ad n2 c2 (cellsB cs) (by rw [cellsB_length, hz1]; omega) hsrc.cellsAt (cellsB_one cs) hroom hfit
          refine hap _ _ hr (h _ _ _ ?_ ?_)
          · refine ⟨by rw [List.length_append]; omega, by rw [cellsB_length, List.length_append]; omega, .inr ⟨g, c1, _, rfl, hbg, setRow_heap w g cur _ _ _ hg, hroom, hcm, ?_, ?_⟩⟩
            · rw [hz1, cellsB_length] at *
              simp [cellsB_length]
              omega
            · rw [hz1]
              simp only [Nat.mul_one] at htake ⊢
              rw [htake, ← cellsB_append]
              exact List.take_left' (by rw [cellsB_length, List.length_append]; omega)
          · exact (Below.refl _ _).grown (row := some g) ⟨rfl, rfl, rfl, by simp, fun k _ hk => setRow_other w g k _ (fun e => hk (by rw [e]))⟩ hB (fun k hk => by simp at hk; omega)
        · have hcap := grownCap_ge w (n1 + n2) c1 5
          have hnm : n1 + n2 ≤ maxLen := by unfold maxLen; omega
          have hcapm := grownCap_le_maxLen w (n1 + n2) c1 5 hnm
          have hnear := nextslicecap_near (need := n1 + n2) (old := c1) (by omega)
          have hr := run_append_grow (P := Try.prog) w _ o.type _ i (.int .u8 0) Try.underlying28 hi hz0 ⟨g, 0, none⟩ n1 c1 (cellsB bs) (by rw [cellsB_length, hz1]; omega) hown.bs.cellsAt ad n2 c2 (cellsB cs) (by rw [cellsB_length, hz1]; omega) hsrc.cellsAt (by omega) (by omega) (by rw [hz2]; omega)
          refine hap _ _ hr (h _ _ _ ?_ ?_)
          · rw [show (cellsB bs).toArray ++ (cellsB cs).toArray = (cellsB (bs ++ cs)).toArray by rw [cellsB_append]; simp]
            exact OwnB.laid _ hB (by rw [List.length_append]; omega) hcap hcapm (by rw [size_zeroCells, show (Value.int IntKind.u8 0).cells.size = 1 from rfl]; omega)
          · exact (Below.refl _ _).drew.alloc hB _
end Go.Proofs.Ytiflepadjcpjjaa
