/- Ints appended to a row of the call's own, where all together may have somewhat more than 2^47 bytes. -/
import Derived.Test.YtehkcgjiimfdjaaApp5
namespace Go.Proofs.Ytehkcgjiimfdjaa
open Go.RowKit
theorem nextslicecap_near {need old : Nat} (h : old < need) : Builtin.nextslicecap need old ≤ need + need / 4 + 1024 := by
  unfold Builtin.nextslicecap
  split
  · omega
  · split
    · omega
    · rw [growBy_four]
      repeat' split
      all_goals omega
theorem wpList_appNFit (w : World) {ops : Array Oper} {rest : List Oper} {o : Oper} {a : Act} {Q : Exit → Act → World → Prop} (hgd : o.guard = none) (s x : Operand)
    (ho : o.op = .call { callee := .builtin .append, args := #[s, x], argTypes := #[24, 24] })
    (B : Nat) (a1 : Option Addr) (n1 c1 : Nat) (l : List Int) (hs : a.eval s = .slice a1 n1 c1) (hown : OwnN w B a1 n1 c1 l)
    (ad : Addr) (n2 c2 : Nat) (m : List Int) (hx : a.eval x = .slice (some ad) n2 c2) (hsrc : IsAt w (some ad) n2 c2 m)
    (hb : n1 + n2 ≤ 18000000000000) (hn2 : n2 ≤ 1000) (hB : B ≤ w.heap.size)
    (h : ∀ a' c' w', OwnN w' B a' (n1 + n2) c' (l ++ m) → Below B w w' → wpList Try.prog ops Q rest (a.put o.dst (.slice a' (n1 + n2) c')) w') :
    wpList Try.prog ops Q (o :: rest) a w := by
  by_cases hsm : n1 + n2 ≤ 17592186044416
  · exact wpList_appN w hgd s x ho B a1 n1 c1 l hs hown (some ad) n2 c2 m hx hsrc hsm hB (fun a' c' w' h1 h2 _ => h a' c' w' h1 h2)
  · obtain ⟨i, hi, hz0, hz1, hz2⟩ := info_parts infoI64
    have hs1 := hown.size
    have hs2 := hsrc.size
    have hle2 := hsrc.le
    have hcellS : ∀ j u, (cellsN m)[j]? = some u → w.cell? (ad.add j) = some u := by
      intro j u hu
      have hj : j < m.length := by have := (List.getElem?_eq_some_iff.1 hu).1; simpa [cellsN] using this
      obtain ⟨b, off, he, hc⟩ := hsrc.here (by omega)
      obtain rfl := Option.some.inj he
      rw [cellsN_get m j hj] at hu
      obtain rfl := Option.some.inj hu
      rw [Addr.add_lit]
      exact hc j (by omega)
    have hlen1 : (cellsN l).length = n1 := by simp [cellsN]; exact hs1
    have hlen2 : (cellsN m).length = n2 := by simp [cellsN]; exact hs2
    have happ : cellsN (l ++ m) = cellsN l ++ cellsN m := by simp [cellsN]
    have hwf : ∀ n ∈ l ++ m, in64 n := by
      intro k hk
      rcases List.mem_append.1 hk with hk | hk
      · exact hown.wf k hk
      · obtain ⟨j, hj, rfl⟩ := List.getElem_of_mem hk
        have := hsrc.wf j (by omega)
        simpa [List.getD, hj, in64] using this
    rcases hown.row.2 with ⟨hv, hn0⟩ | ⟨g, cap, cur, hv, hbg, hg, hnc, hcm, hcs, htake⟩
    · simp only [Value.slice.injEq] at hv
      obtain ⟨rfl, rfl, rfl⟩ := hv
      omega
    · simp only [Value.slice.injEq, true_and] at hv
      obtain ⟨rfl, rfl⟩ := hv
      have hap : ∀ v' w', (Builtin.append_ #[24, 24] o.type #[.slice (some ⟨g, 0, none⟩) n1 c1, .slice (some ad) n2 c2]).run Try.prog w = .ok v' w' → wpList Try.prog ops Q rest (a.put o.dst v') w' → wpList Try.prog ops Q (o :: rest) a w := by
        intro v' w' hr hk
        refine wpList_plain hgd fun _ hK => ?_
        unfold Oper.wp execOp
        simp only [ho, resolve, invoke, builtin, Sem.run_bind, Sem.run_pure, Result.andThen_ok, List.map_toArray, List.map_cons, List.map_nil, hs, hx, hr]
        exact hK _ _ hk
      have hold : ∀ j u, (cellsN l)[j]? = some u → w.cell? ((⟨g, 0, none⟩ : Addr).add j) = some u := by
        intro j u hu
        have hj : j < n1 := by have := (List.getElem?_eq_some_iff.1 hu).1; omega
        rw [Addr.add_lit, Nat.zero_add, hown.row.cellAt j (by omega)]
        exact hu
      by_cases hroom : n1 + n2 ≤ c1
      · have hfit : n1 * i.size + (cellsN m).length ≤ cur.size := by rw [hlen2, hz1, hcs]; omega
        have hr := run_append_room (P := Try.prog) w _ o.type _ i Try.underlying24 hi g n1 c1 cur hg ad n2 c2 (cellsN m) (by rw [hlen2, hz1]; omega) hcellS (cellsN_one m) hroom hfit
        refine hap _ _ hr (h _ _ _ ⟨by rw [List.length_append]; omega, ?_, hwf⟩ ?_)
        · refine ⟨by rw [happ, List.length_append]; omega, .inr ⟨g, c1, _, rfl, hbg, setRow_heap w g cur _ _ _ hg, hroom, hcm, ?_, ?_⟩⟩
          · rw [hz1] at *
            simp [hlen2]
            omega
          · rw [hz1]
            simp only [Nat.mul_one] at htake ⊢
            rw [htake, ← happ]
            exact List.take_left' (by rw [happ, List.length_append]; omega)
        · exact (Below.refl _ _).grown (row := some g) ⟨rfl, rfl, rfl, by simp, fun k _ hk => setRow_other w g k _ (fun e => hk (by rw [e]))⟩ hB (fun k hk => by simp at hk; omega)
      · have hcap := grownCap_ge w (n1 + n2) c1 3
        have hnm : n1 + n2 ≤ maxLen := by unfold maxLen; omega
        have hcapm := grownCap_le_maxLen w (n1 + n2) c1 3 hnm
        have hnear := nextslicecap_near (need := n1 + n2) (old := c1) (by omega)
        have hr := run_append_grow (P := Try.prog) w _ o.type _ i (.int .i64 0) Try.underlying24 hi hz0 ⟨g, 0, none⟩ n1 c1 (cellsN l) (by rw [hlen1, hz1]; omega) hold ad n2 c2 (cellsN m) (by rw [hlen2, hz1]; omega) hcellS (by omega) (by omega) (by rw [hz2]; omega)
        refine hap _ _ hr (h _ _ _ ⟨by rw [List.length_append]; omega, ?_, hwf⟩ ?_)
        · rw [show (cellsN l).toArray ++ (cellsN m).toArray = (cellsN (l ++ m)).toArray by rw [happ]; simp]
          refine ⟨by rw [happ, List.length_append]; omega, .inr ⟨w.heap.size, _, _, rfl, hB, heap_alloc_new w.drew _, hcap, hcapm, ?_, ?_⟩⟩
          · simp [happ, hlen1, hlen2, size_zeroCells, show (Value.int IntKind.i64 0).cells.size = 1 from rfl]
            omega
          · rw [Array.toList_append, Nat.mul_one]
            exact List.take_left' (by simp [happ, hlen1, hlen2])
        · exact (Below.refl _ _).drew.alloc hB _
end Go.Proofs.Ytehkcgjiimfdjaa
