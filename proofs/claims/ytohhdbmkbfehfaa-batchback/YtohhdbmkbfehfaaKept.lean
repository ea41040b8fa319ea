/- What stays as it is where another block grows or is written: structs, lists of operations, variables that closures hold. -/
import Derived.Test.YtohhdbmkbfehfaaOpsOwn
import Derived.Test.YtohhdbmkbfehfaaRec
namespace Go.Proofs.Ytohhdbmkbfehfaa
open Go.RowKit
theorem cell_same {w w' : World} {n i : Nat} (h : w'.heap[n]? = w.heap[n]?) : w'.cell? ⟨n, i, none⟩ = w.cell? ⟨n, i, none⟩ := by simp [World.cell?, h]
theorem frozen_same {w w' : World} {n i : Nat} (h : w'.heap[n]? = w.heap[n]?) : w'.frozen? ⟨n, i, none⟩ = w.frozen? ⟨n, i, none⟩ := by simp [World.frozen?, h]
theorem Rec3.grown {n : Nat} {w w' : World} {x y z : Value} {row : Option Nat} (h : Rec3 w n x y z) (hg : w.grownBy w' row) (hne : some n ≠ row) : Rec3 w' n x y z := by
  have e := hg.block n h.lt hne
  refine ⟨?_, ?_, ?_, ?_, ?_, ?_, Nat.lt_of_lt_of_le h.lt hg.size⟩
  · rw [cell_same e]; exact h.c0
  · rw [cell_same e]; exact h.c1
  · rw [cell_same e]; exact h.c2
  · rw [frozen_same e]; exact h.f0
  · rw [frozen_same e]; exact h.f1
  · rw [frozen_same e]; exact h.f2
theorem OwnB.notAt {w : World} {B : Nat} {a : Option Addr} {len cap : Nat} {bs : List UInt8} (h : OwnB w B a len cap bs) {n : Nat} (hn : w.heap.size ≤ n) : some n ≠ (Value.slice a len cap).ownBlock := fun e => by
  have := (h.row.lt n e.symm).2
  omega
theorem OwnB.notRec {w : World} {B : Nat} {a : Option Addr} {len cap : Nat} {bs : List UInt8} (h : OwnB w B a len cap bs) (hp : 0 < len) {n : Nat} {k : Int} {y z : Value} (hr : Rec3 w n (.int .i64 k) y z) : some n ≠ (Value.slice a len cap).ownBlock := fun e => by
  obtain ⟨g, rfl, _, _, hc⟩ := h.cells hp
  simp only [Value.ownBlock, Option.some.injEq] at e
  subst e
  have h0 := hc 0 hp
  rw [hr.c0] at h0
  simp at h0
theorem OwnO.grown {w w' : World} {B : Nat} {a : Option Addr} {len cap : Nat} {l : List Opn} {g : Nat} (h : OwnO w B a len cap l) (hg : w.grownBy w' (some g)) (hne : g < B) : OwnO w' B a len cap l := by
  refine ⟨h.size, h.row.1, ?_⟩
  rcases h.row.2 with hn | ⟨b, c, cur, hv, hB, hb, rest⟩
  · exact .inl hn
  · exact .inr ⟨b, c, cur, hv, hB, by rw [hg.block b (Array.getElem?_eq_some_iff.1 hb).1 (by simp; omega)]; exact hb, rest⟩
theorem OwnO.grownNe {w w' : World} {B : Nat} {a : Option Addr} {len cap : Nat} {l : List Opn} {row : Option Nat} (h : OwnO w B a len cap l) (hg : w.grownBy w' row) (hne : ∀ g, (Value.slice a len cap).ownBlock = some g → some g ≠ row) : OwnO w' B a len cap l := by
  refine ⟨h.size, h.row.1, ?_⟩
  rcases h.row.2 with hn | ⟨b, c, cur, hv, hB, hb, rest⟩
  · exact .inl hn
  · exact .inr ⟨b, c, cur, hv, hB, by rw [hg.block b (Array.getElem?_eq_some_iff.1 hb).1 (hne b (by rw [hv]; rfl))]; exact hb, rest⟩
theorem grown_cell (w : World) (a : Addr) (v : Value) : w.grownBy (w.setCell a v) (some a.block) :=
  ⟨rfl, rfl, rfl, by simp, fun k _ hk => Below.heap_setCell _ _ _ k (fun e => hk (by rw [e]))⟩
theorem Rec3.set1 {n : Nat} {w : World} {x y z : Value} (h : Rec3 w n x y z) (v : Value) : Rec3 (w.setCell ⟨n, 1, none⟩ v) n x v z := by
  refine ⟨?_, ?_, ?_, ?_, ?_, ?_, ?_⟩
  · rw [World.cell?_setCell_other _ _ _ _ (by simp)]; exact h.c0
  · exact World.cell?_setCell_same _ _ _ h.c1
  · rw [World.cell?_setCell_other _ _ _ _ (by simp)]; exact h.c2
  · rw [World.frozen?_setCell]; exact h.f0
  · rw [World.frozen?_setCell]; exact h.f1
  · rw [World.frozen?_setCell]; exact h.f2
  · exact Nat.lt_of_lt_of_le h.lt (grown_cell w _ v).size
theorem Rec3.set2 {n : Nat} {w : World} {x y z : Value} (h : Rec3 w n x y z) (v : Value) : Rec3 (w.setCell ⟨n, 2, none⟩ v) n x y v := by
  refine ⟨?_, ?_, ?_, ?_, ?_, ?_, ?_⟩
  · rw [World.cell?_setCell_other _ _ _ _ (by simp)]; exact h.c0
  · rw [World.cell?_setCell_other _ _ _ _ (by simp)]; exact h.c1
  · exact World.cell?_setCell_same _ _ _ h.c2
  · rw [World.frozen?_setCell]; exact h.f0
  · rw [World.frozen?_setCell]; exact h.f1
  · rw [World.frozen?_setCell]; exact h.f2
  · exact Nat.lt_of_lt_of_le h.lt (grown_cell w _ v).size
theorem BsAt.oneAt {w : World} {g : Nat} {x : Int} {e : TypeId} {b : UInt8} (hg : g = w.heap.size) (hx : x = (b.toNat : Int)) : BsAt (w.alloc (.cells #[.int .u8 x] e)) (some ⟨g, 0, none⟩) 1 1 [b] := by
  subst hg
  exact BsAt.one hx
end Go.Proofs.Ytohhdbmkbfehfaa
