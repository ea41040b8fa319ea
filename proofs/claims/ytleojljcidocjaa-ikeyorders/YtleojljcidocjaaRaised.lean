/- The contract of ikey's raised: a text up to a byte, with 1 more in that one. -/
import Derived.Test.YtleojljcidocjaaStep
namespace Go.Proofs.Ytleojljcidocjaa
open Go.RowKit

/-- A text up to its byte i, with 1 more in that one. -/
def raise (l : List UInt8) (i : Nat) : List UInt8 := l.take i ++ [l.getD i 0 + 1]

theorem ext_size (s : ByteArray) (i : Nat) (h : i < s.size) : (s.extract 0 i).size = i := by simp; omega
theorem ext_list (s : ByteArray) (i : Nat) (_h : i < s.size) : (s.extract 0 i).data.toList = s.data.toList.take i := by simp
theorem at_list (s : ByteArray) (i : Nat) (h : i < s.size) : s[i] = s.data.toList.getD i 0 := by
  have e : i < s.data.size := h
  show s.data[i]'e = _
  rw [List.getD, Array.getElem?_toList, Array.getElem?_eq_getElem e]
  rfl

theorem rowA (w : World) (x y : Obj) : ((w.alloc x).alloc y).drew.drew.heap[w.heap.size]? = some x := by
  show ((w.alloc x).alloc y).heap[w.heap.size]? = some x
  rw [Below.heap_alloc _ _ _ (by simp)]
  exact heap_alloc_new w x
theorem rowB (w : World) (x y : Obj) : ((w.alloc x).alloc y).drew.drew.heap[w.heap.size + 1]? = some y := by
  have := heap_alloc_new (w.alloc x) y
  simp only [World.size_alloc] at this
  exact this
theorem below2 (w : World) (x y : Obj) : Below w.heap.size w ((w.alloc x).alloc y).drew.drew := (((Below.refl _ w).alloc (Nat.le_refl _) _).alloc (by simp) _).drew.drew

set_option maxRecDepth 100000 in
set_option maxHeartbeats 1000000 in
theorem raised_any (s : ByteArray) (i : Nat) (w : World) (hi : i < s.size) (hs : s.size ≤ 140737488351232) :
    Calls Try.prog 30 #[.string s, .int .i64 (i : Int)] w fun e w' => e = .returned (.string (strOf (raise s.data.toList i))) ∧ Below w.heap.size w w' := by
  have hcv : ∀ W : World, (convert 9 26 (.string (s.extract 0 i))).run Try.prog W = .ok (.slice (some ⟨W.heap.size, 0, none⟩) (s.extract 0 i).size (grownCap W (s.extract 0 i).size 0 5))
      (W.drew.alloc (.cells (bytesRow (s.extract 0 i) (grownCap W (s.extract 0 i).size 0 5)) 5 ((bytesRow (s.extract 0 i) (grownCap W (s.extract 0 i).size 0 5)).size, (bytesRow (s.extract 0 i) (grownCap W (s.extract 0 i).size 0 5)).size + 1))) :=
    fun W => run_bytes_of_string W 9 26 5 (s.extract 0 i) Try.underlying9 Try.underlying26 Try.underlying5
  have HS := ext_size s i hi
  have HL : Hid ((s.extract 0 i).data.toList = s.data.toList.take i) := ext_list s i hi
  have hat := at_list s i hi
  have hle : i ≤ s.size := by omega
  generalize hx : s.extract 0 i = S at hcv HS HL
  have hy : IntKind.u8.wrap ((s[i].toNat : Int) + 1) = ((s.data.toList.getD i 0 + 1).toNat : Int) := by
    rw [hat]
    simp [IntKind.wrap, IntKind.bits, IntKind.signed]
  have HY : Hid (IntKind.u8.wrap ((s[i].toNat : Int) + 1) = ((s.data.toList.getD i 0 + 1).toNat : Int)) := hy
  clear hy hat
  go_enter Try.func30, Try.ntmps30
  go_wp2
  go_region_law ((refine step_app1 (by rfl) _ _ (by rfl) w.heap.size _ S _ i HS (by rfl) (by first | exact rowA _ _ _ | exact rowB _ _ _) (by rw [HS]; exact grownCap_ge _ _ _ _) (grownCap_le_maxLen _ _ _ _ (by unfold maxLen; omega)) (by omega) _ _ _ HY.out (by rfl) (by simp) (by omega) ?_; intro a1 c1 w1 hb1 hB1; have hcv1 := conv_of hb1; have HB : Hid (Below w.heap.size w w1) := (below2 _ _ _).trans hB1; clear hB1))
  all_goals
    go_wp2
    go_ret
    refine ⟨ret1 ?_, HB.out⟩
    have he : i < s.data.size := hi
    unfold raise
    rw [← HL.out, List.getD, Array.getElem?_toList, Array.getElem?_eq_getElem he]
    rfl
end Go.Proofs.Ytleojljcidocjaa
