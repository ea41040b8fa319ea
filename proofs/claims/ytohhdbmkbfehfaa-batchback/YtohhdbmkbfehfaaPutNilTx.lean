/- The contract of codec.PutText, behind no bytes. -/
import Derived.Test.YtohhdbmkbfehfaaPutTx
namespace Go.Proofs.Ytohhdbmkbfehfaa
open Go.RowKit
theorem putTx_nil (s : ByteArray) (L : Nat) (w : World) (hs : s.size ≤ 140737488355000) (hL : (txtPut s.data.toList).length = L) :
    Calls Try.prog 18 #[.slice none 0 0, .string s] w fun e w' => ∃ a' c', e = .returned (.slice a' L c') ∧ BsAt w' a' L c' (txtPut s.data.toList) ∧ Below w.heap.size w w' := by
  refine (putText_any none 0 0 [] s w (BsAt.nil w) (by omega)).mono ?_
  rintro e w' ⟨a', c', rfl, ho, hb⟩
  rw [hL, Nat.zero_add] at ho ⊢
  exact ⟨a', c', rfl, ho.bs, hb⟩
end Go.Proofs.Ytohhdbmkbfehfaa
