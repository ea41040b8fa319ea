/- The contract of ikey.Encode: the bytes of a key, as the plain function keyEnc tells them. -/
import Derived.Test.YtiflepadjcpjjaaKeyPlain
import Derived.Test.YtiflepadjcpjjaaPutFx
import Derived.Test.YtiflepadjcpjjaaOfStr
namespace Go.Proofs.Ytiflepadjcpjjaa
open Go.RowKit

theorem key_or (q : Nat) (k : Int) (h1 : q ≤ 72057594037927935) (h2 : k = 0 ∨ k = 1) : bits .or .u64 ((q : Int) * 256) (IntKind.u64.wrap k) = ((q * 256 + k.toNat : Nat) : Int) := by
  obtain ⟨j, rfl, hj⟩ : ∃ j : Nat, k = (j : Int) ∧ j ≤ 1 := ⟨k.toNat, by omega, by omega⟩
  rw [show IntKind.u64.wrap (j : Int) = (j : Int) by simp [IntKind.wrap, IntKind.bits, IntKind.signed]; omega, show (q : Int) * 256 = ((q * 256 : Nat) : Int) by omega, nbits_or64 _ _ (by omega) (by omega)]
  rw [show q * 256 = q <<< 8 by rw [Nat.shiftLeft_eq], ← Nat.shiftLeft_add_eq_or_of_lt (show j < 2 ^ 8 by omega)]
  rfl

set_option maxRecDepth 100000 in
set_option maxHeartbeats 400000 in
theorem encode_any (s : ByteArray) (q : Nat) (k : Int) (w : World) (hs : s.size ≤ 140737488351232) :
    Calls Try.prog 34 #[.agg #[.string s, .int .u64 (q : Int), .int .i64 k]] w fun e w' => ∃ a' c', e = .returned (.tuple #[.slice a' (keyEnc s.data.toList q k).length c', .int .i64 ((chk s.size q k : Nat) : Int)]) ∧ BsAt w' a' (keyEnc s.data.toList q k).length c' (keyEnc s.data.toList q k) ∧ Below w.heap.size w w' := by
  have hsl : s.data.toList.length = s.size := by rw [Array.length_toList]; rfl
  have hb0 : Below w.heap.size w (w.alloc (.cells #[.string s, .int .u64 (q : Int), .int .i64 k] 42)) := (Below.refl _ _).alloc (Nat.le_refl _) _
  by_cases h : chk s.size q k = 0
  · have hy := keyEnc_yes (s := s.data.toList) (q := q) (k := k) (by rw [hsl]; exact h)
    obtain ⟨h1, h2, h3⟩ := chk_zero h
    have HE : Hid (keyEnc s.data.toList q k = s.data.toList ++ fxEnc (q * 256 + k.toNat) 8) := hy
    have HL : Hid (s.data.toList.length = s.size) := hsl
    have HK : Hid (chk s.size q k = 0) := h
    have HO : Hid (_ = _) := key_or q k h2 h3
    have hn : q * 256 + k.toNat < 18446744073709551616 := by omega
    have hck := fun W => check_any s q k W (by omega)
    rw [h] at hck
    clear h h3 hy hsl
    have hcv : ∀ W : World, (convert 9 28 (.string s)).run Try.prog W = .ok (.slice (some ⟨W.heap.size, 0, none⟩) s.size (grownCap W s.size 0 5))
        (W.drew.alloc (.cells (bytesRow s (grownCap W s.size 0 5)) 5 ((bytesRow s (grownCap W s.size 0 5)).size, (bytesRow s (grownCap W s.size 0 5)).size + 1))) :=
      fun W => run_bytes_of_string W 9 28 5 s Try.underlying9 Try.underlying28 Try.underlying5
    go_enter Try.func34, Try.ntmps34
    go_wp2_with (first
      | (go_at_call 38; refine (hck _).mono ?_; rintro e w1 ⟨rfl, hb1⟩
         have f0 : w1.cell? ⟨w.heap.size, 0, none⟩ = some (.string s) := by rw [hb1.cell (by simp)]; simp
         have hz1 : w.heap.size < w1.heap.size := by have := hb1.size; simp at this; omega
         have f1 : w1.cell? ⟨w.heap.size, 1, none⟩ = some (.int .u64 (q : Int)) := by rw [hb1.cell (by simp)]; simp
         have f2 : w1.cell? ⟨w.heap.size, 2, none⟩ = some (.int .i64 k) := by rw [hb1.cell (by simp)]; simp)
      | fail)
    rw [HO.out]
    refine (putFixed_any _ _ _ s.data.toList (q * 256 + k.toNat) 8 _ (BsAt.ofStr w1 s _ _ (grownCap_ge _ _ _ _) (grownCap_le_maxLen _ _ _ _ (by unfold maxLen; omega))) hn (by omega)).mono ?_
    rintro e w2 ⟨a2, c2, rfl, ho2, hb2⟩
    have hB : Below w.heap.size w w2 := by
      have h3 := hb0.trans (hb1.mono hb0.size)
      exact ((h3.alloc h3.size _).drew).trans (hb2.mono (by simp; omega))
    clear hb2
    go_wp2
    go_ret2
    rw [HE.out, List.length_append, HL.out, HK.out]
    exact ⟨a2, c2, ret2 rfl rfl, ho2.bs, hB⟩
  · have HE : Hid (keyEnc s.data.toList q k = []) := keyEnc_no (by rw [hsl]; exact h)
    have hne : (((chk s.size q k : Nat) : Int) != 0) = true := by simp; omega
    have hck := fun W => check_any s q k W (by omega)
    generalize chk s.size q k = c at hne hck
    clear h
    go_enter Try.func34, Try.ntmps34
    go_wp2_with (go_at_call 38; refine (hck _).mono ?_; rintro e w1 ⟨rfl, hb1⟩)
    go_ret2
    rw [HE.out]
    exact ⟨none, 0, ret2 rfl rfl, BsAt.nil _, hb0.trans (hb1.mono hb0.size)⟩
end Go.Proofs.Ytiflepadjcpjjaa
