/- The contracts of the document's own PutUvarint and PutText: what they lay behind bytes, in new memory. -/
import Derived.Test.YtiflepadjcpjjaaOwn
import Derived.Test.YtiflepadjcpjjaaBits
import Derived.Test.YtiflepadjcpjjaaPlainPut
import Derived.Test.YtiflepadjcpjjaaOfStr
namespace Go.Proofs.Ytiflepadjcpjjaa
open Go.RowKit

set_option maxRecDepth 100000 in
set_option maxHeartbeats 400000 in
theorem rputUvarint_any (a : Option Addr) (len cap : Nat) (bs : List UInt8) (n : Nat) (w : World) (h : BsAt w a len cap bs) (hn : n < 18446744073709551616) (hl : len + 10 ≤ 140737488355328) :
    Calls Try.prog 18 #[.slice a len cap, .int .u64 (n : Int)] w fun e w' => ∃ a' c', e = .returned (.slice a' (len + (uvEnc n).length) c') ∧ OwnB w' w.heap.size a' (len + (uvEnc n).length) c' (bs ++ uvEnc n) ∧ Below w.heap.size w w' := by
  go_enter Try.func18, Try.ntmps18
  go_wp2_with (at_builtin; refine wpList_app0 w rfl _ _ rfl rfl _ _ _ bs rfl h (by omega) ?_; intro a0 c0 w0 ho0 hb0)
  go_loopw [5, 1] (fun v x wr => ∃ (a1 : Option Addr) (l1 c1 m f : Nat) (cs : List UInt8), v = .slice a1 l1 c1 ∧ x = .int .u64 (m : Int) ∧ l1 + (f + 1) ≤ len + 10 ∧ f ≤ 9 ∧ m < 18446744073709551616 ∧
      Hid (m < 2 * 128 ^ f ∧ bs ++ uvEnc n = cs ++ uvEncF f m ∧ OwnB wr w.heap.size a1 l1 c1 cs) ∧ Below w.heap.size w wr) (fun _ x _ => (intOf x).toNat)
  case atStart => exact ⟨a0, len, c0, n, 9, bs, rfl, rfl, by omega, by omega, hn, ⟨by omega, rfl, ho0⟩, hb0⟩
  case round =>
    obtain ⟨a1, l1, c1, m, f, cs, rfl, rfl, hl1, hf, hm, HR, hb⟩ := hrel
    have hsz := hb.size
    by_cases h128 : 128 ≤ m
    · obtain ⟨f, rfl⟩ : ∃ g, f = g + 1 := ⟨f - 1, by have h1 := HR.out.1; rcases Nat.eq_zero_or_pos f with h0 | h0; (subst h0; simp at h1; omega); omega⟩
      go_wp2_with (first
        | (at_builtin; refine wpList_app _ rfl _ _ rfl w.heap.size _ _ _ cs rfl (HR.out.2.2.alloc _) _ _ _ [hiByte m] rfl (BsAt.one (by rw [hiByte_toNat]; omega)) (by omega) (by simp; omega) ?_))
      intro a2 c2 w2 ho2 hb2 _
      have HO : Hid (OwnB w2 w.heap.size a2 (l1 + 1) c2 (cs ++ [hiByte m])) := ho2
      have HBB : Hid (Below w.heap.size w w2) := (hb.alloc (by omega) _).trans hb2
      clear ho2 hb2
      go_wp2
      go_roundw
      case rel =>
        obtain ⟨h1, h2, h3⟩ := HR.out
        rw [uvEncF_more f m h128] at h2
        exact ⟨a2, l1 + 1, c2, m / 128, f, cs ++ [hiByte m], rfl, by go_num, by omega, by omega, by omega, ⟨by rw [Nat.pow_succ] at h1; omega, by rw [h2]; simp, HO.out⟩, HBB.out⟩
      case measure => simp [intOf]; omega
    · go_wp2_with (first
        | (at_builtin; refine wpList_app _ rfl _ _ rfl w.heap.size _ _ _ cs rfl (HR.out.2.2.alloc _) _ _ _ [loByte m] rfl (BsAt.one (by rw [loByte_toNat]; omega)) (by omega) (by simp; omega) ?_))
      intro a2 c2 w2 ho2 hb2 _
      have HO : Hid (OwnB w2 w.heap.size a2 (l1 + 1) c2 (cs ++ [loByte m])) := ho2
      have HBB : Hid (Below w.heap.size w w2) := (hb.alloc (by omega) _).trans hb2
      clear ho2 hb2
      go_wp2
      go_ret
      obtain ⟨h1, h2, h3⟩ := HR.out
      rw [uvEncF_last f m (by omega)] at h2
      have hO := HO.out
      rw [← h2] at hO
      have hs := hO.size
      rw [List.length_append, h.size] at hs
      rw [hs]
      exact ⟨a2, c2, ret1 (by simp), hO, HBB.out⟩

set_option maxRecDepth 100000 in
set_option maxHeartbeats 400000 in
theorem rputText_any (a : Option Addr) (len cap : Nat) (bs : List UInt8) (s : ByteArray) (w : World) (h : BsAt w a len cap bs) (hl : len + 10 + s.size ≤ 140737488355328) :
    Calls Try.prog 20 #[.slice a len cap, .string s] w fun e w' => ∃ a' c', e = .returned (.slice a' (len + (txtPut s.data.toList).length) c') ∧ OwnB w' w.heap.size a' (len + (txtPut s.data.toList).length) c' (bs ++ txtPut s.data.toList) ∧ Below w.heap.size w w' := by
  have hsl : s.data.toList.length = s.size := by rw [Array.length_toList]; rfl
  have hu := uvEnc_length s.size
  have HT : Hid (txtPut s.data.toList = uvEnc s.size ++ s.data.toList) := by unfold txtPut Hid; rw [hsl]
  have HSL : Hid (s.data.toList.length = s.size) := hsl
  clear hsl
  have hcv : ∀ W : World, (convert 9 28 (.string s)).run Try.prog W = .ok (.slice (some ⟨W.heap.size, 0, none⟩) s.size (grownCap W s.size 0 5))
      (W.drew.alloc (.cells (bytesRow s (grownCap W s.size 0 5)) 5 ((bytesRow s (grownCap W s.size 0 5)).size, (bytesRow s (grownCap W s.size 0 5)).size + 1))) :=
    fun W => run_bytes_of_string W 9 28 5 s Try.underlying9 Try.underlying28 Try.underlying5
  go_enter Try.func20, Try.ntmps20
  go_wp2_with (first
    | (go_at_call 18; refine (rputUvarint_any _ _ _ bs s.size _ h (by omega) (by omega)).mono ?_; rintro e w1 ⟨a1, c1, rfl, ho1, hb1⟩)
    | (at_builtin; refine wpList_app _ rfl _ _ rfl w.heap.size _ _ _ _ rfl (ho1.below ?_) _ _ _ s.data.toList rfl (BsAt.ofStr w1 s _ _ (grownCap_ge _ _ _ _) (grownCap_le_maxLen _ _ _ _ (by unfold maxLen; omega))) (by omega) ?_ ?_))
  · exact ((Below.refl _ _).alloc (Nat.le_refl _) _).drew
  · have := hb1.size
    simp
    omega
  · intro a3 c3 w3 ho3 hb3 _
    have HW : Hid (Below w.heap.size w w3) := ((hb1.alloc hb1.size _).drew).trans hb3
    clear hb3
    go_wp2
    go_ret
    rw [HT.out, List.length_append, HSL.out, ← Nat.add_assoc]
    exact ⟨a3, c3, ret1 rfl, ho3, HW.out⟩
end Go.Proofs.Ytiflepadjcpjjaa
