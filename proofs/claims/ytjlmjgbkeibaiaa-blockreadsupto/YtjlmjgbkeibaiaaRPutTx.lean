/- The contracts of the document's own PutUvarint and PutText: what they lay behind bytes, in new memory. -/
import Derived.Test.YtjlmjgbkeibaiaaOwn
import Derived.Test.YtjlmjgbkeibaiaaBits
import Derived.Test.YtjlmjgbkeibaiaaPlainPut
import Derived.Test.YtjlmjgbkeibaiaaOfStr
namespace Go.Proofs.Ytjlmjgbkeibaiaa
open Go.RowKit

set_option maxRecDepth 100000 in
set_option maxHeartbeats 400000 in
theorem rputUvarint_any (a : Option Addr) (len cap : Nat) (bs : List UInt8) (n : Nat) (w : World) (h : BsAt w a len cap bs) (hn : n < 18446744073709551616) (hl : len + 10 ≤ 140737488355328) :
    Calls Try.prog 28 #[.slice a len cap, .int .u64 (n : Int)] w fun e w' => ∃ a' c', e = .returned (.slice a' (len + (uvEnc n).length) c') ∧ OwnB w' w.heap.size a' (len + (uvEnc n).length) c' (bs ++ uvEnc n) ∧ Below w.heap.size w w' := by
  go_enter Try.func28, Try.ntmps28
  go_wp2_with (at_builtin; refine wpList_app0 w rfl _ _ rfl rfl _ _ _ bs rfl h (by omega) ?_; intro a0 c0 w0 ho0 hb0)
  go_loopw [5, 1] (fun v x wr => ∃ (a1 : Option Addr) (l1 c1 m f : Nat) (cs : List UInt8), v = .slice a1 l1 c1 ∧ x = .int .u64 (m : Int) ∧ l1 + (f + 1) ≤ len + 10 ∧ f ≤ 9 ∧ m < 18446744073709551616 ∧
      Hid (m < 2 * 128 ^ f ∧ bs ++ uvEnc n = cs ++ uvEncF f m ∧ OwnB wr w.heap.size a1 l1 c1 cs) ∧ Below w.heap.size w wr) (fun _ x _ => (intOf x).toNat)
  case atStart => exact ⟨a0, len, c0, n, 9, bs, rfl, rfl, by omega, by omega, hn, ⟨by omega, rfl, ho0⟩, hb0⟩
  case round =>
    obtain ⟨a1, l1, c1, m, f, cs, rfl, rfl, hl1, hf, hm, HR, hb⟩ := hrel
    have hsz := hb.size
    by_cases h128 : 128 ≤ m
    · obtain ⟨f, rfl⟩ : ∃ g, f = g + 1 := ⟨f - 1, by have h1 := HR.out.1; rcases Nat.eq_zero_or_pos f with h0 | h0; (subst h0; simp at h1; omega); omega⟩
      go_wp2_with (first
        | (at_builtin; refine wpList_app _ rfl _ _ rfl w.heap.size _ _ _ cs rfl (HR.out.2.2.alloc _) _ _ _ [hiByte m] rfl (BsAt.one (by rw [hiByte_toNat]; omega)) (by omega) (by simp; omega) ?_))
      intro a2 c2 w2 ho2 hb2 _
      have HO : Hid (OwnB w2 w.heap.size a2 (l1 + 1) c2 (cs ++ [hiByte m])) := ho2
      have HBB : Hid (Below w.heap.size w w2) := (hb.alloc (by omega) _).trans hb2
      clear ho2 hb2
      go_wp2
      go_roundw
      case rel =>
        obtain ⟨h1, h2, h3⟩ := HR.out
        rw [uvEncF_more f m h128] at h2
        exact ⟨a2, l1 + 1, c2, m / 128, f, cs ++ [hiByte m], rfl, by go_num, by omega, by omega, by omega, ⟨by rw [Nat.pow_succ] at h1; omega, by rw [h2]; simp, HO.out⟩, HBB.out⟩
      case measure => simp [intOf]; omega
    · go_wp2_with (first
        | (at_builtin; refine wpList_app _ rfl _ _ rfl w.heap.size _ _ _ cs rfl (HR.out.2.2.alloc _) _ _ _ [loByte m] rfl (BsAt.one (by rw [loByte_toNat]; omega)) (by omega) (by simp; omega) ?_))
      intro a2 c2 w2 ho2 hb2 _
      have HO : Hid (OwnB w2 w.heap.size a2 (l1 + 1) c2 (cs ++ [loByte m])) := ho2
      have HBB : Hid (Below w.heap.size w w2) := (hb.alloc (by omega) _).trans hb2
      clear ho2 hb2
      go_wp2
      go_ret
      obtain ⟨h1, h2, h3⟩ := HR.out
      rw [uvEncF_last f m (by omega)] at h2
      have hO := HO.out
      rw [← h2] at hO
      have hs := hO.size
      rw [List.length_append, h.size] at hs
      rw [hs]
      exact ⟨a2, c2, ret1 (by simp), hO, HBB.out⟩
end Go.Proofs.Ytjlmjgbkeibaiaa
