/- The contract of codec's layUvarint: what it lays behind bytes of the call's own. -/
import Derived.Test.YtiflepadjcpjjaaOwn
import Derived.Test.YtiflepadjcpjjaaBits
import Derived.Test.YtiflepadjcpjjaaPlain
namespace Go.Proofs.Ytiflepadjcpjjaa
open Go.RowKit

theorem or128 (n : Nat) : bits .or .u8 ((n : Int) % 256) 128 = ((hiByte n).toNat : Int) := by
  have e1 := nbits_or8_128 ⟨n % 256, Nat.mod_lt _ (by omega)⟩
  simp only at e1
  rw [show (n : Int) % 256 = ((n % 256 : Nat) : Int) by omega, e1, hiByte_toNat]
  omega

set_option maxRecDepth 100000 in
set_option maxHeartbeats 400000 in
theorem layUvarint_any (B : Nat) (a : Option Addr) (len cap : Nat) (bs : List UInt8) (n : Nat) (w : World) (h : OwnB w B a len cap bs) (hB : B ≤ w.heap.size) (hn : n < 18446744073709551616) (hl : len + 10 ≤ 140737488355328) :
    Calls Try.prog 48 #[.slice a len cap, .int .u64 (n : Int)] w fun e w' => ∃ a' c', e = .returned (.slice a' (len + (uvEnc n).length) c') ∧ OwnB w' B a' (len + (uvEnc n).length) c' (bs ++ uvEnc n) ∧ Below B w w' := by
  go_enter Try.func48, Try.ntmps48
  go_wp2
  go_loopw [0, 1] (fun v x wr => ∃ (a1 : Option Addr) (l1 c1 m f : Nat) (cs : List UInt8), v = .slice a1 l1 c1 ∧ x = .int .u64 (m : Int) ∧ l1 + (f + 1) ≤ len + 10 ∧ f ≤ 9 ∧ m < 18446744073709551616 ∧
      Hid (m < 2 * 128 ^ f ∧ bs ++ uvEnc n = cs ++ uvEncF f m ∧ OwnB wr B a1 l1 c1 cs) ∧ Below B w wr) (fun _ x _ => (intOf x).toNat)
  case atStart => exact ⟨a, len, cap, n, 9, bs, rfl, rfl, by omega, by omega, hn, ⟨by omega, rfl, h⟩, Below.refl _ _⟩
  case round =>
    obtain ⟨a1, l1, c1, m, f, cs, rfl, rfl, hl1, hf, hm, HR, hb⟩ := hrel
    have hsz := hb.size
    by_cases h128 : 128 ≤ m
    · obtain ⟨f, rfl⟩ : ∃ g, f = g + 1 := ⟨f - 1, by have h1 := HR.out.1; rcases Nat.eq_zero_or_pos f with h0 | h0; (subst h0; simp at h1; omega); omega⟩
      go_wp2_with (first
        | (at_builtin; refine wpList_app _ rfl _ _ rfl B _ _ _ cs rfl (HR.out.2.2.alloc _) _ _ _ [hiByte m] rfl (BsAt.one (or128 m)) (by omega) (by simp; omega) ?_))
      intro a2 c2 w2 ho2 hb2 _
      have HO : Hid (OwnB w2 B a2 (l1 + 1) c2 (cs ++ [hiByte m])) := ho2
      have HBB : Hid (Below B w w2) := (hb.alloc (by omega) _).trans hb2
      clear ho2 hb2
      go_wp2
      go_roundw
      case rel =>
        obtain ⟨h1, h2, h3⟩ := HR.out
        rw [uvEncF_more f m h128] at h2
        exact ⟨a2, l1 + 1, c2, m / 128, f, cs ++ [hiByte m], rfl, by go_num, by omega, by omega, by omega, ⟨by rw [Nat.pow_succ] at h1; omega, by rw [h2]; simp, HO.out⟩, HBB.out⟩
      case measure => simp [intOf]; omega
    · go_wp2_with (first
        | (at_builtin; refine wpList_app _ rfl _ _ rfl B _ _ _ cs rfl (HR.out.2.2.alloc _) _ _ _ [loByte m] rfl (BsAt.one (by rw [loByte_toNat]; omega)) (by omega) (by simp; omega) ?_))
      intro a2 c2 w2 ho2 hb2 _
      have HO : Hid (OwnB w2 B a2 (l1 + 1) c2 (cs ++ [loByte m])) := ho2
      have HBB : Hid (Below B w w2) := (hb.alloc (by omega) _).trans hb2
      clear ho2 hb2
      go_wp2
      go_ret
      obtain ⟨h1, h2, h3⟩ := HR.out
      rw [uvEncF_last f m (by omega)] at h2
      have hO := HO.out
      rw [← h2] at hO
      have hs := hO.size
      rw [List.length_append, h.size] at hs
      rw [hs]
      exact ⟨a2, c2, ret1 (by simp), hO, HBB.out⟩
end Go.Proofs.Ytiflepadjcpjjaa
