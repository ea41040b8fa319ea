/- The contracts of codec's own, layUvarint and PutUvarint: what they lay behind bytes, in new memory. -/
import Derived.Test.YtnlobehagneomaaOwn
import Derived.Test.YtnlobehagneomaaBits
import Derived.Test.YtnlobehagneomaaPlain
namespace Go.Proofs.Ytnlobehagneomaa
open Go.RowKit

set_option maxRecDepth 100000 in
set_option maxHeartbeats 400000 in
theorem own_any (a : Option Addr) (len cap : Nat) (bs : List UInt8) (room : Int) (w : World) (h : BsAt w a len cap bs) (h0 : 0 ≤ room) (hl : (len : Int) + room ≤ 140737488355328) :
    Calls Try.prog 31 #[.slice a len cap, .int .i64 room] w fun e w' => ∃ a' c', e = .returned (.slice a' len c') ∧ OwnB w' w.heap.size a' len c' bs ∧ Below w.heap.size w w' := by
  obtain ⟨r, rfl⟩ := Int.eq_ofNat_of_zero_le h0
  obtain ⟨i, hi, hz0, hz1, hz2⟩ := info_parts infoU8
  have HI : Hid (i.bytes = 1) := hz2
  have HZ1 : Hid (i.size = 1) := hz1
  have HZ0 : Hid (i.zero = some (.int .u8 0)) := hz0
  have HII : Hid (Try.prog.info? 5 = some i) := hi
  clear hi hz0 hz1 hz2
  go_enter Try.func31, Try.ntmps31
  go_wp2_with (first
    | (at_make; refine wpList_make_own _ rfl _ _ 23 rfl w.heap.size 5 i (.int .u8 0) 1 Try.underlying23 HII.out HZ0.out HZ1.out _ _ _ (len + r) rfl rfl (by omega) (by rw [HI.out]; omega) (by unfold maxLen; omega) (Nat.le_refl _) ?_))
  intro w1 hown hgrow
  have hb1 : Below w.heap.size w w1 := (Below.refl _ _).grown hgrow (Nat.le_refl _) (fun k hk => by cases hk)
  have ho : OwnB w1 w.heap.size (some ⟨w.heap.size, 0, none⟩) 0 (len + r) [] := ⟨rfl, hown⟩
  have hs1 := h.below (Nat.le_refl _) hb1
  have hsz := hb1.size
  clear hown hgrow
  go_wp2_with (first
    | (at_builtin; refine wpList_app _ rfl _ _ rfl w.heap.size _ 0 (len + r) [] rfl ho _ _ _ bs rfl hs1 (by omega) hsz ?_))
  intro a' c' w2 ho2 hb2 _
  go_wp2
  go_ret
  exact ⟨a', c', ret1 (by simp), by simpa using ho2, hb1.trans hb2⟩

theorem or128 (n : Nat) : bits .or .u8 ((n : Int) % 256) 128 = ((hiByte n).toNat : Int) := by
  have e1 := nbits_or8_128 ⟨n % 256, Nat.mod_lt _ (by omega)⟩
  simp only at e1
  rw [show (n : Int) % 256 = ((n % 256 : Nat) : Int) by omega, e1, hiByte_toNat]
  omega

set_option maxRecDepth 100000 in
set_option maxHeartbeats 400000 in
theorem layUvarint_any (B : Nat) (a : Option Addr) (len cap : Nat) (bs : List UInt8) (n : Nat) (w : World) (h : OwnB w B a len cap bs) (hB : B ≤ w.heap.size) (hn : n < 18446744073709551616) (hl : len + 10 ≤ 140737488355328) :
    Calls Try.prog 30 #[.slice a len cap, .int .u64 (n : Int)] w fun e w' => ∃ a' c', e = .returned (.slice a' (len + (uvEnc n).length) c') ∧ OwnB w' B a' (len + (uvEnc n).length) c' (bs ++ uvEnc n) ∧ Below B w w' := by
  go_enter Try.func30, Try.ntmps30
  go_wp2
  go_loopw [0, 1] (fun v x wr => ∃ (a1 : Option Addr) (l1 c1 m f : Nat) (cs : List UInt8), v = .slice a1 l1 c1 ∧ x = .int .u64 (m : Int) ∧ l1 + (f + 1) ≤ len + 10 ∧ f ≤ 9 ∧ m < 18446744073709551616 ∧
      Hid (m < 2 * 128 ^ f ∧ bs ++ uvEnc n = cs ++ uvEncF f m ∧ OwnB wr B a1 l1 c1 cs) ∧ Below B w wr) (fun _ x _ => (intOf x).toNat)
  case atStart => exact ⟨a, len, cap, n, 9, bs, rfl, rfl, by omega, by omega, hn, ⟨by omega, rfl, h⟩, Below.refl _ _⟩
  case round =>
    obtain ⟨a1, l1, c1, m, f, cs, rfl, rfl, hl1, hf, hm, HR, hb⟩ := hrel
    have hsz := hb.size
    by_cases h128 : 128 ≤ m
    · obtain ⟨f, rfl⟩ : ∃ g, f = g + 1 := ⟨f - 1, by have h1 := HR.out.1; rcases Nat.eq_zero_or_pos f with h0 | h0; (subst h0; simp at h1; omega); omega⟩
      go_wp2_with (first
        | (at_builtin; refine wpList_app _ rfl _ _ rfl B _ _ _ cs rfl (HR.out.2.2.alloc _) _ _ _ [hiByte m] rfl (BsAt.one (or128 m)) (by omega) (by simp; omega) ?_))
      intro a2 c2 w2 ho2 hb2 _
      have HO : Hid (OwnB w2 B a2 (l1 + 1) c2 (cs ++ [hiByte m])) := ho2
      have HBB : Hid (Below B w w2) := (hb.alloc (by omega) _).trans hb2
      clear ho2 hb2
      go_wp2
      go_roundw
      case rel =>
        obtain ⟨h1, h2, h3⟩ := HR.out
        rw [uvEncF_more f m h128] at h2
        exact ⟨a2, l1 + 1, c2, m / 128, f, cs ++ [hiByte m], rfl, by go_num, by omega, by omega, by omega, ⟨by rw [Nat.pow_succ] at h1; omega, by rw [h2]; simp, HO.out⟩, HBB.out⟩
      case measure => simp [intOf]; omega
    · go_wp2_with (first
        | (at_builtin; refine wpList_app _ rfl _ _ rfl B _ _ _ cs rfl (HR.out.2.2.alloc _) _ _ _ [loByte m] rfl (BsAt.one (by rw [loByte_toNat]; omega)) (by omega) (by simp; omega) ?_))
      intro a2 c2 w2 ho2 hb2 _
      have HO : Hid (OwnB w2 B a2 (l1 + 1) c2 (cs ++ [loByte m])) := ho2
      have HBB : Hid (Below B w w2) := (hb.alloc (by omega) _).trans hb2
      clear ho2 hb2
      go_wp2
      go_ret
      obtain ⟨h1, h2, h3⟩ := HR.out
      rw [uvEncF_last f m (by omega)] at h2
      have hO := HO.out
      rw [← h2] at hO
      have hs := hO.size
      rw [List.length_append, h.size] at hs
      rw [hs]
      exact ⟨a2, c2, ret1 (by simp), hO, HBB.out⟩

set_option maxRecDepth 100000 in
set_option maxHeartbeats 400000 in
theorem putUvarint_any (a : Option Addr) (len cap : Nat) (bs : List UInt8) (n : Nat) (w : World) (h : BsAt w a len cap bs) (hn : n < 18446744073709551616) (hl : len + 10 ≤ 140737488355328) :
    Calls Try.prog 11 #[.slice a len cap, .int .u64 (n : Int)] w fun e w' => ∃ a' c', e = .returned (.slice a' (len + (uvEnc n).length) c') ∧ OwnB w' w.heap.size a' (len + (uvEnc n).length) c' (bs ++ uvEnc n) ∧ Below w.heap.size w w' := by
  go_enter Try.func11, Try.ntmps11
  go_wp2_with (go_at_call 31; refine (own_any _ _ _ bs 10 _ h (by omega) (by omega)).mono ?_; rintro e w1 ⟨a1, c1, rfl, ho1, hb1⟩)
  have hsz := hb1.size
  go_wp2_with (go_at_call 30; refine (layUvarint_any w.heap.size _ _ _ bs n _ ho1 hsz hn hl).mono ?_; rintro e w2 ⟨a2, c2, rfl, ho2, hb2⟩)
  go_ret
  exact ⟨a2, c2, ret1 (by simp), ho2, hb1.trans hb2⟩

end Go.Proofs.Ytnlobehagneomaa
