/- The contract of codec's own: a copy of bytes in new memory, with room behind. -/
import Derived.Test.YtiflepadjcpjjaaQa02
import Derived.Test.YtiflepadjcpjjaaQa04
import Derived.Test.YtiflepadjcpjjaaQa01
import Derived.Test.YtiflepadjcpjjaaQa05
namespace Go.Proofs.Ytiflepadjcpjjaa
open Go.RowKit

set_option maxRecDepth 100000 in
set_option maxHeartbeats 400000 in
theorem own_any (a : Option Addr) (len cap : Nat) (bs : List UInt8) (room : Int) (w : World) (h : BsAt w a len cap bs) (h0 : 0 ≤ room) (hl : (len : Int) + room ≤ 140737488355328) :
    Calls Try.prog 49 #[.slice a len cap, .int .i64 room] w fun e w' => ∃ a' c', e = .returned (.slice a' len c') ∧ OwnB w' w.heap.size a' len c' bs ∧ Below w.heap.size w w' := by
  obtain ⟨r, rfl⟩ := Int.eq_ofNat_of_zero_le h0
  obtain ⟨i, hi, hz0, hz1, hz2⟩ := info_parts infoU8
  have HI : Hid (i.bytes = 1) := hz2
  have HZ1 : Hid (i.size = 1) := hz1
  have HZ0 : Hid (i.zero = some (.int .u8 0)) := hz0
  have HII : Hid (Try.prog.info? 5 = some i) := hi
  clear hi hz0 hz1 hz2
  go_enter Try.func49, Try.ntmps49
  go_wp2_with (first
    | (at_make; refine wpList_make_own _ rfl _ _ 28 rfl w.heap.size 5 i (.int .u8 0) 1 Try.underlying28 HII.out HZ0.out HZ1.out _ _ _ (len + r) rfl rfl (by omega) (by rw [HI.out]; omega) (by unfold maxLen; omega) (Nat.le_refl _) ?_))
  intro w1 hown hgrow
  have hb1 : Below w.heap.size w w1 := (Below.refl _ _).grown hgrow (Nat.le_refl _) (fun k hk => by cases hk)
  have ho : OwnB w1 w.heap.size (some ⟨w.heap.size, 0, none⟩) 0 (len + r) [] := ⟨rfl, hown⟩
  have hs1 := h.below (Nat.le_refl _) hb1
  have hsz := hb1.size
  clear hown hgrow
  go_wp2_with (first
    | (at_builtin; refine wpList_app _ rfl _ _ rfl w.heap.size _ 0 (len + r) [] rfl ho _ _ _ bs rfl hs1 (by omega) hsz ?_))
  intro a' c' w2 ho2 hb2 _
  go_wp2
  go_ret
  exact ⟨a', c', ret1 (by simp), by simpa using ho2, hb1.trans hb2⟩
end Go.Proofs.Ytiflepadjcpjjaa
/- The contract of codec's layUvarint: what it lays behind bytes of the call's own. -/
namespace Go.Proofs.Ytiflepadjcpjjaa
open Go.RowKit

theorem or128 (n : Nat) : bits .or .u8 ((n : Int) % 256) 128 = ((hiByte n).toNat : Int) := by
  have e1 := nbits_or8_128 ⟨n % 256, Nat.mod_lt _ (by omega)⟩
  simp only at e1
  rw [show (n : Int) % 256 = ((n % 256 : Nat) : Int) by omega, e1, hiByte_toNat]
  omega

set_option maxRecDepth 100000 in
set_option maxHeartbeats 400000 in
theorem layUvarint_any (B : Nat) (a : Option Addr) (len cap : Nat) (bs : List UInt8) (n : Nat) (w : World) (h : OwnB w B a len cap bs) (hB : B ≤ w.heap.size) (hn : n < 18446744073709551616) (hl : len + 10 ≤ 140737488355328) :
    Calls Try.prog 48 #[.slice a len cap, .int .u64 (n : Int)] w fun e w' => ∃ a' c', e = .returned (.slice a' (len + (uvEnc n).length) c') ∧ OwnB w' B a' (len + (uvEnc n).length) c' (bs ++ uvEnc n) ∧ Below B w w' := by
  go_enter Try.func48, Try.ntmps48
  go_wp2
  go_loopw [0, 1] (fun v x wr => ∃ (a1 : Option Addr) (l1 c1 m f : Nat) (cs : List UInt8), v = .slice a1 l1 c1 ∧ x = .int .u64 (m : Int) ∧ l1 + (f + 1) ≤ len + 10 ∧ f ≤ 9 ∧ m < 18446744073709551616 ∧
      Hid (m < 2 * 128 ^ f ∧ bs ++ uvEnc n = cs ++ uvEncF f m ∧ OwnB wr B a1 l1 c1 cs) ∧ Below B w wr) (fun _ x _ => (intOf x).toNat)
  case atStart => exact ⟨a, len, cap, n, 9, bs, rfl, rfl, by omega, by omega, hn, ⟨by omega, rfl, h⟩, Below.refl _ _⟩
  case round =>
    obtain ⟨a1, l1, c1, m, f, cs, rfl, rfl, hl1, hf, hm, HR, hb⟩ := hrel
    have hsz := hb.size
    by_cases h128 : 128 ≤ m
    · obtain ⟨f, rfl⟩ : ∃ g, f = g + 1 := ⟨f - 1, by have h1 := HR.out.1; rcases Nat.eq_zero_or_pos f with h0 | h0; (subst h0; simp at h1; omega); omega⟩
      go_wp2_with (first
        | (at_builtin; refine wpList_app _ rfl _ _ rfl B _ _ _ cs rfl (HR.out.2.2.alloc _) _ _ _ [hiByte m] rfl (BsAt.one (or128 m)) (by omega) (by simp; omega) ?_))
      intro a2 c2 w2 ho2 hb2 _
      have HO : Hid (OwnB w2 B a2 (l1 + 1) c2 (cs ++ [hiByte m])) := ho2
      have HBB : Hid (Below B w w2) := (hb.alloc (by omega) _).trans hb2
      clear ho2 hb2
      go_wp2
      go_roundw
      case rel =>
        obtain ⟨h1, h2, h3⟩ := HR.out
        rw [uvEncF_more f m h128] at h2
        exact ⟨a2, l1 + 1, c2, m / 128, f, cs ++ [hiByte m], rfl, by go_num, by omega, by omega, by omega, ⟨by rw [Nat.pow_succ] at h1; omega, by rw [h2]; simp, HO.out⟩, HBB.out⟩
      case measure => simp [intOf]; omega
    · go_wp2_with (first
        | (at_builtin; refine wpList_app _ rfl _ _ rfl B _ _ _ cs rfl (HR.out.2.2.alloc _) _ _ _ [loByte m] rfl (BsAt.one (by rw [loByte_toNat]; omega)) (by omega) (by simp; omega) ?_))
      intro a2 c2 w2 ho2 hb2 _
      have HO : Hid (OwnB w2 B a2 (l1 + 1) c2 (cs ++ [loByte m])) := ho2
      have HBB : Hid (Below B w w2) := (hb.alloc (by omega) _).trans hb2
      clear ho2 hb2
      go_wp2
      go_ret
      obtain ⟨h1, h2, h3⟩ := HR.out
      rw [uvEncF_last f m (by omega)] at h2
      have hO := HO.out
      rw [← h2] at hO
      have hs := hO.size
      rw [List.length_append, h.size] at hs
      rw [hs]
      exact ⟨a2, c2, ret1 (by simp), hO, HBB.out⟩
end Go.Proofs.Ytiflepadjcpjjaa
/- The contract of codec's PutUvarint: what it lays behind bytes, in new memory. -/
namespace Go.Proofs.Ytiflepadjcpjjaa
open Go.RowKit

set_option maxRecDepth 100000 in
set_option maxHeartbeats 400000 in
theorem putUvarint_any (a : Option Addr) (len cap : Nat) (bs : List UInt8) (n : Nat) (w : World) (h : BsAt w a len cap bs) (hn : n < 18446744073709551616) (hl : len + 10 ≤ 140737488355328) :
    Calls Try.prog 33 #[.slice a len cap, .int .u64 (n : Int)] w fun e w' => ∃ a' c', e = .returned (.slice a' (len + (uvEnc n).length) c') ∧ OwnB w' w.heap.size a' (len + (uvEnc n).length) c' (bs ++ uvEnc n) ∧ Below w.heap.size w w' := by
  go_enter Try.func33, Try.ntmps33
  go_wp2_with (go_at_call 49; refine (own_any _ _ _ bs 10 _ h (by omega) (by omega)).mono ?_; rintro e w1 ⟨a1, c1, rfl, ho1, hb1⟩)
  have hsz := hb1.size
  go_wp2_with (go_at_call 48; refine (layUvarint_any w.heap.size _ _ _ bs n _ ho1 hsz hn hl).mono ?_; rintro e w2 ⟨a2, c2, rfl, ho2, hb2⟩)
  go_ret
  exact ⟨a2, c2, ret1 (by simp), ho2, hb1.trans hb2⟩

end Go.Proofs.Ytiflepadjcpjjaa
/- The contract of codec.PutText: what it lays behind bytes, in new memory. -/
namespace Go.Proofs.Ytiflepadjcpjjaa
open Go.RowKit

set_option maxRecDepth 100000 in
set_option maxHeartbeats 400000 in
theorem putText_any (a : Option Addr) (len cap : Nat) (bs : List UInt8) (s : ByteArray) (w : World) (h : BsAt w a len cap bs) (hl : len + 10 + s.size ≤ 140737488355328) :
    Calls Try.prog 35 #[.slice a len cap, .string s] w fun e w' => ∃ a' c', e = .returned (.slice a' (len + (txtPut s.data.toList).length) c') ∧ OwnB w' w.heap.size a' (len + (txtPut s.data.toList).length) c' (bs ++ txtPut s.data.toList) ∧ Below w.heap.size w w' := by
  have hsl : s.data.toList.length = s.size := by rw [Array.length_toList]; rfl
  have hu := uvEnc_length s.size
  have HT : Hid (txtPut s.data.toList = uvEnc s.size ++ s.data.toList) := by unfold txtPut Hid; rw [hsl]
  have HSL : Hid (s.data.toList.length = s.size) := hsl
  clear hsl
  go_enter Try.func35, Try.ntmps35
  go_wp2_with (first
    | (go_at_call 49; refine (own_any _ _ _ bs _ _ h (by omega) (by omega)).mono ?_; rintro e w1 ⟨a1, c1, rfl, ho1, hb1⟩)
    | (go_at_call 48; refine (layUvarint_any w.heap.size _ _ _ bs s.size _ ho1 hb1.size (by omega) (by omega)).mono ?_; rintro e w2 ⟨a2, c2, rfl, ho2, hb2⟩)
    | (at_builtin; refine wpList_appS _ rfl _ _ rfl w.heap.size _ _ _ _ rfl ho2 s rfl (by omega) (Nat.le_trans hb1.size hb2.size) ?_))
  intro a3 c3 w3 ho3 hb3 _
  go_wp2
  go_ret
  rw [HT.out, List.length_append, HSL.out, ← Nat.add_assoc]
  exact ⟨a3, c3, ret1 rfl, ho3, (hb1.trans hb2).trans hb3⟩
end Go.Proofs.Ytiflepadjcpjjaa
/- The contract of codec.PutFixed: what it lays behind bytes, in new memory. -/
namespace Go.Proofs.Ytiflepadjcpjjaa
open Go.RowKit

set_option maxRecDepth 100000 in
set_option maxHeartbeats 400000 in
theorem putFixed_any (a : Option Addr) (len cap : Nat) (bs : List UInt8) (n : Nat) (size : Int) (w : World) (h : BsAt w a len cap bs) (_hn : n < 18446744073709551616) (hl : len + 10 ≤ 140737488355328) :
    Calls Try.prog 50 #[.slice a len cap, .int .u64 (n : Int), .int .i64 size] w fun e w' => ∃ a' c', e = .returned (.slice a' (len + (fxPut n size).length) c') ∧ OwnB w' w.heap.size a' (len + (fxPut n size).length) c' (bs ++ fxPut n size) ∧ Below w.heap.size w w' := by
  by_cases hs : size < 1 ∨ 8 < size
  · have HE : Hid (fxPut n size = []) := by unfold fxPut Hid; rw [if_pos hs]
    go_enter Try.func50, Try.ntmps50
    go_wp2_with (first
      | (go_at_call 58; refine (fits_no _ _ hs).mono ?_; rintro e w1 ⟨rfl, rfl⟩)
      | (go_at_call 49; refine (own_any _ _ _ bs 0 _ h (by omega) (by omega)).mono ?_; rintro e w2 ⟨a2, c2, rfl, ho2, hb2⟩))
    go_ret
    rw [HE.out]
    exact ⟨a2, c2, ret1 (by simp), by simpa using ho2, hb2⟩
  · have hs1 : 1 ≤ size := by omega
    have hs2 : size ≤ 8 := by omega
    obtain ⟨k, rfl⟩ : ∃ k : Nat, size = (k : Int) := ⟨size.toNat, by omega⟩
    have HE : Hid (fxPut n k = fxEnc n k) := by unfold fxPut Hid; rw [if_neg hs]; simp
    clear hs
    go_enter Try.func50, Try.ntmps50
    go_wp2_with (first
      | (go_at_call 58; refine (fits_yes _ _ hs1 hs2).mono ?_; rintro e w1 ⟨rfl, rfl⟩)
      | (go_at_call 49; refine (own_any _ _ _ bs _ _ h (by omega) (by omega)).mono ?_; rintro e w2 ⟨a2, c2, rfl, ho2, hb2⟩))
    have hsz := hb2.size
    go_loopw [7, 18] (fun v i wr => ∃ (a3 : Option Addr) (c3 j : Nat), j ≤ k ∧ v = .slice a3 (len + j) c3 ∧ i = .int .i64 j ∧ Hid (OwnB wr w1.heap.size a3 (len + j) c3 (bs ++ fxEnc n j)) ∧ Hid (Below w1.heap.size w1 wr)) (fun _ i _ => k - (intOf i).toNat)
    case atStart => exact ⟨a2, c2, 0, by omega, rfl, rfl, by simpa [fxEnc, Hid] using ho2, hb2⟩
    case round =>
      obtain ⟨a3, c3, j, hj, rfl, rfl, HO, HB⟩ := hrel
      have hsr := HB.out.size
      by_cases hlt : j < k
      · go_wp2_with (first
          | (at_builtin; refine wpList_app _ rfl _ _ rfl w1.heap.size _ _ _ (bs ++ fxEnc n j) rfl (HO.out.alloc _) _ _ _ [loByte (n / 2 ^ (8 * j))] rfl (BsAt.one (by rw [loByte_toNat]; simp)) (by omega) (by simp; omega) ?_))
        intro a4 c4 w4 ho4 hb4 _
        have HO4 : Hid (OwnB w4 w1.heap.size a4 (len + j + 1) c4 (bs ++ (fxEnc n j ++ [loByte (n / 2 ^ (8 * j))]))) := by unfold Hid; simpa using ho4
        have HB4 : Hid (Below w1.heap.size w1 w4) := (HB.out.alloc hsr _).trans hb4
        clear ho4 hb4
        go_wp2
        go_roundw
        case rel => exact ⟨a4, c4, j + 1, by omega, rfl, by go_num, HO4.out, HB4.out⟩
        case measure => simp [intOf]; omega
      · obtain rfl : j = k := by omega
        go_wp2
        go_ret
        rw [HE.out, fxEnc_length]
        exact ⟨a3, c3, ret1 rfl, HO.out, HB.out⟩
end Go.Proofs.Ytiflepadjcpjjaa
/- The contract of ikey.Encode: the bytes of a key, as the plain function keyEnc tells them. -/
namespace Go.Proofs.Ytiflepadjcpjjaa
open Go.RowKit

theorem key_or (q : Nat) (k : Int) (h1 : q ≤ 72057594037927935) (h2 : k = 0 ∨ k = 1) : bits .or .u64 ((q : Int) * 256) (IntKind.u64.wrap k) = ((q * 256 + k.toNat : Nat) : Int) := by
  obtain ⟨j, rfl, hj⟩ : ∃ j : Nat, k = (j : Int) ∧ j ≤ 1 := ⟨k.toNat, by omega, by omega⟩
  rw [show IntKind.u64.wrap (j : Int) = (j : Int) by simp [IntKind.wrap, IntKind.bits, IntKind.signed]; omega, show (q : Int) * 256 = ((q * 256 : Nat) : Int) by omega, nbits_or64 _ _ (by omega) (by omega)]
  rw [show q * 256 = q <<< 8 by rw [Nat.shiftLeft_eq], ← Nat.shiftLeft_add_eq_or_of_lt (show j < 2 ^ 8 by omega)]
  rfl

set_option maxRecDepth 100000 in
set_option maxHeartbeats 400000 in
theorem encode_any (s : ByteArray) (q : Nat) (k : Int) (w : World) (hs : s.size ≤ 140737488351232) :
    Calls Try.prog 34 #[.agg #[.string s, .int .u64 (q : Int), .int .i64 k]] w fun e w' => ∃ a' c', e = .returned (.tuple #[.slice a' (keyEnc s.data.toList q k).length c', .int .i64 ((chk s.size q k : Nat) : Int)]) ∧ BsAt w' a' (keyEnc s.data.toList q k).length c' (keyEnc s.data.toList q k) ∧ Below w.heap.size w w' := by
  have hsl : s.data.toList.length = s.size := by rw [Array.length_toList]; rfl
  have hb0 : Below w.heap.size w (w.alloc (.cells #[.string s, .int .u64 (q : Int), .int .i64 k] 42)) := (Below.refl _ _).alloc (Nat.le_refl _) _
  by_cases h : chk s.size q k = 0
  · have hy := keyEnc_yes (s := s.data.toList) (q := q) (k := k) (by rw [hsl]; exact h)
    obtain ⟨h1, h2, h3⟩ := chk_zero h
    have HE : Hid (keyEnc s.data.toList q k = s.data.toList ++ fxEnc (q * 256 + k.toNat) 8) := hy
    have HL : Hid (s.data.toList.length = s.size) := hsl
    have HK : Hid (chk s.size q k = 0) := h
    have HO : Hid (_ = _) := key_or q k h2 h3
    have hn : q * 256 + k.toNat < 18446744073709551616 := by omega
    have hck := fun W => check_any s q k W (by omega)
    rw [h] at hck
    clear h h3 hy hsl
    have hcv : ∀ W : World, (convert 9 28 (.string s)).run Try.prog W = .ok (.slice (some ⟨W.heap.size, 0, none⟩) s.size (grownCap W s.size 0 5))
        (W.drew.alloc (.cells (bytesRow s (grownCap W s.size 0 5)) 5 ((bytesRow s (grownCap W s.size 0 5)).size, (bytesRow s (grownCap W s.size 0 5)).size + 1))) :=
      fun W => run_bytes_of_string W 9 28 5 s Try.underlying9 Try.underlying28 Try.underlying5
    go_enter Try.func34, Try.ntmps34
    go_wp2_with (first
      | (go_at_call 38; refine (hck _).mono ?_; rintro e w1 ⟨rfl, hb1⟩
         have f0 : w1.cell? ⟨w.heap.size, 0, none⟩ = some (.string s) := by rw [hb1.cell (by simp)]; simp
         have hz1 : w.heap.size < w1.heap.size := by have := hb1.size; simp at this; omega
         have f1 : w1.cell? ⟨w.heap.size, 1, none⟩ = some (.int .u64 (q : Int)) := by rw [hb1.cell (by simp)]; simp
         have f2 : w1.cell? ⟨w.heap.size, 2, none⟩ = some (.int .i64 k) := by rw [hb1.cell (by simp)]; simp)
      | fail)
    rw [HO.out]
    refine (putFixed_any _ _ _ s.data.toList (q * 256 + k.toNat) 8 _ (BsAt.ofStr w1 s _ _ (grownCap_ge _ _ _ _) (grownCap_le_maxLen _ _ _ _ (by unfold maxLen; omega))) hn (by omega)).mono ?_
    rintro e w2 ⟨a2, c2, rfl, ho2, hb2⟩
    have hB : Below w.heap.size w w2 := by
      have h3 := hb0.trans (hb1.mono hb0.size)
      exact ((h3.alloc h3.size _).drew).trans (hb2.mono (by simp; omega))
    clear hb2
    go_wp2
    go_ret2
    rw [HE.out, List.length_append, HL.out, HK.out]
    exact ⟨a2, c2, ret2 rfl rfl, ho2.bs, hB⟩
  · have HE : Hid (keyEnc s.data.toList q k = []) := keyEnc_no (by rw [hsl]; exact h)
    have hne : (((chk s.size q k : Nat) : Int) != 0) = true := by simp; omega
    have hck := fun W => check_any s q k W (by omega)
    generalize chk s.size q k = c at hne hck
    clear h
    go_enter Try.func34, Try.ntmps34
    go_wp2_with (go_at_call 38; refine (hck _).mono ?_; rintro e w1 ⟨rfl, hb1⟩)
    go_ret2
    rw [HE.out]
    exact ⟨none, 0, ret2 rfl rfl, BsAt.nil _, hb0.trans (hb1.mono hb0.size)⟩
end Go.Proofs.Ytiflepadjcpjjaa
