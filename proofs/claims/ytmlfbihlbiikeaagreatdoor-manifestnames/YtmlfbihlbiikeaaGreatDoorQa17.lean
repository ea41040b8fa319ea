/- The contract of codec's own: a copy of bytes in new memory, with room behind. -/
import Derived.Test.YtmlfbihlbiikeaaGreatDoorQa01
import Derived.Test.YtmlfbihlbiikeaaGreatDoorQa03
import Derived.Test.YtmlfbihlbiikeaaGreatDoorQa15
import Derived.Test.YtmlfbihlbiikeaaGreatDoorQa04
import Derived.Test.YtmlfbihlbiikeaaGreatDoorQa06
namespace Go.Proofs.YtmlfbihlbiikeaaGreatDoor
open Go.RowKit

set_option maxRecDepth 100000 in
set_option maxHeartbeats 400000 in
theorem own_any (a : Option Addr) (len cap : Nat) (bs : List UInt8) (room : Int) (w : World) (h : BsAt w a len cap bs) (h0 : 0 ≤ room) (hl : (len : Int) + room ≤ 140737488355328) :
    Calls Tryz.prog 215 #[.slice a len cap, .int .i64 room] w fun e w' => ∃ a' c', e = .returned (.slice a' len c') ∧ OwnB w' w.heap.size a' len c' bs ∧ Below w.heap.size w w' := by
  obtain ⟨r, rfl⟩ := Int.eq_ofNat_of_zero_le h0
  obtain ⟨i, hi, hz0, hz1, hz2⟩ := info_parts infoU8
  have HI : Hid (i.bytes = 1) := hz2
  have HZ1 : Hid (i.size = 1) := hz1
  have HZ0 : Hid (i.zero = some (.int .u8 0)) := hz0
  have HII : Hid (Tryz.prog.info? 5 = some i) := hi
  clear hi hz0 hz1 hz2
  go_enter Tryz.func215, Tryz.ntmps215
  go_wp2_with (first
    | (at_make; refine wpList_make_own _ rfl _ _ 29 rfl w.heap.size 5 i (.int .u8 0) 1 Tryz.underlying29 HII.out HZ0.out HZ1.out _ _ _ (len + r) rfl rfl (by omega) (by rw [HI.out]; omega) (by unfold maxLen; omega) (Nat.le_refl _) ?_))
  intro w1 hown hgrow
  have hb1 : Below w.heap.size w w1 := (Below.refl _ _).grown hgrow (Nat.le_refl _) (fun k hk => by cases hk)
  have ho : OwnB w1 w.heap.size (some ⟨w.heap.size, 0, none⟩) 0 (len + r) [] := ⟨rfl, hown⟩
  have hs1 := h.below (Nat.le_refl _) hb1
  have hsz := hb1.size
  clear hown hgrow
  go_wp2_with (first
    | (at_builtin; refine wpList_app _ rfl _ _ rfl w.heap.size _ 0 (len + r) [] rfl ho _ _ _ bs rfl hs1 (by omega) hsz ?_))
  intro a' c' w2 ho2 hb2 _
  go_wp2
  go_ret
  exact ⟨a', c', ret1 (by simp), by simpa using ho2, hb1.trans hb2⟩
end Go.Proofs.YtmlfbihlbiikeaaGreatDoor
namespace Go.Proofs.YtmlfbihlbiikeaaGreatDoor
open Go.RowKit

theorem or128 (n : Nat) : bits .or .u8 ((n : Int) % 256) 128 = ((hiByte n).toNat : Int) := by
  have e1 := nbits_or8_128 ⟨n % 256, Nat.mod_lt _ (by omega)⟩
  simp only at e1
  rw [show (n : Int) % 256 = ((n % 256 : Nat) : Int) by omega, e1, hiByte_toNat]
  omega

set_option maxRecDepth 100000 in
set_option maxHeartbeats 400000 in
theorem layUvarint_any (B : Nat) (a : Option Addr) (len cap : Nat) (bs : List UInt8) (n : Nat) (w : World) (h : OwnB w B a len cap bs) (hB : B ≤ w.heap.size) (hn : n < 18446744073709551616) (hl : len + 10 ≤ 140737488355328) :
    Calls Tryz.prog 214 #[.slice a len cap, .int .u64 (n : Int)] w fun e w' => ∃ a' c', e = .returned (.slice a' (len + (uvEnc n).length) c') ∧ OwnB w' B a' (len + (uvEnc n).length) c' (bs ++ uvEnc n) ∧ Below B w w' := by
  go_enter Tryz.func214, Tryz.ntmps214
  go_wp2
  go_loopw [0, 1] (fun v x wr => ∃ (a1 : Option Addr) (l1 c1 m f : Nat) (cs : List UInt8), v = .slice a1 l1 c1 ∧ x = .int .u64 (m : Int) ∧ l1 + (f + 1) ≤ len + 10 ∧ f ≤ 9 ∧ m < 18446744073709551616 ∧
      Hid (m < 2 * 128 ^ f ∧ bs ++ uvEnc n = cs ++ uvEncF f m ∧ OwnB wr B a1 l1 c1 cs) ∧ Below B w wr) (fun _ x _ => (intOf x).toNat)
  case atStart => exact ⟨a, len, cap, n, 9, bs, rfl, rfl, by omega, by omega, hn, ⟨by omega, rfl, h⟩, Below.refl _ _⟩
  case round =>
    obtain ⟨a1, l1, c1, m, f, cs, rfl, rfl, hl1, hf, hm, HR, hb⟩ := hrel
    have hsz := hb.size
    by_cases h128 : 128 ≤ m
    · obtain ⟨f, rfl⟩ : ∃ g, f = g + 1 := ⟨f - 1, by have h1 := HR.out.1; rcases Nat.eq_zero_or_pos f with h0 | h0; (subst h0; simp at h1; omega); omega⟩
      go_wp2_with (first
        | (at_builtin; refine wpList_app _ rfl _ _ rfl B _ _ _ cs rfl (HR.out.2.2.alloc _) _ _ _ [hiByte m] rfl (BsAt.one (or128 m)) (by omega) (by simp; omega) ?_))
      intro a2 c2 w2 ho2 hb2 _
      have HO : Hid (OwnB w2 B a2 (l1 + 1) c2 (cs ++ [hiByte m])) := ho2
      have HBB : Hid (Below B w w2) := (hb.alloc (by omega) _).trans hb2
      clear ho2 hb2
      go_wp2
      go_roundw
      case rel =>
        obtain ⟨h1, h2, h3⟩ := HR.out
        rw [uvEncF_more f m h128] at h2
        exact ⟨a2, l1 + 1, c2, m / 128, f, cs ++ [hiByte m], rfl, by go_num, by omega, by omega, by omega, ⟨by rw [Nat.pow_succ] at h1; omega, by rw [h2]; simp, HO.out⟩, HBB.out⟩
      case measure => simp [intOf]; omega
    · go_wp2_with (first
        | (at_builtin; refine wpList_app _ rfl _ _ rfl B _ _ _ cs rfl (HR.out.2.2.alloc _) _ _ _ [loByte m] rfl (BsAt.one (by rw [loByte_toNat]; omega)) (by omega) (by simp; omega) ?_))
      intro a2 c2 w2 ho2 hb2 _
      have HO : Hid (OwnB w2 B a2 (l1 + 1) c2 (cs ++ [loByte m])) := ho2
      have HBB : Hid (Below B w w2) := (hb.alloc (by omega) _).trans hb2
      clear ho2 hb2
      go_wp2
      go_ret
      obtain ⟨h1, h2, h3⟩ := HR.out
      rw [uvEncF_last f m (by omega)] at h2
      have hO := HO.out
      rw [← h2] at hO
      have hs := hO.size
      rw [List.length_append, h.size] at hs
      rw [hs]
      exact ⟨a2, c2, ret1 (by simp), hO, HBB.out⟩
end Go.Proofs.YtmlfbihlbiikeaaGreatDoor
namespace Go.Proofs.YtmlfbihlbiikeaaGreatDoor
open Go.RowKit

set_option maxRecDepth 100000 in
set_option maxHeartbeats 400000 in
theorem putUvarint_any (a : Option Addr) (len cap : Nat) (bs : List UInt8) (n : Nat) (w : World) (h : BsAt w a len cap bs) (hn : n < 18446744073709551616) (hl : len + 10 ≤ 140737488355328) :
    Calls Tryz.prog 170 #[.slice a len cap, .int .u64 (n : Int)] w fun e w' => ∃ a' c', e = .returned (.slice a' (len + (uvEnc n).length) c') ∧ OwnB w' w.heap.size a' (len + (uvEnc n).length) c' (bs ++ uvEnc n) ∧ Below w.heap.size w w' := by
  go_enter Tryz.func170, Tryz.ntmps170
  go_wp2_with (go_at_call 215; refine (own_any _ _ _ bs 10 _ h (by omega) (by omega)).mono ?_; rintro e w1 ⟨a1, c1, rfl, ho1, hb1⟩)
  have hsz := hb1.size
  go_wp2_with (go_at_call 214; refine (layUvarint_any w.heap.size _ _ _ bs n _ ho1 hsz hn hl).mono ?_; rintro e w2 ⟨a2, c2, rfl, ho2, hb2⟩)
  go_ret
  exact ⟨a2, c2, ret1 (by simp), ho2, hb1.trans hb2⟩

end Go.Proofs.YtmlfbihlbiikeaaGreatDoor
namespace Go.Proofs.YtmlfbihlbiikeaaGreatDoor
open Go.RowKit

set_option maxRecDepth 100000 in
set_option maxHeartbeats 400000 in
theorem putText_any (a : Option Addr) (len cap : Nat) (bs : List UInt8) (s : ByteArray) (w : World) (h : BsAt w a len cap bs) (hl : len + 10 + s.size ≤ 140737488355328) :
    Calls Tryz.prog 172 #[.slice a len cap, .string s] w fun e w' => ∃ a' c', e = .returned (.slice a' (len + (txtPut s.data.toList).length) c') ∧ OwnB w' w.heap.size a' (len + (txtPut s.data.toList).length) c' (bs ++ txtPut s.data.toList) ∧ Below w.heap.size w w' := by
  have hsl : s.data.toList.length = s.size := by rw [Array.length_toList]; rfl
  have hu := uvEnc_length s.size
  have HT : Hid (txtPut s.data.toList = uvEnc s.size ++ s.data.toList) := by unfold txtPut Hid; rw [hsl]
  have HSL : Hid (s.data.toList.length = s.size) := hsl
  clear hsl
  go_enter Tryz.func172, Tryz.ntmps172
  go_wp2_with (first
    | (go_at_call 215; refine (own_any _ _ _ bs _ _ h (by omega) (by omega)).mono ?_; rintro e w1 ⟨a1, c1, rfl, ho1, hb1⟩)
    | (go_at_call 214; refine (layUvarint_any w.heap.size _ _ _ bs s.size _ ho1 hb1.size (by omega) (by omega)).mono ?_; rintro e w2 ⟨a2, c2, rfl, ho2, hb2⟩)
    | (at_builtin; refine wpList_appS _ rfl _ _ rfl w.heap.size _ _ _ _ rfl ho2 s rfl (by omega) (Nat.le_trans hb1.size hb2.size) ?_))
  intro a3 c3 w3 ho3 hb3 _
  go_wp2
  go_ret
  rw [HT.out, List.length_append, HSL.out, ← Nat.add_assoc]
  exact ⟨a3, c3, ret1 rfl, ho3, (hb1.trans hb2).trans hb3⟩
end Go.Proofs.YtmlfbihlbiikeaaGreatDoor
namespace Go.Proofs.YtmlfbihlbiikeaaGreatDoor
open Go.RowKit

set_option maxRecDepth 100000 in
set_option maxHeartbeats 400000 in
theorem putFixed_any (a : Option Addr) (len cap : Nat) (bs : List UInt8) (n : Nat) (size : Int) (w : World) (h : BsAt w a len cap bs) (_hn : n < 18446744073709551616) (hl : len + 10 ≤ 140737488355328) :
    Calls Tryz.prog 173 #[.slice a len cap, .int .u64 (n : Int), .int .i64 size] w fun e w' => ∃ a' c', e = .returned (.slice a' (len + (fxPut n size).length) c') ∧ OwnB w' w.heap.size a' (len + (fxPut n size).length) c' (bs ++ fxPut n size) ∧ Below w.heap.size w w' := by
  by_cases hs : size < 1 ∨ 8 < size
  · have HE : Hid (fxPut n size = []) := by unfold fxPut Hid; rw [if_pos hs]
    go_enter Tryz.func173, Tryz.ntmps173
    go_wp2_with (first
      | (go_at_call 216; refine (fits_no _ _ hs).mono ?_; rintro e w1 ⟨rfl, rfl⟩)
      | (go_at_call 215; refine (own_any _ _ _ bs 0 _ h (by omega) (by omega)).mono ?_; rintro e w2 ⟨a2, c2, rfl, ho2, hb2⟩))
    go_ret
    rw [HE.out]
    exact ⟨a2, c2, ret1 (by simp), by simpa using ho2, hb2⟩
  · have hs1 : 1 ≤ size := by omega
    have hs2 : size ≤ 8 := by omega
    obtain ⟨k, rfl⟩ : ∃ k : Nat, size = (k : Int) := ⟨size.toNat, by omega⟩
    have HE : Hid (fxPut n k = fxEnc n k) := by unfold fxPut Hid; rw [if_neg hs]; simp
    clear hs
    go_enter Tryz.func173, Tryz.ntmps173
    go_wp2_with (first
      | (go_at_call 216; refine (fits_yes _ _ hs1 hs2).mono ?_; rintro e w1 ⟨rfl, rfl⟩)
      | (go_at_call 215; refine (own_any _ _ _ bs _ _ h (by omega) (by omega)).mono ?_; rintro e w2 ⟨a2, c2, rfl, ho2, hb2⟩))
    have hsz := hb2.size
    go_loopw [7, 18] (fun v i wr => ∃ (a3 : Option Addr) (c3 j : Nat), j ≤ k ∧ v = .slice a3 (len + j) c3 ∧ i = .int .i64 j ∧ Hid (OwnB wr w1.heap.size a3 (len + j) c3 (bs ++ fxEnc n j)) ∧ Hid (Below w1.heap.size w1 wr)) (fun _ i _ => k - (intOf i).toNat)
    case atStart => exact ⟨a2, c2, 0, by omega, rfl, rfl, by simpa [fxEnc, Hid] using ho2, hb2⟩
    case round =>
      obtain ⟨a3, c3, j, hj, rfl, rfl, HO, HB⟩ := hrel
      have hsr := HB.out.size
      by_cases hlt : j < k
      · go_wp2_with (first
          | (at_builtin; refine wpList_app _ rfl _ _ rfl w1.heap.size _ _ _ (bs ++ fxEnc n j) rfl (HO.out.alloc _) _ _ _ [loByte (n / 2 ^ (8 * j))] rfl (BsAt.one (by rw [loByte_toNat]; simp)) (by omega) (by simp; omega) ?_))
        intro a4 c4 w4 ho4 hb4 _
        have HO4 : Hid (OwnB w4 w1.heap.size a4 (len + j + 1) c4 (bs ++ (fxEnc n j ++ [loByte (n / 2 ^ (8 * j))]))) := by unfold Hid; simpa using ho4
        have HB4 : Hid (Below w1.heap.size w1 w4) := (HB.out.alloc hsr _).trans hb4
        clear ho4 hb4
        go_wp2
        go_roundw
        case rel => exact ⟨a4, c4, j + 1, by omega, rfl, by go_num, HO4.out, HB4.out⟩
        case measure => simp [intOf]; omega
      · obtain rfl : j = k := by omega
        go_wp2
        go_ret
        rw [HE.out, fxEnc_length]
        exact ⟨a3, c3, ret1 rfl, HO.out, HB.out⟩
end Go.Proofs.YtmlfbihlbiikeaaGreatDoor
namespace Go.Proofs.YtmlfbihlbiikeaaGreatDoor
open Go.RowKit

theorem key_or (q : Nat) (k : Int) (h1 : q ≤ 72057594037927935) (h2 : k = 0 ∨ k = 1) : bits .or .u64 ((q : Int) * 256) (IntKind.u64.wrap k) = ((q * 256 + k.toNat : Nat) : Int) := by
  obtain ⟨j, rfl, hj⟩ : ∃ j : Nat, k = (j : Int) ∧ j ≤ 1 := ⟨k.toNat, by omega, by omega⟩
  rw [show IntKind.u64.wrap (j : Int) = (j : Int) by simp [IntKind.wrap, IntKind.bits, IntKind.signed]; omega, show (q : Int) * 256 = ((q * 256 : Nat) : Int) by omega, nbits_or64 _ _ (by omega) (by omega)]
  rw [show q * 256 = q <<< 8 by rw [Nat.shiftLeft_eq], ← Nat.shiftLeft_add_eq_or_of_lt (show j < 2 ^ 8 by omega)]
  rfl

set_option maxRecDepth 100000 in
set_option maxHeartbeats 400000 in
theorem encode_any (s : ByteArray) (q : Nat) (k : Int) (w : World) (hs : s.size ≤ 140737488351232) :
    Calls Tryz.prog 171 #[.agg #[.string s, .int .u64 (q : Int), .int .i64 k]] w fun e w' => ∃ a' c', e = .returned (.tuple #[.slice a' (keyEnc s.data.toList q k).length c', .int .i64 ((chk s.size q k : Nat) : Int)]) ∧ BsAt w' a' (keyEnc s.data.toList q k).length c' (keyEnc s.data.toList q k) ∧ Below w.heap.size w w' := by
  have hsl : s.data.toList.length = s.size := by rw [Array.length_toList]; rfl
  have hb0 : Below w.heap.size w (w.alloc (.cells #[.string s, .int .u64 (q : Int), .int .i64 k] 57)) := (Below.refl _ _).alloc (Nat.le_refl _) _
  by_cases h : chk s.size q k = 0
  · have hy := keyEnc_yes (s := s.data.toList) (q := q) (k := k) (by rw [hsl]; exact h)
    obtain ⟨h1, h2, h3⟩ := chk_zero h
    have HE : Hid (keyEnc s.data.toList q k = s.data.toList ++ fxEnc (q * 256 + k.toNat) 8) := hy
    have HL : Hid (s.data.toList.length = s.size) := hsl
    have HK : Hid (chk s.size q k = 0) := h
    have HO : Hid (_ = _) := key_or q k h2 h3
    have hn : q * 256 + k.toNat < 18446744073709551616 := by omega
    have hck := fun W => check_any s q k W (by omega)
    rw [h] at hck
    clear h h3 hy hsl
    have hcv : ∀ W : World, (convert 9 29 (.string s)).run Tryz.prog W = .ok (.slice (some ⟨W.heap.size, 0, none⟩) s.size (grownCap W s.size 0 5))
        (W.drew.alloc (.cells (bytesRow s (grownCap W s.size 0 5)) 5 ((bytesRow s (grownCap W s.size 0 5)).size, (bytesRow s (grownCap W s.size 0 5)).size + 1))) :=
      fun W => run_bytes_of_string W 9 29 5 s Tryz.underlying9 Tryz.underlying29 Tryz.underlying5
    go_enter Tryz.func171, Tryz.ntmps171
    go_wp2_with (first
      | (go_at_call 164; refine (hck _).mono ?_; rintro e w1 ⟨rfl, hb1⟩
         have f0 : w1.cell? ⟨w.heap.size, 0, none⟩ = some (.string s) := by rw [hb1.cell (by simp)]; simp
         have hz1 : w.heap.size < w1.heap.size := by have := hb1.size; simp at this; omega
         have f1 : w1.cell? ⟨w.heap.size, 1, none⟩ = some (.int .u64 (q : Int)) := by rw [hb1.cell (by simp)]; simp
         have f2 : w1.cell? ⟨w.heap.size, 2, none⟩ = some (.int .i64 k) := by rw [hb1.cell (by simp)]; simp)
      | fail)
    rw [HO.out]
    refine (putFixed_any _ _ _ s.data.toList (q * 256 + k.toNat) 8 _ (BsAt.ofStr w1 s _ _ (grownCap_ge _ _ _ _) (grownCap_le_maxLen _ _ _ _ (by unfold maxLen; omega))) hn (by omega)).mono ?_
    rintro e w2 ⟨a2, c2, rfl, ho2, hb2⟩
    have hB : Below w.heap.size w w2 := by
      have h3 := hb0.trans (hb1.mono hb0.size)
      exact ((h3.alloc h3.size _).drew).trans (hb2.mono (by simp; omega))
    clear hb2
    go_wp2
    go_ret2
    rw [HE.out, List.length_append, HL.out, HK.out]
    exact ⟨a2, c2, ret2 rfl rfl, ho2.bs, hB⟩
  · have HE : Hid (keyEnc s.data.toList q k = []) := keyEnc_no (by rw [hsl]; exact h)
    have hne : (((chk s.size q k : Nat) : Int) != 0) = true := by simp; omega
    have hck := fun W => check_any s q k W (by omega)
    generalize chk s.size q k = c at hne hck
    clear h
    go_enter Tryz.func171, Tryz.ntmps171
    go_wp2_with (go_at_call 164; refine (hck _).mono ?_; rintro e w1 ⟨rfl, hb1⟩)
    go_ret2
    rw [HE.out]
    exact ⟨none, 0, ret2 rfl rfl, BsAt.nil _, hb0.trans (hb1.mono hb0.size)⟩
end Go.Proofs.YtmlfbihlbiikeaaGreatDoor
namespace Go.Proofs.YtmlfbihlbiikeaaGreatDoor
open Go.RowKit
set_option linter.unusedVariables false
set_option linter.unusedSimpArgs false
def nsV (ns : List Nat) : List Value := ns.map fun (n : Nat) => Value.int .u64 (n : Int)
theorem Box.grown {w w' : World} {g : Nat} {t : TypeId} {arr : Array Value} (h : Box w g t arr) {B : Nat} {a : Option Addr} {len cap : Nat} {bs : List UInt8} (ho : OwnB w B a len cap bs) (hg : w.grownBy w' (Value.slice a len cap).ownBlock) (ht : t ≠ 5) : Box w' g t arr :=
  h.kept ((Chg.grown hg).block g h.lt (fun e => tag_ne h.tag (row_tag ho.row e) ht rfl))
def KeepB (w w' : World) : Prop := ∀ (g : Nat) (t : TypeId) (arr : Array Value), Box w g t arr → t ≠ 5 → Box w' g t arr
theorem KeepB.refl (w : World) : KeepB w w := fun _ _ _ h _ => h
theorem KeepB.trans {a b c : World} (h : KeepB a b) (k : KeepB b c) : KeepB a c := fun g t arr hb ht => k g t arr (h g t arr hb ht) ht
theorem KeepB.of {w w' : World} (h : Below w.heap.size w w') : KeepB w w' := fun g t arr hb ht => hb.kept (h.block _ hb.lt)
theorem KeepB.grown {w w' : World} {B : Nat} {a : Option Addr} {len cap : Nat} {bs : List UInt8} (ho : OwnB w B a len cap bs) (hg : w.grownBy w' (Value.slice a len cap).ownBlock) : KeepB w w' := fun g t arr hb ht => hb.grown ho hg ht
set_option maxRecDepth 100000 in
theorem idx_nums (g n k : Nat) (hk : k < n) (W : World) : (Instr.indexAt 175 (.slice (some ⟨g, 0, none⟩) n n) (.int .i64 (k : Int))).run Tryz.prog W = .ok (.pointer (some ⟨g, k, none⟩)) W := by
  have h1 : (0 : Int) ≤ (k : Int) ∧ (k : Int) < ((n : Nat) : Int) := by omega
  have hsz : (sizeOf (Tryz.prog.elem 175)).run Tryz.prog W = .ok 1 W := by kernel_rfl
  rw [run_indexAt_slice (P := Tryz.prog) (h := (by kernel_rfl : Tryz.prog.underlying 175 = some (.slice (Tryz.prog.elem 175)))), if_pos h1, hsz]
  simp [Result.andThen, Addr.add_lit]
set_option maxRecDepth 100000 in
set_option maxHeartbeats 1000000 in
theorem layNumbers_any (B : Nat) (a : Option Addr) (len cap : Nat) (bs : List UInt8) (ns : List Nat) (g N : Nat) (arr : Array Value) (w : World) (h : OwnB w B a len cap bs) (hB : B ≤ w.heap.size) (hN : ns.length = N) (hbx : Box w g 23 arr) (harr : arr.toList = nsV ns) (hlt : ∀ n ∈ ns, n < 18446744073709551616) (hl : len + 10 * N ≤ 140737488355000) (hN4 : N ≤ 4) :
    Calls Tryz.prog 117 #[.slice a len cap, .slice (some ⟨g, 0, none⟩) N N] w fun e w' => ∃ a' c', e = .returned (.slice a' (bs ++ ns.flatMap uvEnc).length c') ∧ OwnB w' B a' (bs ++ ns.flatMap uvEnc).length c' (bs ++ ns.flatMap uvEnc) ∧ Below B w w' ∧ KeepB w w' := by
  have HS : Hid (arr.toList = nsV ns ∧ (∀ n ∈ ns, n < 18446744073709551616) ∧ ns.length = N) := ⟨harr, hlt, hN⟩
  have H0 : Hid (OwnB w B a len cap bs ∧ Box w g 23 arr) := ⟨h, hbx⟩
  have hz := h.size
  clear h hbx harr hlt hN
  go_enter Tryz.func117, Tryz.ntmps117
  go_wp2_with fail
  go_loopw [0, 9] (fun o i wr => ∃ (k : Nat) (a' : Option Addr) (n' c' : Nat), k ≤ N ∧ i = .int .i64 (k : Int) ∧ o = .slice a' n' c' ∧ n' ≤ len + 10 * k ∧ Hid (OwnB wr B a' n' c' (bs ++ (ns.take k).flatMap uvEnc) ∧ Below B w wr ∧ KeepB w wr)) (fun _ i _ => N - (intOf i).toNat)
  case atStart => exact ⟨0, a, len, cap, Nat.zero_le _, rfl, rfl, by omega, by simpa using H0.out.1, Below.refl _ _, KeepB.refl _⟩
  case round =>
    obtain ⟨k, a', n', c', hk, rfl, rfl, hn', HR⟩ := hrel
    by_cases hkn : k < N
    · have hkl : k < ns.length := by rw [HS.out.2.2]; exact hkn
      have hidx := fun W => idx_nums g N k hkn W
      have hc : wr.cell? ⟨g, k, none⟩ = some (.int .u64 ((ns[k] : Nat) : Int)) := by
        rw [(HR.out.2.2 _ _ _ H0.out.2 (by decide)).cell, ← Array.getElem?_toList, HS.out.1, nsV, List.getElem?_map, List.getElem?_eq_getElem hkl]
        rfl
      have hx := HS.out.2.1 ns[k] (List.getElem_mem hkl)
      have HT : Hid (ns.take (k + 1) = ns.take k ++ [ns[k]]) := List.take_succ_eq_append_getElem hkl
      generalize ns[k] = x at hc hx HT
      have HP : Hid (∀ W, Calls Tryz.prog 170 #[.slice none 0 0, .int .u64 (x : Int)] W fun e w' => ∃ a1 c1, e = .returned (.slice a1 (uvEnc x).length c1) ∧ OwnB w' W.heap.size a1 (uvEnc x).length c1 (uvEnc x) ∧ Below W.heap.size W w') := fun W => by
        have := putUvarint_any none 0 0 [] x W (BsAt.nil W) hx (by omega)
        simpa only [Nat.zero_add, List.nil_append] using this
      have hle := uvEnc_length x
      go_wp2_with fail
      refine (HP.out _).mono ?_
      rintro _ w1 ⟨a1, c1, rfl, ho1, hb1⟩
      have H1 : Hid (OwnB w1 B a' n' c' (bs ++ (ns.take k).flatMap uvEnc) ∧ Below B w w1 ∧ KeepB w w1) := ⟨HR.out.1.below hb1, HR.out.2.1.trans (hb1.mono (Nat.le_trans hB HR.out.2.1.size)), HR.out.2.2.trans (KeepB.of hb1)⟩
      have H1s : Hid (BsAt w1 a1 (uvEnc x).length c1 (uvEnc x)) := ho1.bs
      have hB1 : B ≤ w1.heap.size := Nat.le_trans hB H1.out.2.1.size
      clear ho1 hb1
      go_wp2_with (first
        | (at_builtin; refine wpList_app _ rfl _ _ rfl B _ n' c' (bs ++ (ns.take k).flatMap uvEnc) rfl H1.out.1 _ _ _ (uvEnc x) rfl H1s.out (by omega) hB1 ?_))
      intro a2 c2 w2 ho2 hb2 hg2
      have H2 : Hid (OwnB w2 B a2 (n' + (uvEnc x).length) c2 (bs ++ (ns.take (k + 1)).flatMap uvEnc) ∧ Below B w w2 ∧ KeepB w w2) := by
        refine ⟨?_, H1.out.2.1.trans hb2, H1.out.2.2.trans (KeepB.grown H1.out.1 hg2)⟩
        rw [HT.out, List.flatMap_append, ← List.append_assoc]
        simpa using ho2
      clear ho2 hb2 hg2
      go_wp2
      go_roundw
      case rel => exact ⟨k + 1, a2, n' + (uvEnc x).length, c2, hkn, by go_num, rfl, by omega, H2.out⟩
      case measure => simp only [intOf]; omega
    · have HF : Hid (OwnB wr B a' n' c' (bs ++ ns.flatMap uvEnc) ∧ Below B w wr ∧ KeepB w wr) := by
        have := HR.out.1
        rw [List.take_of_length_le (by rw [HS.out.2.2]; omega)] at this
        exact ⟨this, HR.out.2⟩
      have hs := HF.out.1.size
      go_wp2
      go_ret
      rw [hs]
      exact ⟨a', c', ret1 rfl, HF.out.1, HF.out.2⟩
def kc (k : IK) : List Value := [.string k.user, .int .u64 (k.seq : Int), .int .i64 k.kind]
theorem kc_len (k : IK) : (kc k).length = 3 := rfl
theorem enc_size {k : IK} (h : k.err = 0) : (txtPut k.enc).length ≤ 82 := by
  have h1 := enc_len h
  have h2 := err_le h
  have h3 := uvEnc_length k.enc.length
  unfold txtPut
  rw [List.length_append]
  omega
set_option maxRecDepth 100000 in
set_option maxHeartbeats 1000000 in
theorem layKeys_any (B : Nat) (a : Option Addr) (len cap : Nat) (bs : List UInt8) (ks : List IK) (g : Nat) (arr : Array Value) (w : World) (h : OwnB w B a len cap bs) (hB : B ≤ w.heap.size) (hN : ks.length = 2) (hbx : Box w g 57 arr) (harr : arr.toList = ks.flatMap kc) (hok : ∀ k ∈ ks, k.err = 0) (hl : len + 164 ≤ 140737488355000) :
    Calls Tryz.prog 118 #[.slice a len cap, .slice (some ⟨g, 0, none⟩) 2 2] w fun e w' => ∃ a' c', e = .returned (.slice a' (bs ++ ks.flatMap fun k => txtPut k.enc).length c') ∧ OwnB w' B a' (bs ++ ks.flatMap fun k => txtPut k.enc).length c' (bs ++ ks.flatMap fun k => txtPut k.enc) ∧ Below B w w' := by
  have HS : Hid (arr.toList = ks.flatMap kc ∧ (∀ k ∈ ks, k.err = 0) ∧ ks.length = 2) := ⟨harr, hok, hN⟩
  have H0 : Hid (OwnB w B a len cap bs ∧ Box w g 57 arr) := ⟨h, hbx⟩
  have hz := h.size
  clear h hbx harr hok hN
  go_enter Tryz.func118, Tryz.ntmps118
  go_wp2_with fail
  go_loopw [0, 11] (fun o i wr => ∃ (k : Nat) (a' : Option Addr) (n' c' : Nat), k ≤ 2 ∧ i = .int .i64 (k : Int) ∧ o = .slice a' n' c' ∧ n' ≤ len + 82 * k ∧ Hid (OwnB wr B a' n' c' (bs ++ (ks.take k).flatMap fun k => txtPut k.enc) ∧ Below B w wr ∧ Box wr g 57 arr)) (fun _ i _ => 2 - (intOf i).toNat)
  case atStart => exact ⟨0, a, len, cap, Nat.zero_le _, rfl, rfl, by omega, by simpa using H0.out.1, Below.refl _ _, H0.out.2⟩
  case round =>
    obtain ⟨k, a', n', c', hk, rfl, rfl, hn', HR⟩ := hrel
    by_cases hkn : k < 2
    · have hkl : k < ks.length := by rw [HS.out.2.2]; exact hkn
      have hidx := fun W => idx_keys g 2 k hkn W
      have hc : ∀ i, i < 3 → wr.cell? ⟨g, k * 3 + i, none⟩ = (kc ks[k])[i]? := fun i hi => by
        rw [HR.out.2.2.cell, ← Array.getElem?_toList, HS.out.1, flat_get kc_len ks k i hkl hi]
      have d0 : wr.cell? ⟨g, k * 3, none⟩ = some (.string ks[k].user) := hc 0 (by omega)
      have d1 : wr.cell? ⟨g, k * 3 + 1, none⟩ = some (.int .u64 (ks[k].seq : Int)) := hc 1 (by omega)
      have d2 : wr.cell? ⟨g, k * 3 + 2, none⟩ = some (.int .i64 ks[k].kind) := hc 2 (by omega)
      have hx := HS.out.2.1 ks[k] (List.getElem_mem hkl)
      have HT : Hid (ks.take (k + 1) = ks.take k ++ [ks[k]]) := List.take_succ_eq_append_getElem hkl
      clear hc
      generalize ks[k] = x at d0 d1 d2 hx HT
      have hus := err_le hx
      have HX : Hid (Below B w (wr.alloc (.cells #[.string x.user, .int .u64 (x.seq : Int), .int .i64 x.kind] 57)) ∧ OwnB (wr.alloc (.cells #[.string x.user, .int .u64 (x.seq : Int), .int .i64 x.kind] 57)) B a' n' c' (bs ++ (ks.take k).flatMap fun k => txtPut k.enc) ∧ Box (wr.alloc (.cells #[.string x.user, .int .u64 (x.seq : Int), .int .i64 x.kind] 57)) g 57 arr) := ⟨HR.out.2.1.alloc (Nat.le_trans hB HR.out.2.1.size) _, HR.out.1.alloc _, HR.out.2.2.alloc _⟩
      have HE : Hid (∀ W, Calls Tryz.prog 171 #[.agg #[.string x.user, .int .u64 (x.seq : Int), .int .i64 x.kind]] W fun e w' => ∃ a1 c1, e = .returned (.tuple #[.slice a1 x.enc.length c1, .int .i64 ((x.err : Nat) : Int)]) ∧ BsAt w' a1 x.enc.length c1 x.enc ∧ Below W.heap.size W w') := fun W => encode_any x.user x.seq x.kind W (by omega)
      have hle := enc_size hx
      have hel := enc_len hx
      have HP : Hid (∀ W, Calls Tryz.prog 172 #[.slice none 0 0, .string (strOf x.enc)] W fun e w' => ∃ a1 c1, e = .returned (.slice a1 (txtPut x.enc).length c1) ∧ OwnB w' W.heap.size a1 (txtPut x.enc).length c1 (txtPut x.enc) ∧ Below W.heap.size W w') := fun W => by
        have := putText_any none 0 0 [] (strOf x.enc) W (BsAt.nil W) (by rw [str_len]; omega)
        rw [show (strOf x.enc).data.toList = x.enc by simp [strOf]] at this
        simpa only [Nat.zero_add, List.nil_append] using this
      clear hel
      go_wp2_with fail
      refine (HE.out _).mono ?_
      rintro _ w1 ⟨a1, c1, rfl, hs1, hb1⟩
      have H1 : Hid (OwnB w1 B a' n' c' (bs ++ (ks.take k).flatMap fun k => txtPut k.enc) ∧ Below B w w1 ∧ Box w1 g 57 arr) := ⟨HX.out.2.1.below hb1, HX.out.1.trans (hb1.mono (Nat.le_trans hB HX.out.1.size)), HX.out.2.2.kept (hb1.block _ HX.out.2.2.lt)⟩
      have hcv := conv_of hs1
      clear hs1 hb1 HX d0 d1 d2
      rw [hx]
      go_wp2_with fail
      refine (HP.out _).mono ?_
      rintro _ w2 ⟨a2, c2, rfl, ho2, hb2⟩
      have H2 : Hid (OwnB w2 B a' n' c' (bs ++ (ks.take k).flatMap fun k => txtPut k.enc) ∧ Below B w w2 ∧ Box w2 g 57 arr) := ⟨H1.out.1.below hb2, H1.out.2.1.trans (hb2.mono (Nat.le_trans hB H1.out.2.1.size)), H1.out.2.2.kept (hb2.block _ H1.out.2.2.lt)⟩
      have H2s : Hid (BsAt w2 a2 (txtPut x.enc).length c2 (txtPut x.enc)) := ho2.bs
      have hB2 : B ≤ w2.heap.size := Nat.le_trans hB H2.out.2.1.size
      clear ho2 hb2 hcv
      go_wp2_with (first
        | (at_builtin; refine wpList_app _ rfl _ _ rfl B _ n' c' (bs ++ (ks.take k).flatMap fun k => txtPut k.enc) rfl H2.out.1 _ _ _ (txtPut x.enc) rfl H2s.out (by omega) hB2 ?_))
      intro a3 c3 w3 ho3 hb3 hg3
      have H3 : Hid (OwnB w3 B a3 (n' + (txtPut x.enc).length) c3 (bs ++ (ks.take (k + 1)).flatMap fun k => txtPut k.enc) ∧ Below B w w3 ∧ Box w3 g 57 arr) := by
        refine ⟨?_, H2.out.2.1.trans hb3, H2.out.2.2.grown H2.out.1 hg3 (by decide)⟩
        rw [HT.out, List.flatMap_append, ← List.append_assoc]
        simpa using ho3
      clear ho3 hb3 hg3
      go_wp2
      go_roundw
      case rel => exact ⟨k + 1, a3, n' + (txtPut x.enc).length, c3, hkn, by go_num, rfl, by omega, H3.out⟩
      case measure => simp only [intOf]; omega
    · have HF : Hid (OwnB wr B a' n' c' (bs ++ ks.flatMap fun k => txtPut k.enc) ∧ Below B w wr) := by
        have := HR.out.1
        rw [List.take_of_length_le (by rw [HS.out.2.2]; omega)] at this
        exact ⟨this, HR.out.2.1⟩
      have hs := HF.out.1.size
      go_wp2
      go_ret
      rw [hs]
      exact ⟨a', c', ret1 rfl, HF.out.1, HF.out.2⟩
end Go.Proofs.YtmlfbihlbiikeaaGreatDoor
