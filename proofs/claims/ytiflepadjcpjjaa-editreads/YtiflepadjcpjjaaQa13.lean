/- The contract of the document's own PutFixed: what it lays behind bytes, in new memory. -/
import Derived.Test.YtiflepadjcpjjaaQa02
import Derived.Test.YtiflepadjcpjjaaQa04
import Derived.Test.YtiflepadjcpjjaaQa01
import Derived.Test.YtiflepadjcpjjaaQa12
import Derived.Test.YtiflepadjcpjjaaQa05
import Derived.Test.YtiflepadjcpjjaaQa08
namespace Go.Proofs.Ytiflepadjcpjjaa
open Go.RowKit

theorem pow8_succ (n j : Nat) : n / 2 ^ (8 * j) / 256 = n / 2 ^ (8 * (j + 1)) := by
  rw [Nat.div_div_eq_div_mul, show 8 * (j + 1) = 8 * j + 8 by omega, Nat.pow_add]
set_option maxRecDepth 100000 in
set_option maxHeartbeats 400000 in
theorem rputFixed_any (a : Option Addr) (len cap : Nat) (bs : List UInt8) (n : Nat) (size : Int) (w : World) (h : BsAt w a len cap bs) (hn : n < 18446744073709551616) (hl : len + 10 ≤ 140737488355328) :
    Calls Try.prog 37 #[.slice a len cap, .int .u64 (n : Int), .int .i64 size] w fun e w' => ∃ a' c', e = .returned (.slice a' (len + (fxPut n size).length) c') ∧ OwnB w' w.heap.size a' (len + (fxPut n size).length) c' (bs ++ fxPut n size) ∧ Below w.heap.size w w' := by
  by_cases hs : size < 1 ∨ 8 < size
  · have HE : Hid (fxPut n size = []) := by unfold fxPut Hid; rw [if_pos hs]
    by_cases h1 : size < 1
    · clear hs
      go_enter Try.func37, Try.ntmps37
      go_wp2_with (at_builtin; refine wpList_app0 w rfl _ _ rfl rfl _ _ _ bs rfl h (by omega) ?_; intro a0 c0 w0 ho0 hb0)
      go_ret
      rw [HE.out]
      exact ⟨a0, c0, ret1 (by simp), by simpa using ho0, hb0⟩
    · have h2 : 8 < size := by omega
      have h1' : decide (size < 1) = false := by simpa using h1
      clear hs
      go_enter Try.func37, Try.ntmps37
      go_wp2_with (at_builtin; refine wpList_app0 w rfl _ _ rfl rfl _ _ _ bs rfl h (by omega) ?_; intro a0 c0 w0 ho0 hb0)
      go_ret
      rw [HE.out]
      exact ⟨a0, c0, ret1 (by simp), by simpa using ho0, hb0⟩
  · have hs1 : 1 ≤ size := by omega
    have hs2 : size ≤ 8 := by omega
    have h1' : decide (size < 1) = false := by simp; omega
    have h2' : decide (8 < size) = false := by simp; omega
    obtain ⟨k, rfl⟩ : ∃ k : Nat, size = (k : Int) := ⟨size.toNat, by omega⟩
    have HE : Hid (fxPut n k = fxEnc n k) := by unfold fxPut Hid; rw [if_neg hs]; simp
    clear hs
    go_enter Try.func37, Try.ntmps37
    go_wp2_with (at_builtin; refine wpList_app0 w rfl _ _ rfl rfl _ _ _ bs rfl h (by omega) ?_; intro a0 c0 w0 ho0 hb0)
    go_loopw [7, 1, 8] (fun v x i wr => ∃ (a3 : Option Addr) (c3 j m : Nat), j ≤ k ∧ m < 18446744073709551616 ∧ v = .slice a3 (len + j) c3 ∧ x = .int .u64 m ∧ i = .int .i64 j ∧ Hid (m = n / 2 ^ (8 * j)) ∧ Hid (OwnB wr w.heap.size a3 (len + j) c3 (bs ++ fxEnc n j)) ∧ Hid (Below w.heap.size w wr)) (fun _ _ i _ => k - (intOf i).toNat)
    case atStart => exact ⟨a0, c0, 0, n, by omega, hn, rfl, rfl, rfl, by simp [Hid], by simpa [fxEnc, Hid] using ho0, hb0⟩
    case round =>
      obtain ⟨a3, c3, j, m, hj, hm, rfl, rfl, rfl, HM, HO, HB⟩ := hrel
      have hsr := HB.out.size
      by_cases hlt : j < k
      · go_wp2_with (first
          | (at_builtin; refine wpList_app _ rfl _ _ rfl w.heap.size _ _ _ (bs ++ fxEnc n j) rfl (HO.out.alloc _) _ _ _ [loByte (n / 2 ^ (8 * j))] rfl (BsAt.one (by rw [loByte_toNat, ← HM.out]; omega)) (by omega) (by simp; omega) ?_))
        intro a4 c4 w4 ho4 hb4 _
        have HO4 : Hid (OwnB w4 w.heap.size a4 (len + j + 1) c4 (bs ++ (fxEnc n j ++ [loByte (n / 2 ^ (8 * j))]))) := by unfold Hid; simpa using ho4
        have HB4 : Hid (Below w.heap.size w w4) := (HB.out.alloc hsr _).trans hb4
        clear ho4 hb4
        go_wp2
        go_roundw
        case rel => exact ⟨a4, c4, j + 1, m / 256, by omega, by omega, rfl, by go_num, by go_num, by rw [HM.out]; exact pow8_succ n j, HO4.out, HB4.out⟩
        case measure => simp [intOf]; omega
      · obtain rfl : j = k := by omega
        go_wp2
        go_ret
        rw [HE.out, fxEnc_length]
        exact ⟨a3, c3, ret1 rfl, HO.out, HB.out⟩
end Go.Proofs.Ytiflepadjcpjjaa
/- The contract of the document's own Encode: the bytes of a key, as the plain function keyEnc tells them. -/
namespace Go.Proofs.Ytiflepadjcpjjaa
open Go.RowKit

theorem key_add (q : Nat) (k : Int) (h1 : q ≤ 72057594037927935) (h2 : k = 0 ∨ k = 1) : IntKind.u64.wrap ((q : Int) * 256 + IntKind.u64.wrap k) = ((q * 256 + k.toNat : Nat) : Int) := by
  obtain ⟨j, rfl, hj⟩ : ∃ j : Nat, k = (j : Int) ∧ j ≤ 1 := ⟨k.toNat, by omega, by omega⟩
  rw [show IntKind.u64.wrap (j : Int) = (j : Int) by simp [IntKind.wrap, IntKind.bits, IntKind.signed]; omega]
  simp [IntKind.wrap, IntKind.bits, IntKind.signed]
  omega

set_option maxRecDepth 100000 in
set_option maxHeartbeats 400000 in
theorem rencode_any (s : ByteArray) (q : Nat) (k : Int) (w : World) (hs : s.size ≤ 140737488351232) :
    Calls Try.prog 19 #[.agg #[.string s, .int .u64 (q : Int), .int .i64 k]] w fun e w' => ∃ a' c', e = .returned (.tuple #[.slice a' (keyEnc s.data.toList q k).length c', .int .i64 ((chk s.size q k : Nat) : Int)]) ∧ BsAt w' a' (keyEnc s.data.toList q k).length c' (keyEnc s.data.toList q k) ∧ Below w.heap.size w w' := by
  have hsl : s.data.toList.length = s.size := by rw [Array.length_toList]; rfl
  have hb0 : Below w.heap.size w (w.alloc (.cells #[.string s, .int .u64 (q : Int), .int .i64 k] 42)) := (Below.refl _ _).alloc (Nat.le_refl _) _
  by_cases h : chk s.size q k = 0
  · have hy := keyEnc_yes (s := s.data.toList) (q := q) (k := k) (by rw [hsl]; exact h)
    obtain ⟨h1, h2, h3⟩ := chk_zero h
    have HE : Hid (keyEnc s.data.toList q k = s.data.toList ++ fxEnc (q * 256 + k.toNat) 8) := hy
    have HL : Hid (s.data.toList.length = s.size) := hsl
    have HK : Hid (chk s.size q k = 0) := h
    have HO : Hid (_ = _) := key_add q k h2 h3
    have hn : q * 256 + k.toNat < 18446744073709551616 := by omega
    have hck := fun W => rcheck_any s q k W (by omega)
    rw [h] at hck
    clear h h3 hy hsl
    have hcv : ∀ W : World, (convert 9 28 (.string s)).run Try.prog W = .ok (.slice (some ⟨W.heap.size, 0, none⟩) s.size (grownCap W s.size 0 5))
        (W.drew.alloc (.cells (bytesRow s (grownCap W s.size 0 5)) 5 ((bytesRow s (grownCap W s.size 0 5)).size, (bytesRow s (grownCap W s.size 0 5)).size + 1))) :=
      fun W => run_bytes_of_string W 9 28 5 s Try.underlying9 Try.underlying28 Try.underlying5
    go_enter Try.func19, Try.ntmps19
    go_wp2_with (first
      | (go_at_call 36; refine (hck _).mono ?_; rintro e w1 ⟨rfl, hb1⟩
         have f0 : w1.cell? ⟨w.heap.size, 0, none⟩ = some (.string s) := by rw [hb1.cell (by simp)]; simp
         have hz1 : w.heap.size < w1.heap.size := by have := hb1.size; simp at this; omega
         have f1 : w1.cell? ⟨w.heap.size, 1, none⟩ = some (.int .u64 (q : Int)) := by rw [hb1.cell (by simp)]; simp
         have f2 : w1.cell? ⟨w.heap.size, 2, none⟩ = some (.int .i64 k) := by rw [hb1.cell (by simp)]; simp)
      | fail)
    rw [HO.out]
    refine (rputFixed_any _ _ _ s.data.toList (q * 256 + k.toNat) 8 _ (BsAt.ofStr w1 s _ _ (grownCap_ge _ _ _ _) (grownCap_le_maxLen _ _ _ _ (by unfold maxLen; omega))) hn (by omega)).mono ?_
    rintro e w2 ⟨a2, c2, rfl, ho2, hb2⟩
    have hB : Below w.heap.size w w2 := by
      have h3 := hb0.trans (hb1.mono hb0.size)
      exact ((h3.alloc h3.size _).drew).trans (hb2.mono (by simp; omega))
    clear hb2
    go_wp2
    go_ret2
    rw [HE.out, List.length_append, HL.out, HK.out]
    exact ⟨a2, c2, ret2 rfl rfl, ho2.bs, hB⟩
  · have HE : Hid (keyEnc s.data.toList q k = []) := keyEnc_no (by rw [hsl]; exact h)
    have hne : (((chk s.size q k : Nat) : Int) != 0) = true := by simp; omega
    have hck := fun W => rcheck_any s q k W (by omega)
    generalize chk s.size q k = c at hne hck
    clear h
    go_enter Try.func19, Try.ntmps19
    go_wp2_with (go_at_call 36; refine (hck _).mono ?_; rintro e w1 ⟨rfl, hb1⟩)
    go_ret2
    rw [HE.out]
    exact ⟨none, 0, ret2 rfl rfl, BsAt.nil _, hb0.trans (hb1.mono hb0.size)⟩
end Go.Proofs.Ytiflepadjcpjjaa
/- The contract of the document's own Encode. -/
namespace Go.Proofs.Ytiflepadjcpjjaa
open Go.RowKit
set_option linter.unusedVariables false
set_option linter.unusedSimpArgs false
theorem rput_nil (n : Nat) (hn : n < 18446744073709551616) (W : World) : Calls Try.prog 18 #[.slice none 0 0, .int .u64 (n : Int)] W fun e w' => ∃ a1 c1, e = .returned (.slice a1 (uvEnc n).length c1) ∧ OwnB w' W.heap.size a1 (uvEnc n).length c1 (uvEnc n) ∧ Below W.heap.size W w' := by
  have := rputUvarint_any none 0 0 [] n W (BsAt.nil W) hn (by omega)
  simpa only [Nat.zero_add, List.nil_append] using this
theorem rputT_nil (t : List UInt8) (ht : t.length ≤ 1000) (W : World) : Calls Try.prog 20 #[.slice none 0 0, .string (strOf t)] W fun e w' => ∃ a1 c1, e = .returned (.slice a1 (txtPut t).length c1) ∧ OwnB w' W.heap.size a1 (txtPut t).length c1 (txtPut t) ∧ Below W.heap.size W w' := by
  have := rputText_any none 0 0 [] (strOf t) W (BsAt.nil W) (by rw [str_len]; omega)
  rw [show (strOf t).data.toList = t by simp [strOf]] at this
  simpa only [Nat.zero_add, List.nil_append] using this
set_option maxRecDepth 100000 in
set_option maxHeartbeats 400000 in
theorem rencode_own (s : ByteArray) (q : Nat) (k : Int) (w : World) (hs : s.size ≤ 140737488351232) :
    Calls Try.prog 19 #[.agg #[.string s, .int .u64 (q : Int), .int .i64 k]] w fun e w' => ∃ a' c', e = .returned (.tuple #[.slice a' (keyEnc s.data.toList q k).length c', .int .i64 ((chk s.size q k : Nat) : Int)]) ∧ OwnB w' w.heap.size a' (keyEnc s.data.toList q k).length c' (keyEnc s.data.toList q k) ∧ Below w.heap.size w w' := by
  have hsl : s.data.toList.length = s.size := by rw [Array.length_toList]; rfl
  have hb0 : Below w.heap.size w (w.alloc (.cells #[.string s, .int .u64 (q : Int), .int .i64 k] 42)) := (Below.refl _ _).alloc (Nat.le_refl _) _
  by_cases h : chk s.size q k = 0
  · have hy := keyEnc_yes (s := s.data.toList) (q := q) (k := k) (by rw [hsl]; exact h)
    obtain ⟨h1, h2, h3⟩ := chk_zero h
    have HE : Hid (keyEnc s.data.toList q k = s.data.toList ++ fxEnc (q * 256 + k.toNat) 8) := hy
    have HL : Hid (s.data.toList.length = s.size) := hsl
    have HK : Hid (chk s.size q k = 0) := h
    have HO : Hid (_ = _) := key_add q k h2 h3
    have hn : q * 256 + k.toNat < 18446744073709551616 := by omega
    have hck := fun W => rcheck_any s q k W (by omega)
    rw [h] at hck
    clear h h3 hy hsl
    have hcv : ∀ W : World, (convert 9 28 (.string s)).run Try.prog W = .ok (.slice (some ⟨W.heap.size, 0, none⟩) s.size (grownCap W s.size 0 5))
        (W.drew.alloc (.cells (bytesRow s (grownCap W s.size 0 5)) 5 ((bytesRow s (grownCap W s.size 0 5)).size, (bytesRow s (grownCap W s.size 0 5)).size + 1))) :=
      fun W => run_bytes_of_string W 9 28 5 s Try.underlying9 Try.underlying28 Try.underlying5
    go_enter Try.func19, Try.ntmps19
    go_wp2_with (first
      | (go_at_call 36; refine (hck _).mono ?_; rintro e w1 ⟨rfl, hb1⟩
         have f0 : w1.cell? ⟨w.heap.size, 0, none⟩ = some (.string s) := by rw [hb1.cell (by simp)]; simp
         have hz1 : w.heap.size < w1.heap.size := by have := hb1.size; simp at this; omega
         have f1 : w1.cell? ⟨w.heap.size, 1, none⟩ = some (.int .u64 (q : Int)) := by rw [hb1.cell (by simp)]; simp
         have f2 : w1.cell? ⟨w.heap.size, 2, none⟩ = some (.int .i64 k) := by rw [hb1.cell (by simp)]; simp)
      | fail)
    rw [HO.out]
    refine (rputFixed_any _ _ _ s.data.toList (q * 256 + k.toNat) 8 _ (BsAt.ofStr w1 s _ _ (grownCap_ge _ _ _ _) (grownCap_le_maxLen _ _ _ _ (by unfold maxLen; omega))) hn (by omega)).mono ?_
    rintro e w2 ⟨a2, c2, rfl, ho2, hb2⟩
    have hB : Below w.heap.size w w2 := by
      have h3 := hb0.trans (hb1.mono hb0.size)
      exact ((h3.alloc h3.size _).drew).trans (hb2.mono (by simp; omega))
    clear hb2
    go_wp2
    go_ret2
    rw [HE.out, List.length_append, HL.out, HK.out]
    exact ⟨a2, c2, ret2 rfl rfl, ho2.mono (by have := hB.size; have := hz1; simp; omega), hB⟩
  · have HE : Hid (keyEnc s.data.toList q k = []) := keyEnc_no (by rw [hsl]; exact h)
    have hne : (((chk s.size q k : Nat) : Int) != 0) = true := by simp; omega
    have hck := fun W => rcheck_any s q k W (by omega)
    generalize chk s.size q k = c at hne hck
    clear h
    go_enter Try.func19, Try.ntmps19
    go_wp2_with (go_at_call 36; refine (hck _).mono ?_; rintro e w1 ⟨rfl, hb1⟩)
    go_ret2
    rw [HE.out]
    exact ⟨none, 0, ret2 rfl rfl, OwnB.none0 _ _, hb0.trans (hb1.mono hb0.size)⟩
theorem renc_key (k : IK) (h : k.err = 0) (W : World) : Calls Try.prog 19 #[.agg #[.string k.user, .int .u64 (k.seq : Int), .int .i64 k.kind]] W fun e w' => ∃ a' c', e = .returned (.tuple #[.slice a' k.enc.length c', .int .i64 0]) ∧ OwnB w' W.heap.size a' k.enc.length c' k.enc ∧ Below W.heap.size W w' := by
  have hu := err_le h
  have := rencode_own k.user k.seq k.kind W (by omega)
  rw [show chk k.user.size k.seq k.kind = 0 from h] at this
  exact this
/-- Where the document's Encode is: bytes of its own, and what is below. -/
structure RE (W1 W : World) (a : Option Addr) (n c : Nat) (bs : List UInt8) : Prop where
  own : OwnB W W1.heap.size a n c bs
  base : Below W1.heap.size W1 W
theorem RE.call {W1 W W' : World} {a : Option Addr} {n c : Nat} {bs : List UInt8} (h : RE W1 W a n c bs) (hb : Below W.heap.size W W') : RE W1 W' a n c bs := ⟨h.own.below hb, h.base.trans (hb.mono h.base.size)⟩
theorem RE.len {W1 W : World} {a : Option Addr} {n c : Nat} {bs : List UInt8} (h : RE W1 W a n c bs) : bs.length = n := h.own.size
end Go.Proofs.Ytiflepadjcpjjaa
