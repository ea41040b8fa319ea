/- The contract of the document's own Encode: the bytes of a key, as the plain function keyEnc tells them. -/
import Derived.Test.YtgegjcnjlibfdaaGreatKeyPlain
import Derived.Test.YtgegjcnjlibfdaaGreatQa23
import Derived.Test.YtgegjcnjlibfdaaGreatQa03
import Derived.Test.YtgegjcnjlibfdaaGreatQa00
import Derived.Test.YtgegjcnjlibfdaaGreatQa01
namespace Go.Proofs.YtgegjcnjlibfdaaGreat
open Go.RowKit

theorem key_add (q : Nat) (k : Int) (h1 : q ≤ 72057594037927935) (h2 : k = 0 ∨ k = 1) : IntKind.u64.wrap ((q : Int) * 256 + IntKind.u64.wrap k) = ((q * 256 + k.toNat : Nat) : Int) := by
  obtain ⟨j, rfl, hj⟩ : ∃ j : Nat, k = (j : Int) ∧ j ≤ 1 := ⟨k.toNat, by omega, by omega⟩
  rw [show IntKind.u64.wrap (j : Int) = (j : Int) by simp [IntKind.wrap, IntKind.bits, IntKind.signed]; omega]
  simp [IntKind.wrap, IntKind.bits, IntKind.signed]
  omega

set_option maxRecDepth 100000 in
set_option maxHeartbeats 400000 in
theorem rencode_any (s : ByteArray) (q : Nat) (k : Int) (w : World) (hs : s.size ≤ 140737488351232) :
    Calls Tryz.prog 69 #[.agg #[.string s, .int .u64 (q : Int), .int .i64 k]] w fun e w' => ∃ a' c', e = .returned (.tuple #[.slice a' (keyEnc s.data.toList q k).length c', .int .i64 ((chk s.size q k : Nat) : Int)]) ∧ BsAt w' a' (keyEnc s.data.toList q k).length c' (keyEnc s.data.toList q k) ∧ Below w.heap.size w w' := by
  have hsl : s.data.toList.length = s.size := by rw [Array.length_toList]; rfl
  have hb0 : Below w.heap.size w (w.alloc (.cells #[.string s, .int .u64 (q : Int), .int .i64 k] 52)) := (Below.refl _ _).alloc (Nat.le_refl _) _
  by_cases h : chk s.size q k = 0
  · have hy := keyEnc_yes (s := s.data.toList) (q := q) (k := k) (by rw [hsl]; exact h)
    obtain ⟨h1, h2, h3⟩ := chk_zero h
    have HE : Hid (keyEnc s.data.toList q k = s.data.toList ++ fxEnc (q * 256 + k.toNat) 8) := hy
    have HL : Hid (s.data.toList.length = s.size) := hsl
    have HK : Hid (chk s.size q k = 0) := h
    have HO : Hid (_ = _) := key_add q k h2 h3
    have hn : q * 256 + k.toNat < 18446744073709551616 := by omega
    have hck := fun W => rcheck_any s q k W (by omega)
    rw [h] at hck
    clear h h3 hy hsl
    have hcv : ∀ W : World, (convert 9 27 (.string s)).run Tryz.prog W = .ok (.slice (some ⟨W.heap.size, 0, none⟩) s.size (grownCap W s.size 0 5))
        (W.drew.alloc (.cells (bytesRow s (grownCap W s.size 0 5)) 5 ((bytesRow s (grownCap W s.size 0 5)).size, (bytesRow s (grownCap W s.size 0 5)).size + 1))) :=
      fun W => run_bytes_of_string W 9 27 5 s Tryz.underlying9 Tryz.underlying27 Tryz.underlying5
    go_enter Tryz.func69, Tryz.ntmps69
    go_wp2_with (first
      | (go_at_call 68; refine (hck _).mono ?_; rintro e w1 ⟨rfl, hb1⟩
         have f0 : w1.cell? ⟨w.heap.size, 0, none⟩ = some (.string s) := by rw [hb1.cell (by simp)]; simp
         have hz1 : w.heap.size < w1.heap.size := by have := hb1.size; simp at this; omega
         have f1 : w1.cell? ⟨w.heap.size, 1, none⟩ = some (.int .u64 (q : Int)) := by rw [hb1.cell (by simp)]; simp
         have f2 : w1.cell? ⟨w.heap.size, 2, none⟩ = some (.int .i64 k) := by rw [hb1.cell (by simp)]; simp)
      | fail)
    rw [HO.out]
    refine (rputFixed_any _ _ _ s.data.toList (q * 256 + k.toNat) 8 _ (BsAt.ofStr w1 s _ _ (grownCap_ge _ _ _ _) (grownCap_le_maxLen _ _ _ _ (by unfold maxLen; omega))) hn (by omega)).mono ?_
    rintro e w2 ⟨a2, c2, rfl, ho2, hb2⟩
    have hB : Below w.heap.size w w2 := by
      have h3 := hb0.trans (hb1.mono hb0.size)
      exact ((h3.alloc h3.size _).drew).trans (hb2.mono (by simp; omega))
    clear hb2
    go_wp2
    go_ret2
    rw [HE.out, List.length_append, HL.out, HK.out]
    exact ⟨a2, c2, ret2 rfl rfl, ho2.bs, hB⟩
  · have HE : Hid (keyEnc s.data.toList q k = []) := keyEnc_no (by rw [hsl]; exact h)
    have hne : (((chk s.size q k : Nat) : Int) != 0) = true := by simp; omega
    have hck := fun W => rcheck_any s q k W (by omega)
    generalize chk s.size q k = c at hne hck
    clear h
    go_enter Tryz.func69, Tryz.ntmps69
    go_wp2_with (go_at_call 68; refine (hck _).mono ?_; rintro e w1 ⟨rfl, hb1⟩)
    go_ret2
    rw [HE.out]
    exact ⟨none, 0, ret2 rfl rfl, BsAt.nil _, hb0.trans (hb1.mono hb0.size)⟩
end Go.Proofs.YtgegjcnjlibfdaaGreat
/- The contracts of the document's own PutUvarint and PutText: what they lay behind bytes, in new memory. -/
namespace Go.Proofs.YtgegjcnjlibfdaaGreat
open Go.RowKit

set_option maxRecDepth 100000 in
set_option maxHeartbeats 400000 in
theorem rputUvarint_any (a : Option Addr) (len cap : Nat) (bs : List UInt8) (n : Nat) (w : World) (h : BsAt w a len cap bs) (hn : n < 18446744073709551616) (hl : len + 10 ≤ 140737488355328) :
    Calls Tryz.prog 29 #[.slice a len cap, .int .u64 (n : Int)] w fun e w' => ∃ a' c', e = .returned (.slice a' (len + (uvEnc n).length) c') ∧ OwnB w' w.heap.size a' (len + (uvEnc n).length) c' (bs ++ uvEnc n) ∧ Below w.heap.size w w' := by
  go_enter Tryz.func29, Tryz.ntmps29
  go_wp2_with (at_builtin; refine wpList_app0 w rfl _ _ rfl rfl _ _ _ bs rfl h (by omega) ?_; intro a0 c0 w0 ho0 hb0)
  go_loopw [5, 1] (fun v x wr => ∃ (a1 : Option Addr) (l1 c1 m f : Nat) (cs : List UInt8), v = .slice a1 l1 c1 ∧ x = .int .u64 (m : Int) ∧ l1 + (f + 1) ≤ len + 10 ∧ f ≤ 9 ∧ m < 18446744073709551616 ∧
      Hid (m < 2 * 128 ^ f ∧ bs ++ uvEnc n = cs ++ uvEncF f m ∧ OwnB wr w.heap.size a1 l1 c1 cs) ∧ Below w.heap.size w wr) (fun _ x _ => (intOf x).toNat)
  case atStart => exact ⟨a0, len, c0, n, 9, bs, rfl, rfl, by omega, by omega, hn, ⟨by omega, rfl, ho0⟩, hb0⟩
  case round =>
    obtain ⟨a1, l1, c1, m, f, cs, rfl, rfl, hl1, hf, hm, HR, hb⟩ := hrel
    have hsz := hb.size
    by_cases h128 : 128 ≤ m
    · obtain ⟨f, rfl⟩ : ∃ g, f = g + 1 := ⟨f - 1, by have h1 := HR.out.1; rcases Nat.eq_zero_or_pos f with h0 | h0; (subst h0; simp at h1; omega); omega⟩
      go_wp2_with (first
        | (at_builtin; refine wpList_app _ rfl _ _ rfl w.heap.size _ _ _ cs rfl (HR.out.2.2.alloc _) _ _ _ [hiByte m] rfl (BsAt.one (by rw [hiByte_toNat]; omega)) (by omega) (by simp; omega) ?_))
      intro a2 c2 w2 ho2 hb2 _
      have HO : Hid (OwnB w2 w.heap.size a2 (l1 + 1) c2 (cs ++ [hiByte m])) := ho2
      have HBB : Hid (Below w.heap.size w w2) := (hb.alloc (by omega) _).trans hb2
      clear ho2 hb2
      go_wp2
      go_roundw
      case rel =>
        obtain ⟨h1, h2, h3⟩ := HR.out
        rw [uvEncF_more f m h128] at h2
        exact ⟨a2, l1 + 1, c2, m / 128, f, cs ++ [hiByte m], rfl, by go_num, by omega, by omega, by omega, ⟨by rw [Nat.pow_succ] at h1; omega, by rw [h2]; simp, HO.out⟩, HBB.out⟩
      case measure => simp [intOf]; omega
    · go_wp2_with (first
        | (at_builtin; refine wpList_app _ rfl _ _ rfl w.heap.size _ _ _ cs rfl (HR.out.2.2.alloc _) _ _ _ [loByte m] rfl (BsAt.one (by rw [loByte_toNat]; omega)) (by omega) (by simp; omega) ?_))
      intro a2 c2 w2 ho2 hb2 _
      have HO : Hid (OwnB w2 w.heap.size a2 (l1 + 1) c2 (cs ++ [loByte m])) := ho2
      have HBB : Hid (Below w.heap.size w w2) := (hb.alloc (by omega) _).trans hb2
      clear ho2 hb2
      go_wp2
      go_ret
      obtain ⟨h1, h2, h3⟩ := HR.out
      rw [uvEncF_last f m (by omega)] at h2
      have hO := HO.out
      rw [← h2] at hO
      have hs := hO.size
      rw [List.length_append, h.size] at hs
      rw [hs]
      exact ⟨a2, c2, ret1 (by simp), hO, HBB.out⟩
end Go.Proofs.YtgegjcnjlibfdaaGreat
