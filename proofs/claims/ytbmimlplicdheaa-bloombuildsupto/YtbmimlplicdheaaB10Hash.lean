/- The contract of bloom.Hash: for any key it returns what the plain function hashN tells. -/
import Derived.Test.YtbmimlplicdheaaB10Mix
import Derived.Test.YtbmimlplicdheaaOfStr
import Derived.Test.YtbmimlplicdheaaW9Sl
namespace Go.Proofs.Ytbmimlplicdheaa
open Go.RowKit
def lenOfB : Value → Nat
  | .slice _ n _ => n
  | _ => 0
theorem hash0_val (n : Nat) : bits .xor .u32 3164544308 ((n : Int) % 4294967296 * 3332679571 % 4294967296) = ((3164544308 ^^^ (n % 4294967296 * 3332679571 % 4294967296) : Nat) : Int) := by
  have := nbits_xor32 3164544308 (n % 4294967296 * 3332679571 % 4294967296) (by omega) (Nat.mod_lt _ (by omega))
  rw [← this]
  congr 1
set_option maxRecDepth 100000 in
set_option maxHeartbeats 400000 in
theorem hash_any (s : ByteArray) (w : World) (hs : s.size ≤ 140737488351232) :
    Calls Try.prog 11 #[.string s] w fun e w' => e = .returned (.int .u32 (hashN s.data.toList : Nat)) ∧ Below w.heap.size w w' := by
  have hcv : ∀ W : World, (convert 9 25 (.string s)).run Try.prog W = .ok (.slice (some ⟨W.heap.size, 0, none⟩) s.size (grownCap W s.size 0 5))
        (W.drew.alloc (.cells (bytesRow s (grownCap W s.size 0 5)) 5 ((bytesRow s (grownCap W s.size 0 5)).size, (bytesRow s (grownCap W s.size 0 5)).size + 1))) :=
      fun W => run_bytes_of_string W 9 25 5 s Try.underlying9 Try.underlying25 Try.underlying5
  have hl : s.data.toList.length = s.size := by rw [Array.length_toList]; rfl
  obtain ⟨h0, H0, hh0, hv0⟩ : ∃ h0 : Nat, Hid (hashN s.data.toList = hashGo h0 s.data.toList) ∧ h0 < 4294967296 ∧ bits .xor .u32 3164544308 ((s.size : Int) % 4294967296 * 3332679571 % 4294967296) = (h0 : Int) :=
    ⟨_, by unfold Hid hashN; rw [hl], hash0_lt s.size, hash0_val s.size⟩
  have HB0 : Hid (BsAt (w.alloc (.cells (bytesRow s (grownCap w s.size 0 5)) 5 ((bytesRow s (grownCap w s.size 0 5)).size, (bytesRow s (grownCap w s.size 0 5)).size + 1))).drew (some ⟨w.heap.size, 0, none⟩) s.size (grownCap w s.size 0 5) s.data.toList) :=
    BsAt.ofStr w s _ _ (grownCap_ge _ _ _ _) (grownCap_le_maxLen _ _ _ _ (by unfold maxLen; omega))
  have HBL : Hid (Below w.heap.size w (w.alloc (.cells (bytesRow s (grownCap w s.size 0 5)) 5 ((bytesRow s (grownCap w s.size 0 5)).size, (bytesRow s (grownCap w s.size 0 5)).size + 1))).drew) := ((Below.refl _ _).drew).alloc (Nat.le_refl _) _
  clear hl
  go_enter Try.func11, Try.ntmps11
  go_wp2
  generalize (w.alloc (.cells (bytesRow s (grownCap w s.size 0 5)) 5 ((bytesRow s (grownCap w s.size 0 5)).size, (bytesRow s (grownCap w s.size 0 5)).size + 1))).drew = w1 at *
  generalize grownCap w s.size 0 5 = c0 at *
  clear hcv
  go_loopw [3, 4] (fun x r wr => ∃ (h len : Nat) (a : Option Addr) (cap : Nat) (l : List UInt8), h < 4294967296 ∧ len ≤ 140737488351232 ∧ x = .int .u32 (h : Int) ∧ r = .slice a len cap ∧ wr = w1 ∧ Hid (BsAt w1 a len cap l) ∧ Hid (hashN s.data.toList = hashGo h l)) (fun _ r _ => lenOfB r)
  case atStart => exact ⟨h0, s.size, _, _, _, hh0, by omega, rfl, rfl, rfl, HB0.out, H0.out⟩
  case round =>
    obtain ⟨h, len, a, cap, l, hh, hlen, rfl, rfl, rfl, HBS, HH⟩ := hrel
    by_cases h4 : 4 ≤ len
    · obtain ⟨a1, hsl, hbs1⟩ := slice_to HBS.out 4 (by omega)
      obtain ⟨a2, hsf, hbs2⟩ := slice_any HBS.out 4 (by omega)
      have hmx := HBS.out.le
      have HSZ : Hid (l.length = len) := HBS.out.size
      have hsl : ∀ W : World, (Instr.slice 25 (.slice a len cap) none (some (.int .i64 4)) none).run Try.prog W = .ok (.slice a1 4 cap) W := hsl
      have hsf : ∀ W : World, (Instr.slice 25 (.slice a len cap) (some (.int .i64 4)) none none).run Try.prog W = .ok (.slice a2 (len - 4) (cap - 4)) W := hsf
      have hmix := mixed16 h a1 4 cap (l.take 4) wr (hbs1 _ _ HBS.out) (by omega) (by omega)
      have HB2 : Hid (BsAt wr a2 (len - 4) (cap - 4) (l.drop 4)) := hbs2 _ _ HBS.out
      have HST : Hid (hashN s.data.toList = hashGo (mixN h (leNat (l.take 4)) 16) (l.drop 4)) := by
        unfold Hid
        rw [HH.out, hashGo_step h l (by rw [HSZ.out]; exact h4)]
      obtain ⟨h2, HM, hh2⟩ : ∃ h2 : Nat, Hid (mixN h (leNat (l.take 4)) 16 = h2) ∧ h2 < 4294967296 := ⟨_, rfl, mixN_lt _ _ _⟩
      rw [HM.out] at hmix HST
      clear hbs1 hbs2
      go_wp2_with (go_at_call 19; refine hmix.mono ?_; rintro e w' ⟨rfl, rfl⟩)
      go_roundw
      case rel => exact ⟨h2, len - 4, a2, cap - 4, _, hh2, by omega, rfl, rfl, by trivial, HB2.out, HST.out⟩
      case measure => simp [lenOfB]; omega
    · by_cases h0 : 0 < len
      · have hmix := mixed24 h a len cap l wr HBS.out (by omega) (by omega)
        have HST : Hid (hashN s.data.toList = mixN h (leNat l) 24) := by
          unfold Hid
          rw [HH.out, hashGo_last h l (by rw [HBS.out.size]; omega) (by rw [HBS.out.size]; exact h0)]
        rw [← HST.out] at hmix
        go_wp2_with (go_at_call 19; refine hmix.mono ?_; rintro e w' ⟨rfl, rfl⟩)
        go_ret
        exact ⟨rfl, HBL.out⟩
      · obtain rfl : len = 0 := by omega
        have HST : Hid (hashN s.data.toList = h) := by
          unfold Hid
          rw [HH.out, List.eq_nil_of_length_eq_zero HBS.out.size]
          rfl
        go_wp2
        go_ret
        exact ⟨ret1 (by rw [HST.out]; rfl), HBL.out⟩
end Go.Proofs.Ytbmimlplicdheaa
