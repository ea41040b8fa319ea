/- The contract of the statements' own awake: it returns true and leaves memory as it was. -/
import Derived.Test.YtnlobehagneomaaCrc
import Derived.Test.YtnlobehagneomaaText
namespace Go.Proofs.Ytnlobehagneomaa
open Go.RowKit
theorem uvEnc_300 : uvEnc 300 = [172, 2] := by decide
theorem uvRead_300 : uvRead [172, 2] = (300, 2, 0) := by decide
theorem txtRead_ab : txtRead [2, 97, 98, 99] = ([97, 98], 3, 0) := by decide
theorem crc_digits : crc [49, 50, 51, 52, 53, 54, 55, 56, 57] = 3808858755 := by decide +kernel
theorem put_300 (w : World) : Calls Try.prog 11 #[.slice none 0 0, .int .u64 300] w fun e w' => ∃ g c', e = .returned (.slice (some ⟨g, 0, none⟩) 2 c') ∧ BsAt w' (some ⟨g, 0, none⟩) 2 c' [172, 2] ∧ g < w'.heap.size ∧ w'.cell? ⟨g, 0, none⟩ = some (.int .u8 172) ∧ w'.cell? ⟨g, 1, none⟩ = some (.int .u8 2) ∧ Below w.heap.size w w' := by
  refine (putUvarint_any none 0 0 [] 300 w (BsAt.nil w) (by omega) (by omega)).mono ?_
  rintro e w' ⟨a', c', rfl, ho, hb⟩
  rw [uvEnc_300] at ho ⊢
  obtain ⟨g, rfl, _, hg, hc⟩ := ho.cells (by simp)
  exact ⟨g, c', rfl, ho.bs, hg, hc 0 (by simp), hc 1 (by simp), hb⟩
theorem text_ab (w : World) {a : Option Addr} {len cap : Nat} (h : BsAt w a len cap [2, 97, 98, 99]) : Calls Try.prog 22 #[.slice a len cap] w fun e w' => e = .returned (.tuple #[.string { data := #[97, 98] }, .int .i64 3, .int .i64 0]) ∧ w' = w := by
  have := text_any a len cap _ w h
  rw [txtRead_ab] at this
  exact this
theorem crc_dig (w : World) {a : Option Addr} {len cap : Nat} (h : BsAt w a len cap [49, 50, 51, 52, 53, 54, 55, 56, 57]) : Calls Try.prog 24 #[.slice a len cap] w fun e w' => e = .returned (.int .u32 3808858755) ∧ Below w.heap.size w w' := by
  have := crc_any a len cap _ w h
  rw [crc_digits] at this
  exact this

set_option maxRecDepth 100000 in
set_option maxHeartbeats 1000000 in
theorem awake_any (w : World) : Calls Try.prog 9 #[] w fun e w' => e = .returned (.bool true) ∧ Below w.heap.size w w' := by
  go_enter Try.func9, Try.ntmps9
  go_wp2_with (go_at_call 11; refine (put_300 _).mono ?_; rintro e w1 ⟨g, c', rfl, hbs, hg, hc0, hc1, hb1⟩)
  have HBS : Hid (BsAt w1 (some ⟨g, 0, none⟩) 2 c' [172, 2]) := hbs
  have HB1 : Hid (Below w.heap.size w w1) := hb1
  have hsz := hb1.size
  clear hbs hb1
  have hcv := run_conv_lit
  go_wp2_with (first
    | (go_at_call 18; refine (uvarint_eq HBS.out uvRead_300).mono ?_; rintro e w2 ⟨rfl, rfl⟩)
    | (go_at_call 22; refine (text_ab _ (BsAt.lit _ _ _ _ _ 4 rfl rfl (by decide))).mono ?_; rintro e w2 ⟨rfl, rfl⟩))
  refine Calls.mono (crc_dig _ ?hlit) ?_
  case hlit => exact BsAt.litAt _ _ _ _ _ 9 _ (by simp) rfl rfl (by decide)
  rintro e w3 ⟨rfl, hb3⟩
  go_wp2
  go_ret
  exact ⟨rfl, ((HB1.out.alloc hsz _).alloc (by simp; omega) _).trans (hb3.mono (by simp; omega))⟩
end Go.Proofs.Ytnlobehagneomaa
