/- The contract of the second layer's own awake: it returns true and leaves memory as it was. -/
import Derived.Test.YtleojljcidocjaaEnc
import Derived.Test.YtleojljcidocjaaDec
import Derived.Test.YtleojljcidocjaaKcmp
import Derived.Test.YtleojljcidocjaaBehind
namespace Go.Proofs.Ytleojljcidocjaa
open Go.RowKit
theorem key_a : keyEnc [97] 1 1 = [97, 1, 1, 0, 0, 0, 0, 0, 0] := by decide
theorem enc_a (w : World) : Calls Try.prog 10 #[.agg #[.string ⟨#[97]⟩, .int .u64 1, .int .i64 1]] w fun e w' => ∃ g off c', e = .returned (.tuple #[.slice (some ⟨g, off, none⟩) 9 c', .int .i64 0]) ∧ BsAt w' (some ⟨g, off, none⟩) 9 c' [97, 1, 1, 0, 0, 0, 0, 0, 0] ∧ g < w'.heap.size ∧ w'.cell? ⟨g, off, none⟩ = some (.int .u8 97) ∧ w'.cell? ⟨g, off + 1, none⟩ = some (.int .u8 1) ∧ w'.cell? ⟨g, off + 2, none⟩ = some (.int .u8 1) ∧ Below w.heap.size w w' := by
  have hs : (⟨#[97]⟩ : ByteArray).size ≤ 140737488351232 := by decide
  refine (encode_any ⟨#[97]⟩ 1 1 w hs).mono ?_
  rintro e w' ⟨a', c', rfl, ho, hb⟩
  rw [show keyEnc (⟨#[97]⟩ : ByteArray).data.toList 1 1 = [97, 1, 1, 0, 0, 0, 0, 0, 0] from key_a] at ho ⊢
  obtain ⟨g, off, rfl, hc⟩ := ho.here (by decide)
  have h0 := hc 0 (by decide)
  exact ⟨g, off, c', rfl, ho, World.block_lt_of_cell? w' _ h0, h0, hc 1 (by decide), hc 2 (by decide), hb⟩
theorem dec_a (w : World) {a : Option Addr} {len cap : Nat} (h : BsAt w a len cap [97, 1, 1, 0, 0, 0, 0, 0, 0]) : Calls Try.prog 12 #[.slice a len cap] w fun e w' => e = .returned (.tuple #[.agg #[.string ⟨#[97]⟩, .int .u64 1, .int .i64 1], .int .i64 0]) ∧ Below w.heap.size w w' := by
  have := decode_any a len cap _ w h
  rw [show keyUser [97, 1, 1, 0, 0, 0, 0, 0, 0] = [97] by decide, show keySeq [97, 1, 1, 0, 0, 0, 0, 0, 0] = 1 by decide, show keyKind [97, 1, 1, 0, 0, 0, 0, 0, 0] = 1 by decide, show keyErr [97, 1, 1, 0, 0, 0, 0, 0, 0] = 0 by decide] at this
  exact this
theorem cmp_a (w : World) : Calls Try.prog 16 #[.agg #[.string ⟨#[97]⟩, .int .u64 2, .int .i64 0], .agg #[.string ⟨#[97]⟩, .int .u64 1, .int .i64 0]] w fun e w' => e = .returned (.int .i64 (-1)) ∧ Below w.heap.size w w' := by
  have := compare_any ⟨#[97]⟩ ⟨#[97]⟩ 2 1 0 0 w
  rw [show kcmp (⟨#[97]⟩ : ByteArray).toList (⟨#[97]⟩ : ByteArray).toList 2 1 0 0 = -1 by rw [ByteArray.toList_eq]; decide] at this
  exact this
theorem btw_a (w : World) : Calls Try.prog 18 #[.string ⟨#[97, 98, 99]⟩, .string ⟨#[97, 98, 102]⟩] w fun e w' => e = .returned (.string ⟨#[97, 98, 100]⟩) ∧ Below w.heap.size w w' := by
  have := between_any ⟨#[97, 98, 99]⟩ ⟨#[97, 98, 102]⟩ w (by decide) (by decide)
  rw [show between (⟨#[97, 98, 99]⟩ : ByteArray).data.toList (⟨#[97, 98, 102]⟩ : ByteArray).data.toList = [97, 98, 100] by decide] at this
  exact this
theorem bhd_a (w : World) : Calls Try.prog 20 #[.string ⟨#[97, 98, 99]⟩] w fun e w' => e = .returned (.string ⟨#[98]⟩) ∧ Below w.heap.size w w' := by
  have := behind_any ⟨#[97, 98, 99]⟩ w (by decide)
  rw [show behind (⟨#[97, 98, 99]⟩ : ByteArray).data.toList = [98] by decide] at this
  exact this

set_option maxRecDepth 100000 in
set_option maxHeartbeats 1000000 in
theorem awake_any (w : World) : Calls Try.prog 9 #[] w fun e w' => e = .returned (.bool true) ∧ Below w.heap.size w w' := by
  go_enter Try.func9, Try.ntmps9
  go_wp2_with (go_at_call 10; refine (enc_a _).mono ?_; rintro e w1 ⟨g, off, c', rfl, hbs, hg, hc0, hc1, hc2, hb1⟩)
  have HBS : Hid (BsAt w1 (some ⟨g, off, none⟩) 9 c' [97, 1, 1, 0, 0, 0, 0, 0, 0]) := hbs
  have HB1 : Hid (Below w.heap.size w w1) := hb1
  have hsz := hb1.size
  clear hbs hb1
  refine (dec_a _ HBS.out).mono ?_
  rintro e w2 ⟨rfl, hb2⟩
  have HB2 : Hid (Below w1.heap.size w1 w2) := hb2
  clear hb2
  go_wp2_with fail
  refine (cmp_a _).mono ?_
  rintro e w3 ⟨rfl, hb3⟩
  have HB3 : Hid (Below w1.heap.size w1 w3) := (HB2.out.alloc HB2.out.size _).trans (hb3.mono (by have := HB2.out.size; simp; omega))
  obtain ⟨d0, d1, d2, _, _, _, hm⟩ := (Rec3.new w2 w2.heap.size rfl (.string ⟨#[97]⟩) (.int .u64 1) (.int .i64 1) 25).below (Nat.le_refl _) hb3
  have e0 : w3.cell? ⟨g, off, none⟩ = some (.int .u8 97) := by rw [HB3.out.cell hg]; exact hc0
  have e1 : w3.cell? ⟨g, off + 1, none⟩ = some (.int .u8 1) := by rw [HB3.out.cell hg]; exact hc1
  have e2 : w3.cell? ⟨g, off + 2, none⟩ = some (.int .u8 1) := by rw [HB3.out.cell hg]; exact hc2
  clear hb3 hc0 hc1 hc2
  go_wp2_with fail
  refine (btw_a _).mono ?_
  rintro e w4 ⟨rfl, hb4⟩
  go_wp2_with fail
  refine (bhd_a _).mono ?_
  rintro e w5 ⟨rfl, hb5⟩
  go_wp2_with fail
  go_ret
  exact ⟨rfl, ((HB1.out.trans (HB3.out.mono hsz)).trans (hb4.mono (Nat.le_trans hsz HB3.out.size))).trans (hb5.mono (Nat.le_trans (Nat.le_trans hsz HB3.out.size) hb4.size))⟩
end Go.Proofs.Ytleojljcidocjaa
