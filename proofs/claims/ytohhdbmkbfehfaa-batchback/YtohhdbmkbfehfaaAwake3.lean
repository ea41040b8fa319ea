/- The contract of the third layer's own awake: it returns true and leaves memory as it was. -/
import Derived.Test.YtohhdbmkbfehfaaBEnc
import Derived.Test.YtohhdbmkbfehfaaBDec
import Derived.Test.YtohhdbmkbfehfaaSame
namespace Go.Proofs.Ytohhdbmkbfehfaa
open Go.RowKit
def op_a : Opn := ⟨1, ⟨#[107]⟩, ⟨#[118]⟩⟩
theorem chk_a : bchk 7 [op_a] = 0 := by decide
theorem enc_a3 : bEnc 7 [op_a] = [7, 0, 0, 0, 0, 0, 0, 0, 1, 0, 0, 0, 1, 1, 107, 1, 118] := by rw [bEnc_yes chk_a]; decide
theorem dec_a3 : bDec [7, 0, 0, 0, 0, 0, 0, 0, 1, 0, 0, 0, 1, 1, 107, 1, 118] = (7, [op_a], 0) := by rw [← enc_a3]; exact bDec_enc chk_a
set_option maxRecDepth 100000 in
set_option maxHeartbeats 1000000 in
theorem awake_any (w : World) : Calls Try.prog 9 #[] w fun e w' => e = .returned (.bool true) ∧ Below w.heap.size w w' := by
  go_enter Try.func9, Try.ntmps9
  go_wp2_with fail
  have HO : Hid (OpsAt (w.alloc (.cells #[.int .i64 1, .string ⟨#[107]⟩, .string ⟨#[118]⟩] 39)) (some ⟨w.heap.size, 0, none⟩) 1 1 [op_a]) := OpsAt.one
  have HE := bencode_any 7 (some ⟨w.heap.size, 0, none⟩) 1 1 [op_a] _ (by omega) HO.out
  rw [chk_a, enc_a3] at HE
  refine HE.mono ?_
  clear HE
  rintro e w1 ⟨a1, c1, rfl, hb, hb1⟩
  have HB1 : Hid (Below w.heap.size w w1) := ((Below.refl _ w).alloc (Nat.le_refl _) _).trans (hb1.mono (by simp))
  have HO1 : Hid (OpsAt w1 (some ⟨w.heap.size, 0, none⟩) 1 1 [op_a]) := HO.out.below (Nat.le_refl _) hb1
  have HX : Hid (BsAt w1 a1 17 c1 [7, 0, 0, 0, 0, 0, 0, 0, 1, 0, 0, 0, 1, 1, 107, 1, 118]) := hb
  obtain ⟨g, off, rfl, hc⟩ := hb.here (by decide)
  have c0 := hc 0 (by decide)
  have c8 := hc 8 (by decide)
  have c16 := hc 16 (by decide)
  have hgl : g < w1.heap.size := World.block_lt_of_cell? w1 _ c0
  clear hb hb1 hc
  go_wp2_with fail
  have HD := bdecode_any _ _ _ _ _ HX.out
  rw [dec_a3] at HD
  refine HD.mono ?_
  clear HD
  rintro e w2 ⟨a2, n2, c2, rfl, ho2, _, hb2⟩
  have HB2 : Hid (Below w.heap.size w w2) := HB1.out.trans (hb2.mono HB1.out.size)
  have HO2 : Hid (OpsAt w2 a2 n2 c2 [op_a]) := ho2
  have HP2 : Hid (OpsAt w2 (some ⟨w.heap.size, 0, none⟩) 1 1 [op_a]) := HO1.out.below (Nat.le_refl _) hb2
  have c0' : w2.cell? ⟨g, off, none⟩ = some (.int .u8 7) := by rw [hb2.cell hgl]; exact c0
  have c8' : w2.cell? ⟨g, off + 8, none⟩ = some (.int .u8 1) := by rw [hb2.cell hgl]; exact c8
  have c16' : w2.cell? ⟨g, off + 16, none⟩ = some (.int .u8 118) := by rw [hb2.cell hgl]; exact c16
  have hgl2 : g < w2.heap.size := Nat.lt_of_lt_of_le hgl hb2.size
  clear c0 c8 c16 ho2 hb2
  go_wp2_with fail
  have HS := same_any _ _ _ _ _ _ _ _ _ HO2.out HP2.out
  rw [show opsEq [op_a] [op_a] = true from (opsEq_iff _ _).2 rfl] at HS
  refine HS.mono ?_
  clear HS
  rintro e w3 ⟨rfl, hb3⟩
  have HB3 : Hid (Below w.heap.size w w3) := HB2.out.trans (hb3.mono HB2.out.size)
  have c0 : w3.cell? ⟨g, off, none⟩ = some (.int .u8 7) := by rw [hb3.cell hgl2]; exact c0'
  have c8 : w3.cell? ⟨g, off + 8, none⟩ = some (.int .u8 1) := by rw [hb3.cell hgl2]; exact c8'
  have c16 : w3.cell? ⟨g, off + 16, none⟩ = some (.int .u8 118) := by rw [hb3.cell hgl2]; exact c16'
  clear hb3 c0' c8' c16'
  go_wp2_with fail
  go_ret
  exact ⟨rfl, HB3.out⟩
end Go.Proofs.Ytohhdbmkbfehfaa
