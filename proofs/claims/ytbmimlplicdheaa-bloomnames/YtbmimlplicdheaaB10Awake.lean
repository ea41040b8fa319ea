/- Calls whose answers the document fixes: the head of all statements is true. -/
import Derived.Test.YtbmimlplicdheaaB10Build
import Derived.Test.YtbmimlplicdheaaB10May
import Derived.BigQuiet
namespace Go.Proofs.Ytbmimlplicdheaa
open Go.RowKit
theorem below_drewN {B : Nat} {w w' : World} (h : Below B w w') (d : Nat) : Below B w (w'.drewN d) := ⟨h.os, h.tape, h.output, h.size, h.block⟩
theorem StAt.none (w : World) : StAt w none 0 0 [] := ⟨rfl, Nat.le_refl _, Nat.zero_le _, fun h => absurd h (Nat.lt_irrefl _)⟩
theorem hash_empty : hashN [] = 3164544308 := by decide +kernel
theorem may_empty : mayN (buildN [] 6 8) [97] = false := by decide +kernel
theorem may_nil : mayN [] [97] = true := by decide +kernel
theorem build_empty : buildN [] 6 8 = [0, 0, 0, 0, 0, 0, 0, 0, 6] := by decide +kernel
set_option maxRecDepth 100000 in
set_option maxHeartbeats 1000000 in
theorem awake_any (w : World) : Calls Try.prog 8 #[] w fun e w' => e = .returned (.bool true) ∧ Below w.heap.size w w' := by
  have hb10 := fun W => build_yes none 0 0 4621819117588971520 [] W (StAt.none W) (by simp) (by omega) ok10.1
  rw [ok10.2.2.1, ok10.2.2.2] at hb10
  have hb0 := fun W => build_no none 0 0 0 W ok10.2.1
  have hh := fun W => hash_any ⟨#[]⟩ W (by decide)
  rw [show (⟨#[]⟩ : ByteArray).data.toList = [] from rfl, hash_empty] at hh
  have hmn := fun W => may_any none 0 0 [] ⟨#[97]⟩ W ⟨rfl, Nat.le_refl _, Nat.zero_le _, fun _ => rfl, fun h => absurd h (Nat.lt_irrefl _)⟩ (by omega) (by decide)
  rw [show (⟨#[97]⟩ : ByteArray).data.toList = [97] from rfl, may_nil] at hmn
  go_enter Try.func8, Try.ntmps8
  go_wp2_with fail
  refine (hb10 _).mono ?_
  rintro e w1 ⟨a1, c1, rfl, ho1, hb1⟩
  go_wp2_with fail
  refine (hb0 _).mono ?_
  rintro e w2 ⟨rfl, rfl⟩
  rw [show (List.map (fun s : ByteArray => s.data.toList) []) = [] from rfl, build_empty] at ho1
  have hbs := ho1.bs
  obtain ⟨g, off, rfl, hc⟩ := hbs.here (by omega)
  have HBS : Hid (BsAt w2 (some ⟨g, off, none⟩) 9 c1 [0, 0, 0, 0, 0, 0, 0, 0, 6]) := hbs
  have hcm := hbs.le
  have hcx := hbs.max
  unfold maxLen at hcx
  have HC8 : Hid (w2.cell? ⟨g, off + 8, none⟩ = some (.int .u8 6)) := hc 8 (by omega)
  have HC0 : Hid (w2.cell? ⟨g, off, none⟩ = some (.int .u8 0)) := hc 0 (by omega)
  have hgl : g < w2.heap.size := World.block_lt_of_cell? w2 _ HC0.out
  clear hc hbs ho1
  go_wp2_with fail
  refine (hh _).mono ?_
  rintro e w3 ⟨rfl, hb3⟩
  have y8 : w3.cell? ⟨g, off + 8, none⟩ = some (.int .u8 6) := by rw [hb3.cell hgl]; exact HC8.out
  have y0 : w3.cell? ⟨g, off, none⟩ = some (.int .u8 0) := by rw [hb3.cell hgl]; exact HC0.out
  have hm := may_any (some ⟨g, off, none⟩) 9 c1 _ ⟨#[97]⟩ w3 (HBS.out.below (Nat.le_refl _) hb3) (by omega) (by decide)
  rw [show (⟨#[97]⟩ : ByteArray).data.toList = [97] from rfl, ← build_empty, may_empty] at hm
  go_wp2_with fail
  refine hm.mono ?_
  rintro e w4 ⟨rfl, hb4⟩
  go_wp2_with fail
  refine (hmn _).mono ?_
  rintro e w5 ⟨rfl, hb5⟩
  go_wp2
  go_ret
  exact ⟨rfl, hb1.trans ((hb3.trans ((hb4.trans (hb5.mono hb4.size)).mono hb3.size)).mono hb1.size)⟩
end Go.Proofs.Ytbmimlplicdheaa
