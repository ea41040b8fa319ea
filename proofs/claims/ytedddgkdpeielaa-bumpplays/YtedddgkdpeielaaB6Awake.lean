/- bump is awake: the calls whose answers the document fixes. -/
import Derived.Test.YtedddgkdpeielaaB6New
namespace Go.Proofs.Ytedddgkdpeielaa
open Go.RowKit
abbrev b20 : List UInt8 := List.replicate 20 0
theorem aw1 : (PA.new 20).alloc 5 = (0, 0, ⟨5, b20, []⟩) := rfl
theorem aw2 : (⟨5, b20, []⟩ : PA).cell = (0, 0, ⟨13, b20, [0]⟩) := rfl
theorem aw3 : (⟨13, b20, [0]⟩ : PA).alloc 8 = (0, 60, ⟨13, b20, [0]⟩) := rfl
theorem aw4 : (⟨13, b20, [0]⟩ : PA).alloc 7 = (13, 0, ⟨20, b20, [0]⟩) := rfl
theorem aw5 : (⟨20, b20, [0]⟩ : PA).cas 0 0 7 = (true, 0, ⟨20, b20, [7]⟩) := rfl
theorem in64_lit {n : Int} (h : -9223372036854775808 ≤ n ∧ n ≤ 9223372036854775807) : in64 n := h
set_option maxRecDepth 100000 in
theorem awake_any (w : World) : Calls Try.prog 8 #[] w fun e w' => e = .returned (.bool true) ∧ Below w.heap.size w w' := by
  go_enter Try.func8, Try.ntmps8
  go_wp2_with fail
  refine (new_at 20 (by omega)).mono ?_
  rintro _ w1 ⟨rfl, h1, hb, hz⟩
  have HB : Hid (Below w.heap.size w w1 ∧ w1.heap.size = w.heap.size + 1) := ⟨hb, hz⟩
  clear hb hz
  go_wp2_with fail
  refine (alloc_at h1 5 (in64_lit (by omega))).mono ?_
  rintro _ w2 ⟨rfl, h2, c2⟩
  rw [aw1] at h2 ⊢
  go_wp2_with fail
  refine (cell_at h2).mono ?_
  rintro _ w3 ⟨rfl, h3, c3⟩
  rw [aw2] at h3 ⊢
  go_wp2_with fail
  refine (alloc_at h3 8 (in64_lit (by omega))).mono ?_
  rintro _ w4 ⟨rfl, h4, c4⟩
  rw [aw3] at h4 ⊢
  go_wp2_with fail
  refine (alloc_at h4 7 (in64_lit (by omega))).mono ?_
  rintro _ w5 ⟨rfl, h5, c5⟩
  rw [aw4] at h5 ⊢
  go_wp2_with fail
  refine (cas_at h5 0 0 7 (in64_lit (by omega))).mono ?_
  rintro _ w6 ⟨rfl, h6, c6⟩
  rw [aw5] at h6 ⊢
  go_wp2_with fail
  refine (used_at h6).mono ?_
  rintro _ w7 ⟨rfl, rfl⟩
  go_wp2
  go_returns
  refine ⟨rfl, ?_⟩
  obtain ⟨hb, hz⟩ := HB.out
  have hc : Chg (On w.heap.size) w1 w7 := (((c2.andThen c3 (fun _ _ h => h)).andThen c4 (fun _ _ h => h)).andThen c5 (fun _ _ h => h)).andThen c6 (fun _ _ h => h)
  exact hb.trans (hc.below (fun k hk => Nat.le_of_eq hk.symm) (by omega))
end Go.Proofs.Ytedddgkdpeielaa
