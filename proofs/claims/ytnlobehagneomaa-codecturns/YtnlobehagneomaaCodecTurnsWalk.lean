/- staddlelaw01.CodecTurns returns true at any bytes and any place, and leaves memory as it was. -/
import Derived.Test.YtnlobehagneomaaAwake
import Derived.Test.YtnlobehagneomaaArgs
import Derived.Test.YtnlobehagneomaaPlainTurn
namespace Go.Proofs.Ytnlobehagneomaa
open Go.RowKit
theorem turn_all : ∀ (c : Fin 256) (s : Fin 8), bits .xor .u8 ((c.val : Nat) : Int) (2 ^ s.val % 256) = (((c.val ^^^ 2 ^ s.val : Nat)) : Int) ∧ c.val ^^^ 2 ^ s.val < 256 ∧ c.val ^^^ 2 ^ s.val ≠ c.val := by decide +kernel
theorem turn_byte (c s : Nat) (hc : c < 256) (hs : s < 8) : ∃ x : UInt8, bits .xor .u8 (c : Int) (2 ^ s % 256) = (x.toNat : Int) ∧ x.toNat ≠ c := by
  obtain ⟨h1, h2, h3⟩ := turn_all ⟨c, hc⟩ ⟨s, hs⟩
  simp only at h1 h2 h3
  generalize c ^^^ 2 ^ s = y at h1 h2 h3
  have e : (UInt8.ofNat y).toNat = y := by simp; omega
  exact ⟨UInt8.ofNat y, by rw [e]; exact h1, by rw [e]; exact h3⟩
set_option maxRecDepth 100000 in
set_option maxHeartbeats 1000000 in
theorem codecTurns_walk (a0 : Option Addr) (len0 cap0 : Nat) (b0 : List UInt8) (a1 : Int) (w : World) (w0 : BsAt w a0 len0 cap0 b0) (e0 : cap0 ≤ 140737488351232) (w1 : (Lit.int .i64 a1).wf = true) :
    Calls Try.prog 8 #[.slice a0 len0 cap0, .int .i64 a1] w fun e w' => e = .returned (.bool true) ∧ Below w.heap.size w w' := by
  have hle := w0.le
  have hr : -9223372036854775808 ≤ a1 ∧ a1 ≤ 9223372036854775807 := by
    simp [Lit.wf, IntKind.min, IntKind.max, IntKind.bits, IntKind.signed] at w1
    omega
  clear w1
  by_cases hz : len0 = 0
  · subst hz
    go_enter Try.func8, Try.ntmps8
    go_wp2_with (go_at_call 9; refine (awake_any _).mono ?_; rintro e w1 ⟨rfl, hb1⟩)
    all_goals go_ret
    all_goals exact ⟨rfl, hb1⟩
  · have hz' : ((len0 : Int) == 0) = false := by simp; omega
    obtain ⟨m, hm, hcase⟩ : ∃ m : Nat, m < 9223372036854775808 ∧ (a1 = -(m : Int) - 1 ∨ a1 = (m : Int)) := by
      by_cases hneg : a1 < 0
      · exact ⟨(-(a1 + 1)).toNat, by omega, .inl (by omega)⟩
      · exact ⟨a1.toNat, by omega, .inr (by omega)⟩
    obtain ⟨j, s, hj, hs, hmr, hq, hrm⟩ : ∃ j s : Nat, j < len0 ∧ s < 8 ∧ (m : Int) % (8 * (len0 : Int)) = ((8 * j + s : Nat) : Int) ∧ ((8 * j + s : Nat) : Int) / 8 = (j : Int) ∧ ((8 * j + s : Nat) : Int) % 8 = (s : Int) := by
      have h1 : m % (8 * len0) < 8 * len0 := Nat.mod_lt _ (by omega)
      refine ⟨m % (8 * len0) / 8, m % (8 * len0) % 8, by omega, by omega, ?_, by omega, by omega⟩
      rw [Nat.div_add_mod]
      simp
    generalize hrr : 8 * j + s = r at hmr hq hrm
    clear hrr
    rcases hcase with rfl | rfl
    all_goals
      clear hr
      go_enter Try.func8, Try.ntmps8
      go_wp2_with (first
        | (go_at_call 9; refine (awake_any _).mono ?_; rintro e w1 ⟨rfl, hb1⟩)
        | (at_builtin; refine wpList_app _ rfl _ _ rfl _ _ 0 0 [] rfl (OwnB.made w1) _ _ _ b0 rfl ((w0.below (Nat.le_refl _) hb1).alloc _) (by omega) (by simp) ?_))
      intro a2 c2 w2 ho2 hb2 _
      obtain ⟨g, rfl, hBg, hg, hc⟩ := ho2.cells (by omega)
      have hcj := hc j hj
      have hfj := ho2.unfrozen j
      have hc8 : (b0.getD j 0).toNat < 256 := UInt8.toNat_lt _
      generalize hcd : (b0.getD j 0).toNat = c at hcj hc8
      have HO : Hid (OwnB w2 w1.heap.size (some ⟨g, 0, none⟩) len0 c2 b0) := ho2
      clear ho2 hc
      obtain ⟨x, hx, hxc⟩ := turn_byte c s hc8 hs
      have HW : Hid (Below w.heap.size w (w2.setCell ⟨g, j, none⟩ (.int .u8 (x.toNat : Int)))) :=
        ((hb1.alloc hb1.size _).trans (hb2.mono hb1.size)).setCell (Nat.le_trans hb1.size hBg) _
      have HX : Hid (BsAt (w2.setCell ⟨g, j, none⟩ (.int .u8 (x.toNat : Int))) (some ⟨g, 0, none⟩) len0 c2 (b0.set j x)) := by
        have := HO.out.bs.store j hj x
        rwa [Nat.zero_add] at this
      have HN : Hid (crc b0 ≠ crc (b0.set j x)) := crc_other b0 j x (by have := w0.size; omega) (fun e => hxc (by rw [← hcd, e]))
      have HB0 : Hid (BsAt w a0 len0 cap0 b0) := w0
      clear hcd w0 HO hb1 hb2
      go_wp2_with fail
      refine (crc_any _ _ _ b0 _ (HB0.out.below (Nat.le_refl _) HW.out)).mono ?_
      rintro e w3 ⟨rfl, hb3⟩
      have HB3 : Hid _ := hb3
      clear hb3
      go_wp2_with fail
      refine (crc_any _ _ _ (b0.set j x) _ (HX.out.below (Nat.le_refl _) HB3.out)).mono ?_
      rintro e w4 ⟨rfl, hb4⟩
      have hne : ((crc b0 : Int) != (crc (b0.set j x) : Int)) = true := by
        have := HN.out
        simp
        omega
      have HB4 : Hid _ := hb4
      clear hb4
      go_wp2
      go_ret
      exact ⟨rfl, (HW.out.trans (HB3.out.mono HW.out.size)).trans (HB4.out.mono (Nat.le_trans HW.out.size HB3.out.size))⟩
end Go.Proofs.Ytnlobehagneomaa
