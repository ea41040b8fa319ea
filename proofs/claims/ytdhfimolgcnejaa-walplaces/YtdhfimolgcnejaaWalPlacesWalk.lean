/- staddlelaw09.WalPlaces returns true at any place and any record, and leaves memory as it was. -/
import Derived.Test.YtdhfimolgcnejaaW9Out
import Derived.Deep.DeepCutAuto
namespace Go.Proofs.Ytdhfimolgcnejaa
open Go.RowKit
theorem put_eq (x : Int) (p : Nat) (hx : x = (p : Int)) (hp : p ≤ 9223372036854775807) (a : Option Addr) (len cap : Nat) (b out : List UInt8) (L : Nat) (ho : putP p true b = out) (hL : out.length = L) (hl : len ≤ 131072) (w : World) (h : BsAt w a len cap b) :
    Calls Try.prog 10 #[.int .i64 x, .slice a len cap] w fun e w' => ∃ a' c', e = .returned (.tuple #[.slice a' L c', .int .i64 0]) ∧ BsAt w' a' L c' out ∧ Below w.heap.size w w' := by
  subst hx ho hL
  refine (put_at p a len cap b w h hp hl).mono ?_
  rintro e w' ⟨a', c', rfl, ho, hb⟩
  exact ⟨a', c', rfl, ho.bs, hb⟩
set_option maxRecDepth 100000 in
set_option maxHeartbeats 1000000 in
theorem walPlaces_walk (a0 a1 : Int) (a2 : Option Addr) (len2 cap2 : Nat) (b2 : List UInt8) (w : World) (w0 : (Lit.int .i64 a0).wf = true) (w1 : (Lit.int .i64 a1).wf = true) (w2 : BsAt w a2 len2 cap2 b2) (_e2 : cap2 ≤ 140737488351232) :
    Calls Try.prog 8 #[.int .i64 a0, .int .i64 a1, .slice a2 len2 cap2] w fun e w' => e = .returned (.bool true) ∧ Below w.heap.size w w' := by
  have hle := w2.le
  have hr0 : -9223372036854775808 ≤ a0 ∧ a0 ≤ 9223372036854775807 := by
    simp [Lit.wf, IntKind.min, IntKind.max, IntKind.bits, IntKind.signed] at w0
    omega
  have hr1 : -9223372036854775808 ≤ a1 ∧ a1 ≤ 9223372036854775807 := by
    simp [Lit.wf, IntKind.min, IntKind.max, IntKind.bits, IntKind.signed] at w1
    omega
  clear w0 w1
  have HBS : Hid (BsAt w a2 len2 cap2 b2) := w2
  clear w2
  go_enter Try.func8, Try.ntmps8
  go_upto_if 15 with (go_at_call 9; refine (awake_any _).mono ?_; rintro e v1 ⟨rfl, hb1⟩)
  have HB1 : Hid (Below w.heap.size w v1) := hb1
  clear hb1
  go_cut [0] (fun s wc => ∃ q : Nat, s = .int .i64 q ∧ q ≤ 9223372036854775807 ∧ wc = v1)
  case first =>
    by_cases hq : a0 < 0
    · obtain ⟨q, e⟩ : ∃ q : Nat, -(a0 + 1) = (q : Int) := ⟨(-(a0 + 1)).toNat, by omega⟩
      have HE : Hid (-(a0 + 1) = (q : Int)) := e
      clear e
      go_wp2_with fail
      go_meet
      exact ⟨q, by rw [HE.out], by have := HE.out; omega, rfl⟩
    · go_wp2_with fail
      go_meet
      exact ⟨a0.toNat, by rw [show ((a0.toNat : Nat) : Int) = a0 by omega], by omega, rfl⟩
  case rest =>
    obtain ⟨q0, rfl, hq0, rfl⟩ := hcut
    clear hr0
    go_upto_if 20 with fail
    go_cut [1] (fun s wz => ∃ q : Nat, s = .int .i64 q ∧ q ≤ 9223372036854775807 ∧ wz = wc)
    case first =>
      by_cases hq : a1 < 0
      · obtain ⟨q, e⟩ : ∃ q : Nat, -(a1 + 1) = (q : Int) := ⟨(-(a1 + 1)).toNat, by omega⟩
        have HE : Hid (-(a1 + 1) = (q : Int)) := e
        clear e
        go_wp2_with fail
        go_meet
        exact ⟨q, by rw [HE.out], by have := HE.out; omega, rfl⟩
      · go_wp2_with fail
        go_meet
        exact ⟨a1.toNat, by rw [show ((a1.toNat : Nat) : Int) = a1 by omega], by omega, rfl⟩
    case rest =>
      obtain ⟨q1, rfl, hq1, rfl⟩ := hcut
      clear hr1
      go_upto_if 28 with fail
      go_cut [2] (fun s wy => ∃ (ar : Option Addr) (lr cr : Nat) (r : List UInt8), s = .slice ar lr cr ∧ lr ≤ 100000 ∧ Hid (BsAt w ar lr cr r) ∧ wy = wc)
      case first =>
        by_cases hg : 100000 < len2
        · obtain ⟨at1, hs1, hs1'⟩ := slice_to HBS.out 100000 (by omega)
          have hs1 : ∀ W : World, (Instr.slice 23 (.slice a2 len2 cap2) none (some (.int .i64 100000)) none).run Try.prog W = .ok (.slice at1 100000 cap2) W := hs1
          have HS : Hid (BsAt w at1 100000 cap2 (b2.take 100000)) := hs1' _ _ HBS.out
          clear hs1'
          go_wp2_with fail
          go_meet
          exact ⟨at1, 100000, cap2, _, rfl, Nat.le_refl _, HS.out, rfl⟩
        · go_wp2_with fail
          go_meet
          exact ⟨a2, len2, cap2, b2, rfl, by omega, HBS.out, rfl⟩
      case rest =>
        obtain ⟨ar, lr, cr, r, rfl, hlr, HR, rfl⟩ := hcut
        obtain ⟨p, HP⟩ : ∃ p : Nat, Hid (p = q0 % 100000) := ⟨_, rfl⟩
        obtain ⟨out, HO⟩ : ∃ out, Hid (putP p true r = out) := ⟨_, rfl⟩
        obtain ⟨L, HL⟩ : ∃ L, Hid (out.length = L) := ⟨_, rfl⟩
        have h1 : lr + 7 ≤ L := by
          have := put_long p true r
          rw [HO.out, HL.out, HR.out.size] at this
          simpa using this
        have h2 : L ≤ lr + 7 * (lr / 121 + 2) + 6 := by
          have := put_short p r
          rw [HO.out, HL.out, HR.out.size] at this
          exact this
        go_wp2_with fail
        refine (put_eq _ p (by have := HP.out; omega) (by have := HP.out; omega) ar lr cr r out L HO.out HL.out (by omega) _ (HR.out.below (Nat.le_refl _) HB1.out)).mono ?_
        rintro e v3 ⟨a3, c3, rfl, hb3, hbel3⟩
        have HB3 : Hid (Below w.heap.size w v3) := HB1.out.trans (hbel3.mono HB1.out.size)
        have HO3 : Hid (BsAt v3 a3 L c3 out) := hb3
        clear hb3 hbel3
        go_wp2_with fail
        refine (put_eq _ (p + 128 * (q1 % 1000)) (by have := HP.out; omega) (by have := HP.out; omega) ar lr cr r out L (by rw [← HO.out]; exact (put_mod _ _ _ _ (by omega))) HL.out (by omega) _ (HR.out.below (Nat.le_refl _) HB3.out)).mono ?_
        rintro e v4 ⟨a4, c4, rfl, hb4, hbel4⟩
        have s1 := conv_of (HO3.out.below (Nat.le_refl _) hbel4)
        have s2 := conv_of hb4
        have HB4 : Hid (Below w.heap.size w v4) := HB3.out.trans (hbel4.mono HB3.out.size)
        clear hb4 hbel4
        go_wp2
        go_ret
        exact ⟨ret1 (by simp; omega), HB4.out⟩
end Go.Proofs.Ytdhfimolgcnejaa
