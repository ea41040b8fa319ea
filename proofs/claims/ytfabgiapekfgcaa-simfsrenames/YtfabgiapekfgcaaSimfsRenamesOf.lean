/- staddlelaw04.SimfsRenames returns true, for every argument, and leaves memory as it was: out of what simfs promises. -/
import Derived.Test.YtfabgiapekfgcaaAwake4
import Derived.Test.YtfabgiapekfgcaaRenPlain
namespace Go.Proofs.Ytfabgiapekfgcaa
open Go.RowKit
set_option maxRecDepth 100000 in
set_option maxHeartbeats 2000000 in
theorem simfsRenames_of {J : Face} (h : FsOk J) (a0 : Option Addr) (len0 cap0 : Nat) (b0 : List UInt8) (a1 : Option Addr) (len1 cap1 : Nat) (b1 : List UInt8) (a2 : Option Addr) (len2 cap2 : Nat) (b2 : List Int) (w : World) (w0 : BsAt w a0 len0 cap0 b0) (w1 : BsAt w a1 len1 cap1 b1) (w2 : IsAt w a2 len2 cap2 b2) :
    Calls Try.prog 6 #[.slice a0 len0 cap0, .slice a1 len1 cap1, .slice a2 len2 cap2] w fun e w' => e = .returned (.bool true) ∧ Below w.heap.size w w' := by
  have HH : Hid (FsOk J) := h
  have H0 : Hid (BsAt w a0 len0 cap0 b0) := w0
  have H1 : Hid (BsAt w a1 len1 cap1 b1) := w1
  have H2 : Hid (IsAt w a2 len2 cap2 b2) := w2
  have HL0 : Hid (b0.length = len0) := w0.size
  have HL1 : Hid (b1.length = len1) := w1.size
  have hc0 := w0.max
  have hl0 := w0.le
  have hc1 := w1.max
  have hl1 := w1.le
  unfold maxLen at hc0 hc1
  clear h w0 w1 w2
  by_cases hbig : 1000 < len0 ∨ 1000 < len1
  · go_enter Try.func6, Try.ntmps6
    go_wp2_with fail
    refine (awake_any HH.out _).mono ?_
    rintro e v1 ⟨rfl, hb1⟩
    have HB1 : Hid (Below w.heap.size w v1) := hb1
    have HJ1 : Hid (J v1 (fun k => k < w.heap.size) [] []) := HH.out.less (HH.out.zero v1) (fun _ hk => Nat.lt_of_lt_of_le hk hb1.size)
    clear hb1
    go_wp2_with fail
    refine (HH.out.new 1048576 (by omega) HJ1.out).mono ?_
    rintro e v2 (⟨_, p, rfl, hj, hk⟩ | ⟨hn, _⟩)
    · have HB2 : Hid (Below w.heap.size w v2) := HB1.out.trans (hk.below (fun _ h => h) HB1.out.size)
      clear hj hk
      by_cases hb : 1000 < len0
      · have hb' : decide ((1000 : Int) < (len0 : Int)) = true := by simp; omega
        go_wp2_with fail
        go_ret
        exact ⟨rfl, HB2.out⟩
      · have hb' : decide ((1000 : Int) < (len0 : Int)) = false := by simp; omega
        have hb'' : decide ((1000 : Int) < (len1 : Int)) = true := by simp; omega
        go_wp2_with fail
        go_ret
        exact ⟨rfl, HB2.out⟩
    · exact absurd ⟨by omega, by omega⟩ hn
  · have hs0 : len0 ≤ 1000 := by omega
    have hs1 : len1 ≤ 1000 := by omega
    have E1 : Hid (rn1.append nNow b0 = (rn2 b0, 0)) := rn1_e b0 (by rw [HL0.out]; exact hs0)
    have E5 : Hid ((rn5 b0).append nNext b1 = (rn6 b0 b1, 0)) := rn5_e b0 b1 (by rw [HL0.out]; exact hs0) (by rw [HL1.out]; exact hs1)
    go_enter Try.func6, Try.ntmps6
    go_wp2_with fail
    refine (awake_any HH.out _).mono ?_
    rintro e v1 ⟨rfl, hb1⟩
    have HB1 : Hid (Below w.heap.size w v1) := hb1
    have HJ1 : Hid (J v1 (fun k => k < w.heap.size) [] []) := HH.out.less (HH.out.zero v1) (fun _ hk => Nat.lt_of_lt_of_le hk hb1.size)
    clear hb1
    go_wp2_with fail
    refine (HH.out.new 1048576 (by omega) HJ1.out).mono ?_
    rintro e v2 (⟨_, p, rfl, hj, hk⟩ | ⟨hn, _⟩)
    · have HB2 : Hid (Below w.heap.size w v2) := HB1.out.trans (hk.below (fun _ h => h) HB1.out.size)
      have HJ2 : Hid (J v2 (fun k => k < w.heap.size) [(p, rn0)] []) := hj
      clear hj hk
      go_wp2_with fail
      refine (HH.out.create 0 _ HJ2.out rfl (by decide)).mono ?_
      rw [show rn0.create (⟨#[110, 111, 119]⟩ : ByteArray).data.toList = (rn1, 0) from rn0_e]
      rintro e v3 ⟨rfl, hj, hk⟩
      have HJ3 : Hid (J v3 (fun k => k < w.heap.size) [(p, rn1)] []) := hj
      have HB3 : Hid (Below w.heap.size w v3) := HB2.out.trans (hk.below (fun _ h => h) HB2.out.size)
      clear hj hk HJ2 HB2
      go_wp2_with fail
      refine (HH.out.append 0 _ _ _ _ b0 HJ3.out rfl (show 1 < 1000000 by decide) (H0.out.below (Nat.le_refl _) HB3.out) (by omega)).mono ?_
      rw [show rn1.append (⟨#[110, 111, 119]⟩ : ByteArray).data.toList b0 = (rn2 b0, 0) from E1.out]
      rintro e v4 ⟨rfl, hj, hk⟩
      have HJ4 : Hid (J v4 (fun k => k < w.heap.size) [(p, rn2 b0)] []) := hj
      have HB4 : Hid (Below w.heap.size w v4) := HB3.out.trans (hk.below (fun _ h => h) HB3.out.size)
      clear hj hk HJ3 HB3
      go_wp2_with fail
      refine (HH.out.sync 0 _ HJ4.out rfl (show 2 < 1000000 by decide)).mono ?_
      rw [show (rn2 b0).sync (⟨#[110, 111, 119]⟩ : ByteArray).data.toList = (rn3 b0, 0) from rn2_e b0]
      rintro e v5 ⟨rfl, hj, hk⟩
      have HJ5 : Hid (J v5 (fun k => k < w.heap.size) [(p, rn3 b0)] []) := hj
      have HB5 : Hid (Below w.heap.size w v5) := HB4.out.trans (hk.below (fun _ h => h) HB4.out.size)
      clear hj hk HJ4 HB4
      go_wp2_with fail
      refine (HH.out.syncDir 0 HJ5.out rfl (show 3 < 1000000 by decide)).mono ?_
      rw [show (rn3 b0).syncDir = (rn4 b0, 0) from rn3_e b0]
      rintro e v6 ⟨rfl, hj, hk⟩
      have HJ6 : Hid (J v6 (fun k => k < w.heap.size) [(p, rn4 b0)] []) := hj
      have HB6 : Hid (Below w.heap.size w v6) := HB5.out.trans (hk.below (fun _ h => h) HB5.out.size)
      clear hj hk HJ5 HB5
      go_wp2_with fail
      refine (HH.out.create 0 _ HJ6.out rfl (show 4 < 1000000 by decide)).mono ?_
      rw [show (rn4 b0).create (⟨#[110, 101, 120, 116]⟩ : ByteArray).data.toList = (rn5 b0, 0) from rn4_e b0]
      rintro e v7 ⟨rfl, hj, hk⟩
      have HJ7 : Hid (J v7 (fun k => k < w.heap.size) [(p, rn5 b0)] []) := hj
      have HB7 : Hid (Below w.heap.size w v7) := HB6.out.trans (hk.below (fun _ h => h) HB6.out.size)
      clear hj hk HJ6 HB6
      go_wp2_with fail
      refine (HH.out.append 0 _ _ _ _ b1 HJ7.out rfl (show 5 < 1000000 by decide) (H1.out.below (Nat.le_refl _) HB7.out) (by omega)).mono ?_
      rw [show (rn5 b0).append (⟨#[110, 101, 120, 116]⟩ : ByteArray).data.toList b1 = (rn6 b0 b1, 0) from E5.out]
      rintro e v8 ⟨rfl, hj, hk⟩
      have HJ8 : Hid (J v8 (fun k => k < w.heap.size) [(p, rn6 b0 b1)] []) := hj
      have HB8 : Hid (Below w.heap.size w v8) := HB7.out.trans (hk.below (fun _ h => h) HB7.out.size)
      clear hj hk HJ7 HB7
      go_wp2_with fail
      refine (HH.out.sync 0 _ HJ8.out rfl (show 6 < 1000000 by decide)).mono ?_
      rw [show (rn6 b0 b1).sync (⟨#[110, 101, 120, 116]⟩ : ByteArray).data.toList = (rn7 b0 b1, 0) from rn6_e b0 b1]
      rintro e v9 ⟨rfl, hj, hk⟩
      have HJ9 : Hid (J v9 (fun k => k < w.heap.size) [(p, rn7 b0 b1)] []) := hj
      have HB9 : Hid (Below w.heap.size w v9) := HB8.out.trans (hk.below (fun _ h => h) HB8.out.size)
      clear hj hk HJ8 HB8
      go_wp2_with fail
      refine (HH.out.rename 0 _ _ HJ9.out rfl (show 7 < 1000000 by decide)).mono ?_
      rw [show (rn7 b0 b1).rename (⟨#[110, 101, 120, 116]⟩ : ByteArray).data.toList (⟨#[110, 111, 119]⟩ : ByteArray).data.toList = (rn8 b0 b1, 0) from rn7_e b0 b1]
      rintro e v10 ⟨rfl, hj, hk⟩
      have HJ10 : Hid (J v10 (fun k => k < w.heap.size) [(p, rn8 b0 b1)] []) := hj
      have HB10 : Hid (Below w.heap.size w v10) := HB9.out.trans (hk.below (fun _ h => h) HB9.out.size)
      clear hj hk HJ9 HB9
      go_wp2_with fail
      refine (HH.out.crash 0 _ _ _ b2 HJ10.out rfl (H2.out.below (Nat.le_refl _) HB10.out) (fun h ad e => H2.out.old h ad e)).mono ?_
      rintro e v11 ⟨rfl, hj, hk⟩
      have HJ11 : Hid (J v11 (fun k => k < w.heap.size) [(p, (rn8 b0 b1).crash b2)] []) := hj
      have HB11 : Hid (Below w.heap.size w v11) := HB10.out.trans (hk.below (fun _ h => h) HB10.out.size)
      clear hj hk HJ10 HB10
      go_wp2_with fail
      have HR := HH.out.read 0 (⟨#[110, 111, 119]⟩ : ByteArray) HJ11.out rfl
      rcases rn8_e b0 b1 b2 with hx | hx
      · rw [show ((rn8 b0 b1).crash b2).read (⟨#[110, 111, 119]⟩ : ByteArray).data.toList = (b0, 0) from hx] at HR
        simp only [HL0.out] at HR
        refine HR.mono ?_
        clear HR hx
        rintro e v20 ⟨a20, c20, rfl, hx, _, hk⟩
        have HB20 : Hid (Below w.heap.size w v20) := HB11.out.trans (hk.below (fun _ h => h) HB11.out.size)
        have hc20 := conv_of hx.bs
        have hcA := conv_of (H0.out.below (Nat.le_refl _) HB20.out)
        clear hx hk
        go_wp2_with fail
        go_ret
        exact ⟨rfl, HB20.out⟩
      · rw [show ((rn8 b0 b1).crash b2).read (⟨#[110, 111, 119]⟩ : ByteArray).data.toList = (b1, 0) from hx] at HR
        simp only [HL1.out] at HR
        refine HR.mono ?_
        clear HR hx
        rintro e v20 ⟨a20, c20, rfl, hx, _, hk⟩
        have HB20 : Hid (Below w.heap.size w v20) := HB11.out.trans (hk.below (fun _ h => h) HB11.out.size)
        have hc20 := conv_of hx.bs
        have hcA := conv_of (H0.out.below (Nat.le_refl _) HB20.out)
        have hcB := conv_of (H1.out.below (Nat.le_refl _) HB20.out)
        clear hx hk
        go_wp2_with fail
        all_goals (try go_wp2_with fail)
        all_goals go_ret
        all_goals exact ⟨rfl, HB20.out⟩
    · exact absurd ⟨by omega, by omega⟩ hn
end Go.Proofs.Ytfabgiapekfgcaa
