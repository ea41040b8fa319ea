/- staddlelaw04.awake returns true. -/
import Derived.Test.YtkelahekfkhcfaaFsFace
namespace Go.Proofs.Ytkelahekfkhcfaa
open Go.RowKit
def aw0 : PFs := PFs.new 100
def aw1 : PFs := (aw0.create [97]).1
def aw2 : PFs := (aw1.append [97] [120, 121]).1
def aw3 : PFs := (aw2.sync [97]).1
def aw4 : PFs := (aw3.append [97] [122]).1
def aw5 : PFs := aw4.crash [1, 0]
def aw6 : PFs := aw4.crash [0]
theorem aw0_e : (aw0.create [97]).2 = 0 := rfl
theorem aw1_e : (aw1.append [97] [120, 121]).2 = 0 := rfl
theorem aw2_e : (aw2.sync [97]).2 = 0 := rfl
theorem aw3_e : (aw3.append [97] [122]).2 = 0 := rfl
theorem aw5_r : aw5.read [97] = ([120, 121], 0) := rfl
theorem aw6_r : aw6.read [97] = ([], 42) := rfl
theorem aw_n : aw0.asked = 0 ∧ aw1.asked = 1 ∧ aw2.asked = 2 ∧ aw3.asked = 3 ∧ aw5.asked = 4 := ⟨rfl, rfl, rfl, rfl, rfl⟩
set_option maxRecDepth 100000 in
set_option maxHeartbeats 1000000 in
theorem awake_any {J : Face} (h : FsOk J) (w : World) : Calls Try.prog 9 #[] w fun e w' => e = .returned (.bool true) ∧ Below w.heap.size w w' := by
  obtain ⟨n0, n1, n2, n3, n5⟩ := aw_n
  have N0 : Hid (aw0.asked < 1000000) := by unfold Hid; omega
  have N1 : Hid (aw1.asked < 1000000) := by unfold Hid; omega
  have N2 : Hid (aw2.asked < 1000000) := by unfold Hid; omega
  have N3 : Hid (aw3.asked < 1000000) := by unfold Hid; omega
  have N5 : Hid (aw5.asked = 4) := n5
  clear n0 n1 n2 n3 n5
  have HH : Hid (FsOk J) := h
  clear h
  have HJ : Hid (J w (fun k => k < w.heap.size) [] []) := HH.out.zero w
  go_enter Try.func9, Try.ntmps9
  go_wp2_with fail
  refine (HH.out.new 100 (by omega) HJ.out).mono ?_
  rintro e w1 (⟨_, p, rfl, hj, hk⟩ | ⟨hn, _⟩)
  · have HJ1 : Hid (J w1 (fun k => k < w.heap.size) [(p, aw0)] []) := hj
    have HB : Hid (Below w.heap.size w w1) := hk.below (fun _ h => h) (Nat.le_refl _)
    clear hj hk HJ
    go_wp2_with fail
    refine (HH.out.create 0 _ HJ1.out rfl N0.out).mono ?_
    rw [show (aw0.create (⟨#[97]⟩ : ByteArray).data.toList).2 = 0 from rfl]
    rintro e w2 ⟨rfl, hj, hk⟩
    have HJ2 : Hid (J w2 (fun k => k < w.heap.size) [(p, aw1)] []) := hj
    have HB2 : Hid (Below w.heap.size w w2) := HB.out.trans (hk.below (fun _ h => h) HB.out.size)
    clear hj hk HJ1 HB
    have hcv := run_conv_lit
    go_wp2_with fail
    refine (HH.out.append 0 _ _ 2 2 [120, 121] (HH.out.step HJ2.out ((Below.refl _ _).alloc (Nat.le_refl _) _)) rfl N1.out (BsAt.lit _ _ _ _ _ 2 rfl rfl (by decide)) (by omega)).mono ?_
    rw [show (aw1.append (⟨#[97]⟩ : ByteArray).data.toList [120, 121]).2 = 0 from rfl]
    rintro e w3 ⟨rfl, hj, hk⟩
    have HJ3 : Hid (J w3 (fun k => k < w.heap.size) [(p, aw2)] []) := hj
    have HB3 : Hid (Below w.heap.size w w3) := (HB2.out.alloc HB2.out.size _).trans (hk.below (fun _ h => h) (by have := HB2.out.size; simp; omega))
    clear hj hk HJ2 HB2
    go_wp2_with fail
    refine (HH.out.sync 0 _ HJ3.out rfl N2.out).mono ?_
    rw [show (aw2.sync (⟨#[97]⟩ : ByteArray).data.toList).2 = 0 from rfl]
    rintro e w4 ⟨rfl, hj, hk⟩
    have HJ4 : Hid (J w4 (fun k => k < w.heap.size) [(p, aw3)] []) := hj
    have HB4 : Hid (Below w.heap.size w w4) := HB3.out.trans (hk.below (fun _ h => h) HB3.out.size)
    clear hj hk HJ3 HB3
    go_wp2_with fail
    refine (HH.out.append 0 _ _ 1 1 [122] (HH.out.step HJ4.out ((Below.refl _ _).alloc (Nat.le_refl _) _)) rfl N3.out (BsAt.lit _ _ _ _ _ 1 rfl rfl (by decide)) (by omega)).mono ?_
    rintro e w5 ⟨rfl, hj, hk⟩
    have HJ5 : Hid (J w5 (fun k => k < w.heap.size) [(p, aw4)] []) := hj
    have HB5 : Hid (Below w.heap.size w w5) := (HB4.out.alloc HB4.out.size _).trans (hk.below (fun _ h => h) (by have := HB4.out.size; simp; omega))
    clear hj hk HJ4 HB4
    go_wp2_with fail
    refine (HH.out.copy 0 HJ5.out rfl).mono ?_
    rintro e w6 ⟨q, rfl, hj, hk⟩
    have HJ6 : Hid (J w6 (fun k => k < w.heap.size) [(p, aw4), (q, aw4)] []) := hj
    have HB6 : Hid (Below w.heap.size w w6) := HB5.out.trans (hk.below (fun _ h => h) HB5.out.size)
    clear hj hk HJ5 HB5
    go_wp2_with fail
    refine (HH.out.crash 0 _ 2 2 [1, 0] (HH.out.turn HJ6.out (Chg.of ((Below.refl _ _).alloc (Nat.le_refl _) _))) rfl (IsAt.litAt _ _ _ _ [1, 0] 2 _ rfl rfl rfl (by decide) (by decide)) (fun _ ad e => by cases e; exact .inr ⟨Nat.le_refl _, by simp⟩)).mono ?_
    rintro e w7 ⟨rfl, hj, hk⟩
    have HJ7 : Hid (J w7 (fun k => k < w.heap.size) [(p, aw5), (q, aw4)] []) := HH.out.less hj (fun _ h => .inl h)
    have HB7 : Hid (Below w.heap.size w w7) := (HB6.out.alloc HB6.out.size _).trans (hk.below (fun _ h => .inl h) (by have := HB6.out.size; simp; omega))
    clear hj hk HJ6 HB6
    go_wp2_with fail
    refine (HH.out.read 0 _ HJ7.out rfl).mono ?_
    rw [show aw5.read (⟨#[97]⟩ : ByteArray).data.toList = ([120, 121], 0) from rfl]
    rintro e w8 ⟨a8, c8, rfl, hx, hj, hk⟩
    have HX8 : Hid (OwnB w8 w7.heap.size a8 2 c8 [120, 121]) := hx
    have HJ8 : Hid (J w8 (fun k => k < w.heap.size ∨ (Value.slice a8 2 c8).ownBlock = some k) [(p, aw5), (q, aw4)] []) := hj
    have HB8 : Hid (Below w.heap.size w w8) := HB7.out.trans (hk.below (fun _ h => h) HB7.out.size)
    clear hx hj hk HJ7 HB7
    go_wp2_with fail
    refine (HH.out.crash 1 _ 1 1 [0] (HH.out.turn HJ8.out (Chg.of ((Below.refl _ _).alloc (Nat.le_refl _) _))) rfl (IsAt.litAt _ _ _ _ [0] 1 _ rfl rfl rfl (by decide) (by decide)) (fun _ ad e => by cases e; exact .inr ⟨Nat.le_refl _, by simp⟩)).mono ?_
    rintro e w9 ⟨rfl, hj, hk⟩
    have HX9 : Hid (OwnB w9 w7.heap.size a8 2 c8 [120, 121]) := (HX8.out.alloc _).kept hk (fun _ h => .inl (.inr h))
    have HJ9 : Hid (J w9 (fun k => k < w.heap.size ∨ (Value.slice a8 2 c8).ownBlock = some k) [(p, aw5), (q, aw6)] []) := HH.out.less hj (fun _ h => .inl h)
    have HB9 : Hid (Below w.heap.size w w9) := (HB8.out.alloc HB8.out.size _).trans (hk.below (fun _ h => .inl (.inl h)) (by have := HB8.out.size; simp; omega))
    clear hj hk HJ8 HB8 HX8
    go_wp2_with fail
    refine (HH.out.read 1 _ HJ9.out rfl).mono ?_
    rw [show aw6.read (⟨#[97]⟩ : ByteArray).data.toList = ([], 42) from rfl]
    rintro e w10 ⟨a10, c10, rfl, hx, hj, hk⟩
    have HX10 : Hid (BsAt w10 a8 2 c8 [120, 121]) := (HX9.out.kept hk (fun _ h => .inr h)).bs
    have HJ10 : Hid (J w10 (fun k => k < w.heap.size) [(p, aw5), (q, aw6)] []) := HH.out.less hj (fun _ h => .inl (.inl h))
    have HB10 : Hid (Below w.heap.size w w10) := HB9.out.trans (hk.below (fun _ h => .inl h) HB9.out.size)
    clear hj hk hx HJ9 HB9 HX9
    have hc10 := conv_of HX10.out
    rw [show strOf [120, 121] = (⟨#[120, 121]⟩ : ByteArray) from rfl] at hc10
    go_wp2_with fail
    refine (HH.out.ops 0 HJ10.out rfl).mono ?_
    rw [N5.out]
    rintro e w11 ⟨rfl, hj, hk⟩
    have HB11 : Hid (Below w.heap.size w w11) := HB10.out.trans (hk.below (fun _ h => h) HB10.out.size)
    clear hj hk hc10
    go_wp2_with fail
    go_ret
    exact ⟨rfl, HB11.out⟩
  · exact absurd ⟨by omega, by omega⟩ hn
end Go.Proofs.Ytkelahekfkhcfaa
