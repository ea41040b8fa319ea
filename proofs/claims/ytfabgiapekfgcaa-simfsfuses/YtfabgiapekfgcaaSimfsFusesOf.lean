/- staddlelaw04.SimfsFuses returns true, for every argument, and leaves memory as it was: out of what simfs promises. -/
import Derived.Test.YtfabgiapekfgcaaAwake4
import Derived.Test.YtfabgiapekfgcaaFusePlain
import Derived.Deep.DeepCutAuto
import Derived.Laws.OwnMore
namespace Go.Proofs.Ytfabgiapekfgcaa
open Go.RowKit
theorem zeros_at (w : World) (n : Nat) (hn : n ≤ maxLen) : BsAt (w.alloc (.cells (madeCells #[.int .u8 0] n) 5)) (some ⟨w.heap.size, 0, none⟩) n n (List.replicate n 0) :=
  BsAt.lit w _ _ _ _ n (by rw [toList_madeCells_one]; simp [cellsB]) (by simp) hn
theorem make_bytes (n : Nat) (hn : n < 400) (W : World) : (Instr.makeSlice 32 (.int .i64 (n : Int)) (.int .i64 (n : Int))).run Try.prog W = .ok (.slice (some ⟨W.heap.size, 0, none⟩) n n) (W.alloc (.cells (madeCells #[.int .u8 0] n) 5)) := by
  obtain ⟨i, hi, hz0, hz1, hz2⟩ := info_parts infoU8
  have := run_make (P := Try.prog) W _ _ i (.int .u8 0) Try.underlying32 hi hz0 .i64 .i64 (n : Int) (n : Int) (by omega) (Int.le_refl _) (by rw [hz2]; omega) (by omega)
  rw [this, hz1]
  simp [Value.cells]
set_option maxRecDepth 100000 in
set_option maxHeartbeats 4000000 in
theorem simfsFuses_of {J : Face} (h : FsOk J) (a0 : Int) (a1 : Option Addr) (len1 cap1 : Nat) (b1 : List Int) (a2 : Int) (w : World) (w0 : -9223372036854775808 ≤ a0 ∧ a0 ≤ 9223372036854775807) (w1 : IsAt w a1 len1 cap1 b1) (w2 : -9223372036854775808 ≤ a2 ∧ a2 ≤ 9223372036854775807) :
    Calls Try.prog 8 #[.int .i64 a0, .slice a1 len1 cap1, .int .i64 a2] w fun e w' => e = .returned (.bool true) ∧ Below w.heap.size w w' := by
  have HH : Hid (FsOk J) := h
  have H1 : Hid (IsAt w a1 len1 cap1 b1) := w1
  have hc1 := w1.max
  have hl1 := w1.le
  obtain ⟨l0, u0⟩ := w0
  obtain ⟨l2, u2⟩ := w2
  unfold maxLen at hc1
  clear h w1
  go_enter Try.func8, Try.ntmps8
  go_wp2_with fail
  refine (awake_any HH.out _).mono ?_
  rintro e v1 ⟨rfl, hb1⟩
  have HB1 : Hid (Below w.heap.size w v1) := hb1
  have HJ1 : Hid (J v1 (fun k => k < w.heap.size) [] []) := HH.out.less (HH.out.zero v1) (fun _ hk => Nat.lt_of_lt_of_le hk hb1.size)
  clear hb1
  go_upto_if 23 with fail
  go_cut [0] (fun s wc => ∃ q : Nat, s = .int .i64 q ∧ q ≤ 9223372036854775807 ∧ wc = v1)
  case first =>
    by_cases hq : a0 < 0
    · go_wp2_with fail
      go_meet
      exact ⟨(-(a0 + 1)).toNat, congrArg (Value.int .i64) (by omega), by omega, rfl⟩
    · go_wp2_with fail
      go_meet
      exact ⟨a0.toNat, congrArg (Value.int .i64) (by omega), by omega, rfl⟩
  case rest =>
    obtain ⟨q0, rfl, hq0, rfl⟩ := hcut
    go_upto_if 28 with fail
    go_cut [2] (fun s wz => ∃ q : Nat, s = .int .i64 q ∧ q ≤ 9223372036854775807 ∧ wz = wc)
    case first =>
      by_cases hq : a2 < 0
      · go_wp2_with fail
        go_meet
        exact ⟨(-(a2 + 1)).toNat, congrArg (Value.int .i64) (by omega), by omega, rfl⟩
      · go_wp2_with fail
        go_meet
        exact ⟨a2.toNat, congrArg (Value.int .i64) (by omega), by omega, rfl⟩
    case rest =>
      obtain ⟨f0, rfl, hf0, rfl⟩ := hcut
      clear l0 u0 l2 u2
      obtain ⟨Q, hQ, hT⟩ := rem_pos (q0 : Int) 3000 (by omega) (by omega)
      obtain ⟨F, hF, hU⟩ := rem_pos (f0 : Int) 60 (by omega) (by omega)
      have hT : Int.tmod (q0 : Int) 3000 = (Q : Int) := hT
      have hU : Int.tmod (f0 : Int) 60 = (F : Int) := hU
      go_wp2_with fail
      refine (HH.out.new (Q : Int) (by omega) HJ1.out).mono ?_
      rintro e v2 (⟨_, p, rfl, hj, hk⟩ | ⟨hn, _⟩)
      · have HB2 : Hid (Below w.heap.size w v2) := HB1.out.trans (hk.below (fun _ h => h) HB1.out.size)
        have HJ2 : Hid (J v2 (fun k => k < w.heap.size) [(p, fz0 Q)] []) := hj
        clear hj hk HJ1 HB1
        go_wp2_with fail
        refine (HH.out.create 0 _ HJ2.out rfl (show 0 < 1000000 by decide)).mono ?_
        rw [show (fz0 Q).create (⟨#[97]⟩ : ByteArray).data.toList = (fz1 Q, 0) from fz0_e Q]
        rintro e v3 ⟨rfl, hj, hk⟩
        have HB3 : Hid (Below w.heap.size w v3) := HB2.out.trans (hk.below (fun _ h => h) HB2.out.size)
        have HJ3 : Hid (J v3 (fun k => k < w.heap.size) [(p, fz1 Q)] []) := hj
        clear hj hk HJ2 HB2
        go_wp2_with fail
        refine (HH.out.create 0 _ HJ3.out rfl (show 1 < 1000000 by decide)).mono ?_
        rw [show (fz1 Q).create (⟨#[98]⟩ : ByteArray).data.toList = (fz2 Q, 0) from fz1_e Q]
        rintro e v4 ⟨rfl, hj, hk⟩
        have HB4 : Hid (Below w.heap.size w v4) := HB3.out.trans (hk.below (fun _ h => h) HB3.out.size)
        have HJ4 : Hid (J v4 (fun k => k < w.heap.size) [(p, fz2 Q)] []) := hj
        clear hj hk HJ3 HB3
        go_wp2_with fail
        refine (HH.out.fuse 0 (F : Int) (by omega) HJ4.out rfl).mono ?_
        rw [show (fz2 Q).setFuse (F : Int) = fz Q [] [] F 2 from fz2_e Q F]
        rintro e v5 ⟨rfl, hj, hk⟩
        have HB5 : Hid (Below w.heap.size w v5) := HB4.out.trans (hk.below (fun _ h => h) HB4.out.size)
        have HJ5 : Hid (J v5 (fun k => k < w.heap.size) [(p, fz Q [] [] F 2)] []) := hj
        clear hj hk HJ4 HB4
        go_wp2_with fail
        go_loopw [10, 11, 12] (fun sl sa si wr => ∃ (k left : Nat) (A B : List UInt8), k ≤ len1 ∧ k ≤ 50 ∧ left < 60 ∧ A.length + B.length ≤ Q ∧ sl = .int .i64 (left : Int) ∧ sa = .int .i64 ((A.length + B.length : Nat) : Int) ∧ si = .int .i64 (k : Int) ∧ Hid (J wr (fun k => k < w.heap.size) [(p, fz Q A B left (2 + k))] []) ∧ Hid (Below w.heap.size w wr)) (fun _ _ i _ => len1 - (intOf i).toNat)
        case atStart => exact ⟨0, F, [], [], Nat.zero_le _, by omega, hF, by simp, rfl, rfl, rfl, HJ5.out, HB5.out⟩
        case round =>
          obtain ⟨k, left, A, B, hk, hk50, hleft, hAB, rfl, rfl, rfl, HJ, HB⟩ := hrel
          obtain ⟨al, hal⟩ : ∃ al, A.length + B.length = al := ⟨_, rfl⟩
          rw [hal] at hAB ⊢
          have HAL : Hid (A.length + B.length = al) := hal
          clear hal
          by_cases hlt : k < len1 ∧ k < 50
          · obtain ⟨hlt1, hlt2⟩ := hlt
            obtain ⟨b, off, rfl, hc⟩ := (H1.out.below (Nat.le_refl _) HB.out).here (by omega)
            have p0 := hc k hlt1
            obtain ⟨hz1, hz2⟩ := H1.out.wf k hlt1
            generalize b1.getD k 0 = z at p0 hz1 hz2
            have hx1 : (0 : Int) ≤ (k : Int) := by omega
            have hx2 : (k : Int) < (len1 : Int) := by omega
            have hx3 : (k : Int) < 50 := by omega
            clear hc
            by_cases hzn : z < 0
            · obtain ⟨n, hn, hV⟩ := rem_neg z 400 hzn (by omega)
              have hV : Int.tmod (z + 1) 400 = -(n : Int) := hV
              have hmk := make_bytes n hn
              by_cases hpar : k % 2 = 1
              · have hpm : Int.tmod (k : Int) 2 = 1 := by rw [show Int.tmod (k : Int) 2 = ((k % 2 : Nat) : Int) from rfl, hpar]; rfl
                clear hpar
                by_cases hl0 : left = 0
                · subst hl0
                  have HE : Hid ((fz Q A B 0 (2 + k)).append nB (List.replicate n 0) = (fz Q A B 0 (2 + k + 1), 44)) := fz_off Q A B (2 + k) _ _
                  go_wp2_with fail
                  refine (HH.out.append 0 ⟨#[98]⟩ _ n n (List.replicate n 0) (HH.out.step HJ.out ((Below.refl _ _).alloc (Nat.le_refl _) _)) rfl (show 2 + k < 1000000 by omega) (zeros_at _ n (by unfold maxLen; omega)) (by omega)).mono ?_
                  rw [show (fz Q A B 0 (2 + k)).append (⟨#[98]⟩ : ByteArray).data.toList (List.replicate n 0) = (fz Q A B 0 (2 + k + 1), 44) from HE.out]
                  rintro e w5 ⟨rfl, hj, hkp⟩
                  have HJ5 : Hid (J w5 (fun k => k < w.heap.size) [(p, fz Q A B 0 (2 + k + 1))] []) := hj
                  have HB5 : Hid (Below w.heap.size w w5) := (HB.out.alloc HB.out.size _).trans (hkp.below (fun _ h => h) (by have := HB.out.size; simp; omega))
                  clear hj hkp p0 HE
                  go_wp2_with fail
                  go_roundw
                  case rel => exact ⟨k + 1, 0, A, B, by omega, by omega, by omega, by rw [HAL.out]; exact hAB, rfl, by rw [HAL.out], by go_num, HJ5.out, HB5.out⟩
                  case measure => simp [intOf]; omega
                · obtain ⟨lf, rfl⟩ : ∃ lf, left = lf + 1 := ⟨left - 1, by omega⟩
                  clear hl0
                  by_cases hfull : Q < al + n
                  · have HE : Hid ((fz Q A B (lf + 1) (2 + k)).append nB (List.replicate n 0) = (fz Q A B lf (2 + k + 1), 43)) := fz_full Q A B lf (2 + k) _ _ (.inr rfl) (by rw [List.length_replicate, HAL.out]; omega)
                    have hfu : decide ((Q : Int) < (al : Int) + (n : Int)) = true := by simp; omega
                    have hl1 : (((lf : Nat) : Int) + 1 == 0) = false := by simp; omega
                    go_wp2_with fail
                    refine (HH.out.append 0 ⟨#[98]⟩ _ n n (List.replicate n 0) (HH.out.step HJ.out ((Below.refl _ _).alloc (Nat.le_refl _) _)) rfl (show 2 + k < 1000000 by omega) (zeros_at _ n (by unfold maxLen; omega)) (by omega)).mono ?_
                    rw [show (fz Q A B (lf + 1) (2 + k)).append (⟨#[98]⟩ : ByteArray).data.toList (List.replicate n 0) = (fz Q A B lf (2 + k + 1), 43) from HE.out]
                    rintro e w5 ⟨rfl, hj, hkp⟩
                    have HJ5 : Hid (J w5 (fun k => k < w.heap.size) [(p, fz Q A B lf (2 + k + 1))] []) := hj
                    have HB5 : Hid (Below w.heap.size w w5) := (HB.out.alloc HB.out.size _).trans (hkp.below (fun _ h => h) (by have := HB.out.size; simp; omega))
                    clear hj hkp p0 HE
                    go_wp2_with fail
                    go_roundw
                    case rel => exact ⟨k + 1, lf, A, B, by omega, by omega, by omega, by rw [HAL.out]; exact hAB, by go_num, by rw [HAL.out], by go_num, HJ5.out, HB5.out⟩
                    case measure => simp [intOf]; omega
                  · have HE : Hid ((fz Q A B (lf + 1) (2 + k)).append nB (List.replicate n 0) = (fz Q A (B ++ List.replicate n 0) lf (2 + k + 1), 0)) := fz_b Q A B lf (2 + k) _ (by rw [List.length_replicate, HAL.out]; omega)
                    have hfu : decide ((Q : Int) < (al : Int) + (n : Int)) = false := by simp; omega
                    have hl1 : (((lf : Nat) : Int) + 1 == 0) = false := by simp; omega
                    go_wp2_with fail
                    refine (HH.out.append 0 ⟨#[98]⟩ _ n n (List.replicate n 0) (HH.out.step HJ.out ((Below.refl _ _).alloc (Nat.le_refl _) _)) rfl (show 2 + k < 1000000 by omega) (zeros_at _ n (by unfold maxLen; omega)) (by omega)).mono ?_
                    rw [show (fz Q A B (lf + 1) (2 + k)).append (⟨#[98]⟩ : ByteArray).data.toList (List.replicate n 0) = (fz Q A (B ++ List.replicate n 0) lf (2 + k + 1), 0) from HE.out]
                    rintro e w5 ⟨rfl, hj, hkp⟩
                    have HJ5 : Hid (J w5 (fun k => k < w.heap.size) [(p, fz Q A (B ++ List.replicate n 0) lf (2 + k + 1))] []) := hj
                    have HB5 : Hid (Below w.heap.size w w5) := (HB.out.alloc HB.out.size _).trans (hkp.below (fun _ h => h) (by have := HB.out.size; simp; omega))
                    clear hj hkp p0 HE
                    go_wp2_with fail
                    go_roundw
                    case rel =>
                      have hz : A.length + (B ++ List.replicate n (0 : UInt8)).length = al + n := by have := HAL.out; simp; omega
                      exact ⟨k + 1, lf, A, B ++ List.replicate n 0, by omega, by omega, by omega, by rw [hz]; omega, by go_num, by rw [hz]; go_num, by go_num, HJ5.out, HB5.out⟩
                    case measure => simp [intOf]; omega
              · have hpm : Int.tmod (k : Int) 2 = 0 := by rw [show Int.tmod (k : Int) 2 = ((k % 2 : Nat) : Int) from rfl, show k % 2 = 0 by omega]; rfl
                clear hpar
                by_cases hl0 : left = 0
                · subst hl0
                  have HE : Hid ((fz Q A B 0 (2 + k)).append nA (List.replicate n 0) = (fz Q A B 0 (2 + k + 1), 44)) := fz_off Q A B (2 + k) _ _
                  go_wp2_with fail
                  refine (HH.out.append 0 ⟨#[97]⟩ _ n n (List.replicate n 0) (HH.out.step HJ.out ((Below.refl _ _).alloc (Nat.le_refl _) _)) rfl (show 2 + k < 1000000 by omega) (zeros_at _ n (by unfold maxLen; omega)) (by omega)).mono ?_
                  rw [show (fz Q A B 0 (2 + k)).append (⟨#[97]⟩ : ByteArray).data.toList (List.replicate n 0) = (fz Q A B 0 (2 + k + 1), 44) from HE.out]
                  rintro e w5 ⟨rfl, hj, hkp⟩
                  have HJ5 : Hid (J w5 (fun k => k < w.heap.size) [(p, fz Q A B 0 (2 + k + 1))] []) := hj
                  have HB5 : Hid (Below w.heap.size w w5) := (HB.out.alloc HB.out.size _).trans (hkp.below (fun _ h => h) (by have := HB.out.size; simp; omega))
                  clear hj hkp p0 HE
                  go_wp2_with fail
                  go_roundw
                  case rel => exact ⟨k + 1, 0, A, B, by omega, by omega, by omega, by rw [HAL.out]; exact hAB, rfl, by rw [HAL.out], by go_num, HJ5.out, HB5.out⟩
                  case measure => simp [intOf]; omega
                · obtain ⟨lf, rfl⟩ : ∃ lf, left = lf + 1 := ⟨left - 1, by omega⟩
                  clear hl0
                  by_cases hfull : Q < al + n
                  · have HE : Hid ((fz Q A B (lf + 1) (2 + k)).append nA (List.replicate n 0) = (fz Q A B lf (2 + k + 1), 43)) := fz_full Q A B lf (2 + k) _ _ (.inl rfl) (by rw [List.length_replicate, HAL.out]; omega)
                    have hfu : decide ((Q : Int) < (al : Int) + (n : Int)) = true := by simp; omega
                    have hl1 : (((lf : Nat) : Int) + 1 == 0) = false := by simp; omega
                    go_wp2_with fail
                    refine (HH.out.append 0 ⟨#[97]⟩ _ n n (List.replicate n 0) (HH.out.step HJ.out ((Below.refl _ _).alloc (Nat.le_refl _) _)) rfl (show 2 + k < 1000000 by omega) (zeros_at _ n (by unfold maxLen; omega)) (by omega)).mono ?_
                    rw [show (fz Q A B (lf + 1) (2 + k)).append (⟨#[97]⟩ : ByteArray).data.toList (List.replicate n 0) = (fz Q A B lf (2 + k + 1), 43) from HE.out]
                    rintro e w5 ⟨rfl, hj, hkp⟩
                    have HJ5 : Hid (J w5 (fun k => k < w.heap.size) [(p, fz Q A B lf (2 + k + 1))] []) := hj
                    have HB5 : Hid (Below w.heap.size w w5) := (HB.out.alloc HB.out.size _).trans (hkp.below (fun _ h => h) (by have := HB.out.size; simp; omega))
                    clear hj hkp p0 HE
                    go_wp2_with fail
                    go_roundw
                    case rel => exact ⟨k + 1, lf, A, B, by omega, by omega, by omega, by rw [HAL.out]; exact hAB, by go_num, by rw [HAL.out], by go_num, HJ5.out, HB5.out⟩
                    case measure => simp [intOf]; omega
                  · have HE : Hid ((fz Q A B (lf + 1) (2 + k)).append nA (List.replicate n 0) = (fz Q (A ++ List.replicate n 0) B lf (2 + k + 1), 0)) := fz_a Q A B lf (2 + k) _ (by rw [List.length_replicate, HAL.out]; omega)
                    have hfu : decide ((Q : Int) < (al : Int) + (n : Int)) = false := by simp; omega
                    have hl1 : (((lf : Nat) : Int) + 1 == 0) = false := by simp; omega
                    go_wp2_with fail
                    refine (HH.out.append 0 ⟨#[97]⟩ _ n n (List.replicate n 0) (HH.out.step HJ.out ((Below.refl _ _).alloc (Nat.le_refl _) _)) rfl (show 2 + k < 1000000 by omega) (zeros_at _ n (by unfold maxLen; omega)) (by omega)).mono ?_
                    rw [show (fz Q A B (lf + 1) (2 + k)).append (⟨#[97]⟩ : ByteArray).data.toList (List.replicate n 0) = (fz Q (A ++ List.replicate n 0) B lf (2 + k + 1), 0) from HE.out]
                    rintro e w5 ⟨rfl, hj, hkp⟩
                    have HJ5 : Hid (J w5 (fun k => k < w.heap.size) [(p, fz Q (A ++ List.replicate n 0) B lf (2 + k + 1))] []) := hj
                    have HB5 : Hid (Below w.heap.size w w5) := (HB.out.alloc HB.out.size _).trans (hkp.below (fun _ h => h) (by have := HB.out.size; simp; omega))
                    clear hj hkp p0 HE
                    go_wp2_with fail
                    go_roundw
                    case rel =>
                      have hz : (A ++ List.replicate n (0 : UInt8)).length + B.length = al + n := by have := HAL.out; simp; omega
                      exact ⟨k + 1, lf, A ++ List.replicate n 0, B, by omega, by omega, by omega, by rw [hz]; omega, by go_num, by rw [hz]; go_num, by go_num, HJ5.out, HB5.out⟩
                    case measure => simp [intOf]; omega
            · obtain ⟨n, hn, hV⟩ := rem_pos z 400 (by omega) (by omega)
              have hV : Int.tmod z 400 = (n : Int) := hV
              have hmk := make_bytes n hn
              by_cases hpar : k % 2 = 1
              · have hpm : Int.tmod (k : Int) 2 = 1 := by rw [show Int.tmod (k : Int) 2 = ((k % 2 : Nat) : Int) from rfl, hpar]; rfl
                clear hpar
                by_cases hl0 : left = 0
                · subst hl0
                  have HE : Hid ((fz Q A B 0 (2 + k)).append nB (List.replicate n 0) = (fz Q A B 0 (2 + k + 1), 44)) := fz_off Q A B (2 + k) _ _
                  go_wp2_with fail
                  refine (HH.out.append 0 ⟨#[98]⟩ _ n n (List.replicate n 0) (HH.out.step HJ.out ((Below.refl _ _).alloc (Nat.le_refl _) _)) rfl (show 2 + k < 1000000 by omega) (zeros_at _ n (by unfold maxLen; omega)) (by omega)).mono ?_
                  rw [show (fz Q A B 0 (2 + k)).append (⟨#[98]⟩ : ByteArray).data.toList (List.replicate n 0) = (fz Q A B 0 (2 + k + 1), 44) from HE.out]
                  rintro e w5 ⟨rfl, hj, hkp⟩
                  have HJ5 : Hid (J w5 (fun k => k < w.heap.size) [(p, fz Q A B 0 (2 + k + 1))] []) := hj
                  have HB5 : Hid (Below w.heap.size w w5) := (HB.out.alloc HB.out.size _).trans (hkp.below (fun _ h => h) (by have := HB.out.size; simp; omega))
                  clear hj hkp p0 HE
                  go_wp2_with fail
                  go_roundw
                  case rel => exact ⟨k + 1, 0, A, B, by omega, by omega, by omega, by rw [HAL.out]; exact hAB, rfl, by rw [HAL.out], by go_num, HJ5.out, HB5.out⟩
                  case measure => simp [intOf]; omega
                · obtain ⟨lf, rfl⟩ : ∃ lf, left = lf + 1 := ⟨left - 1, by omega⟩
                  clear hl0
                  by_cases hfull : Q < al + n
                  · have HE : Hid ((fz Q A B (lf + 1) (2 + k)).append nB (List.replicate n 0) = (fz Q A B lf (2 + k + 1), 43)) := fz_full Q A B lf (2 + k) _ _ (.inr rfl) (by rw [List.length_replicate, HAL.out]; omega)
                    have hfu : decide ((Q : Int) < (al : Int) + (n : Int)) = true := by simp; omega
                    have hl1 : (((lf : Nat) : Int) + 1 == 0) = false := by simp; omega
                    go_wp2_with fail
                    refine (HH.out.append 0 ⟨#[98]⟩ _ n n (List.replicate n 0) (HH.out.step HJ.out ((Below.refl _ _).alloc (Nat.le_refl _) _)) rfl (show 2 + k < 1000000 by omega) (zeros_at _ n (by unfold maxLen; omega)) (by omega)).mono ?_
                    rw [show (fz Q A B (lf + 1) (2 + k)).append (⟨#[98]⟩ : ByteArray).data.toList (List.replicate n 0) = (fz Q A B lf (2 + k + 1), 43) from HE.out]
                    rintro e w5 ⟨rfl, hj, hkp⟩
                    have HJ5 : Hid (J w5 (fun k => k < w.heap.size) [(p, fz Q A B lf (2 + k + 1))] []) := hj
                    have HB5 : Hid (Below w.heap.size w w5) := (HB.out.alloc HB.out.size _).trans (hkp.below (fun _ h => h) (by have := HB.out.size; simp; omega))
                    clear hj hkp p0 HE
                    go_wp2_with fail
                    go_roundw
                    case rel => exact ⟨k + 1, lf, A, B, by omega, by omega, by omega, by rw [HAL.out]; exact hAB, by go_num, by rw [HAL.out], by go_num, HJ5.out, HB5.out⟩
                    case measure => simp [intOf]; omega
                  · have HE : Hid ((fz Q A B (lf + 1) (2 + k)).append nB (List.replicate n 0) = (fz Q A (B ++ List.replicate n 0) lf (2 + k + 1), 0)) := fz_b Q A B lf (2 + k) _ (by rw [List.length_replicate, HAL.out]; omega)
                    have hfu : decide ((Q : Int) < (al : Int) + (n : Int)) = false := by simp; omega
                    have hl1 : (((lf : Nat) : Int) + 1 == 0) = false := by simp; omega
                    go_wp2_with fail
                    refine (HH.out.append 0 ⟨#[98]⟩ _ n n (List.replicate n 0) (HH.out.step HJ.out ((Below.refl _ _).alloc (Nat.le_refl _) _)) rfl (show 2 + k < 1000000 by omega) (zeros_at _ n (by unfold maxLen; omega)) (by omega)).mono ?_
                    rw [show (fz Q A B (lf + 1) (2 + k)).append (⟨#[98]⟩ : ByteArray).data.toList (List.replicate n 0) = (fz Q A (B ++ List.replicate n 0) lf (2 + k + 1), 0) from HE.out]
                    rintro e w5 ⟨rfl, hj, hkp⟩
                    have HJ5 : Hid (J w5 (fun k => k < w.heap.size) [(p, fz Q A (B ++ List.replicate n 0) lf (2 + k + 1))] []) := hj
                    have HB5 : Hid (Below w.heap.size w w5) := (HB.out.alloc HB.out.size _).trans (hkp.below (fun _ h => h) (by have := HB.out.size; simp; omega))
                    clear hj hkp p0 HE
                    go_wp2_with fail
                    go_roundw
                    case rel =>
                      have hz : A.length + (B ++ List.replicate n (0 : UInt8)).length = al + n := by have := HAL.out; simp; omega
                      exact ⟨k + 1, lf, A, B ++ List.replicate n 0, by omega, by omega, by omega, by rw [hz]; omega, by go_num, by rw [hz]; go_num, by go_num, HJ5.out, HB5.out⟩
                    case measure => simp [intOf]; omega
              · have hpm : Int.tmod (k : Int) 2 = 0 := by rw [show Int.tmod (k : Int) 2 = ((k % 2 : Nat) : Int) from rfl, show k % 2 = 0 by omega]; rfl
                clear hpar
                by_cases hl0 : left = 0
                · subst hl0
                  have HE : Hid ((fz Q A B 0 (2 + k)).append nA (List.replicate n 0) = (fz Q A B 0 (2 + k + 1), 44)) := fz_off Q A B (2 + k) _ _
                  go_wp2_with fail
                  refine (HH.out.append 0 ⟨#[97]⟩ _ n n (List.replicate n 0) (HH.out.step HJ.out ((Below.refl _ _).alloc (Nat.le_refl _) _)) rfl (show 2 + k < 1000000 by omega) (zeros_at _ n (by unfold maxLen; omega)) (by omega)).mono ?_
                  rw [show (fz Q A B 0 (2 + k)).append (⟨#[97]⟩ : ByteArray).data.toList (List.replicate n 0) = (fz Q A B 0 (2 + k + 1), 44) from HE.out]
                  rintro e w5 ⟨rfl, hj, hkp⟩
                  have HJ5 : Hid (J w5 (fun k => k < w.heap.size) [(p, fz Q A B 0 (2 + k + 1))] []) := hj
                  have HB5 : Hid (Below w.heap.size w w5) := (HB.out.alloc HB.out.size _).trans (hkp.below (fun _ h => h) (by have := HB.out.size; simp; omega))
                  clear hj hkp p0 HE
                  go_wp2_with fail
                  go_roundw
                  case rel => exact ⟨k + 1, 0, A, B, by omega, by omega, by omega, by rw [HAL.out]; exact hAB, rfl, by rw [HAL.out], by go_num, HJ5.out, HB5.out⟩
                  case measure => simp [intOf]; omega
                · obtain ⟨lf, rfl⟩ : ∃ lf, left = lf + 1 := ⟨left - 1, by omega⟩
                  clear hl0
                  by_cases hfull : Q < al + n
                  · have HE : Hid ((fz Q A B (lf + 1) (2 + k)).append nA (List.replicate n 0) = (fz Q A B lf (2 + k + 1), 43)) := fz_full Q A B lf (2 + k) _ _ (.inl rfl) (by rw [List.length_replicate, HAL.out]; omega)
                    have hfu : decide ((Q : Int) < (al : Int) + (n : Int)) = true := by simp; omega
                    have hl1 : (((lf : Nat) : Int) + 1 == 0) = false := by simp; omega
                    go_wp2_with fail
                    refine (HH.out.append 0 ⟨#[97]⟩ _ n n (List.replicate n 0) (HH.out.step HJ.out ((Below.refl _ _).alloc (Nat.le_refl _) _)) rfl (show 2 + k < 1000000 by omega) (zeros_at _ n (by unfold maxLen; omega)) (by omega)).mono ?_
                    rw [show (fz Q A B (lf + 1) (2 + k)).append (⟨#[97]⟩ : ByteArray).data.toList (List.replicate n 0) = (fz Q A B lf (2 + k + 1), 43) from HE.out]
                    rintro e w5 ⟨rfl, hj, hkp⟩
                    have HJ5 : Hid (J w5 (fun k => k < w.heap.size) [(p, fz Q A B lf (2 + k + 1))] []) := hj
                    have HB5 : Hid (Below w.heap.size w w5) := (HB.out.alloc HB.out.size _).trans (hkp.below (fun _ h => h) (by have := HB.out.size; simp; omega))
                    clear hj hkp p0 HE
                    go_wp2_with fail
                    go_roundw
                    case rel => exact ⟨k + 1, lf, A, B, by omega, by omega, by omega, by rw [HAL.out]; exact hAB, by go_num, by rw [HAL.out], by go_num, HJ5.out, HB5.out⟩
                    case measure => simp [intOf]; omega
                  · have HE : Hid ((fz Q A B (lf + 1) (2 + k)).append nA (List.replicate n 0) = (fz Q (A ++ List.replicate n 0) B lf (2 + k + 1), 0)) := fz_a Q A B lf (2 + k) _ (by rw [List.length_replicate, HAL.out]; omega)
                    have hfu : decide ((Q : Int) < (al : Int) + (n : Int)) = false := by simp; omega
                    have hl1 : (((lf : Nat) : Int) + 1 == 0) = false := by simp; omega
                    go_wp2_with fail
                    refine (HH.out.append 0 ⟨#[97]⟩ _ n n (List.replicate n 0) (HH.out.step HJ.out ((Below.refl _ _).alloc (Nat.le_refl _) _)) rfl (show 2 + k < 1000000 by omega) (zeros_at _ n (by unfold maxLen; omega)) (by omega)).mono ?_
                    rw [show (fz Q A B (lf + 1) (2 + k)).append (⟨#[97]⟩ : ByteArray).data.toList (List.replicate n 0) = (fz Q (A ++ List.replicate n 0) B lf (2 + k + 1), 0) from HE.out]
                    rintro e w5 ⟨rfl, hj, hkp⟩
                    have HJ5 : Hid (J w5 (fun k => k < w.heap.size) [(p, fz Q (A ++ List.replicate n 0) B lf (2 + k + 1))] []) := hj
                    have HB5 : Hid (Below w.heap.size w w5) := (HB.out.alloc HB.out.size _).trans (hkp.below (fun _ h => h) (by have := HB.out.size; simp; omega))
                    clear hj hkp p0 HE
                    go_wp2_with fail
                    go_roundw
                    case rel =>
                      have hz : (A ++ List.replicate n (0 : UInt8)).length + B.length = al + n := by have := HAL.out; simp; omega
                      exact ⟨k + 1, lf, A ++ List.replicate n 0, B, by omega, by omega, by omega, by rw [hz]; omega, by go_num, by rw [hz]; go_num, by go_num, HJ5.out, HB5.out⟩
                    case measure => simp [intOf]; omega
          · have hend : decide ((k : Int) < (len1 : Int)) = false ∨ decide ((k : Int) < 50) = false := by simp; omega
            by_cases hA : k < len1
            · have hd1 : decide ((k : Int) < (len1 : Int)) = true := by simp; omega
              have hd2 : decide ((k : Int) < 50) = false := by simp; omega
              clear hend
              go_wp2_with fail
              refine (HH.out.fuse 0 (-1) (by omega) HJ.out rfl).mono ?_
              rw [fz_end]
              rintro e w5 ⟨rfl, hj, hkp⟩
              have HJ5 : Hid (J w5 (fun k => k < w.heap.size) [(p, fzE Q A B (2 + k))] []) := hj
              have HB5 : Hid (Below w.heap.size w w5) := HB.out.trans (hkp.below (fun _ h => h) HB.out.size)
              clear hj hkp
              go_wp2_with fail
              have HR := HH.out.read 0 (⟨#[97]⟩ : ByteArray) HJ5.out rfl
              rw [show (fzE Q A B (2 + k)).read (⟨#[97]⟩ : ByteArray).data.toList = (A, 0) from fzE_a Q A B _] at HR
              refine HR.mono ?_
              clear HR
              rintro e w6 ⟨a6, c6, rfl, _, hj, hkp⟩
              have HJ6 : Hid (J w6 (fun k => k < w.heap.size) [(p, fzE Q A B (2 + k))] []) := HH.out.less hj (fun _ h => .inl h)
              have HB6 : Hid (Below w.heap.size w w6) := HB5.out.trans (hkp.below (fun _ h => h) HB5.out.size)
              clear hj hkp
              go_wp2_with fail
              have HR := HH.out.read 0 (⟨#[98]⟩ : ByteArray) HJ6.out rfl
              rw [show (fzE Q A B (2 + k)).read (⟨#[98]⟩ : ByteArray).data.toList = (B, 0) from fzE_b Q A B _] at HR
              refine HR.mono ?_
              clear HR
              rintro e w7 ⟨a7, c7, rfl, _, hj, hkp⟩
              have HB7 : Hid (Below w.heap.size w w7) := HB6.out.trans (hkp.below (fun _ h => h) HB6.out.size)
              clear hj hkp
              have hs1 : A.length ≤ 3000 := by have := HAL.out; omega
              have hs2 : B.length ≤ 3000 := by have := HAL.out; omega
              have hsum : (((A.length : Nat) : Int) + ((B.length : Nat) : Int) == (al : Int)) = true := by have := HAL.out; simp; omega
              have hle : decide ((al : Int) ≤ (Q : Int)) = true := by simp; omega
              go_wp2_with fail
              go_ret
              exact ⟨rfl, HB7.out⟩
            · have hd1 : decide ((k : Int) < (len1 : Int)) = false := by simp; omega
              clear hend
              go_wp2_with fail
              refine (HH.out.fuse 0 (-1) (by omega) HJ.out rfl).mono ?_
              rw [fz_end]
              rintro e w5 ⟨rfl, hj, hkp⟩
              have HJ5 : Hid (J w5 (fun k => k < w.heap.size) [(p, fzE Q A B (2 + k))] []) := hj
              have HB5 : Hid (Below w.heap.size w w5) := HB.out.trans (hkp.below (fun _ h => h) HB.out.size)
              clear hj hkp
              go_wp2_with fail
              have HR := HH.out.read 0 (⟨#[97]⟩ : ByteArray) HJ5.out rfl
              rw [show (fzE Q A B (2 + k)).read (⟨#[97]⟩ : ByteArray).data.toList = (A, 0) from fzE_a Q A B _] at HR
              refine HR.mono ?_
              clear HR
              rintro e w6 ⟨a6, c6, rfl, _, hj, hkp⟩
              have HJ6 : Hid (J w6 (fun k => k < w.heap.size) [(p, fzE Q A B (2 + k))] []) := HH.out.less hj (fun _ h => .inl h)
              have HB6 : Hid (Below w.heap.size w w6) := HB5.out.trans (hkp.below (fun _ h => h) HB5.out.size)
              clear hj hkp
              go_wp2_with fail
              have HR := HH.out.read 0 (⟨#[98]⟩ : ByteArray) HJ6.out rfl
              rw [show (fzE Q A B (2 + k)).read (⟨#[98]⟩ : ByteArray).data.toList = (B, 0) from fzE_b Q A B _] at HR
              refine HR.mono ?_
              clear HR
              rintro e w7 ⟨a7, c7, rfl, _, hj, hkp⟩
              have HB7 : Hid (Below w.heap.size w w7) := HB6.out.trans (hkp.below (fun _ h => h) HB6.out.size)
              clear hj hkp
              have hs1 : A.length ≤ 3000 := by have := HAL.out; omega
              have hs2 : B.length ≤ 3000 := by have := HAL.out; omega
              have hsum : (((A.length : Nat) : Int) + ((B.length : Nat) : Int) == (al : Int)) = true := by have := HAL.out; simp; omega
              have hle : decide ((al : Int) ≤ (Q : Int)) = true := by simp; omega
              go_wp2_with fail
              go_ret
              exact ⟨rfl, HB7.out⟩
      · exact absurd ⟨by omega, by omega⟩ hn
end Go.Proofs.Ytfabgiapekfgcaa
