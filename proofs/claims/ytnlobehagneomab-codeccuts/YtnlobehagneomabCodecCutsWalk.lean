/- staddlelaw01.CodecCuts returns true at any numbers, texts and cut, and leaves memory as it was. -/
import Derived.Test.YtnlobehagneomabAwake
import Derived.Test.YtnlobehagneomabArgs
import Derived.Test.YtnlobehagneomabPutNil
import Derived.Deep.RegionWith
import Derived.Deep.DeepCutAuto
namespace Go.Proofs.Ytnlobehagneomab
open Go.RowKit
theorem strOf_toList (l : List UInt8) : (strOf l).toList = l := by rw [ByteArray.toList_eq]; simp [strOf]
theorem enc_beq (n m : Nat) (hn : n < 18446744073709551616) (hm : m < 18446744073709551616) : ((strOf (uvEnc n)).toList == (strOf (uvEnc m)).toList) = ((n : Int) == (m : Int)) := by
  rw [strOf_toList, strOf_toList]
  by_cases h : n = m
  · subst h; simp
  · rw [beq_eq_false_iff_ne.2 (fun e => h (uvEnc_inj hn hm e)), beq_eq_false_iff_ne.2 (by omega)]
theorem txt_beq (s t : ByteArray) (hs : s.size < 18446744073709551616) (ht : t.size < 18446744073709551616) : ((strOf (txtPut s.data.toList)).toList == (strOf (txtPut t.data.toList)).toList) = (s.toList == t.toList) := by
  rw [strOf_toList, strOf_toList, ByteArray.toList_eq, ByteArray.toList_eq]
  by_cases h : s.data.toList = t.data.toList
  · rw [h]; simp
  · rw [beq_eq_false_iff_ne.2 (fun e => h (txtPut_inj (by rw [Array.length_toList]; exact hs) (by rw [Array.length_toList]; exact ht) e)), beq_eq_false_iff_ne.2 h]
set_option maxRecDepth 100000 in
set_option maxHeartbeats 2000000 in
theorem codecCuts_walk (a0 : Int) (a1 : Int) (s2 : ByteArray) (s3 : ByteArray) (a4 : Int) (w : World) (w0 : (Lit.int .u64 a0).wf = true) (w1 : (Lit.int .u64 a1).wf = true) (e2 : s2.size ≤ 140737488351232) (e3 : s3.size ≤ 140737488351232) (w4 : (Lit.int .i64 a4).wf = true) :
    Calls Try.prog 3 #[.int .u64 a0, .int .u64 a1, .string s2, .string s3, .int .i64 a4] w fun e w' => e = .returned (.bool true) ∧ Below w.heap.size w w' := by
  obtain ⟨n, rfl, hn⟩ : ∃ n : Nat, a0 = (n : Int) ∧ n < 18446744073709551616 := by
    simp [Lit.wf, IntKind.min, IntKind.max, IntKind.bits, IntKind.signed] at w0
    exact ⟨a0.toNat, by omega, by omega⟩
  obtain ⟨m, rfl, hm⟩ : ∃ m : Nat, a1 = (m : Int) ∧ m < 18446744073709551616 := by
    simp [Lit.wf, IntKind.min, IntKind.max, IntKind.bits, IntKind.signed] at w1
    exact ⟨a1.toNat, by omega, by omega⟩
  have hr : -9223372036854775808 ≤ a4 ∧ a4 ≤ 9223372036854775807 := by
    simp [Lit.wf, IntKind.min, IntKind.max, IntKind.bits, IntKind.signed] at w4
    omega
  clear w0 w1 w4
  obtain ⟨c, hc, hcase⟩ : ∃ c : Nat, c < 9223372036854775808 ∧ (a4 = -(c : Int) - 1 ∨ a4 = (c : Int)) := by
    by_cases hneg : a4 < 0
    · exact ⟨(-(a4 + 1)).toNat, by omega, .inl (by omega)⟩
    · exact ⟨a4.toNat, by omega, .inr (by omega)⟩
  clear hr
  have hs2l : s2.data.toList.length = s2.size := by rw [Array.length_toList]; rfl
  have hu := uvEnc_length n
  have htl : 1 ≤ (txtPut s2.data.toList).length ∧ (txtPut s2.data.toList).length ≤ 10 + s2.size := by
    have := uvEnc_length s2.size
    unfold txtPut
    rw [List.length_append, hs2l]
    omega
  have HE1 : Hid _ := enc_beq n m hn hm
  have HE2 : Hid _ := txt_beq s2 s3 (by omega) (by omega)
  generalize hLU : (uvEnc n).length = LU at hu
  generalize hLT : (txtPut s2.data.toList).length = LT at htl
  obtain ⟨k1, hk1, hm1⟩ : ∃ k : Nat, k < LU ∧ (c : Int) % (LU : Int) = (k : Int) := ⟨c % LU, Nat.mod_lt _ (by omega), by simp⟩
  obtain ⟨k2, hk2, hm2⟩ : ∃ k : Nat, k < LT ∧ (c : Int) % (LT : Int) = (k : Int) := ⟨c % LT, Nat.mod_lt _ (by omega), by simp⟩
  have HC1 : Hid (uvRead ((uvEnc n).take k1) = (0, 0, 10)) := uvRead_cut n k1 hn (by omega)
  have HC2 : Hid (txtRead ((txtPut s2.data.toList).take k2) = ([], 0, 10)) := txtRead_cut s2.data.toList k2 (by rw [hs2l]; omega) (by omega)
  have HLU : Hid ((uvEnc n).length = LU) := hLU
  have HLT : Hid ((txtPut s2.data.toList).length = LT) := hLT
  clear hLU hLT hs2l
  have hz1 : ((LU : Int) == 0) = false := by simp; omega
  have hz2 : ((LT : Int) == 0) = false := by simp; omega
  rcases hcase with rfl | rfl
  all_goals
    go_enter Try.func3, Try.ntmps3
    go_wp2_with (go_at_call 4; refine (awake_any _).mono ?_; rintro e w1 ⟨rfl, hb1⟩)
    have HB1 : Hid (Below w.heap.size w w1) := hb1
    clear hb1
    refine (putUv_nil n LU _ hn HLU.out).mono ?_
    rintro e w2 ⟨aU, cU, rfl, hbU, hb2⟩
    have hcU := hbU.le
    have HBU : Hid (BsAt w2 aU LU cU (uvEnc n)) := hbU
    have HB2 : Hid (Below w.heap.size w w2) := HB1.out.trans (hb2.mono HB1.out.size)
    clear hbU hb2 HB1
    go_wp2_with fail
    refine (putText_nil s2 LT _ (by omega) HLT.out).mono ?_
    rintro e w3 ⟨aT, cT, rfl, hbT, hb3⟩
    have hcT := hbT.le
    have HBT : Hid (BsAt w3 aT LT cT (txtPut s2.data.toList)) := hbT
    have HBU3 : Hid (BsAt w3 aU LU cU (uvEnc n)) := HBU.out.below (Nat.le_refl _) hb3
    have HB3 : Hid (Below w.heap.size w w3) := HB2.out.trans (hb3.mono HB2.out.size)
    clear hbT hb3 HBU HB2
    go_wp2_with fail
    refine (uvarint_eq (HBU3.out.upTo k1 (by omega)) HC1.out).mono ?_
    rintro e w4 ⟨rfl, rfl⟩
    go_wp2_with fail
    refine (text_eq (HBT.out.upTo k2 (by omega)) HC2.out).mono ?_
    rintro e w5 ⟨rfl, rfl⟩
    go_upto_region 10 with fail
    go_cut [20] (fun s wc => s = .bool true ∧ Hid (Below w.heap.size w wc) ∧ Hid (BsAt wc aT LT cT (txtPut s2.data.toList)))
    case first =>
      have hcX := conv_of HBU3.out.drew
      go_region_with (go_at_call 5; refine (putUv_nil m _ _ hm rfl).mono ?_; rintro e w6 ⟨aR, cR, rfl, hoR, hb6⟩; have hcR := conv_of hoR; have hcX6 := conv_of (HBU3.out.drew.below (Nat.le_refl _) hb6))
      all_goals
        go_wp2_with fail
        go_meet
        exact ⟨congrArg Value.bool (by rw [HE1.out]; simp), HB3.out.drew.trans (hb6.mono HB3.out.size), HBT.out.drew.below (Nat.le_refl _) hb6⟩
    case rest =>
      obtain ⟨rfl, HWc, HTc⟩ := hcut
      clear HBU3 HBT HB3
      go_upto_region 11 with fail
      go_cut [21] (fun s wc => s = .bool true ∧ Hid (Below w.heap.size w wc))
      case first =>
        have hcX := conv_of HTc.out.drew
        go_region_with (go_at_call 6; refine (putText_nil s3 _ _ (by omega) rfl).mono ?_; rintro e w6 ⟨aR, cR, rfl, hoR, hb6⟩; have hcR := conv_of hoR; have hcX6 := conv_of (HTc.out.drew.below (Nat.le_refl _) hb6))
        all_goals
          go_wp2_with fail
          go_meet
          exact ⟨congrArg Value.bool (by rw [HE2.out]; simp), HWc.out.drew.trans (hb6.mono HWc.out.size)⟩
      case rest =>
        obtain ⟨rfl, HWd⟩ := hcut
        clear HWc HTc
        go_wp2
        go_ret
        exact ⟨rfl, HWd.out⟩
end Go.Proofs.Ytnlobehagneomab
