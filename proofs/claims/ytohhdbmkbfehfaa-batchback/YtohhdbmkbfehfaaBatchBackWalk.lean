/- staddlelaw03.BatchBack returns true, for every argument, and leaves memory as it was. -/
import Derived.Test.YtohhdbmkbfehfaaAwake3
import Derived.Test.YtohhdbmkbfehfaaBChk
import Derived.Test.YtohhdbmkbfehfaaOpsOwn
import Derived.Test.YtohhdbmkbfehfaaSame
import Derived.Test.YtohhdbmkbfehfaaPlainBBack
import Derived.Test.YtohhdbmkbfehfaaAppFit
namespace Go.Proofs.Ytohhdbmkbfehfaa
open Go.RowKit
set_option maxRecDepth 100000 in
set_option maxHeartbeats 2000000 in
theorem batchBack_walk (a0 : Int) (a1 : Option Addr) (len1 cap1 : Nat) (b1 : List Opn) (a2 : Option Addr) (len2 cap2 : Nat) (b2 : List UInt8) (a3 : Int) (w : World) (w0 : (Lit.int .u64 a0).wf = true) (w1 : OpsAt w a1 len1 cap1 b1) (_f1 : ∀ o ∈ b1, (Lit.int .i64 o.kind).wf = true ∧ o.key.size ≤ maxLen ∧ o.val.size ≤ maxLen) (_e1 : cap1 * 40 ≤ 140737488351232) (w2 : BsAt w a2 len2 cap2 b2) (e2 : cap2 ≤ 140737488351232) (w3 : (Lit.int .i64 a3).wf = true) :
    Calls Try.prog 6 #[.int .u64 a0, .slice a1 len1 cap1, .slice a2 len2 cap2, .int .i64 a3] w fun e w' => e = .returned (.bool true) ∧ Below w.heap.size w w' := by
  obtain ⟨q, rfl, hq⟩ : ∃ n : Nat, a0 = (n : Int) ∧ n < 18446744073709551616 := by
    simp [Lit.wf, IntKind.min, IntKind.max, IntKind.bits, IntKind.signed] at w0
    exact ⟨a0.toNat, by omega, by omega⟩
  have hcut : -9223372036854775808 ≤ a3 ∧ a3 ≤ 9223372036854775807 := by
    simp [Lit.wf, IntKind.min, IntKind.max, IntKind.bits, IntKind.signed] at w3
    omega
  obtain ⟨hcut1, hcut2⟩ := hcut
  clear w0 w3
  have H1 : Hid (OpsAt w a1 len1 cap1 b1) := w1
  have H2 : Hid (BsAt w a2 len2 cap2 b2) := w2
  have hle2 := w2.le
  have hs2 := w2.size
  clear w1 w2
  have henc := fun W a n c (h : OpsAt W a n c b1) => bencode_any q a n c b1 W hq h
  have hchk := fun W a n c (h : OpsAt W a n c b1) => bcheck_any q a n c b1 W hq h
  by_cases h0 : bchk q b1 = 0
  · obtain ⟨hX1, hX2⟩ := bEnc_small h0
    have hdec := fun W a n c (h : BsAt W a n c (bEnc q b1)) => bdecode_any a n c (bEnc q b1) W h
    rw [bDec_enc h0] at hdec
    rw [h0] at henc hchk
    have hcutX := fun k (hk : k < (bEnc q b1).length) => bDec_cut h0 k hk
    have hmoreX : ((((bDec (bEnc q b1 ++ b2)).2.2 : Nat) : Int) == 0) = ((len2 : Int) == 0) := by
      by_cases hb : b2 = []
      · rw [hb, List.append_nil, bDec_enc h0]
        rw [hb] at hs2
        simp at hs2
        simp [← hs2]
      · rw [bDec_more h0 b2 hb]
        have : 0 < len2 := by rw [← hs2]; exact List.length_pos_iff.2 hb
        have h1 : ((len2 : Int) == 0) = false := by simp; omega
        rw [h1]
        rfl
    generalize bEnc q b1 = X at henc hdec hcutX hmoreX hX1 hX2
    have HENC : Hid (∀ W a n c, _) := henc
    have HCHK : Hid (∀ W a n c, _) := hchk
    have HDEC : Hid (∀ W a n c, _) := hdec
    have HCUT : Hid (∀ k, k < X.length → (bDec (X.take k)).2.2 = 32) := hcutX
    have HMORE : Hid (((((bDec (X ++ b2)).2.2 : Nat) : Int) == 0) = ((len2 : Int) == 0)) := hmoreX
    have HS2 : Hid (b2.length = len2) := hs2
    obtain ⟨L, hL⟩ : ∃ L, X.length = L := ⟨_, rfl⟩
    rw [hL] at hX1 hX2
    have HLX : Hid (X.length = L) := hL
    clear henc hchk hdec hcutX hmoreX hs2 h0 hL
    go_enter Try.func6, Try.ntmps6
    go_wp2_with fail
    refine (awake_any _).mono ?_
    rintro e v1 ⟨rfl, hb1⟩
    have HB1 : Hid (Below w.heap.size w v1) := hb1
    clear hb1
    go_wp2_with fail
    refine (HENC.out _ _ _ _ (H1.out.below (Nat.le_refl _) HB1.out)).mono ?_
    rw [HLX.out]
    rintro e v2 ⟨aX, cX, rfl, hX, hb2⟩
    have HB2 : Hid (Below w.heap.size w v2) := HB1.out.trans (hb2.mono HB1.out.size)
    have HX2 : Hid (BsAt v2 aX L cX X) := hX
    clear hb2 hX HB1
    go_wp2_with fail
    refine (HDEC.out _ _ _ _ HX2.out).mono ?_
    rintro e v3 ⟨aD, nD, cD, rfl, hD, _, hb3⟩
    have HB3 : Hid (Below w.heap.size w v3) := HB2.out.trans (hb3.mono HB2.out.size)
    have HX3 : Hid (BsAt v3 aX L cX X) := HX2.out.below (Nat.le_refl _) hb3
    have HD3 : Hid (OpsAt v3 aD nD cD b1) := hD
    clear hb3 hD HB2 HX2
    go_wp2_with fail
    have HS := same_any _ _ _ _ _ _ _ _ _ HD3.out (H1.out.below (Nat.le_refl _) HB3.out)
    rw [show opsEq b1 b1 = true from (opsEq_iff _ _).2 rfl] at HS
    refine HS.mono ?_
    clear HS
    rintro e v4 ⟨rfl, hb4⟩
    have HB4 : Hid (Below w.heap.size w v4) := HB3.out.trans (hb4.mono HB3.out.size)
    have HX4 : Hid (BsAt v4 aX L cX X) := HX3.out.below (Nat.le_refl _) hb4
    clear hb4 HB3 HX3 HD3
    go_wp2_with fail
    refine (HCHK.out _ _ _ _ (H1.out.below (Nat.le_refl _) HB4.out)).mono ?_
    rintro e v5 ⟨rfl, hb5⟩
    have HB5 : Hid (Below w.heap.size w v5) := HB4.out.trans (hb5.mono HB4.out.size)
    have HX5 : Hid (BsAt v5 aX L cX X) := HX4.out.below (Nat.le_refl _) hb5
    have hcX : L ≤ cX := HX4.out.le
    have hcM : cX ≤ 9223372036854775807 := HX4.out.max
    clear hb5 HB4 HX4
    by_cases hneg : a3 < 0
    · obtain ⟨r, hr, hT⟩ : ∃ r : Nat, r < L ∧ (a3 + 1).tmod (L : Int) = -(r : Int) := by
        refine ⟨(-(a3 + 1)).toNat % L, Nat.mod_lt _ (by omega), ?_⟩
        have e : a3 + 1 = -(((-(a3 + 1)).toNat : Nat) : Int) := by omega
        generalize (-(a3 + 1)).toNat = m at e
        rw [e, Int.neg_tmod]
        rfl
      go_wp2_with fail
      have HC := bdecode_any aX r cX (X.take r) v5 (HX5.out.upTo r (by omega))
      rw [HCUT.out r (by rw [HLX.out]; exact hr)] at HC
      generalize (bDec (X.take r)).1 = z1 at HC
      refine HC.mono ?_
      clear HC
      rintro e v6 ⟨aE, nE, cE, rfl, _, _, hb6⟩
      have HB6 : Hid (Below w.heap.size w v6) := HB5.out.trans (hb6.mono HB5.out.size)
      have HX6 : Hid (BsAt v6 aX L cX X) := HX5.out.below (Nat.le_refl _) hb6
      clear hb6
      go_wp2_with (first
        | (at_builtin; refine wpList_app0 v6 rfl _ _ rfl rfl _ _ _ X rfl HX6.out (by omega) ?_; intro a7 c7 v7 ho7 hb7
           have hz7 := hb7.size
           have HY7 : Hid (BsAt v7 a2 len2 cap2 b2) := (H2.out.below (Nat.le_refl _) HB6.out).below (Nat.le_refl _) hb7)
        | (at_builtin; refine wpList_appFit _ rfl _ _ rfl v6.heap.size _ _ _ X rfl ho7 (by omega) _ _ _ b2 rfl HY7.out (by omega) hz7 ?_))
      intro a8 c8 v8 ho8 hb8
      have HB8 : Hid (Below w.heap.size w v8) := (HB6.out.trans (hb7.mono HB6.out.size)).trans (hb8.mono HB6.out.size)
      have HO8 : Hid (BsAt v8 a8 (L + len2) c8 (X ++ b2)) := ho8.bs
      clear ho7 ho8 hb7 hb8
      go_wp2_with fail
      have HM := bdecode_any a8 (L + len2) c8 (X ++ b2) v8 HO8.out
      have hmm := HMORE.out
      generalize (bDec (X ++ b2)).2.2 = m9 at HM hmm
      generalize (bDec (X ++ b2)).1 = z2 at HM
      refine HM.mono ?_
      clear HM
      rintro e v9 ⟨aF, nF, cF, rfl, _, _, hb9⟩
      have HB9 : Hid (Below w.heap.size w v9) := HB8.out.trans (hb9.mono HB8.out.size)
      clear hb9
      go_wp2_with fail
      go_ret
      exact ⟨ret1 (by simp), HB9.out⟩
    · obtain ⟨r, hr, hT⟩ : ∃ r : Nat, r < L ∧ a3.tmod (L : Int) = (r : Int) := by
        refine ⟨a3.toNat % L, Nat.mod_lt _ (by omega), ?_⟩
        have e : a3 = ((a3.toNat : Nat) : Int) := by omega
        generalize a3.toNat = m at e
        rw [e]
        rfl
      go_wp2_with fail
      have HC := bdecode_any aX r cX (X.take r) v5 (HX5.out.upTo r (by omega))
      rw [HCUT.out r (by rw [HLX.out]; exact hr)] at HC
      generalize (bDec (X.take r)).1 = z1 at HC
      refine HC.mono ?_
      clear HC
      rintro e v6 ⟨aE, nE, cE, rfl, _, _, hb6⟩
      have HB6 : Hid (Below w.heap.size w v6) := HB5.out.trans (hb6.mono HB5.out.size)
      have HX6 : Hid (BsAt v6 aX L cX X) := HX5.out.below (Nat.le_refl _) hb6
      clear hb6
      go_wp2_with (first
        | (at_builtin; refine wpList_app0 v6 rfl _ _ rfl rfl _ _ _ X rfl HX6.out (by omega) ?_; intro a7 c7 v7 ho7 hb7
           have hz7 := hb7.size
           have HY7 : Hid (BsAt v7 a2 len2 cap2 b2) := (H2.out.below (Nat.le_refl _) HB6.out).below (Nat.le_refl _) hb7)
        | (at_builtin; refine wpList_appFit _ rfl _ _ rfl v6.heap.size _ _ _ X rfl ho7 (by omega) _ _ _ b2 rfl HY7.out (by omega) hz7 ?_))
      intro a8 c8 v8 ho8 hb8
      have HB8 : Hid (Below w.heap.size w v8) := (HB6.out.trans (hb7.mono HB6.out.size)).trans (hb8.mono HB6.out.size)
      have HO8 : Hid (BsAt v8 a8 (L + len2) c8 (X ++ b2)) := ho8.bs
      clear ho7 ho8 hb7 hb8
      go_wp2_with fail
      have HM := bdecode_any a8 (L + len2) c8 (X ++ b2) v8 HO8.out
      have hmm := HMORE.out
      generalize (bDec (X ++ b2)).2.2 = m9 at HM hmm
      generalize (bDec (X ++ b2)).1 = z2 at HM
      refine HM.mono ?_
      clear HM
      rintro e v9 ⟨aF, nF, cF, rfl, _, _, hb9⟩
      have HB9 : Hid (Below w.heap.size w v9) := HB8.out.trans (hb9.mono HB8.out.size)
      clear hb9
      go_wp2_with fail
      go_ret
      exact ⟨ret1 (by simp), HB9.out⟩
  · have hno := bEnc_no h0
    rw [hno] at henc
    have hne : (((bchk q b1 : Nat) : Int) != 0) = true := by simp; omega
    generalize bchk q b1 = ck at henc hchk hne
    have HENC : Hid (∀ W a n c, _) := henc
    have HCHK : Hid (∀ W a n c, _) := hchk
    clear henc hchk h0 hno
    go_enter Try.func6, Try.ntmps6
    go_wp2_with fail
    refine (awake_any _).mono ?_
    rintro e v1 ⟨rfl, hb1⟩
    have HB1 : Hid (Below w.heap.size w v1) := hb1
    clear hb1
    go_wp2_with fail
    refine (HENC.out _ _ _ _ (H1.out.below (Nat.le_refl _) HB1.out)).mono ?_
    rintro e v2 ⟨aX, cX, rfl, hX, hb2⟩
    have HB2 : Hid (Below w.heap.size w v2) := HB1.out.trans (hb2.mono HB1.out.size)
    clear hb2 hX
    go_wp2_with fail
    refine (HCHK.out _ _ _ _ (H1.out.below (Nat.le_refl _) HB2.out)).mono ?_
    rintro e v3 ⟨rfl, hb3⟩
    have HB3 := HB2.out.trans (hb3.mono HB2.out.size)
    go_wp2_with fail
    go_ret
    exact ⟨ret1 (by simp), HB3⟩
end Go.Proofs.Ytohhdbmkbfehfaa
