/- staddlelaw09.WalBack returns true at any records and any place of a cut, and leaves memory as it was. -/
import Derived.Test.YtdhfimolgcnejaaW9Same
import Derived.Test.YtdhfimolgcnejaaW9Turn
import Derived.Deep.DeepCutAuto
namespace Go.Proofs.Ytdhfimolgcnejaa
open Go.RowKit
/-- The first k records. -/
theorem rows_to {w0 : World} {rs0 : List (List UInt8)} {a : Option Addr} {len cap : Nat} (h : RsAt w0 a len cap rs0) (k : Nat) (hk : k ≤ len) :
    ∃ a', (∀ W : World, (Instr.slice 28 (.slice a len cap) none (some (.int .i64 (k : Int))) none).run Try.prog W = .ok (.slice a' k cap) W) ∧
      (∀ (W : World) (rs : List (List UInt8)), RsAt W a len cap rs → RsAt W a' k cap (rs.take k)) := by
  have hle := h.le
  have hmx := h.max
  have up : ∀ (W : World) (rs : List (List UInt8)), RsAt W a len cap rs → RsAt W a k cap (rs.take k) := by
    intro W rs hr
    have hs := hr.size
    refine ⟨by simp; omega, by omega, hmx, hr.bare, fun hp => ?_⟩
    obtain ⟨b, off, rfl, hc⟩ := hr.here (by omega)
    refine ⟨b, off, rfl, fun j hj => ?_⟩
    have e : (rs.take k).getD j [] = rs.getD j [] := by simp [List.getD, hj]
    rw [e]
    exact hc j (by omega)
  cases a with
  | none =>
    obtain rfl := h.bare rfl
    obtain rfl : k = 0 := by omega
    refine ⟨none, fun W => ?_, up⟩
    simp [Instr.slice, run_underlying Try.underlying28, go_sem]
  | some ad =>
    obtain ⟨b, off, s⟩ := ad
    by_cases hc : cap = 0
    · subst hc
      obtain rfl : k = 0 := by omega
      refine ⟨some ⟨b, off, s⟩, fun W => ?_, up⟩
      simp [Instr.slice, run_underlying Try.underlying28, go_sem]
    · refine ⟨some ⟨b, off, s⟩, fun W => ?_, up⟩
      simp [Instr.slice, run_underlying Try.underlying28, go_sem]
      intro hh
      omega
theorem laid_ok (a : Option Addr) (n c : Nat) (rs : List (List UInt8)) (w : World) (h : RsAt w a n c rs) (hn : n ≤ 30) (hall : ∀ j, j < rs.length → (rs.getD j []).length ≤ 131072) (L : Nat) (hL : (logFrom [] rs).length = L) :
    Calls Try.prog 15 #[.slice a n c] w fun e w' => ∃ a' c', e = .returned (.tuple #[.slice a' L c', .bool true]) ∧ Below w.heap.size w w' := by
  subst hL
  refine (laid_any a n c rs w h hn).mono ?_
  rintro e w' (⟨a', c', _, rfl, ho, _, hb⟩ | ⟨⟨j, hj, hg⟩, _⟩)
  · exact ⟨a', c', rfl, hb⟩
  · exact absurd (hall j hj) (by omega)
theorem pref_ok {rs : List (List UInt8)} (hall : ∀ j, j < rs.length → (rs.getD j []).length ≤ 131072) (k : Nat) : ∀ j, j < (rs.take k).length → ((rs.take k).getD j []).length ≤ 131072 := by
  intro j hj
  simp at hj
  have e : (rs.take k).getD j [] = rs.getD j [] := by simp [List.getD, show j < k by omega]
  rw [e]
  exact hall j (by omega)
set_option maxRecDepth 100000 in
set_option maxHeartbeats 1000000 in
theorem walBack_walk (a0 : Option Addr) (len0 cap0 : Nat) (b0 : List (List UInt8)) (a1 : Int) (w : World) (w0 : RsAt w a0 len0 cap0 b0) (w1 : (Lit.int .i64 a1).wf = true) :
    Calls Try.prog 6 #[.slice a0 len0 cap0, .int .i64 a1] w fun e w' => e = .returned (.bool true) ∧ Below w.heap.size w w' := by
  have hle := w0.le
  have hmx := w0.max
  unfold maxLen at hmx
  have hr : -9223372036854775808 ≤ a1 ∧ a1 ≤ 9223372036854775807 := by
    simp [Lit.wf, IntKind.min, IntKind.max, IntKind.bits, IntKind.signed] at w1
    omega
  clear w1
  have H0 : Hid (RsAt w a0 len0 cap0 b0) := w0
  clear w0
  go_enter Try.func6, Try.ntmps6
  go_upto_if 24 with (go_at_call 9; refine (awake_any _).mono ?_; rintro e v1 ⟨rfl, hb1⟩)
  have HB1 : Hid (Below w.heap.size w v1) := hb1
  clear hb1
  go_cut [0] (fun s wc => ∃ (ar : Option Addr) (n cr : Nat) (rs : List (List UInt8)), s = .slice ar n cr ∧ n ≤ 30 ∧ Hid (RsAt w ar n cr rs) ∧ wc = v1)
  case first =>
    by_cases hg : 30 < len0
    · obtain ⟨at1, hs1, hs1'⟩ := rows_to H0.out 30 (by omega)
      have hs1 : ∀ W : World, (Instr.slice 28 (.slice a0 len0 cap0) none (some (.int .i64 30)) none).run Try.prog W = .ok (.slice at1 30 cap0) W := hs1
      have HS : Hid (RsAt w at1 30 cap0 (b0.take 30)) := hs1' _ _ H0.out
      clear hs1'
      go_wp2_with fail
      go_meet
      exact ⟨at1, 30, cap0, _, rfl, Nat.le_refl _, HS.out, rfl⟩
    · go_wp2_with fail
      go_meet
      exact ⟨a0, len0, cap0, b0, rfl, by omega, H0.out, rfl⟩
  case rest =>
    obtain ⟨ar, n, cr, rs, rfl, hn, HR, rfl⟩ := hcut
    have HN : Hid (rs.length = n) := HR.out.size
    go_wp2_with fail
    refine (laid_any ar n cr rs _ (HR.out.below (Nat.le_refl _) HB1.out) hn).mono ?_
    rintro e v2 (⟨a2, c2, hall, rfl, ho2, hLb, hb2⟩ | ⟨_, rfl, hb2⟩)
    · have HA : Hid (∀ j, j < rs.length → (rs.getD j []).length ≤ 131072) := hall
      have HB2 : Hid (Below w.heap.size w v2) := HB1.out.trans (hb2.mono HB1.out.size)
      obtain ⟨L, HL⟩ : ∃ L, Hid ((logFrom [] rs).length = L) := ⟨_, rfl⟩
      rw [HL.out] at ho2 hLb ⊢
      have HO2 : Hid (BsAt v2 a2 L c2 (logFrom [] rs)) := ho2.bs
      have hL1 : L ≤ 4170000 := by have := HN.out; rw [this] at hLb; omega
      have HW : Hid (walRead (logFrom [] rs) = (rs, L, 0)) := by
        obtain ⟨j, e, hj, he, h1, h2, h3, h4⟩ := read_log rs [] [] L (Nat.zero_le _) (by rw [HL.out]; exact Nat.le_refl _)
        obtain ⟨rfl, rfl⟩ := h4 HL.out.symm
        rw [List.take_of_length_le (by rw [HL.out]; exact Nat.le_refl _), List.take_length, HL.out] at h1
        exact h1
      clear ho2 hLb hb2 hall
      go_wp2_with fail
      refine (read_eq a2 L c2 _ rs L 0 _ HO2.out (by omega) (by have := pcs_few (logFrom [] rs); rw [HL.out] at this; omega) HW.out).mono ?_
      rintro e v3 ⟨ra, rc, rfl, hrs3, hb3⟩
      rw [HN.out] at hrs3 ⊢
      have HB3 : Hid (Below w.heap.size w v3) := HB2.out.trans (hb3.mono HB2.out.size)
      have HO3 : Hid (BsAt v3 a2 L c2 (logFrom [] rs)) := HO2.out.below (Nat.le_refl _) hb3
      have HR3 : Hid (RsAt v3 ra n rc rs) := hrs3.rs
      clear hrs3 hb3
      go_wp2_with fail
      refine (same_true ra n rc ar cr rs _ HR3.out (HR.out.below (Nat.le_refl _) HB3.out)).mono ?_
      rintro e v4 ⟨rfl, hb4⟩
      have HB4 : Hid (Below w.heap.size w v4) := HB3.out.trans (hb4.mono HB3.out.size)
      have HO4 : Hid (BsAt v4 a2 L c2 (logFrom [] rs)) := HO3.out.below (Nat.le_refl _) hb4
      clear hb4
      go_upto_if 57 with fail
      go_cut [1] (fun s wz => ∃ q : Nat, s = .int .i64 q ∧ q ≤ 9223372036854775807 ∧ wz = v4)
      case first =>
        by_cases hq : a1 < 0
        · obtain ⟨q, e⟩ : ∃ q : Nat, -(a1 + 1) = (q : Int) := ⟨(-(a1 + 1)).toNat, by omega⟩
          have HE : Hid (-(a1 + 1) = (q : Int)) := e
          clear e
          go_wp2_with fail
          go_meet
          exact ⟨q, by rw [HE.out], by have := HE.out; omega, rfl⟩
        · go_wp2_with fail
          go_meet
          exact ⟨a1.toNat, by rw [show ((a1.toNat : Nat) : Int) = a1 by omega], by omega, rfl⟩
      case rest =>
        obtain ⟨q, rfl, hq, rfl⟩ := hcut
        clear hr
        obtain ⟨ct, hct, hctL⟩ : ∃ ct : Nat, (q : Int) % ((L : Int) + 1) = (ct : Int) ∧ ct ≤ L := by
          have h1 : q % (L + 1) < L + 1 := Nat.mod_lt _ (by omega)
          exact ⟨q % (L + 1), by simp, by omega⟩
        obtain ⟨j, en, hj, hen, hw5, hk5, hm5, _⟩ := read_log rs [] [] ct (Nat.zero_le _) (by rw [HL.out]; exact hctL)
        obtain ⟨K, HK⟩ : ∃ K, Hid ((logFrom [] (rs.take j)).length = K) := ⟨_, rfl⟩
        rw [HN.out] at hj
        rw [HK.out] at hw5 hk5
        have HW5 : Hid (walRead ((logFrom [] rs).take ct) = (rs.take j, K, en)) := hw5
        have HM5 : Hid (j = n ∨ ct < (logFrom [] (rs.take (j + 1))).length) := by
          rw [HN.out] at hm5
          exact hm5
        have HJL : Hid ((rs.take j).length = j) := by
          unfold Hid
          rw [List.length_take, HN.out]
          omega
        obtain ⟨asl, hss, hss'⟩ := slice_to HO4.out ct hctL
        have HOs : Hid (BsAt wc asl ct c2 ((logFrom [] rs).take ct)) := hss' _ _ HO4.out
        have HPC : Hid ((pcs ((logFrom [] rs).take ct) 0).length ≤ 1000000000000) := by
          have h1 := pcs_few ((logFrom [] rs).take ct)
          rw [List.length_take, HL.out] at h1
          unfold Hid
          omega
        obtain ⟨at2, hs2, hs2'⟩ := rows_to HR.out j hj
        have HT2 : Hid (RsAt w at2 j cr (rs.take j)) := hs2' _ _ HR.out
        have hen2 : ((en : Int) == 2) = false := by simp; omega
        clear hss' hs2' hw5 hm5
        go_wp2_with (at_builtin; refine wpList_app0 wc rfl _ _ rfl rfl _ _ _ ((logFrom [] rs).take ct) rfl HOs.out (by omega) ?_; intro a5 c5 v5 ho5 hb5)
        have HB5 : Hid (Below w.heap.size w v5) := HB4.out.trans (hb5.mono HB4.out.size)
        have HO5 : Hid (BsAt v5 a5 ct c5 ((logFrom [] rs).take ct)) := ho5.bs
        clear ho5 hb5
        refine (read_eq a5 ct c5 _ (rs.take j) K en _ HO5.out (by omega) HPC.out HW5.out).mono ?_
        rintro e v6 ⟨ma, mc, rfl, hrs6, hb6⟩
        rw [HJL.out] at hrs6 ⊢
        have HB6 : Hid (Below w.heap.size w v6) := HB5.out.trans (hb6.mono HB5.out.size)
        have HR6 : Hid (RsAt v6 ma j mc (rs.take j)) := hrs6.rs
        clear hrs6 hb6
        go_wp2_with fail
        refine (same_true ma j mc at2 cr (rs.take j) _ HR6.out (HT2.out.below (Nat.le_refl _) HB6.out)).mono ?_
        rintro e v7 ⟨rfl, hb7⟩
        have HB7 : Hid (Below w.heap.size w v7) := HB6.out.trans (hb7.mono HB6.out.size)
        clear hb7
        go_wp2_with fail
        refine (laid_ok at2 j cr (rs.take j) _ (HT2.out.below (Nat.le_refl _) HB7.out) (by omega) (pref_ok HA.out j) K HK.out).mono ?_
        rintro e v8 ⟨a8, c8, rfl, hb8⟩
        have HB8 : Hid (Below w.heap.size w v8) := HB7.out.trans (hb8.mono HB7.out.size)
        clear hb8
        by_cases hjn : j = n
        · have hje : ((j : Int) == (n : Int)) = true := by rw [hjn]; simp
          clear hjn
          go_wp2
          go_ret
          exact ⟨ret1 (by simp), HB8.out⟩
        · have hje : ((j : Int) == (n : Int)) = false := by simp; omega
          obtain ⟨L7, HL7⟩ : ∃ L7, Hid ((logFrom [] (rs.take (j + 1))).length = L7) := ⟨_, rfl⟩
          have hL7 : ct < L7 := by
            have := HM5.out
            rw [HL7.out] at this
            omega
          obtain ⟨at3, hs3, hs3'⟩ := rows_to HR.out (j + 1) (by omega)
          have hs3 : ∀ W : World, (Instr.slice 28 (.slice ar n cr) none (some (.int .i64 ((j : Int) + 1))) none).run Try.prog W = .ok (.slice at3 (j + 1) cr) W := hs3
          have HT3 : Hid (RsAt w at3 (j + 1) cr (rs.take (j + 1))) := hs3' _ _ HR.out
          clear hs3'
          go_wp2_with fail
          refine (laid_ok at3 (j + 1) cr (rs.take (j + 1)) _ (HT3.out.below (Nat.le_refl _) HB8.out) (by omega) (pref_ok HA.out (j + 1)) L7 HL7.out).mono ?_
          rintro e v9 ⟨a9, c9, rfl, hb9⟩
          have HB9 : Hid (Below w.heap.size w v9) := HB8.out.trans (hb9.mono HB8.out.size)
          clear hb9
          go_wp2
          go_ret
          exact ⟨ret1 (by simp), HB9.out⟩
    · go_wp2
      go_ret
      exact ⟨rfl, HB1.out.trans (hb2.mono HB1.out.size)⟩
end Go.Proofs.Ytdhfimolgcnejaa
