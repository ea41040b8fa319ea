/- The walk of BlockBuilds. -/
import Derived.Test.YtjlmjgbkeibaiaaK11Law
import Derived.Test.YtjlmjgbkeibaiaaR11Build
import Derived.Deep.DeepCutAuto
namespace Go.Proofs.Ytjlmjgbkeibaiaa
open Go.RowKit
set_option linter.unusedVariables false
set_option linter.unusedSimpArgs false
/-- What both Builds answer. -/
theorem build_both (a a' : Option Addr) (n c c' : Nat) (l : List KV) (iv : Int) (hw : WfL l) (hn : n ≤ 1000) : ∃ (m : Nat) (bs : List UInt8) (er : Int),
    (∀ w, KsAt w a n c l → (a = none → c = 0) → (∀ x, a = some x → x.spot = none) → Calls Try.prog 10 #[.slice a n c, .int .i64 iv] w fun r w' => ∃ a1 c1, r = .returned (.tuple #[.slice a1 m c1, .int .i64 er]) ∧ BsAt w' a1 m c1 bs ∧ Below w.heap.size w w') ∧
    (∀ w, KsAt w a' n c' l → Calls Try.prog 11 #[.slice a' n c', .int .i64 iv] w fun r w' => ∃ a1 c1, r = .returned (.tuple #[.slice a1 m c1, .int .i64 er]) ∧ BsAt w' a1 m c1 bs ∧ Below w.heap.size w w') := by
  by_cases h1 : 1 ≤ iv ∧ iv ≤ 16
  · by_cases h2 : chkL l = 0
    · obtain ⟨v, rfl⟩ : ∃ v : Nat, iv = (v : Int) := ⟨iv.toNat, by omega⟩
      refine ⟨_, layP v l, 0, fun w h hb hs => (build_yes a n c l v (by omega) (by omega) w h hb hs (by omega) hw h2).mono ?_, fun w h => rbuild_yes a' n c' l v (by omega) (by omega) w h (by omega) hw h2⟩
      rintro r w' ⟨a1, c1, h3, h4, h5⟩
      exact ⟨a1, c1, h3, h4.bs, h5⟩
    · refine ⟨0, [], ((chkL l : Nat) : Int), fun w h hb hs => (build_bad a n c l iv h1 w h hw h2).mono ?_, fun w h => (rbuild_bad a' n c' l iv h1 w h hw h2).mono ?_⟩
      · rintro r w' ⟨h3, h4⟩
        exact ⟨none, 0, h3, BsAt.nil _, h4⟩
      · rintro r w' ⟨h3, h4⟩
        exact ⟨none, 0, h3, BsAt.nil _, h4⟩
  · refine ⟨0, [], 1, fun w h hb hs => (build_arg a n c iv h1 w).mono ?_, fun w h => (rbuild_arg a' n c' iv h1 w).mono ?_⟩
    · rintro r w' ⟨h3, h4⟩
      exact ⟨none, 0, h3, BsAt.nil _, h4⟩
    · rintro r w' ⟨h3, h4⟩
      exact ⟨none, 0, h3, BsAt.nil _, h4⟩
set_option maxRecDepth 100000 in
set_option maxHeartbeats 2000000 in
theorem blockBuilds_walk (a : Option Addr) (len cap : Nat) (l0 : List KV) (iv : Int) (w : World) (h0 : KsAt w a len cap l0) (hr0 : ∀ e ∈ l0, RawOk e) (hg : (a = none → cap = 0) ∧ ∀ x, a = some x → x.spot = none) (_hi : (Lit.int .i64 iv).wf = true) : Calls Try.prog 4 #[.slice a len cap, .int .i64 iv] w fun e w' => e = .returned (.bool true) ∧ Below w.heap.size w w' := by
  have HS0 : Hid (KsAt w a len cap l0 ∧ ∀ e ∈ l0, RawOk e) := ⟨h0, hr0⟩
  have HG : Hid ((a = none → cap = 0) ∧ ∀ x, a = some x → x.spot = none) := hg
  have hcm := h0.max
  have hle := h0.le
  unfold maxLen at hcm
  clear h0 hr0 hg _hi
  go_enter Try.func4, Try.ntmps4
  go_wp2_with fail
  refine (awake_any _).mono ?_
  rintro _ w1 ⟨rfl, hb1⟩
  have HB1 : Hid (Below w.heap.size w w1) := hb1
  clear hb1
  go_upto_if 15 with fail
  go_cut [0] (fun x wz => ∃ n : Nat, x = .slice a n cap ∧ n ≤ 1000 ∧ n ≤ cap ∧ wz = w1 ∧ Hid (∃ l, KsAt w1 a n cap l ∧ ∀ e ∈ l, RawOk e))
  case first =>
    have HI : Hid (KsAt w1 a len cap l0) := HS0.out.1.below HB1.out
    by_cases hq : 1000 < len
    · obtain ⟨b, off, hab, _⟩ := HS0.out.1.here (by omega)
      subst hab
      go_wp2_with fail
      go_meet
      exact ⟨1000, rfl, by omega, by omega, rfl, l0.take 1000, HI.out.upTo (by omega), fun e he => HS0.out.2 e (List.mem_of_mem_take he)⟩
    · have hq' : decide ((1000 : Int) < (len : Int)) = false := by simp; omega
      go_wp2_with fail
      go_meet
      exact ⟨len, rfl, by omega, hle, rfl, l0, HI.out, HS0.out.2⟩
  case rest =>
    obtain ⟨n, rfl, hn, hnc, rfl, HL⟩ := hcut
    obtain ⟨l, hl1, hl2⟩ := HL.out
    have HK : Hid (KsAt wc a n cap l ∧ WfL l) := ⟨hl1, RawOk.wfl hl2⟩
    clear hl1 hl2 HL HS0 hle
    go_wp2_with (first | (at_builtin; refine wpList_appK _ rfl _ _ rfl wc.heap.size (some ⟨wc.heap.size, 0, none⟩) 0 0 [] rfl (OwnK.made wc) a n cap l rfl (HK.out.1.below ((Below.refl _ _).alloc (Nat.le_refl _) _)) HG.out.1 (by omega) (by simp) ?_; intro a2 c2 w2 ho2 hb2 _
                          have H2 : Hid (OwnK w2 wc.heap.size a2 n c2 l ∧ KsAt w2 a n cap l ∧ Below w.heap.size w w2) := by
                            have hb3 : Below wc.heap.size wc w2 := ((Below.refl _ _).alloc (Nat.le_refl _) _).trans hb2
                            refine ⟨?_, HK.out.1.below hb3, HB1.out.trans (hb3.mono HB1.out.size)⟩
                            have := ho2
                            rw [Nat.zero_add] at this
                            simpa using this
                          clear ho2 hb2) | fail)
    obtain ⟨m, bs, er, hx1, hx2⟩ := build_both a2 a n c2 cap l iv HK.out.2 hn
    have HX : Hid (_ ∧ _) := ⟨hx1, hx2⟩
    clear hx1 hx2
    refine (HX.out.1 _ H2.out.1.ks H2.out.1.spot.1 H2.out.1.spot.2).mono ?_
    rintro _ w3 ⟨a3, c3, rfl, hs3, hb3⟩
    have H3 : Hid (KsAt w3 a2 n c2 l ∧ KsAt w3 a n cap l ∧ BsAt w3 a3 m c3 bs ∧ Below w.heap.size w w3) := ⟨H2.out.1.ks.below hb3, H2.out.2.1.below hb3, hs3, H2.out.2.2.trans (hb3.mono H2.out.2.2.size)⟩
    clear hs3 hb3
    go_wp2_with fail
    refine (HX.out.2 _ H3.out.2.1).mono ?_
    rintro _ w4 ⟨a4, c4, rfl, hs4, hb4⟩
    have H4 : Hid (KsAt w4 a2 n c2 l ∧ KsAt w4 a n cap l ∧ BsAt w4 a3 m c3 bs ∧ BsAt w4 a4 m c4 bs ∧ Below w.heap.size w w4) := ⟨H3.out.1.below hb4, H3.out.2.1.below hb4, H3.out.2.2.1.below (Nat.le_refl _) hb4, hs4, H3.out.2.2.2.trans (hb4.mono H3.out.2.2.2.size)⟩
    clear hs4 hb4
    go_wp2_with fail
    refine (same_at H4.out.1 H4.out.2.1).mono ?_
    rintro _ w5 ⟨rfl, d, hw5⟩
    have H5 : Hid (BsAt w5 a3 m c3 bs ∧ BsAt w5 a4 m c4 bs ∧ Below w.heap.size w w5) := by
      rw [hw5]
      have hd : Below w4.heap.size w4 (w4.drewN d) := Below.drewM (Below.refl _ _) d
      exact ⟨H4.out.2.2.1.below (Nat.le_refl _) hd, H4.out.2.2.2.1.below (Nat.le_refl _) hd, Below.drewM H4.out.2.2.2.2 d⟩
    clear hw5
    have s3 := str_at H5.out.1
    have s4 := str_at H5.out.2.1
    generalize strOf bs = sF at s3 s4
    go_wp2
    go_ret
    exact ⟨ret1 (by simp), H5.out.2.2⟩
end Go.Proofs.Ytjlmjgbkeibaiaa
