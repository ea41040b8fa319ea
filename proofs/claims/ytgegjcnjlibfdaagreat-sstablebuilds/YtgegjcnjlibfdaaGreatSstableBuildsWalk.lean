/- The walk of SstableBuilds. -/
import Derived.Test.YtgegjcnjlibfdaaGreatSstableBackWalk
import Derived.Test.YtgegjcnjlibfdaaGreatR12Build
import Derived.Deep.DeepCutAuto
namespace Go.Proofs.YtgegjcnjlibfdaaGreat
open Go.RowKit
set_option linter.unusedVariables false
set_option linter.unusedSimpArgs false
theorem OwnK.made12 (w : World) : OwnK (w.alloc (.cells #[] TKV)) w.heap.size (some ⟨w.heap.size, 0, none⟩) 0 0 [] := ⟨rfl, World.ownsRow_made w #[] 0 (Nat.le_refl _) (Nat.zero_le _) (by simp)⟩
theorem OwnK.spot12 {w : World} {B : Nat} {a : Option Addr} {n c : Nat} {l : List KV} (h : OwnK w B a n c l) : (a = none → c = 0) ∧ ∀ x, a = some x → x.spot = none := by
  rcases h.row.2 with ⟨hv, _⟩ | ⟨g, c', cur, hv, _⟩
  · simp only [Value.slice.injEq] at hv
    obtain ⟨rfl, rfl, rfl⟩ := hv
    exact ⟨fun _ => rfl, fun x e => (by cases e)⟩
  · simp only [Value.slice.injEq] at hv
    obtain ⟨rfl, _, _⟩ := hv
    exact ⟨fun e => (by cases e), fun x e => (by cases e; rfl)⟩
/-- What both Builds answer. -/
theorem build12_both (a a' : Option Addr) (n c c' : Nat) (l : List KV) (bl iv : Int) (bits : Nat) (hw : WfL l) (hus : ∀ s ∈ usersL l, s.size ≤ 140737488351232) (hn : n ≤ 1000) (hln : l.length = n) : ∃ (m : Nat) (bs : List UInt8) (er : Int),
    (∀ w, KsAt w a n c l → (a = none → c = 0) → (∀ x, a = some x → x.spot = none) → Calls Tryz.prog 10 #[.slice a n c, .agg #[.int .i64 bl, .int .i64 iv, .float .f64 bits]] w fun r w' => ∃ a1 c1, r = .returned (.tuple #[.slice a1 m c1, .int .i64 er]) ∧ BsAt w' a1 m c1 bs ∧ Below w.heap.size w w') ∧
    (∀ w, KsAt w a' n c' l → Calls Tryz.prog 11 #[.slice a' n c', .agg #[.int .i64 bl, .int .i64 iv, .float .f64 bits]] w fun r w' => ∃ a1 c1, r = .returned (.tuple #[.slice a1 m c1, .int .i64 er]) ∧ BsAt w' a1 m c1 bs ∧ Below w.heap.size w w') := by
  have no : ∀ er : Int, bldE bl iv bits l = some er → (∀ w, KsAt w a n c l → (a = none → c = 0) → (∀ x, a = some x → x.spot = none) → Calls Tryz.prog 10 #[.slice a n c, .agg #[.int .i64 bl, .int .i64 iv, .float .f64 bits]] w fun r w' => r = .returned (.tuple #[.slice none 0 0, .int .i64 er]) ∧ Below w.heap.size w w') → ∃ (m : Nat) (bs : List UInt8) (er : Int),
      (∀ w, KsAt w a n c l → (a = none → c = 0) → (∀ x, a = some x → x.spot = none) → Calls Tryz.prog 10 #[.slice a n c, .agg #[.int .i64 bl, .int .i64 iv, .float .f64 bits]] w fun r w' => ∃ a1 c1, r = .returned (.tuple #[.slice a1 m c1, .int .i64 er]) ∧ BsAt w' a1 m c1 bs ∧ Below w.heap.size w w') ∧
      (∀ w, KsAt w a' n c' l → Calls Tryz.prog 11 #[.slice a' n c', .agg #[.int .i64 bl, .int .i64 iv, .float .f64 bits]] w fun r w' => ∃ a1 c1, r = .returned (.tuple #[.slice a1 m c1, .int .i64 er]) ∧ BsAt w' a1 m c1 bs ∧ Below w.heap.size w w') := by
    intro er he hb
    refine ⟨0, [], er, fun w h h1 h2 => (hb w h h1 h2).mono fun r w' ⟨h3, h4⟩ => ⟨none, 0, h3, BsAt.nil _, h4⟩, fun w h => (rbuild12 h hw hus hn).mono ?_⟩
    rintro r w' ⟨hb', ⟨er2, h1, rfl⟩ | ⟨h1, _⟩⟩
    · rw [he] at h1
      cases h1
      exact ⟨none, 0, rfl, BsAt.nil _, hb'⟩
    · rw [he] at h1
      cases h1
  by_cases h1 : (1 ≤ bl ∧ bl ≤ 65536) ∧ 1 ≤ iv ∧ iv ≤ 16
  · have h1' := h1
    obtain ⟨v, rfl⟩ : ∃ v : Nat, iv = (v : Int) := ⟨iv.toNat, by omega⟩
    obtain ⟨vb, rfl⟩ : ∃ v : Nat, bl = (v : Int) := ⟨bl.toNat, by omega⟩
    cases hok : okB bits with
    | false => exact no 100 (bldE_2 h1 hok) fun w h _ _ => build12_bits h (by omega) (by omega) (by omega) (by omega) hok (by omega)
    | true =>
      by_cases hn0 : n = 0
      · exact no 120 (bldE_3 h1 hok (List.eq_nil_of_length_eq_zero (by omega))) fun w h _ _ => build12_empty h (by omega) (by omega) (by omega) (by omega) hok hn0
      · have hne : l ≠ [] := by
          rintro rfl
          simp at hln
          omega
        by_cases h2 : chkL l = 0
        · have hE := bldE_5 h1 hok hne h2
          refine ⟨(tblB v vb bits l).length, tblB v vb bits l, 0, fun w h hb hs => (build12_yes h ⟨hb, hs, by omega, by omega, h2, hln, by omega⟩ (by omega) (by omega) hok (by omega) hn).mono ?_, fun w h => (rbuild12 h hw hus hn).mono ?_⟩
          · rintro r w' ⟨a1, c1, h3, h4, h5⟩
            exact ⟨a1, c1, h3, h4.bs, h5⟩
          · rintro r w' ⟨hb', ⟨er2, h3, rfl⟩ | ⟨_, a1, c1, h3, h4⟩⟩
            · rw [hE] at h3
              cases h3
            · simp only [Int.toNat_natCast] at h3 h4
              exact ⟨a1, c1, h3, h4, hb'⟩
        · exact no _ (bldE_4 h1 hok hne h2) fun w h _ _ => build12_bad h hw (by omega) (by omega) (by omega) (by omega) hok (by omega) hn hus h2
  · exact no 1 (bldE_1 h1) fun w _ _ _ => build12_arg a n c bl iv bits w h1
set_option maxRecDepth 100000 in
set_option maxHeartbeats 8000000 in
theorem sstableBuilds_walk (a : Option Addr) (len cap : Nat) (l0 : List KV) (bl iv : Int) (bits : Nat) (w : World) (h0 : KsAt w a len cap l0) (hr0 : ∀ e ∈ l0, RawOk e ∧ e.1.seq < 18446744073709551616) (hg : (a = none → cap = 0) ∧ ∀ x, a = some x → x.spot = none) (hx0 : ∀ e ∈ l0, e.1.user.size ≤ 140737488351232 ∧ e.2.size ≤ 140737488351232) :
    Calls Tryz.prog 4 #[.slice a len cap, .agg #[.int .i64 bl, .int .i64 iv, .float .f64 bits]] w fun e w' => e = .returned (.bool true) ∧ Below w.heap.size w w' := by
  have HS0 : Hid (KsAt w a len cap l0 ∧ (∀ e ∈ l0, RawOk e ∧ e.1.seq < 18446744073709551616) ∧ ∀ e ∈ l0, e.1.user.size ≤ 140737488351232 ∧ e.2.size ≤ 140737488351232) := ⟨h0, hr0, hx0⟩
  have HG : Hid ((a = none → cap = 0) ∧ ∀ x, a = some x → x.spot = none) := hg
  have hcm := h0.max
  have hle := h0.le
  unfold maxLen at hcm
  have H0 : Hid (Below w.heap.size w (w.alloc (.cells #[.int .i64 bl, .int .i64 iv, .float .f64 bits] TOp)) ∧ Box (w.alloc (.cells #[.int .i64 bl, .int .i64 iv, .float .f64 bits] TOp)) w.heap.size TOp #[.int .i64 bl, .int .i64 iv, .float .f64 bits]) := ⟨(Below.refl _ _).alloc (Nat.le_refl _) _, Box.new _ _ _⟩
  clear h0 hr0 hg hx0
  go_enter Tryz.func4, Tryz.ntmps4
  go_wp2_with fail
  refine (awake12_any _).mono ?_
  rintro _ w1 ⟨rfl, hb1⟩
  have HB1 : Hid (Below w.heap.size w w1 ∧ Box w1 w.heap.size TOp #[.int .i64 bl, .int .i64 iv, .float .f64 bits]) := ⟨H0.out.1.trans (hb1.mono H0.out.1.size), H0.out.2.kept (hb1.block _ H0.out.2.lt)⟩
  clear hb1 H0
  go_upto_if 15 with fail
  go_cut [0] (fun x wz => ∃ n : Nat, x = .slice a n cap ∧ n ≤ 300 ∧ n ≤ cap ∧ wz = w1 ∧ Hid (∃ l, KsAt w a n cap l ∧ (∀ e ∈ l, RawOk e ∧ e.1.seq < 18446744073709551616) ∧ ∀ e ∈ l, e.1.user.size ≤ 140737488351232 ∧ e.2.size ≤ 140737488351232))
  case first =>
    have HI : Hid (KsAt w a len cap l0) := HS0.out.1
    by_cases hq : 300 < len
    · obtain ⟨b, off, hab, _⟩ := HS0.out.1.here (by omega)
      subst hab
      go_wp2_with fail
      go_meet
      exact ⟨300, rfl, by omega, by omega, rfl, l0.take 300, HI.out.upTo (by omega), fun e he => HS0.out.2.1 e (List.mem_of_mem_take he), fun e he => HS0.out.2.2 e (List.mem_of_mem_take he)⟩
    · have hq' : decide ((300 : Int) < (len : Int)) = false := by simp; omega
      go_wp2_with fail
      go_meet
      exact ⟨len, rfl, by omega, hle, rfl, l0, HI.out, HS0.out.2⟩
  case rest =>
    obtain ⟨n, rfl, hn, hnc, rfl, HL⟩ := hcut
    obtain ⟨l, hl1, hl2, hl3⟩ := HL.out
    have HK : Hid (KsAt w a n cap l ∧ WfL l ∧ ∀ s ∈ usersL l, s.size ≤ 140737488351232) := ⟨hl1, raw_wfl12 hl2, users_le12 hl3⟩
    have HSZ : Hid (l.length = n) := hl1.size
    clear hl1 hl2 hl3 HL HS0 hle
    go_wp2_with (first | (at_builtin; refine wpList_appK _ rfl _ _ rfl wc.heap.size (some ⟨wc.heap.size, 0, none⟩) 0 0 [] rfl (OwnK.made12 wc) a n cap l rfl (HK.out.1.below (HB1.out.1.alloc HB1.out.1.size _)) HG.out.1 (by omega) (by simp) ?_; intro a2 c2 w2 ho2 hb2 _
                          have H2 : Hid (OwnK w2 wc.heap.size a2 n c2 l ∧ Below w.heap.size w w2 ∧ Box w2 w.heap.size TOp #[.int .i64 bl, .int .i64 iv, .float .f64 bits]) := by
                            have hb3 : Below wc.heap.size wc w2 := ((Below.refl _ _).alloc (Nat.le_refl _) _).trans hb2
                            refine ⟨?_, HB1.out.1.trans (hb3.mono HB1.out.1.size), HB1.out.2.kept (hb3.block _ HB1.out.2.lt)⟩
                            have := ho2
                            rw [Nat.zero_add] at this
                            simpa using this
                          have y0 : w2.cell? ⟨w.heap.size, 0, none⟩ = some (.int .i64 bl) := H2.out.2.2.cell 0
                          have y1 : w2.cell? ⟨w.heap.size, 1, none⟩ = some (.int .i64 iv) := H2.out.2.2.cell 1
                          have y2 : w2.cell? ⟨w.heap.size, 2, none⟩ = some (.float .f64 bits) := H2.out.2.2.cell 2
                          clear ho2 hb2) | fail)
    obtain ⟨m, bs, er, hx1, hx2⟩ := build12_both a2 a n c2 cap l bl iv bits HK.out.2.1 HK.out.2.2 (by omega) HSZ.out
    have HX : Hid (_ ∧ _) := ⟨hx1, hx2⟩
    clear hx1 hx2 y0 y1 y2
    refine (HX.out.1 _ H2.out.1.ks H2.out.1.spot12.1 H2.out.1.spot12.2).mono ?_
    rintro _ w3 ⟨a3, c3, rfl, hs3, hb3⟩
    have H3 : Hid (KsAt w3 a2 n c2 l ∧ BsAt w3 a3 m c3 bs ∧ Below w.heap.size w w3 ∧ Box w3 w.heap.size TOp #[.int .i64 bl, .int .i64 iv, .float .f64 bits]) := ⟨H2.out.1.ks.below hb3, hs3, H2.out.2.1.trans (hb3.mono H2.out.2.1.size), H2.out.2.2.kept (hb3.block _ H2.out.2.2.lt)⟩
    have y0 : w3.cell? ⟨w.heap.size, 0, none⟩ = some (.int .i64 bl) := H3.out.2.2.2.cell 0
    have y1 : w3.cell? ⟨w.heap.size, 1, none⟩ = some (.int .i64 iv) := H3.out.2.2.2.cell 1
    have y2 : w3.cell? ⟨w.heap.size, 2, none⟩ = some (.float .f64 bits) := H3.out.2.2.2.cell 2
    clear hs3 hb3
    go_wp2_with fail
    clear y0 y1 y2
    refine (HX.out.2 _ (HK.out.1.below H3.out.2.2.1)).mono ?_
    rintro _ w4 ⟨a4, c4, rfl, hs4, hb4⟩
    have H4 : Hid (KsAt w4 a2 n c2 l ∧ BsAt w4 a3 m c3 bs ∧ BsAt w4 a4 m c4 bs ∧ Below w.heap.size w w4) := ⟨H3.out.1.below hb4, H3.out.2.1.below (Nat.le_refl _) hb4, hs4, H3.out.2.2.1.trans (hb4.mono H3.out.2.2.1.size)⟩
    clear hs4 hb4
    go_wp2_with fail
    refine (same12 H4.out.1 (HK.out.1.below H4.out.2.2.2)).mono ?_
    rintro _ w5 ⟨rfl, d, hw5⟩
    have H5 : Hid (BsAt w5 a3 m c3 bs ∧ BsAt w5 a4 m c4 bs ∧ Below w.heap.size w w5) := by
      rw [hw5]
      have hd : Below w4.heap.size w4 (w4.drewN d) := below_drewN (Below.refl _ _) d
      exact ⟨H4.out.2.1.below (Nat.le_refl _) hd, H4.out.2.2.1.below (Nat.le_refl _) hd, below_drewN H4.out.2.2.2 d⟩
    clear hw5
    have s3 := H5.out.1.asStr Tryz.underlying27 Tryz.underlying5 Tryz.underlying9
    have s4 := H5.out.2.1.asStr Tryz.underlying27 Tryz.underlying5 Tryz.underlying9
    generalize strOf bs = sF at s3 s4
    go_wp2
    go_ret
    exact ⟨ret1 (by simp), H5.out.2.2⟩
end Go.Proofs.YtgegjcnjlibfdaaGreat
