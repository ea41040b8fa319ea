/- The walk of BlockIntervals. -/
import Derived.Test.YtjlmjgbkeibaiabK11Law
import Derived.Deep.DeepCutAuto
namespace Go.Proofs.Ytjlmjgbkeibaiab
open Go.RowKit
set_option linter.unusedVariables false
set_option linter.unusedSimpArgs false
theorem conv_u8_int (k : Nat) (h : k < 256) (W : World) : (convert 5 3 (.int .u8 (k : Int))).run Try.prog W = .ok (.int .i64 (k : Int)) W := by
  have e := i64_wrap k (by omega)
  generalize (k : Int) = z at e ⊢
  simp [convert, run_underlying Try.underlying5, run_underlying Try.underlying3, go_sem, e]
/-- How many marks there are stands in the last four bytes. -/
theorem lay_marks (iv : Nat) (l : List KV) (h : (strs iv l).length < 65536) : ∃ x y : Nat, x < 256 ∧ y < 256 ∧ x + y * 256 = (strs iv l).length ∧ 5 ≤ (layP iv l).length ∧ ((layP iv l).getD ((layP iv l).length - 4) 0).toNat = x ∧ ((layP iv l).getD ((layP iv l).length - 3) 0).toNat = y := by
  have e : layP iv l = ((strs iv l).flatten ++ (placesB 0 (strs iv l) ++ [loByte iv])) ++ fxEnc (strs iv l).length 4 := by unfold layP; simp
  have el : (layP iv l).length = ((strs iv l).flatten ++ (placesB 0 (strs iv l) ++ [loByte iv])).length + 4 := by rw [e, List.length_append, fxEnc_length]
  have e5 : 1 ≤ ((strs iv l).flatten ++ (placesB 0 (strs iv l) ++ [loByte iv])).length := by simp; omega
  generalize (strs iv l).flatten ++ (placesB 0 (strs iv l) ++ [loByte iv]) = A at e el e5
  generalize (strs iv l).length = c at e h ⊢
  rw [el, e, Nat.add_sub_cancel, show A.length + 4 - 3 = A.length + 1 by omega]
  refine ⟨c % 256, c / 256, by omega, by omega, by omega, by omega, ?_, ?_⟩
  · simp [List.getD, List.getElem?_append_right, fxEnc, loByte_toNat]
  · simp [List.getD, List.getElem?_append_right, fxEnc, loByte_toNat]
    omega
/-- A greater interval never has more marks. -/
theorem marks_mono {v u : Nat} (hv : 1 ≤ v) (hvu : v ≤ u) (l : List KV) : (strs u l).length ≤ (strs v l).length := by
  rw [strs_len, strs_len]
  by_cases h0 : (chunks u l).length = 0
  · omega
  · have h1 := (chunks_at (by omega : 1 ≤ u) l ((chunks u l).length - 1)).1.2 (by omega)
    have h2 : ((chunks u l).length - 1) * v ≤ ((chunks u l).length - 1) * u := Nat.mul_le_mul_left _ hvu
    have h3 := (chunks_at hv l ((chunks u l).length - 1)).1.1 (by omega)
    omega
/-- Build answers. -/
theorem build_some (a : Option Addr) (n c : Nat) (l : List KV) (iv : Int) (hw : WfL l) (hn : n ≤ 1000000) (w : World) (h : KsAt w a n c l) (hb : a = none → c = 0) (hs : ∀ x, a = some x → x.spot = none) : Calls Try.prog 5 #[.slice a n c, .int .i64 iv] w fun r w' => ∃ a' n' c' er, r = .returned (.tuple #[.slice a' n' c', .int .i64 er]) ∧ Below w.heap.size w w' := by
  rcases build_any a n c l iv hw hn with ⟨er, _, hx⟩ | ⟨v, rfl, _, _, _, hx⟩
  · exact (hx w h).mono fun r w' ⟨h1, h2⟩ => ⟨none, 0, 0, er, h1, h2⟩
  · exact (hx w h hb hs).mono fun r w' ⟨a', c', h1, _, h2⟩ => ⟨a', _, c', 0, h1, h2⟩
set_option maxRecDepth 100000 in
set_option maxHeartbeats 4000000 in
theorem blockIntervals_walk (a : Option Addr) (len cap : Nat) (l0 : List KV) (i1 i2 : Int) (s3 : ByteArray) (q3 k3 : Int) (w : World) (h0 : KsAt w a len cap l0) (hr0 : ∀ e ∈ l0, RawOk e) (hg : (a = none → cap = 0) ∧ ∀ x, a = some x → x.spot = none) (_hi1 : (Lit.int .i64 i1).wf = true) (_hi2 : (Lit.int .i64 i2).wf = true) (_e3 : s3.size ≤ 140737488351232) (x3 : (Lit.int .u64 q3).wf = true) (_y3 : (Lit.int .i64 k3).wf = true) : Calls Try.prog 3 #[.slice a len cap, .int .i64 i1, .int .i64 i2, .agg #[.string s3, .int .u64 q3, .int .i64 k3]] w fun e w' => e = .returned (.bool true) ∧ Below w.heap.size w w' := by
  obtain ⟨n3, rfl⟩ : ∃ n : Nat, q3 = (n : Int) := by
    simp [Lit.wf, IntKind.min, IntKind.max, IntKind.bits, IntKind.signed] at x3
    exact ⟨q3.toNat, by omega⟩
  have HS0 : Hid (KsAt w a len cap l0 ∧ ∀ e ∈ l0, RawOk e) := ⟨h0, hr0⟩
  have HG : Hid ((a = none → cap = 0) ∧ ∀ x, a = some x → x.spot = none) := hg
  have hcm := h0.max
  have hle := h0.le
  unfold maxLen at hcm
  clear h0 hr0 hg _hi1 _hi2 x3 _y3 _e3
  have H0 : Hid (Below w.heap.size w (w.alloc (.cells #[.string s3, .int .u64 (n3 : Int), .int .i64 k3] 25)) ∧ Box (w.alloc (.cells #[.string s3, .int .u64 (n3 : Int), .int .i64 k3] 25)) w.heap.size 25 #[.string s3, .int .u64 (n3 : Int), .int .i64 k3]) := ⟨(Below.refl _ _).alloc (Nat.le_refl _) _, Box.new _ _ _⟩
  go_enter Try.func3, Try.ntmps3
  go_wp2_with fail
  refine (awake_any _).mono ?_
  rintro _ w1 ⟨rfl, hb1⟩
  have HB1 : Hid (Below w.heap.size w w1 ∧ Box w1 w.heap.size TK #[.string s3, .int .u64 (n3 : Int), .int .i64 k3]) := ⟨H0.out.1.trans (hb1.mono H0.out.1.size), H0.out.2.kept (hb1.block _ H0.out.2.lt)⟩
  clear hb1 H0
  go_upto_if 28 with fail
  go_cut [0] (fun x wz => ∃ n : Nat, x = .slice a n cap ∧ n ≤ 1000 ∧ n ≤ cap ∧ wz = w1 ∧ Hid (∃ l, KsAt w1 a n cap l ∧ ∀ e ∈ l, RawOk e))
  case first =>
    have HI : Hid (KsAt w1 a len cap l0) := HS0.out.1.below HB1.out.1
    by_cases hq : 1000 < len
    · obtain ⟨b, off, hab, _⟩ := HS0.out.1.here (by omega)
      subst hab
      go_wp2_with fail
      go_meet
      exact ⟨1000, rfl, by omega, by omega, rfl, l0.take 1000, HI.out.upTo (by omega), fun e he => HS0.out.2 e (List.mem_of_mem_take he)⟩
    · have hq' : decide ((1000 : Int) < (len : Int)) = false := by simp; omega
      go_wp2_with fail
      go_meet
      exact ⟨len, rfl, by omega, hle, rfl, l0, HI.out, HS0.out.2⟩
  case rest =>
    obtain ⟨n, rfl, hn, hnc, rfl, HL⟩ := hcut
    obtain ⟨l, hl1, hl2⟩ := HL.out
    have HK : Hid (KsAt wc a n cap l ∧ WfL l) := ⟨hl1, RawOk.wfl hl2⟩
    have HSZ : Hid (l.length = n) := hl1.size
    clear hl1 hl2 HL HS0 hle
    rcases build_any a n cap l i1 HK.out.2 (by omega) with ⟨er, her, hx⟩ | ⟨v, rfl, hv1, hv16, hck, hx⟩
    · have HX : Hid (∀ w, KsAt w a n cap l → Calls Try.prog 5 #[.slice a n cap, .int .i64 i1] w fun r w' => r = .returned (.tuple #[.slice none 0 0, .int .i64 er]) ∧ Below w.heap.size w w') := hx
      have hne : (er != 0) = true := by simpa using her
      clear hx her
      go_wp2_with fail
      refine (HX.out _ HK.out.1).mono ?_
      rintro _ w2 ⟨rfl, hb2⟩
      have H2 : Hid (Below w.heap.size w w2 ∧ KsAt w2 a n cap l) := ⟨HB1.out.1.trans (hb2.mono HB1.out.1.size), HK.out.1.below hb2⟩
      clear hb2
      have hbs := build_some a n cap l i2 HK.out.2 (by omega) w2 H2.out.2 HG.out.1 HG.out.2
      go_wp2_with fail
      refine hbs.mono ?_
      rintro _ w3 ⟨a3, n3', c3, er3, rfl, hb3⟩
      have HB3 : Hid (Below w.heap.size w w3) := H2.out.1.trans (hb3.mono H2.out.1.size)
      clear hb3 hbs
      go_wp2
      go_ret
      exact ⟨ret1 rfl, HB3.out⟩
    have HX : Hid (∀ w, KsAt w a n cap l → (a = none → cap = 0) → (∀ x, a = some x → x.spot = none) → Calls Try.prog 5 #[.slice a n cap, .int .i64 (v : Int)] w fun r w' => ∃ a' c', r = .returned (.tuple #[.slice a' (layP v l).length c', .int .i64 0]) ∧ OwnB w' w.heap.size a' (layP v l).length c' (layP v l) ∧ Below w.heap.size w w') := hx
    have HCK : Hid (chkL l = 0 ∧ Rises l) := ⟨hck, (chkL_zero.1 hck).2⟩
    have HLL : Hid (∀ x, 1 ≤ x → (layP x l).length ≤ 1106 * n + 5) := fun x hx => by
      have := lay_le hx l (chkL_zero.1 hck).1
      rw [HSZ.out] at this
      exact this
    clear hx hck
    obtain ⟨LV, HLV⟩ : ∃ m, Hid ((layP v l).length = m) := ⟨_, rfl⟩
    have HX1 : Hid (Calls Try.prog 5 #[.slice a n cap, .int .i64 (v : Int)] wc fun r w' => ∃ a' c', r = .returned (.tuple #[.slice a' LV c', .int .i64 0]) ∧ BsAt w' a' LV c' (layP v l) ∧ Below wc.heap.size wc w') := (HX.out _ HK.out.1 HG.out.1 HG.out.2).mono fun r w' ⟨a', c', h1, h2, h3⟩ => ⟨a', c', by rw [← HLV.out]; exact h1, by rw [← HLV.out]; exact h2.bs, h3⟩
    clear HX
    go_wp2_with fail
    refine HX1.out.mono ?_
    rintro _ w2 ⟨a2, c2, rfl, ho2, hb2⟩
    have H2 : Hid (Below w.heap.size w w2 ∧ KsAt w2 a n cap l ∧ Box w2 w.heap.size TK #[.string s3, .int .u64 (n3 : Int), .int .i64 k3] ∧ BsAt w2 a2 LV c2 (layP v l)) := ⟨HB1.out.1.trans (hb2.mono HB1.out.1.size), HK.out.1.below hb2, HB1.out.2.kept (hb2.block _ HB1.out.2.lt), ho2⟩
    have HW : Hid (WfL l) := HK.out.2
    clear ho2 hb2 HK HB1 HX1
    rcases build_any a n cap l i2 HW.out (by omega) with ⟨er, her, hx⟩ | ⟨u, rfl, hu1, hu16, _, hx⟩
    · have HX : Hid (∀ w, KsAt w a n cap l → Calls Try.prog 5 #[.slice a n cap, .int .i64 i2] w fun r w' => r = .returned (.tuple #[.slice none 0 0, .int .i64 er]) ∧ Below w.heap.size w w') := hx
      have hne : (er != 0) = true := by simpa using her
      clear hx her
      go_wp2_with fail
      refine (HX.out _ H2.out.2.1).mono ?_
      rintro _ w3 ⟨rfl, hb3⟩
      have HB3 : Hid (Below w.heap.size w w3) := H2.out.1.trans (hb3.mono H2.out.1.size)
      clear hb3
      go_wp2
      go_ret
      exact ⟨ret1 rfl, HB3.out⟩
    obtain ⟨LU, HLU⟩ : ∃ m, Hid ((layP u l).length = m) := ⟨_, rfl⟩
    have HX2 : Hid (Calls Try.prog 5 #[.slice a n cap, .int .i64 (u : Int)] w2 fun r w' => ∃ a' c', r = .returned (.tuple #[.slice a' LU c', .int .i64 0]) ∧ BsAt w' a' LU c' (layP u l) ∧ Below w2.heap.size w2 w') := (hx _ H2.out.2.1 HG.out.1 HG.out.2).mono fun r w' ⟨a', c', h1, h2, h3⟩ => ⟨a', c', by rw [← HLU.out]; exact h1, by rw [← HLU.out]; exact h2.bs, h3⟩
    clear hx
    go_wp2_with fail
    refine HX2.out.mono ?_
    rintro _ w3 ⟨a3, c3, rfl, ho3, hb3⟩
    have H3 : Hid (Below w.heap.size w w3 ∧ Box w3 w.heap.size TK #[.string s3, .int .u64 (n3 : Int), .int .i64 k3] ∧ BsAt w3 a2 LV c2 (layP v l) ∧ BsAt w3 a3 LU c3 (layP u l)) := ⟨H2.out.1.trans (hb3.mono H2.out.1.size), H2.out.2.2.1.kept (hb3.block _ H2.out.2.2.1.lt), H2.out.2.2.2.below (Nat.le_refl _) hb3, ho3⟩
    clear ho3 hb3 H2 HX2
    have hop1 := open_built H3.out.2.2.1 (by have := HLL.out v hv1; have := HLV.out; omega) hv1 hv16 HCK.out.1
    go_wp2_with fail
    refine hop1.mono ?_
    rintro _ w4 ⟨p, rfl, hgb4, hb4⟩
    have H4 : Hid (Below w.heap.size w w4 ∧ Box w4 w.heap.size TK #[.string s3, .int .u64 (n3 : Int), .int .i64 k3] ∧ BsAt w4 a2 LV c2 (layP v l) ∧ BsAt w4 a3 LU c3 (layP u l) ∧ GB w4 w3.heap.size p v l) := ⟨H3.out.1.trans (hb4.mono H3.out.1.size), H3.out.2.1.kept (hb4.block _ H3.out.2.1.lt), H3.out.2.2.1.below (Nat.le_refl _) hb4, H3.out.2.2.2.below (Nat.le_refl _) hb4, hgb4⟩
    clear hgb4 hb4 H3 hop1
    generalize w3.heap.size = B1 at H4
    have hop2 := open_built H4.out.2.2.2.1 (by have := HLL.out u hu1; have := HLU.out; omega) hu1 hu16 HCK.out.1
    go_wp2_with fail
    refine hop2.mono ?_
    rintro _ w5 ⟨q, rfl, hgb5, hb5⟩
    have H5 : Hid (Below w.heap.size w w5 ∧ Box w5 w.heap.size TK #[.string s3, .int .u64 (n3 : Int), .int .i64 k3] ∧ BsAt w5 a2 LV c2 (layP v l) ∧ BsAt w5 a3 LU c3 (layP u l) ∧ GB w5 B1 p v l ∧ GB w5 w4.heap.size q u l) := ⟨H4.out.1.trans (hb5.mono H4.out.1.size), H4.out.2.1.kept (hb5.block _ H4.out.2.1.lt), H4.out.2.2.1.below (Nat.le_refl _) hb5, H4.out.2.2.2.1.below (Nat.le_refl _) hb5, H4.out.2.2.2.2.below hb5, hgb5⟩
    clear hgb5 hb5 H4 hop2
    generalize w4.heap.size = B2 at H5
    have HLN : Hid (∀ (V : World) (B r x : Nat), GB V B r x l → Calls Try.prog 7 #[at_ r] V fun rr w' => rr = .returned (.int .i64 (n : Int)) ∧ V = w') := fun V B r x hV => by
      have := len_any hV.bk
      rw [HSZ.out] at this
      exact this
    have HFD : Hid (∀ (V : World) (B r x : Nat), GB V B r x l → Calls Try.prog 8 #[at_ r, .agg #[.string s3, .int .u64 (n3 : Int), .int .i64 k3]] V fun rr w' => ∃ m, FirstAt l ⟨s3, n3, k3⟩ m ∧ rr = .returned (.int .i64 (m : Int)) ∧ Below V.heap.size V w') := fun V B r x hV => find_any hV ⟨s3, n3, k3⟩
    have HKP : Hid (∀ V V' : World, Below V.heap.size V V' → (Below w.heap.size w V ∧ Box V w.heap.size TK #[.string s3, .int .u64 (n3 : Int), .int .i64 k3] ∧ BsAt V a2 LV c2 (layP v l) ∧ BsAt V a3 LU c3 (layP u l) ∧ GB V B1 p v l ∧ GB V B2 q u l) → (Below w.heap.size w V' ∧ Box V' w.heap.size TK #[.string s3, .int .u64 (n3 : Int), .int .i64 k3] ∧ BsAt V' a2 LV c2 (layP v l) ∧ BsAt V' a3 LU c3 (layP u l) ∧ GB V' B1 p v l ∧ GB V' B2 q u l)) := fun V V' hb h => ⟨h.1.trans (hb.mono h.1.size), h.2.1.kept (hb.block _ h.2.1.lt), h.2.2.1.below (Nat.le_refl _) hb, h.2.2.2.1.below (Nat.le_refl _) hb, h.2.2.2.2.1.below hb, h.2.2.2.2.2.below hb⟩
    have H6 : Hid (Below w.heap.size w w5.drew ∧ Box w5.drew w.heap.size TK #[.string s3, .int .u64 (n3 : Int), .int .i64 k3] ∧ BsAt w5.drew a2 LV c2 (layP v l) ∧ BsAt w5.drew a3 LU c3 (layP u l) ∧ GB w5.drew B1 p v l ∧ GB w5.drew B2 q u l) := HKP.out _ _ (Below.refl _ _).drew H5.out
    have c0 : w5.drew.cell? ⟨w.heap.size, 0, none⟩ = some (.string s3) := H6.out.2.1.cell 0
    have c1 : w5.drew.cell? ⟨w.heap.size, 1, none⟩ = some (.int .u64 (n3 : Int)) := H6.out.2.1.cell 1
    have c2' : w5.drew.cell? ⟨w.heap.size, 2, none⟩ = some (.int .i64 k3) := H6.out.2.1.cell 2
    have hnn : ((n : Int) != (n : Int)) = false := by simp
    go_wp2_with fail
    go_region_held3 (fun V => V.cell? ⟨w.heap.size, 0, none⟩ = some (.string s3) ∧ V.cell? ⟨w.heap.size, 1, none⟩ = some (.int .u64 (n3 : Int)) ∧ V.cell? ⟨w.heap.size, 2, none⟩ = some (.int .i64 k3)) (first | exact ⟨c0, c1, c2'⟩ | go_keep)
      (first
       | (go_at_call 8; refine (HFD.out _ B2 q u H7.out.2.2.2.2.2).mono ?_; rintro _ vz ⟨r2, hfa2, rfl, hbz⟩
          obtain rfl : r1 = r2 := HF1.out.uniq hfa2
          have H8 : Hid (Below w.heap.size w vz ∧ Box vz w.heap.size TK #[.string s3, .int .u64 (n3 : Int), .int .i64 k3] ∧ BsAt vz a2 LV c2 (layP v l) ∧ BsAt vz a3 LU c3 (layP u l) ∧ GB vz B1 p v l ∧ GB vz B2 q u l) := HKP.out _ _ hbz H7.out
          have c0 : vz.cell? ⟨w.heap.size, 0, none⟩ = some (.string s3) := H8.out.2.1.cell 0
          have c1 : vz.cell? ⟨w.heap.size, 1, none⟩ = some (.int .u64 (n3 : Int)) := H8.out.2.1.cell 1
          have c2' : vz.cell? ⟨w.heap.size, 2, none⟩ = some (.int .i64 k3) := H8.out.2.1.cell 2
          have hrr : ((r1 : Int) != (r1 : Int)) = false := by simp
          clear hbz hfa2)
       | (go_at_call 8; refine (HFD.out _ B1 p v H6.out.2.2.2.2.1).mono ?_; rintro _ vy ⟨r1, hfa1, rfl, hby⟩
          have HF1 : Hid (FirstAt l ⟨s3, n3, k3⟩ r1) := hfa1
          have H7 : Hid (Below w.heap.size w vy ∧ Box vy w.heap.size TK #[.string s3, .int .u64 (n3 : Int), .int .i64 k3] ∧ BsAt vy a2 LV c2 (layP v l) ∧ BsAt vy a3 LU c3 (layP u l) ∧ GB vy B1 p v l ∧ GB vy B2 q u l) := HKP.out _ _ hby H6.out
          have c0 : vy.cell? ⟨w.heap.size, 0, none⟩ = some (.string s3) := H7.out.2.1.cell 0
          have c1 : vy.cell? ⟨w.heap.size, 1, none⟩ = some (.int .u64 (n3 : Int)) := H7.out.2.1.cell 1
          have c2' : vy.cell? ⟨w.heap.size, 2, none⟩ = some (.int .i64 k3) := H7.out.2.1.cell 2
          clear hby hfa1)
       | (go_at_call 7; first | (refine (HLN.out _ B1 p v H6.out.2.2.2.2.1).mono ?_) | (refine (HLN.out _ B2 q u H6.out.2.2.2.2.2).mono ?_)
          rintro _ vx ⟨rfl, hvx⟩
          obtain rfl : w5.drew = vx := hvx))
    clear HF1 H7 H6 H5
    go_wp2_with fail
    go_loopw [18] (fun x wr => ∃ i : Nat, i ≤ n ∧ x = .int .i64 (i : Int) ∧ Hid (Below w.heap.size w wr ∧ Box wr w.heap.size TK #[.string s3, .int .u64 (n3 : Int), .int .i64 k3] ∧ BsAt wr a2 LV c2 (layP v l) ∧ BsAt wr a3 LU c3 (layP u l) ∧ GB wr B1 p v l ∧ GB wr B2 q u l)) (fun x _ => n - (intOf x).toNat)
    case atStart => exact ⟨0, Nat.zero_le _, rfl, H8.out⟩
    case round =>
      obtain ⟨i, hi, rfl, HR⟩ := hrel
      have hln := HLN.out _ B1 p v HR.out.2.2.2.2.1
      by_cases hin : i < n
      · go_wp2_with fail
        refine hln.mono ?_
        rintro _ vx ⟨rfl, hvx⟩
        obtain rfl : wr = vx := hvx
        have hil : i < l.length := by rw [HSZ.out]; exact hin
        have HAT : Hid (∃ e : KV, ∀ (V : World) (B r x : Nat), GB V B r x l → Calls Try.prog 9 #[at_ r, .int .i64 (i : Int)] V fun rr w' => rr = .returned (.tuple #[.agg #[.string e.1.user, .int .u64 (e.1.seq : Int), .int .i64 e.1.kind, .string e.2], .int .i64 0]) ∧ Below V.heap.size V w') := ⟨l[i], fun V B r x hV => at_yes hV (i := i) hil⟩
        obtain ⟨e, hat⟩ := HAT.out
        have HAT2 : Hid (∀ (V : World) (B r x : Nat), GB V B r x l → Calls Try.prog 9 #[at_ r, .int .i64 (i : Int)] V fun rr w' => rr = .returned (.tuple #[.agg #[.string e.1.user, .int .u64 (e.1.seq : Int), .int .i64 e.1.kind, .string e.2], .int .i64 0]) ∧ Below V.heap.size V w') := hat
        clear hat HAT hln
        have hneq := fun W => run_neq_kv e W
        go_wp2_with fail
        refine (HAT2.out _ B1 p v HR.out.2.2.2.2.1).mono ?_
        rintro _ x5 ⟨rfl, hb5⟩
        have HA : Hid (Below w.heap.size w (x5.alloc (.cells #[.string e.1.user, .int .u64 (e.1.seq : Int), .int .i64 e.1.kind, .string e.2] 37)) ∧ Box (x5.alloc (.cells #[.string e.1.user, .int .u64 (e.1.seq : Int), .int .i64 e.1.kind, .string e.2] 37)) w.heap.size TK #[.string s3, .int .u64 (n3 : Int), .int .i64 k3] ∧ BsAt (x5.alloc (.cells #[.string e.1.user, .int .u64 (e.1.seq : Int), .int .i64 e.1.kind, .string e.2] 37)) a2 LV c2 (layP v l) ∧ BsAt (x5.alloc (.cells #[.string e.1.user, .int .u64 (e.1.seq : Int), .int .i64 e.1.kind, .string e.2] 37)) a3 LU c3 (layP u l) ∧ GB (x5.alloc (.cells #[.string e.1.user, .int .u64 (e.1.seq : Int), .int .i64 e.1.kind, .string e.2] 37)) B1 p v l ∧ GB (x5.alloc (.cells #[.string e.1.user, .int .u64 (e.1.seq : Int), .int .i64 e.1.kind, .string e.2] 37)) B2 q u l) := HKP.out _ _ ((Below.refl _ _).alloc (Nat.le_refl _) _) (HKP.out _ _ hb5 HR.out)
        have HBX : Hid (Box (x5.alloc (.cells #[.string e.1.user, .int .u64 (e.1.seq : Int), .int .i64 e.1.kind, .string e.2] 37)) x5.heap.size TKV #[.string e.1.user, .int .u64 (e.1.seq : Int), .int .i64 e.1.kind, .string e.2]) := Box.new _ _ _
        clear hb5
        go_wp2_with fail
        generalize x5.alloc (.cells #[.string e.1.user, .int .u64 (e.1.seq : Int), .int .i64 e.1.kind, .string e.2] 37) = x6 at HA HBX ⊢
        generalize x5.heap.size = eb at HBX ⊢
        refine (HAT2.out _ B2 q u HA.out.2.2.2.2.2).mono ?_
        rintro _ x7 ⟨rfl, hb7⟩
        have HC : Hid (Below w.heap.size w (x7.alloc (.cells #[.string e.1.user, .int .u64 (e.1.seq : Int), .int .i64 e.1.kind, .string e.2] 37)) ∧ Box (x7.alloc (.cells #[.string e.1.user, .int .u64 (e.1.seq : Int), .int .i64 e.1.kind, .string e.2] 37)) w.heap.size TK #[.string s3, .int .u64 (n3 : Int), .int .i64 k3] ∧ BsAt (x7.alloc (.cells #[.string e.1.user, .int .u64 (e.1.seq : Int), .int .i64 e.1.kind, .string e.2] 37)) a2 LV c2 (layP v l) ∧ BsAt (x7.alloc (.cells #[.string e.1.user, .int .u64 (e.1.seq : Int), .int .i64 e.1.kind, .string e.2] 37)) a3 LU c3 (layP u l) ∧ GB (x7.alloc (.cells #[.string e.1.user, .int .u64 (e.1.seq : Int), .int .i64 e.1.kind, .string e.2] 37)) B1 p v l ∧ GB (x7.alloc (.cells #[.string e.1.user, .int .u64 (e.1.seq : Int), .int .i64 e.1.kind, .string e.2] 37)) B2 q u l) := HKP.out _ _ ((Below.refl _ _).alloc (Nat.le_refl _) _) (HKP.out _ _ hb7 HA.out)
        have HBY : Hid (Box x7 eb TKV #[.string e.1.user, .int .u64 (e.1.seq : Int), .int .i64 e.1.kind, .string e.2]) := HBX.out.kept (hb7.block _ HBX.out.lt)
        have hlt : eb < x7.heap.size := HBY.out.lt
        have hne : eb ≠ x7.heap.size := by omega
        have y0 : x7.cell? ⟨eb, 0, none⟩ = some (.string e.1.user) := HBY.out.cell 0
        have y1 : x7.cell? ⟨eb, 1, none⟩ = some (.int .u64 (e.1.seq : Int)) := HBY.out.cell 1
        have y2 : x7.cell? ⟨eb, 2, none⟩ = some (.int .i64 e.1.kind) := HBY.out.cell 2
        have y3 : x7.cell? ⟨eb, 3, none⟩ = some (.string e.2) := HBY.out.cell 3
        clear hb7 HA HBX
        go_wp2
        go_roundw
        case rel => exact ⟨i + 1, hin, by go_num, HC.out⟩
        case measure => simp only [intOf]; omega
      · obtain rfl : i = n := by omega
        go_wp2_with fail
        refine hln.mono ?_
        rintro _ vx ⟨rfl, hvx⟩
        obtain rfl : wr = vx := hvx
        have hcc1 : (strs v l).length ≤ 1000 := by have := chunks_le hv1 l; rw [HSZ.out] at this; rw [strs_len]; omega
        have hcc2 : (strs u l).length ≤ 1000 := by have := chunks_le hu1 l; rw [HSZ.out] at this; rw [strs_len]; omega
        obtain ⟨m0, m1, hm0, hm1, hme, hm5, hmx, hmy⟩ := lay_marks v l (by omega)
        obtain ⟨o0, o1, ho0, ho1, hoe, ho5, hox, hoy⟩ := lay_marks u l (by omega)
        have HMO : Hid (v ≤ u → o0 + o1 * 256 ≤ m0 + m1 * 256) := fun h => by rw [hme, hoe]; exact marks_mono hv1 h l
        rw [HLV.out] at hm5 hmx hmy
        rw [HLU.out] at ho5 hox hoy
        have hLV : LV ≤ 2000000 := by have := HLL.out v hv1; have := HLV.out; omega
        have hLU : LU ≤ 2000000 := by have := HLL.out u hu1; have := HLU.out; omega
        obtain ⟨b0, p0, hi0, hc0⟩ := HR.out.2.2.1.idx (k := LV - 4) (by omega)
        obtain ⟨b1, p1, hi1, hc1⟩ := HR.out.2.2.1.idx (k := LV - 3) (by omega)
        obtain ⟨d0, q0, hj0, hd0⟩ := HR.out.2.2.2.1.idx (k := LU - 4) (by omega)
        obtain ⟨d1, q1, hj1, hd1⟩ := HR.out.2.2.2.1.idx (k := LU - 3) (by omega)
        rw [hmx] at hc0
        rw [hmy] at hc1
        rw [hox] at hd0
        rw [hoy] at hd1
        rw [show ((LV - 4 : Nat) : Int) = (LV : Int) - 4 by omega] at hi0
        rw [show ((LV - 3 : Nat) : Int) = (LV : Int) - 3 by omega] at hi1
        rw [show ((LU - 4 : Nat) : Int) = (LU : Int) - 4 by omega] at hj0
        rw [show ((LU - 3 : Nat) : Int) = (LU : Int) - 3 by omega] at hj1
        have cv0 := fun W => conv_u8_int m0 hm0 W
        have cv1 := fun W => conv_u8_int m1 hm1 W
        have cw0 := fun W => conv_u8_int o0 ho0 W
        have cw1 := fun W => conv_u8_int o1 ho1 W
        have hwr : ∀ x : Int, -1000000000 ≤ x → x ≤ 1000000000 → IntKind.i64.wrap x = x := fun x _ _ => by rw [IntKind.wrap_i64]; omega
        have wv4 := hwr ((LV : Int) - 4) (by omega) (by omega)
        have wv3 := hwr ((LV : Int) - 3) (by omega) (by omega)
        have wu4 := hwr ((LU : Int) - 4) (by omega) (by omega)
        have wu3 := hwr ((LU : Int) - 3) (by omega) (by omega)
        have wm1 := hwr ((m1 : Int) * 256) (by omega) (by omega)
        have wm0 := hwr ((m0 : Int) + (m1 : Int) * 256) (by omega) (by omega)
        have wo1 := hwr ((o1 : Int) * 256) (by omega) (by omega)
        have wo0 := hwr ((o0 : Int) + (o1 : Int) * 256) (by omega) (by omega)
        have HB : Hid (Below w.heap.size w wr) := HR.out.1
        clear hmx hmy hox hoy hme hoe HR HLN hln hwr hcc1 hcc2
        go_wp2_with fail
        go_quiet (fail)
        go_wp2_with fail
        go_quiet (fail)
        have hbig : decide ((60000 : Int) < (i : Int)) = false := decide_eq_false (by omega)
        by_cases hvu : (u : Int) < (v : Int)
        · go_wp2
          go_ret
          exact ⟨ret1 rfl, Below.drewM HB.out _⟩
        · have hge := HMO.out (by omega)
          go_wp2
          go_ret
          exact ⟨ret1 (by simp; omega), Below.drewM HB.out _⟩
end Go.Proofs.Ytjlmjgbkeibaiab
