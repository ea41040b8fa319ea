/- The contract of the document's own Find. -/
import Derived.Test.YtgegjcnjlibfdaaGreatQa13
import Derived.Test.YtgegjcnjlibfdaaGreatQa23
import Derived.Test.YtgegjcnjlibfdaaGreatR11BuildA
import Derived.Test.YtgegjcnjlibfdaaGreatQa26
namespace Go.Proofs.YtgegjcnjlibfdaaGreat
open Go.RowKit
set_option linter.unusedVariables false
set_option linter.unusedSimpArgs false
theorem firstAt_of {l : List KV} (hr : Rises l) {k : IK} {m : Nat} (hm : m ≤ l.length) (h1 : ∀ i, ∀ h : i < l.length, i < m → l[i].1.cmp k < 0) (h2 : ∀ h : m < l.length, 0 ≤ l[m].1.cmp k) : FirstAt l k m :=
  ⟨hm, h1, fun i h hi => na_mono hr h hi (h2 (by omega))⟩
set_option maxRecDepth 100000 in
set_option maxHeartbeats 1000000 in
theorem rfind_any {w : World} {a : Option Addr} {n c : Nat} {l : List KV} (h : KsAt w a n c l) (hr : Rises l) (hn : n ≤ 1000000) (k : IK) :
    Calls Tryz.prog 53 #[.slice a n c, k.v] w fun r w' => ∃ m, FirstAt l k m ∧ r = .returned (.int .i64 (m : Int)) ∧ Below w.heap.size w w' := by
  have HS : Hid (KsAt w a n c l ∧ Rises l ∧ l.length = n) := ⟨h, hr, h.size⟩
  have H0 : Hid (Below w.heap.size w (w.alloc (.cells (ikA k) TK)) ∧ Box (w.alloc (.cells (ikA k) TK)) w.heap.size TK (ikA k)) := ⟨(Below.refl _ _).alloc (Nat.le_refl _) _, Box.new _ _ _⟩
  have hle := h.le
  clear h hr
  unfold IK.v
  go_enter Tryz.func53, Tryz.ntmps53
  go_wp2_with fail
  go_loopw [5] (fun x wr => ∃ i : Nat, i ≤ n ∧ x = .int .i64 (i : Int) ∧ Hid (Below w.heap.size w wr ∧ Box wr w.heap.size TK (ikA k) ∧ ∀ j, ∀ h : j < l.length, j < i → l[j].1.cmp k < 0)) (fun x _ => n - (intOf x).toNat)
  case atStart => exact ⟨0, Nat.zero_le _, rfl, H0.out.1, H0.out.2, fun j h hj => absurd hj (Nat.not_lt_zero _)⟩
  case round =>
    obtain ⟨i, hi, rfl, HR⟩ := hrel
    by_cases hin : i < n
    · have hil : i < l.length := by rw [HS.out.2.2]; exact hin
      obtain ⟨b, off, hab, _⟩ := HS.out.1.cells4 (by omega)
      have HC : Hid (∀ W, Below w.heap.size w W → W.cell? ⟨b, off + i * 4, none⟩ = some (.string l[i].1.user) ∧ W.cell? ⟨b, off + i * 4 + 1, none⟩ = some (.int .u64 (l[i].1.seq : Int)) ∧ W.cell? ⟨b, off + i * 4 + 2, none⟩ = some (.int .i64 l[i].1.kind)) := fun W hW => by
        obtain ⟨b', off', hab', hc⟩ := (HS.out.1.below hW).cells4 (by omega)
        rw [hab] at hab'
        cases hab'
        obtain ⟨z0, z1, z2, _⟩ := hc i hil
        exact ⟨z0, z1, z2⟩
      have hidx := fun W => idxKV W (a := a) (b := b) (off := off) (n := n) (c := c) hab hin
      have HCP : Hid (∀ W : World, Calls Tryz.prog 45 #[.agg #[.string l[i].1.user, .int .u64 (l[i].1.seq : Int), .int .i64 l[i].1.kind], .agg #[.string k.user, .int .u64 (k.seq : Int), .int .i64 k.kind]] W fun rr w' => rr = .returned (.int .i64 (l[i].1.cmp k)) ∧ Below W.heap.size W w') := fun W => rcompare_any _ _ _ _ _ _ W
      obtain ⟨cv, HCV⟩ : ∃ cv : Int, Hid (l[i].1.cmp k = cv) := ⟨l[i].1.cmp k, (rfl : l[i].1.cmp k = l[i].1.cmp k)⟩
      rw [HCV.out] at HCP
      generalize l[i] = e at HC HCP
      generalize off + i * 4 = o at HC hidx
      clear hab
      go_wp2_with fail
      have HA : Hid (Below w.heap.size w wr.drew ∧ Box wr.drew w.heap.size TK (ikA k)) := ⟨HR.out.1.drew, HR.out.2.1⟩
      obtain ⟨x0, x1, x2⟩ := HC.out _ HA.out.1
      have c0 : wr.drew.cell? ⟨w.heap.size, 0, none⟩ = some (.string k.user) := HA.out.2.cell 0
      have c1 : wr.drew.cell? ⟨w.heap.size, 1, none⟩ = some (.int .u64 (k.seq : Int)) := HA.out.2.cell 1
      have c2 : wr.drew.cell? ⟨w.heap.size, 2, none⟩ = some (.int .i64 k.kind) := HA.out.2.cell 2
      go_region_held3 (fun V => V.cell? ⟨b, o, none⟩ = some (.string e.1.user) ∧ V.cell? ⟨b, o + 1, none⟩ = some (.int .u64 (e.1.seq : Int)) ∧ V.cell? ⟨b, o + 2, none⟩ = some (.int .i64 e.1.kind) ∧ V.cell? ⟨w.heap.size, 0, none⟩ = some (.string k.user) ∧ V.cell? ⟨w.heap.size, 1, none⟩ = some (.int .u64 (k.seq : Int)) ∧ V.cell? ⟨w.heap.size, 2, none⟩ = some (.int .i64 k.kind)) (first | exact ⟨x0, x1, x2, c0, c1, c2⟩ | go_keep)
        (first
         | (go_at_call 45; refine (HCP.out _).mono ?_; rintro _ vx ⟨rfl, hbx⟩
            have HB : Hid (Below w.heap.size w vx ∧ Box vx w.heap.size TK (ikA k)) := ⟨HA.out.1.trans (hbx.mono HA.out.1.size), HA.out.2.kept (hbx.block _ HA.out.2.lt)⟩
            obtain ⟨x0, x1, x2⟩ := HC.out _ HB.out.1
            have c0 : vx.cell? ⟨w.heap.size, 0, none⟩ = some (.string k.user) := HB.out.2.cell 0
            have c1 : vx.cell? ⟨w.heap.size, 1, none⟩ = some (.int .u64 (k.seq : Int)) := HB.out.2.cell 1
            have c2 : vx.cell? ⟨w.heap.size, 2, none⟩ = some (.int .i64 k.kind) := HB.out.2.cell 2
            clear hbx))
      by_cases hcv : 0 ≤ cv
      · go_wp2
        go_ret
        exact ⟨i, firstAt_of HS.out.2.1 (by have := HS.out.2.2; omega) HR.out.2.2 (fun _ => by rw [HCV.out]; exact hcv), ret1 rfl, HB.out.1⟩
      · go_wp2
        go_roundw
        case rel =>
          refine ⟨i + 1, hin, by go_num, HB.out.1, HB.out.2, fun j hj hji => ?_⟩
          by_cases hji2 : j = i
          · subst hji2
            rw [HCV.out]
            omega
          · exact HR.out.2.2 j hj (by omega)
        case measure => simp only [intOf]; omega
    · obtain rfl : i = n := by omega
      go_wp2
      go_ret
      exact ⟨i, firstAt_of HS.out.2.1 (by have := HS.out.2.2; omega) HR.out.2.2 (fun hh => by have := HS.out.2.2; omega), ret1 rfl, HR.out.1⟩
end Go.Proofs.YtgegjcnjlibfdaaGreat
/- The contract of the document's own Read. -/
namespace Go.Proofs.YtgegjcnjlibfdaaGreat
open Go.RowKit
set_option linter.unusedVariables false
set_option linter.unusedSimpArgs false
theorem conv_u8_int (k : Nat) (h : k < 256) (W : World) : (convert 5 3 (.int .u8 (k : Int))).run Tryz.prog W = .ok (.int .i64 (k : Int)) W := by
  have e := i64_wrap k (by omega)
  generalize (k : Int) = z at e ⊢
  simp [convert, run_underlying Tryz.underlying5, run_underlying Tryz.underlying3, go_sem, e]
theorem ivOf_byte (b : List UInt8) (h : 5 ≤ b.length) : ivOf b = (b.getD (b.length - 5) 0).toNat := by
  unfold ivOf
  have hl : ((b.take (b.length - 4)).drop (b.length - 5)).length = 1 := by rw [List.length_drop, List.length_take]; omega
  have hg : ((b.take (b.length - 4)).drop (b.length - 5))[0]? = b[b.length - 5]? := by
    rw [List.getElem?_drop, List.getElem?_take, if_pos (by omega)]
    simp
  generalize (b.take (b.length - 4)).drop (b.length - 5) = x at hl hg
  match x, hl with
  | [c], _ =>
    simp at hg
    simp [leNat, List.getD, ← hg]
theorem countOf_lt (b : List UInt8) (h : 4 ≤ b.length) : countOf b < 4294967296 ∧ fxRead (b.drop (b.length - 4)) 4 = (countOf b, 0) := by
  have hl : (b.drop (b.length - 4)).length = 4 := by rw [List.length_drop]; omega
  have h1 : fxRead (b.drop (b.length - 4)) 4 = (countOf b, 0) := by
    unfold fxRead countOf
    rw [if_neg (by decide), if_neg (by rw [hl]; decide), List.take_of_length_le (by rw [hl]; decide)]
  refine ⟨?_, h1⟩
  have h2 := leNat_fxEnc (countOf b) 4
  have h3 := fxEnc_le (b.drop (b.length - 4))
  rw [hl] at h3
  unfold countOf at h2 ⊢
  rw [h3] at h2
  omega
def slLen : Value → Nat
  | .slice _ n _ => n
  | _ => 0
theorem uv_bounds {r : List UInt8} {v k e : Nat} (h : uvRead r = (v, k, e)) : v < 18446744073709551616 ∧ k ≤ r.length ∧ k ≤ 10 := by
  have := uvRead_ok r
  rw [h] at this
  simp only at this
  omega
set_option maxRecDepth 100000 in
set_option maxHeartbeats 4000000 in
theorem rread_own (a : Option Addr) (n c : Nat) (b : List UInt8) (w : World) (h : BsAt w a n c b) (hn : n ≤ 3000000) :
    Calls Tryz.prog 39 #[.slice a n c] w fun r w' => Below w.heap.size w w' ∧ ((readP b = none ∧ r = .returned (.tuple #[.slice none 0 0, .int .i64 111])) ∨ ∃ l a' c', readP b = some l ∧ r = .returned (.tuple #[.slice a' l.length c', .int .i64 0]) ∧ OwnK w' w.heap.size a' l.length c' l) := by
  have HB : Hid (BsAt w a n c b ∧ b.length = n) := ⟨h, h.size⟩
  have hle := h.le
  have hmx := h.max
  unfold maxLen at hmx
  clear h
  have HNO : Hid (∀ w', Below w.heap.size w w' → readP b = none → Below w.heap.size w w' ∧ ((readP b = none ∧ Ending.returned (.tuple #[.slice none 0 0, .int .i64 111]) = Ending.returned (.tuple #[.slice none 0 0, .int .i64 111])) ∨ ∃ l a' c', readP b = some l ∧ Ending.returned (.tuple #[.slice none 0 0, .int .i64 111]) = Ending.returned (.tuple #[.slice a' l.length c', .int .i64 0]) ∧ OwnK w' w.heap.size a' l.length c' l)) := fun w' hb hr => ⟨hb, .inl ⟨hr, rfl⟩⟩
  go_enter Tryz.func39, Tryz.ntmps39
  by_cases h5 : n < 5
  · have hd : decide ((n : Int) < 5) = true := decide_eq_true (by omega)
    go_wp2
    go_ret2
    exact ⟨Below.refl _ _, .inl ⟨readP_0 (by have := HB.out.2; omega), ret2 rfl rfl⟩⟩
  have hd : decide ((n : Int) < 5) = false := decide_eq_false (by omega)
  obtain ⟨p4, hp4, hq4⟩ := slice_any HB.out.1 (n - 4) (by omega)
  rw [show ((n - 4 : Nat) : Int) = (n : Int) - 4 by omega] at hp4
  have hcf := countOf_lt b (by rw [HB.out.2]; omega)
  have HFX := rfixed_any p4 (n - (n - 4)) (c - (n - 4)) (b.drop (n - 4)) 4 w (hq4 _ _ HB.out.1)
  rw [show n - 4 = b.length - 4 by rw [HB.out.2]] at HFX
  rw [hcf.2, HB.out.2] at HFX
  obtain ⟨cnt, HCN⟩ : ∃ m : Nat, Hid (countOf b = m) := ⟨countOf b, (rfl : countOf b = countOf b)⟩
  rw [HCN.out] at HFX hcf
  have hcb := hcf.1
  clear hcf hq4
  have cvn := fun V => conv_int_u64 n (by omega) V
  have cvc := fun V => conv_u64_int cnt (by omega) V
  go_wp2_with fail
  refine HFX.mono ?_
  rintro _ w1 ⟨rfl, hw1⟩
  obtain rfl : w1 = w := hw1
  clear HFX
  by_cases hc1 : n < cnt
  · have hd1 : decide ((n : Int) < (cnt : Int)) = true := decide_eq_true (by omega)
    go_wp2
    go_ret2
    exact ⟨Below.refl _ _, .inl ⟨readP_0 (by have := HB.out.2; have := HCN.out; omega), ret2 rfl rfl⟩⟩
  have hd1 : decide ((n : Int) < (cnt : Int)) = false := decide_eq_false (by omega)
  by_cases hc2 : n < 5 + 4 * cnt
  · have hd2 : decide ((n : Int) < 5 + 4 * (cnt : Int)) = true := decide_eq_true (by omega)
    go_wp2
    go_ret2
    exact ⟨Below.refl _ _, .inl ⟨readP_0 (by have := HB.out.2; have := HCN.out; omega), ret2 rfl rfl⟩⟩
  have hd2 : decide ((n : Int) < 5 + 4 * (cnt : Int)) = false := decide_eq_false (by omega)
  have HOK : Hid (5 ≤ b.length ∧ countOf b ≤ b.length ∧ 5 + 4 * countOf b ≤ b.length) := by
    have h1 := HB.out.2
    have h2 := HCN.out
    exact ⟨by omega, by omega, by omega⟩
  obtain ⟨b5, o5, hi5, hx5⟩ := HB.out.1.idx (k := n - 5) (by omega)
  rw [show n - 5 = b.length - 5 by rw [HB.out.2], ← ivOf_byte b (by rw [HB.out.2]; omega)] at hx5
  rw [show ((n - 5 : Nat) : Int) = (n : Int) - 5 by omega] at hi5
  obtain ⟨iv, HIV⟩ : ∃ m : Nat, Hid (ivOf b = m) := ⟨ivOf b, (rfl : ivOf b = ivOf b)⟩
  rw [HIV.out] at hx5
  have hivb : iv < 256 := by
    have h1 := HIV.out
    rw [ivOf_byte b (by rw [HB.out.2]; omega)] at h1
    have := (b.getD (b.length - 5) 0).toNat_lt
    omega
  have cvi := fun V => conv_u8_int iv hivb V
  obtain ⟨p7, hp7, hq7⟩ := slice_to HB.out.1 (n - 5 - 4 * cnt) (by omega)
  have HR0 : Hid (BsAt w1 p7 (n - 5 - 4 * cnt) c (bodyOf b)) := by
    have := hq7 _ _ HB.out.1
    unfold bodyOf
    rw [HB.out.2, HCN.out]
    exact this
  rw [show ((n - 5 - 4 * cnt : Nat) : Int) = (n : Int) - 5 - 4 * (cnt : Int) by omega] at hp7
  clear hq7
  have hm0 : n - 5 - 4 * cnt ≤ n := by omega
  generalize n - 5 - 4 * cnt = m0 at HR0 hp7 hm0
  go_wp2_with fail
  go_loopw [7, 8, 9] (fun x7 x8 x9 wr => ∃ (nr cr k cg nl cl : Nat) (ar ag al : Option Addr), nr ≤ n ∧ 3 * k + nr ≤ n ∧ nl ≤ 72 ∧ x7 = .slice ar nr cr ∧ x8 = .slice ag k cg ∧ x9 = .slice al nl cl ∧ Hid (∃ rest got last, Below w1.heap.size w1 wr ∧ BsAt w1 ar nr cr rest ∧ OwnK wr w1.heap.size ag k cg got ∧ OwnB wr w1.heap.size al nl cl last ∧ rd [] (bodyOf b) = (rd last rest).map (got ++ ·) ∧ WfL got)) (fun x7 _ _ _ => slLen x7)
  case atStart => exact ⟨m0, c, 0, 0, 0, 0, p7, none, none, hm0, by omega, by omega, rfl, rfl, rfl, bodyOf b, [], [], Below.refl _ _, HR0.out, OwnK.nil _ _, OwnB.nil _ _, by simp, fun e he => by cases he⟩
  case round =>
    obtain ⟨nr, cr, k, cg, nl, cl, ar, ag, al, hnr, hk3, hnl, rfl, rfl, rfl, HR⟩ := hrel
    obtain ⟨rest, got, last, hb0, hrs, hgo, hla, hrd, hwg⟩ := HR.out
    have H0 : Hid (Below w1.heap.size w1 wr ∧ BsAt w1 ar nr cr rest ∧ OwnK wr w1.heap.size ag k cg got ∧ OwnB wr w1.heap.size al nl cl last ∧ rd [] (bodyOf b) = (rd last rest).map (got ++ ·) ∧ WfL got) := ⟨hb0, hrs, hgo, hla, hrd, hwg⟩
    have HRL : Hid (rest.length = nr) := hrs.size
    clear hb0 hrs hgo hla hrd hwg HR
    by_cases hpos : 0 < nr
    · have HNE : Hid (rest ≠ []) := fun h0 => by have := HRL.out; rw [h0] at this; simp at this; omega
      have hdp : decide ((0 : Int) < (nr : Int)) = true := decide_eq_true (by omega)
      rcases q1 : uvRead rest with ⟨v1, k1, e1⟩
      obtain ⟨hv1, hk1, hk1t⟩ := uv_bounds q1
      rw [HRL.out] at hk1
      obtain ⟨p1, hp1, hr1⟩ := slice_any H0.out.2.1 k1 hk1
      have HU1 := ruvarint_eq (H0.out.2.1.below (Nat.le_refl _) H0.out.1) q1
      rcases q2 : uvRead (rest.drop k1) with ⟨v2, k2, e2⟩
      obtain ⟨hv2, hk2, hk2t⟩ := uv_bounds q2
      rw [List.length_drop, HRL.out] at hk2
      obtain ⟨p2, hp2, hr2⟩ := slice_any H0.out.2.1 (k1 + k2) (by omega)
      have HU2 := ruvarint_eq ((hr1 _ _ H0.out.2.1).below (Nat.le_refl _) H0.out.1) q2
      rcases q3 : uvRead ((rest.drop k1).drop k2) with ⟨v3, k3, e3⟩
      obtain ⟨hv3, hk3', hk3t⟩ := uv_bounds q3
      rw [List.length_drop, List.length_drop, HRL.out] at hk3'
      obtain ⟨p3, hp3, hr3⟩ := slice_any H0.out.2.1 (k1 + k2 + k3) (by omega)
      have HU3 : Calls Tryz.prog 40 #[.slice p2 (nr - (k1 + k2)) (cr - (k1 + k2))] wr fun e w' => e = .returned (.tuple #[.int .u64 (v3 : Nat), .int .i64 (k3 : Nat), .int .i64 (e3 : Nat)]) ∧ w' = wr := by
        have h2 := (hr2 _ _ H0.out.2.1).below (Nat.le_refl _) H0.out.1
        rw [← List.drop_drop] at h2
        exact ruvarint_eq h2 q3
      have H1 : Hid (uvRead rest = (v1, k1, e1) ∧ uvRead (rest.drop k1) = (v2, k2, e2) ∧ uvRead ((rest.drop k1).drop k2) = (v3, k3, e3)) := ⟨q1, q2, q3⟩
      obtain ⟨R, HRR⟩ : ∃ R : List UInt8, Hid (((rest.drop k1).drop k2).drop k3 = R) := ⟨((rest.drop k1).drop k2).drop k3, (rfl : ((rest.drop k1).drop k2).drop k3 = ((rest.drop k1).drop k2).drop k3)⟩
      have H3 : Hid (BsAt w1 p3 (nr - (k1 + k2 + k3)) (cr - (k1 + k2 + k3)) R) := by
        have h3 := hr3 _ _ H0.out.2.1
        rw [← List.drop_drop, ← List.drop_drop, HRR.out] at h3
        exact h3
      rw [show ((k1 + k2 : Nat) : Int) = (k1 : Int) + (k2 : Int) by omega] at hp2
      rw [show ((k1 + k2 + k3 : Nat) : Int) = (k1 : Int) + (k2 : Int) + (k3 : Int) by omega] at hp3
      clear q1 q2 q3 hr1 hr2 hr3
      obtain ⟨nR, hnR⟩ : ∃ m, nr - (k1 + k2 + k3) = m := ⟨_, rfl⟩
      obtain ⟨cR, hcR⟩ : ∃ m, cr - (k1 + k2 + k3) = m := ⟨_, rfl⟩
      rw [hnR, hcR] at H3 hp3
      have hnRb : nR ≤ n := by omega
      have HRN : Hid (R.length = nR) := H3.out.size
      clear hnR hcR
      go_wp2_with fail
      refine HU1.mono ?_
      rintro _ wx ⟨rfl, hwx⟩
      obtain rfl : wx = wr := hwx
      clear HU1
      go_wp2_with fail
      refine HU2.mono ?_
      rintro _ wy ⟨rfl, hwy⟩
      obtain rfl : wy = wx := hwy
      clear HU2
      go_wp2_with fail
      refine HU3.mono ?_
      rintro _ wz ⟨rfl, hwz⟩
      obtain rfl : wz = wy := hwz
      clear HU3
      by_cases he1 : e1 ≠ 0
      · have hz1 : ((e1 : Int) != 0) = true := by simp; omega
        go_wp2
        go_ret2
        exact ⟨H0.out.1, .inl ⟨readP_1 (by rw [H0.out.2.2.2.2.1, rd_no HNE.out (takeB_1 H1.out.1 he1)]; rfl), ret2 rfl rfl⟩⟩
      obtain rfl : e1 = 0 := by omega
      by_cases he2 : e2 ≠ 0
      · have hz2 : ((e2 : Int) != 0) = true := by simp; omega
        go_wp2
        go_ret2
        exact ⟨H0.out.1, .inl ⟨readP_1 (by rw [H0.out.2.2.2.2.1, rd_no HNE.out (takeB_2 H1.out.1 H1.out.2.1 he2)]; rfl), ret2 rfl rfl⟩⟩
      obtain rfl : e2 = 0 := by omega
      by_cases he3 : e3 ≠ 0
      · have hz3 : ((e3 : Int) != 0) = true := by simp; omega
        go_wp2
        go_ret2
        exact ⟨H0.out.1, .inl ⟨readP_1 (by rw [H0.out.2.2.2.2.1, rd_no HNE.out (takeB_3 H1.out.1 H1.out.2.1 H1.out.2.2 he3)]; rfl), ret2 rfl rfl⟩⟩
      obtain rfl : e3 = 0 := by omega
      clear he1 he2 he3
      have HT4 : Hid (takeB rest last = if v1 ≤ last.length ∧ v2 ≤ R.length ∧ v3 ≤ R.length - v2 ∧ keyOk (last.take v1 ++ R.take v2) = true then some ((decKey (last.take v1 ++ R.take v2), strOf ((R.drop v2).take v3)), last.take v1 ++ R.take v2, (R.drop v2).drop v3) else none) := takeB_4 H1.out.1 H1.out.2.1 H1.out.2.2 HRR.out
      have HLL : Hid (last.length = nl) := H0.out.2.2.2.1.size
      have HNT : Hid (¬ (v1 ≤ nl ∧ v2 ≤ nR ∧ v3 ≤ nR - v2 ∧ keyOk (last.take v1 ++ R.take v2) = true) → takeB rest last = none) := fun hh => by
        rw [HT4.out, if_neg]
        rw [HLL.out, HRN.out]
        exact hh
      clear H1
      have cvl := fun V => conv_int_u64 nl (by omega) V
      have cvR := fun V => conv_int_u64 nR (by omega) V
      by_cases hc3 : nl < v1
      · have hx1 : decide ((nl : Int) < (v1 : Int)) = true := decide_eq_true (by omega)
        go_wp2
        go_ret2
        exact ⟨H0.out.1, .inl ⟨readP_1 (by rw [H0.out.2.2.2.2.1, rd_no HNE.out (HNT.out (by omega))]; rfl), ret2 rfl rfl⟩⟩
      have hx1 : decide ((nl : Int) < (v1 : Int)) = false := decide_eq_false (by omega)
      by_cases hc4 : nR < v2
      · have hx2 : decide ((nR : Int) < (v2 : Int)) = true := decide_eq_true (by omega)
        go_wp2
        go_ret2
        exact ⟨H0.out.1, .inl ⟨readP_1 (by rw [H0.out.2.2.2.2.1, rd_no HNE.out (HNT.out (by omega))]; rfl), ret2 rfl rfl⟩⟩
      have hx2 : decide ((nR : Int) < (v2 : Int)) = false := decide_eq_false (by omega)
      have wsb : IntKind.u64.wrap ((nR : Int) - (v2 : Int)) = (nR : Int) - (v2 : Int) := by
        simp [IntKind.wrap, IntKind.bits, IntKind.signed]
        omega
      by_cases hc5 : nR < v2 + v3
      · have hx3 : decide ((nR : Int) - (v2 : Int) < (v3 : Int)) = true := decide_eq_true (by omega)
        go_wp2
        go_ret2
        exact ⟨H0.out.1, .inl ⟨readP_1 (by rw [H0.out.2.2.2.2.1, rd_no HNE.out (HNT.out (by omega))]; rfl), ret2 rfl rfl⟩⟩
      have hx3 : decide ((nR : Int) - (v2 : Int) < (v3 : Int)) = false := decide_eq_false (by omega)
      obtain ⟨s1, hs1, ht1⟩ := slice_to_u H0.out.2.2.2.1.bs v1 (by omega)
      obtain ⟨s2, hs2, ht2⟩ := slice_to_u H3.out v2 (by omega)
      obtain ⟨s4, hs4, ht4⟩ := slice_mid_u H3.out v2 (v2 + v3) (by omega) (by omega)
      obtain ⟨s5, hs5, ht5⟩ := slice_any_u H3.out (v2 + v3) (by omega)
      rw [show ((v2 + v3 : Nat) : Int) = (v2 : Int) + (v3 : Int) by omega] at hs4 hs5
      rw [show v2 + v3 - v2 = v3 by omega] at hs4 ht4
      have wad : IntKind.u64.wrap ((v2 : Int) + (v3 : Int)) = (v2 : Int) + (v3 : Int) := by
        simp [IntKind.wrap, IntKind.bits, IntKind.signed]
        omega
      have HD : Hid (BsAt wz s1 v1 cl (last.take v1) ∧ (∀ W, Below w1.heap.size w1 W → BsAt W s2 v2 cR (R.take v2) ∧ BsAt W s4 v3 (cR - v2) ((R.drop v2).take v3)) ∧ BsAt w1 s5 (nR - (v2 + v3)) (cR - (v2 + v3)) ((R.drop v2).drop v3)) := by
        refine ⟨ht1 _ _ H0.out.2.2.2.1.bs, fun W hW => ⟨(ht2 _ _ H3.out).below (Nat.le_refl _) hW, (ht4 _ _ H3.out).below (Nat.le_refl _) hW⟩, ?_⟩
        rw [List.drop_drop]
        exact ht5 _ _ H3.out
      clear ht1 ht2 ht4 ht5 hp1 hp2
      have HDW : Hid (BsAt wz.drew s1 v1 cl (last.take v1)) := HD.out.1.below (Nat.le_refl _) (Below.refl _ _).drew
      go_wp2_with fail
      go_region_held3 (fun _ => True) (trivial) (first
        | (refine step_app0 wz.drew rfl (.tmp 131) (.tmp 134) rfl wz.heap.size rfl (by simp [Act.eval]) s1 v1 cl (last.take v1) (by simp [Act.eval]) HDW.out (by omega) ?_
           intro a4 c4 x1 ho4 hb4
           have H4 : Hid (OwnB x1 wz.heap.size a4 v1 c4 (last.take v1) ∧ Below wz.heap.size wz x1 ∧ BsAt x1 s2 v2 cR (R.take v2)) := by
             have h1 : Below wz.heap.size wz x1 := (Below.refl _ _).drew.trans hb4
             exact ⟨ho4, h1, (HD.out.2.1 _ (H0.out.1.trans (h1.mono H0.out.1.size))).1⟩
           clear ho4 hb4)
        | (refine step_appB rfl (.tmp 135) (.tmp 138) rfl wz.heap.size a4 v1 c4 (last.take v1) (by simp [Act.eval]) H4.out.1 s2 v2 cR (R.take v2) (by simp [Act.eval]) H4.out.2.2 (by omega) H4.out.2.1.size ?_
           intro a5 c5 x2 ho5 hb5
           have H5 : Hid (OwnB x2 wz.heap.size a5 (v1 + v2) c5 (last.take v1 ++ R.take v2) ∧ Below wz.heap.size wz x2) := ⟨ho5, H4.out.2.1.trans hb5⟩
           clear ho5 hb5))
      obtain ⟨key, HKE⟩ : ∃ key : List UInt8, Hid (last.take v1 ++ R.take v2 = key) := ⟨last.take v1 ++ R.take v2, (rfl : last.take v1 ++ R.take v2 = last.take v1 ++ R.take v2)⟩
      rw [HKE.out] at H5 HT4 HNT
      have hdec := rdecode_any a5 (v1 + v2) c5 key x2 H5.out.1.bs
      by_cases hko : keyOk key = true
      case neg =>
        have hke : keyErr key = 20 := by unfold keyErr; rw [if_neg hko]
        rw [hke] at hdec
        generalize strOf (keyUser key) = ku at hdec
        generalize keySeq key = ks at hdec
        generalize keyKind key = kk at hdec
        go_wp2_with fail
        refine hdec.mono ?_
        rintro _ x3 ⟨rfl, hb3⟩
        have HB3 : Hid (Below w1.heap.size w1 x3) := by
          have h1 := H0.out.1.trans (H5.out.2.mono H0.out.1.size)
          exact h1.trans (hb3.mono h1.size)
        have HTN : Hid (takeB rest last = none) := HNT.out (fun hh => hko hh.2.2.2)
        clear hb3
        go_wp2
        go_ret2
        exact ⟨HB3.out.alloc HB3.out.size _, .inl ⟨readP_1 (by rw [H0.out.2.2.2.2.1, rd_no HNE.out HTN.out]; rfl), ret2 rfl rfl⟩⟩
      case pos =>
        obtain ⟨e, HE⟩ : ∃ e : KV, Hid (e = (decKey key, strOf ((R.drop v2).take v3))) := ⟨(decKey key, strOf ((R.drop v2).take v3)), (rfl : (decKey key, strOf ((R.drop v2).take v3)) = (decKey key, strOf ((R.drop v2).take v3)))⟩
        have HDEC : Hid (Calls Tryz.prog 82 #[.slice a5 (v1 + v2) c5] x2 fun rr w' => rr = .returned (.tuple #[.agg #[.string e.1.user, .int .u64 (e.1.seq : Int), .int .i64 e.1.kind], .int .i64 0]) ∧ Below x2.heap.size x2 w') := by
          have hke : keyErr key = 0 := by unfold keyErr; rw [if_pos hko]
          rw [hke] at hdec
          rw [HE.out]
          exact hdec
        have HTY : Hid (takeB rest last = some (e, key, (R.drop v2).drop v3)) := by
          show takeB rest last = some (e, key, (R.drop v2).drop v3)
          rw [HT4.out, if_pos ⟨by rw [HLL.out]; omega, by rw [HRN.out]; omega, by rw [HRN.out]; omega, hko⟩, HE.out]
        obtain ⟨hte, _, htl, htv, htk⟩ := takeB_some HTY.out
        have HWE : Hid (e.1.user.size ≤ 9223372036854775807 ∧ e.2.size ≤ 9223372036854775807) := ⟨by have := err_le hte; omega, by rw [HRL.out] at htv; omega⟩
        have hll : nR - (v2 + v3) + 3 ≤ nr := by
          rw [List.length_drop, List.length_drop, HRN.out, HRL.out] at htl
          omega
        have hkl : v1 + v2 ≤ 72 := by rw [H5.out.1.size] at htk; exact htk
        have HV2 : Hid (strOf ((R.drop v2).take v3) = e.2) := by
          show strOf ((R.drop v2).take v3) = e.2
          rw [HE.out]
        clear hdec hko hte htl htv htk
        go_wp2_with fail
        refine HDEC.out.mono ?_
        rintro _ x3 ⟨rfl, hb3⟩
        have hb4 : Below wz.heap.size wz (x3.alloc (.cells #[.string e.1.user, .int .u64 (e.1.seq : Int), .int .i64 e.1.kind] 52)) := (H5.out.2.trans (hb3.mono H5.out.2.size)).alloc (by have := H5.out.2.size; have := hb3.size; omega) _
        have H6 : Hid (Below w1.heap.size w1 (x3.alloc (.cells #[.string e.1.user, .int .u64 (e.1.seq : Int), .int .i64 e.1.kind] 52)) ∧ OwnK (x3.alloc (.cells #[.string e.1.user, .int .u64 (e.1.seq : Int), .int .i64 e.1.kind] 52)) w1.heap.size ag k cg got ∧ OwnB (x3.alloc (.cells #[.string e.1.user, .int .u64 (e.1.seq : Int), .int .i64 e.1.kind] 52)) w1.heap.size a5 (v1 + v2) c5 key ∧ Box (x3.alloc (.cells #[.string e.1.user, .int .u64 (e.1.seq : Int), .int .i64 e.1.kind] 52)) x3.heap.size 52 #[.string e.1.user, .int .u64 (e.1.seq : Int), .int .i64 e.1.kind]) := ⟨H0.out.1.trans (hb4.mono H0.out.1.size), H0.out.2.2.1.below hb4, ((H5.out.1.below hb3).alloc _).mono H0.out.1.size, Box.new _ _ _⟩
        clear hb3 hb4 HDEC
        go_upto_if 146 with fail
        generalize x3.alloc (.cells #[.string e.1.user, .int .u64 (e.1.seq : Int), .int .i64 e.1.kind] 52) = x4 at H6 ⊢
        generalize x3.heap.size = xb at H6 ⊢
        have H7 : Hid (Below w1.heap.size w1 x4.drew ∧ OwnK x4.drew w1.heap.size ag k cg got ∧ OwnB x4.drew w1.heap.size a5 (v1 + v2) c5 key ∧ Box x4.drew xb 52 #[.string e.1.user, .int .u64 (e.1.seq : Int), .int .i64 e.1.kind]) := by
          have hd := (Below.refl x4.heap.size x4).drew
          exact ⟨H6.out.1.drew, H6.out.2.1.below hd, H6.out.2.2.1.below hd, H6.out.2.2.2⟩
        have HSV : Hid (∀ V : World, Below w1.heap.size w1 V → Box V xb 52 #[.string e.1.user, .int .u64 (e.1.seq : Int), .int .i64 e.1.kind] → V.cell? ⟨xb, 0, none⟩ = some (.string e.1.user) ∧ V.cell? ⟨xb, 1, none⟩ = some (.int .u64 (e.1.seq : Int)) ∧ V.cell? ⟨xb, 2, none⟩ = some (.int .i64 e.1.kind) ∧ (convert 27 9 (.slice s4 v3 (cR - v2))).run Tryz.prog V = .ok (.string e.2) V) := fun V hV hx => ⟨hx.cell 0, hx.cell 1, hx.cell 2, by rw [← HV2.out]; exact conv_of (HD.out.2.1 _ hV).2⟩
        go_wp2_with fail
        go_region_held3 (fun V => V.cell? ⟨xb, 0, none⟩ = some (.string e.1.user) ∧ V.cell? ⟨xb, 1, none⟩ = some (.int .u64 (e.1.seq : Int)) ∧ V.cell? ⟨xb, 2, none⟩ = some (.int .i64 e.1.kind) ∧ (convert 27 9 (.slice s4 v3 (cR - v2))).run Tryz.prog V = .ok (.string e.2) V) (first | exact HSV.out _ H8.out.1 H8.out.2.2.2 | exact HSV.out _ H7.out.1 H7.out.2.2.2 | exact HSV.out _ ((H6.out.1.alloc H6.out.1.size _).drew) (H6.out.2.2.2.alloc _) | exact HSV.out _ ((H7.out.1.alloc H7.out.1.size _)) (H7.out.2.2.2.alloc _))
          (first
           | (refine step_pushK x4.drew rfl (.tmp 147) (.tmp 157) rfl w1.heap.size ag k cg got (by simp [Act.eval]) H7.out.2.1 e #[.string e.1.user, .int .u64 (e.1.seq : Int), .int .i64 e.1.kind, .string e.2] rfl x4.heap.size rfl (by simp [Act.eval]) (by omega) H7.out.1.size ?_
              intro a6 c6 x6 ho6 hb6 hg6
              have H8 : Hid (Below w1.heap.size w1 x6 ∧ OwnK x6 w1.heap.size a6 (k + 1) c6 (got ++ [e]) ∧ OwnB x6 w1.heap.size a5 (v1 + v2) c5 key ∧ Box x6 xb 52 #[.string e.1.user, .int .u64 (e.1.seq : Int), .int .i64 e.1.kind]) := ⟨H7.out.1.trans hb6, ho6, H7.out.2.2.1.oth (oth_push H7.out.2.1 _ hg6), H7.out.2.2.2.oth (oth_push H7.out.2.1 _ hg6) (by decide)⟩
              clear ho6 hb6 hg6))
        go_wp2
        go_roundw
        case rel =>
          refine ⟨nR - (v2 + v3), cR - (v2 + v3), k + 1, c6, v1 + v2, c5, s5, a6, a5, by omega, by omega, by omega, by rfl, rfl, rfl, (R.drop v2).drop v3, got ++ [e], key, H8.out.1, HD.out.2.2, H8.out.2.1, H8.out.2.2.1, ?_, ?_⟩
          · rw [H0.out.2.2.2.2.1, rd_yes HNE.out HTY.out, Option.map_map]
            congr 1
            funext z
            simp
          · intro y hy
            rcases List.mem_append.1 hy with hy | hy
            · exact H0.out.2.2.2.2.2 y hy
            · rw [List.mem_singleton.1 hy]
              exact HWE.out
        case measure => simp only [slLen]; omega
    · have HRD : Hid (rd [] (bodyOf b) = some got) := by
        have h0 := HRL.out
        obtain rfl := List.eq_nil_of_length_eq_zero (show rest.length = 0 by omega)
        show rd [] (bodyOf b) = some got
        rw [H0.out.2.2.2.2.1, rd_nil]
        simp
      have H1 : Hid (Below w1.heap.size w1 wr ∧ OwnK wr w1.heap.size ag k cg got ∧ WfL got) := ⟨H0.out.1, H0.out.2.2.1, H0.out.2.2.2.2.2⟩
      have hdp : decide ((0 : Int) < (nr : Int)) = false := decide_eq_false (by omega)
      have hkk : k ≤ 1000000 := by omega
      clear H0
      by_cases hiv : 1 ≤ iv ∧ iv ≤ 16
      case neg =>
        have hbu := rbuild_arg ag k cg (iv : Int) (by omega) wr
        go_wp2_with fail
        refine hbu.mono ?_
        rintro _ x1 ⟨rfl, hb1⟩
        have HB1 : Hid (Below w1.heap.size w1 x1) := H1.out.1.trans (hb1.mono H1.out.1.size)
        clear hb1
        go_wp2
        go_ret2
        exact ⟨HB1.out, .inl ⟨readP_2 HRD.out (by rw [HIV.out]; exact fun hh => hiv hh.1), ret2 rfl rfl⟩⟩
      case pos =>
        obtain ⟨hi1, hi16⟩ := hiv
        by_cases hck : chkL got = 0
        case neg =>
          have hbu := rbuild_bad ag k cg got (iv : Int) (by omega) wr H1.out.2.1.ks H1.out.2.2 hck
          have hne : (((chkL got : Nat) : Int) != 0) = true := by simp; omega
          have HCK : Hid (chkL got ≠ 0) := hck
          clear hck
          generalize chkL got = er at hbu hne
          go_wp2_with fail
          refine hbu.mono ?_
          rintro _ x1 ⟨rfl, hb1⟩
          have HB1 : Hid (Below w1.heap.size w1 x1) := H1.out.1.trans (hb1.mono H1.out.1.size)
          clear hb1
          go_wp2
          go_ret2
          exact ⟨HB1.out, .inl ⟨readP_2 HRD.out (fun hh => HCK.out hh.2.1), ret2 rfl rfl⟩⟩
        case pos =>
          have hbu := rbuild_yes ag k cg got iv hi1 hi16 wr H1.out.2.1.ks hkk H1.out.2.2 hck
          have HCK : Hid (chkL got = 0) := hck
          clear hck
          obtain ⟨L, HL⟩ : ∃ m : Nat, Hid ((layP iv got).length = m) := ⟨(layP iv got).length, (rfl : (layP iv got).length = (layP iv got).length)⟩
          rw [HL.out] at hbu
          go_wp2_with fail
          refine hbu.mono ?_
          rintro _ x1 ⟨a1, c1, rfl, hs1, hb1⟩
          have H2 : Hid (Below w1.heap.size w1 x1 ∧ OwnK x1 w1.heap.size ag k cg got ∧ BsAt x1 a1 L c1 (layP iv got) ∧ BsAt x1 a n c b) := by
            have hb := H1.out.1.trans (hb1.mono H1.out.1.size)
            exact ⟨hb, H1.out.2.1.below hb1, hs1, HB.out.1.below (Nat.le_refl _) hb⟩
          clear hs1 hb1 hbu
          have y1 := conv_of H2.out.2.2.1
          have y2 := conv_of H2.out.2.2.2
          have HQ : Hid ((strOf (layP iv got)).toList = (strOf b).toList ↔ layP iv got = b) := by
            unfold Hid strOf
            rw [ByteArray.toList_eq, ByteArray.toList_eq]
          generalize strOf (layP iv got) = sA at y1 HQ
          generalize strOf b = sB at y2 HQ
          by_cases hq : sA.toList = sB.toList
          · have HLY : Hid (layP iv got = b) := HQ.out.1 hq
            have hqq : (sA.toList == sB.toList) = true := by simpa using hq
            clear HQ
            go_wp2
            go_ret2
            have hgl : got.length = k := H2.out.2.1.size
            exact ⟨H2.out.1, .inr ⟨got, ag, cg, readP_3 HOK.out HRD.out ⟨by rw [HIV.out]; exact ⟨hi1, hi16⟩, HCK.out, by rw [HIV.out]; exact HLY.out⟩, ret2 (by rw [hgl]; rfl) rfl, by rw [hgl]; exact H2.out.2.1⟩⟩
          · have HLY : Hid (¬ layP iv got = b) := fun hh => hq (HQ.out.2 hh)
            have hqq : (sA.toList == sB.toList) = false := by simpa using hq
            clear HQ
            go_wp2
            go_ret2
            exact ⟨H2.out.1, .inl ⟨readP_2 HRD.out (by rw [HIV.out]; exact fun hh => HLY.out hh.2.2), ret2 rfl rfl⟩⟩
theorem rread_any (a : Option Addr) (n c : Nat) (b : List UInt8) (w : World) (h : BsAt w a n c b) (hn : n ≤ 3000000) :
    Calls Tryz.prog 39 #[.slice a n c] w fun r w' => Below w.heap.size w w' ∧ ((readP b = none ∧ r = .returned (.tuple #[.slice none 0 0, .int .i64 111])) ∨ ∃ l a' c', readP b = some l ∧ r = .returned (.tuple #[.slice a' l.length c', .int .i64 0]) ∧ KsAt w' a' l.length c' l) := by
  refine (rread_own a n c b w h hn).mono ?_
  rintro r w' ⟨h1, h2 | ⟨l, a', c', h3, h4, h5⟩⟩
  · exact ⟨h1, .inl h2⟩
  · exact ⟨h1, .inr ⟨l, a', c', h3, h4, h5.ks⟩⟩
end Go.Proofs.YtgegjcnjlibfdaaGreat
