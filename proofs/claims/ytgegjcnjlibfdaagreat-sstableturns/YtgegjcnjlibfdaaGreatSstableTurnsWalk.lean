/- The walk of SstableTurns. -/
import Derived.Test.YtgegjcnjlibfdaaGreatSstableBackWalk
import Derived.Test.YtgegjcnjlibfdaaGreatT12Turned
namespace Go.Proofs.YtgegjcnjlibfdaaGreat
open Go.RowKit
set_option linter.unusedVariables false
set_option linter.unusedSimpArgs false
theorem turn_all : ∀ (c : Fin 256) (s : Fin 8), bits .xor .u8 ((c.val : Nat) : Int) (2 ^ s.val % 256) = (((c.val ^^^ 2 ^ s.val : Nat)) : Int) ∧ c.val ^^^ 2 ^ s.val < 256 ∧ c.val ^^^ 2 ^ s.val ≠ c.val := by decide +kernel
theorem turn_byte (c s : Nat) (hc : c < 256) (hs : s < 8) : ∃ x : UInt8, bits .xor .u8 (c : Int) (2 ^ s % 256) = (x.toNat : Int) ∧ x.toNat ≠ c := by
  obtain ⟨h1, h2, h3⟩ := turn_all ⟨c, hc⟩ ⟨s, hs⟩
  simp only at h1 h2 h3
  generalize c ^^^ 2 ^ s = y at h1 h2 h3
  have e : (UInt8.ofNat y).toNat = y := by simp; omega
  exact ⟨UInt8.ofNat y, by rw [e]; exact h1, by rw [e]; exact h3⟩
/-- A byte of the call's own is stored. -/
theorem OwnB.store {w : World} {B g len cap : Nat} {bs : List UInt8} (h : OwnB w B (some ⟨g, 0, none⟩) len cap bs) (j : Nat) (x : UInt8) : OwnB (w.setCell ⟨g, j, none⟩ (.int .u8 (x.toNat : Int))) B (some ⟨g, 0, none⟩) len cap (bs.set j x) := by
  have hs := h.size
  refine ⟨by simp [hs], by rw [cellsB_length]; simp [hs], ?_⟩
  rcases h.row.2 with ⟨hv, _⟩ | ⟨g', c, cur, hv, hb, hg, hn, hc, hz, ht⟩
  · simp at hv
  · simp only [Value.slice.injEq, Option.some.injEq, Addr.mk.injEq, true_and, and_true] at hv
    obtain ⟨rfl, rfl⟩ := hv
    refine .inr ⟨g, cap, cur.setIfInBounds j (.int .u8 (x.toNat : Int)), rfl, hb, Box.set (w := w) (p := g) (t := 5) hg j _, hn, hc, by simpa using hz, ?_⟩
    rw [Nat.mul_one] at ht ⊢
    rw [Array.toList_setIfInBounds, List.take_set, ht]
    simp [cellsB]
set_option maxRecDepth 100000 in
set_option maxHeartbeats 8000000 in
theorem sstableTurns_walk (a : Option Addr) (len cap : Nat) (l0 : List KV) (bl iv : Int) (bits : Nat) (a2 : Int) (u : ByteArray) (a4 : Int) (w : World) (h0 : KsAt w a len cap l0) (hr0 : ∀ e ∈ l0, RawOk e ∧ e.1.seq < 18446744073709551616) (hg : (a = none → cap = 0) ∧ ∀ x, a = some x → x.spot = none) (hx0 : ∀ e ∈ l0, e.1.user.size ≤ 140737488351232 ∧ e.2.size ≤ 140737488351232) (h2 : (Lit.int .i64 a2).wf = true) (hu : u.size ≤ 140737488351232) (h3 : (Lit.int .u64 a4).wf = true) :
    Calls Tryz.prog 7 #[.slice a len cap, .agg #[.int .i64 bl, .int .i64 iv, .float .f64 bits], .int .i64 a2, .string u, .int .u64 a4] w fun e w' => e = .returned (.bool true) ∧ Below w.heap.size w w' := by
  obtain ⟨q, rfl, hq⟩ : ∃ q : Nat, a4 = (q : Int) ∧ q < 18446744073709551616 := by
    simp [Lit.wf, IntKind.min, IntKind.max, IntKind.bits, IntKind.signed] at h3
    exact ⟨a4.toNat, by omega, by omega⟩
  have hr : -9223372036854775808 ≤ a2 ∧ a2 ≤ 9223372036854775807 := by
    simp [Lit.wf, IntKind.min, IntKind.max, IntKind.bits, IntKind.signed] at h2
    omega
  have HS0 : Hid (KsAt w a len cap l0 ∧ (∀ e ∈ l0, RawOk e ∧ e.1.seq < 18446744073709551616) ∧ ∀ e ∈ l0, e.1.user.size ≤ 140737488351232 ∧ e.2.size ≤ 140737488351232) := ⟨h0, hr0, hx0⟩
  have HG : Hid ((a = none → cap = 0) ∧ ∀ x, a = some x → x.spot = none) := hg
  have HU : Hid (u.size ≤ 140737488351232 ∧ q < 18446744073709551616) := ⟨hu, hq⟩
  have HR2 : Hid (-9223372036854775808 ≤ a2 ∧ a2 ≤ 9223372036854775807) := hr
  have hcm := h0.max
  have hle := h0.le
  unfold maxLen at hcm
  have H0 : Hid (Below w.heap.size w (w.alloc (.cells #[.int .i64 bl, .int .i64 iv, .float .f64 bits] TOp)) ∧ Box (w.alloc (.cells #[.int .i64 bl, .int .i64 iv, .float .f64 bits] TOp)) w.heap.size TOp #[.int .i64 bl, .int .i64 iv, .float .f64 bits]) := ⟨(Below.refl _ _).alloc (Nat.le_refl _) _, Box.new _ _ _⟩
  clear h0 hr0 hg hx0 hu hq h3 h2 hr
  go_enter Tryz.func7, Tryz.ntmps7
  go_wp2_with fail
  refine (awake12_any _).mono ?_
  rintro _ w1 ⟨rfl, hb1⟩
  have HB1 : Hid (Below w.heap.size w w1 ∧ Box w1 w.heap.size TOp #[.int .i64 bl, .int .i64 iv, .float .f64 bits]) := ⟨H0.out.1.trans (hb1.mono H0.out.1.size), H0.out.2.kept (hb1.block _ H0.out.2.lt)⟩
  clear hb1 H0
  go_upto_if 28 with fail
  go_cut [0] (fun x wz => ∃ n : Nat, x = .slice a n cap ∧ n ≤ 300 ∧ n ≤ cap ∧ wz = w1 ∧ Hid (∃ l, KsAt w a n cap l ∧ (∀ e ∈ l, RawOk e ∧ e.1.seq < 18446744073709551616) ∧ ∀ e ∈ l, e.1.user.size ≤ 140737488351232 ∧ e.2.size ≤ 140737488351232))
  case first =>
    have HI : Hid (KsAt w a len cap l0) := HS0.out.1
    by_cases hq : 300 < len
    · obtain ⟨b, off, hab, _⟩ := HS0.out.1.here (by omega)
      subst hab
      go_wp2_with fail
      go_meet
      exact ⟨300, rfl, by omega, by omega, rfl, l0.take 300, HI.out.upTo (by omega), fun e he => HS0.out.2.1 e (List.mem_of_mem_take he), fun e he => HS0.out.2.2 e (List.mem_of_mem_take he)⟩
    · have hq' : decide ((300 : Int) < (len : Int)) = false := by simp; omega
      go_wp2_with fail
      go_meet
      exact ⟨len, rfl, by omega, hle, rfl, l0, HI.out, HS0.out.2⟩
  case rest =>
    obtain ⟨n, rfl, hn, hnc, rfl, HL⟩ := hcut
    obtain ⟨l, hl1, hl2, hl3⟩ := HL.out
    have HK : Hid (KsAt w a n cap l) := hl1
    have HSZ : Hid (l.length = n) := hl1.size
    have hany := build12_any a n cap l bl iv bits (raw_wfl12 hl2) (users_le12 hl3) (by omega) hl1.size
    have y0 : wc.cell? ⟨w.heap.size, 0, none⟩ = some (.int .i64 bl) := HB1.out.2.cell 0
    have y1 : wc.cell? ⟨w.heap.size, 1, none⟩ = some (.int .i64 iv) := HB1.out.2.cell 1
    have y2 : wc.cell? ⟨w.heap.size, 2, none⟩ = some (.float .f64 bits) := HB1.out.2.cell 2
    clear hl1 hl2 hl3 HL HS0 hle
    rcases hany with ⟨er, her, hx⟩ | ⟨v, vb, rfl, rfl, hv1, hv16, hvb1, hvb2, hok, hck, hn1, hx⟩
    · have HX : Hid _ := hx
      clear hx
      go_wp2_with fail
      refine (HX.out _ (HK.out.below HB1.out.1)).mono ?_
      rintro _ w2 ⟨rfl, hb2⟩
      have hne : (er != 0) = true := by simpa using her
      have HB2 : Hid (Below w.heap.size w w2) := HB1.out.1.trans (hb2.mono HB1.out.1.size)
      clear hb2
      go_wp2
      go_ret
      exact ⟨ret1 rfl, HB2.out⟩
    have HX : Hid _ := hx
    have hlne : l ≠ [] := by
      intro e
      have := HSZ.out
      rw [e] at this
      simp at this
      omega
    have HTU : Hid (∀ {k : Nat} {x : UInt8}, k < (bodyT (tdOf v (grps v vb l))).length → (tblB v vb bits l).getD k 0 ≠ x → ∃ T, openT ((tblB v vb bits l).set k x) = .ok T ∧ allT T = .error 122 ∧ ∀ u s, getT T u s = ⟨⟨#[]⟩, 0, 122⟩ ∨ getT T u s = toldK (lgetK l u s)) := fun hk hx => turned hv1 hv16 hck hlne (by rw [HSZ.out]; omega) hok hk hx
    have htl := tblB_le (bl := vb) (bits := bits) hv1 hv16 hck (by rw [HSZ.out]; omega) hok
    obtain ⟨hfa, hfl, hf4⟩ := tbl_fa (bl := vb) (bits := bits) hv1 hv16 hck (by rw [HSZ.out]; omega) hok
    have hf4' := hf4 hlne
    rw [num4_bytes (by omega)] at hfa
    clear hx hck hlne hok hf4
    go_wp2_with fail
    refine (HX.out _ (HK.out.below HB1.out.1) HG.out.1 HG.out.2).mono ?_
    rintro _ w2 ⟨a2', c2, rfl, ho2, hb2⟩
    obtain ⟨ll, hll⟩ : ∃ ll, (tblB v vb bits l).length = ll := ⟨_, rfl⟩
    rw [hll] at ho2 htl hfa hfl ⊢
    generalize tblB v vb bits l = tb at *
    generalize (bodyT (tdOf v (grps v vb l))).length = fa at *
    obtain ⟨g, hga, hgB, hglt, hcell⟩ := ho2.cells (by omega)
    subst hga
    have H2 : Hid (Below w.heap.size w w2 ∧ KsAt w2 a n cap l ∧ OwnB w2 w.heap.size (some ⟨g, 0, none⟩) ll c2 tb) := ⟨HB1.out.1.trans (hb2.mono HB1.out.1.size), HK.out.below (HB1.out.1.trans (hb2.mono HB1.out.1.size)), ho2.mono HB1.out.1.size⟩
    have hgw : w.heap.size ≤ g := Nat.le_trans HB1.out.1.size hgB
    have b0 := hcell (ll - 28) (by omega)
    have b1 := hcell (ll - 28 + 1) (by omega)
    have b2 := hcell (ll - 28 + 2) (by omega)
    have b3 := hcell (ll - 28 + 3) (by omega)
    have t0 : (tb.getD (ll - 28) 0).toNat < 256 := UInt8.toNat_lt _
    have t1 : (tb.getD (ll - 28 + 1) 0).toNat < 256 := UInt8.toNat_lt _
    have t2 : (tb.getD (ll - 28 + 2) 0).toNat < 256 := UInt8.toNat_lt _
    have t3 : (tb.getD (ll - 28 + 3) 0).toNat < 256 := UInt8.toNat_lt _
    generalize (tb.getD (ll - 28) 0).toNat = k0 at b0 t0 hfa
    generalize (tb.getD (ll - 28 + 1) 0).toNat = k1 at b1 t1 hfa
    generalize (tb.getD (ll - 28 + 2) 0).toNat = k2 at b2 t2 hfa
    generalize (tb.getD (ll - 28 + 3) 0).toNat = k3 at b3 t3 hfa
    obtain ⟨m, hm⟩ : ∃ m, ll - 28 = m := ⟨_, rfl⟩
    rw [hm] at b0 b1 b2 b3
    obtain rfl : ll = m + 28 := by omega
    clear hm ho2 hb2 HB1 HX y0 y1 y2 hgB
    have hm1 : (m : Int) + 28 - 28 = (m : Int) := by omega
    go_wp2_with fail
    go_quiet (fail)
    have hfi : (k0 : Int) + (k1 : Int) * 256 + (k2 : Int) * 65536 + (k3 : Int) * 16777216 = (fa : Int) := by omega
    simp only [hfi]
    have H3 : Hid (Below w.heap.size w (w2.drewN nq) ∧ KsAt (w2.drewN nq) a n cap l ∧ OwnB (w2.drewN nq) w.heap.size (some ⟨g, 0, none⟩) (m + 28) c2 tb) := ⟨below_drewN H2.out.1 nq, H2.out.2.1.below (below_drewN (Below.refl _ _) nq), H2.out.2.2.below (below_drewN (Below.refl _ _) nq)⟩
    generalize w2.drewN nq = w3 at *
    have hf0 : ((fa : Int) == 0) = false := by rw [beq_eq_false_iff_ne]; omega
    have hfm : ¬ ((m : Int) < (fa : Int)) := by omega
    have hcv := conv_int_u64 m (by omega)
    have hcv2 := conv_u64_int fa (by omega)
    clear b0 b1 b2 b3 hfa hfi t0 t1 t2 t3 H2 hcell
    go_upto_if 83 with fail
    go_cut [2] (fun s wz => ∃ z : Nat, s = .int .i64 z ∧ z ≤ 9223372036854775807 ∧ wz = w3)
    case first =>
      have hr := HR2.out
      by_cases hq : a2 < 0
      · obtain ⟨z, e⟩ : ∃ z : Nat, -(a2 + 1) = (z : Int) := ⟨(-(a2 + 1)).toNat, by omega⟩
        have HE : Hid (-(a2 + 1) = (z : Int)) := e
        clear e
        go_wp2_with fail
        go_meet
        exact ⟨z, by rw [HE.out], by have := HE.out; omega, rfl⟩
      · go_wp2_with fail
        go_meet
        exact ⟨a2.toNat, by rw [show ((a2.toNat : Nat) : Int) = a2 by omega], by omega, rfl⟩
    case rest =>
      obtain ⟨z, rfl, hz, rfl⟩ := hcut
      clear HR2
      obtain ⟨j, s, hj, hs, hmr, hq, hrm⟩ : ∃ j s : Nat, j < fa ∧ s < 8 ∧ (z : Int) % (8 * (fa : Int)) = ((8 * j + s : Nat) : Int) ∧ ((8 * j + s : Nat) : Int) / 8 = (j : Int) ∧ ((8 * j + s : Nat) : Int) % 8 = (s : Int) := by
        have h1 : z % (8 * fa) < 8 * fa := Nat.mod_lt _ (by omega)
        refine ⟨z % (8 * fa) / 8, z % (8 * fa) % 8, by omega, by omega, ?_, by omega, by omega⟩
        rw [Nat.div_add_mod]
        simp
      generalize hrr : 8 * j + s = r at hmr hq hrm
      clear hrr
      obtain ⟨_, hge, _, hglt', hc⟩ := H3.out.2.2.cells (by omega)
      obtain rfl : g = _ := by simpa using hge
      have hcx := hc j (by omega)
      have hfx := H3.out.2.2.unfrozen j
      have hc8 : (tb.getD j 0).toNat < 256 := UInt8.toNat_lt _
      generalize hcd : (tb.getD j 0).toNat = c at hcx hc8
      obtain ⟨x, hx, hxc⟩ := turn_byte c s hc8 hs
      obtain ⟨T, e1, e2, e3⟩ := HTU.out (k := j) (x := x) (by omega) (fun e => hxc (by rw [← hcd, e]))
      have H4 : Hid (Below w.heap.size w (wc.setCell ⟨g, j, none⟩ (.int .u8 (x.toNat : Int))) ∧ KsAt (wc.setCell ⟨g, j, none⟩ (.int .u8 (x.toNat : Int))) a n cap l ∧ BsAt (wc.setCell ⟨g, j, none⟩ (.int .u8 (x.toNat : Int))) (some ⟨g, 0, none⟩) (m + 28) c2 (tb.set j x)) := by
        exact ⟨H3.out.1.setCell hgw _, HK.out.below (H3.out.1.setCell hgw _), (H3.out.2.2.store j x).bs⟩
      have HT : Hid (openT (tb.set j x) = .ok T ∧ allT T = .error 122 ∧ (getT T u q = ⟨⟨#[]⟩, 0, 122⟩ ∨ getT T u q = toldK (lgetK l u q))) := ⟨e1, e2, e3 u q⟩
      clear hcd hc hxc hge e1 e2 e3 HTU
      have hop := open12_any H4.out.2.2 (by omega)
      go_wp2_with fail
      refine hop.mono ?_
      rintro _ w5 ⟨hb5, ⟨er, he, rfl⟩ | ⟨T', p, he, rfl, ht⟩⟩
      · rw [HT.out.1] at he
        cases he
      rw [HT.out.1] at he
      obtain rfl := Except.ok.inj he
      have H5 : Hid (Below w.heap.size w w5 ∧ TbAt w5 (wc.setCell ⟨g, j, none⟩ (.int .u8 (x.toNat : Int))).heap.size p T) := ⟨H4.out.1.trans (hb5.mono H4.out.1.size), ht⟩
      generalize (wc.setCell ⟨g, j, none⟩ (.int .u8 (x.toNat : Int))).heap.size = B at H5
      clear ht hb5 hop H4 he hx hcx hfx
      have hal := all12 H5.out.2
      go_wp2_with fail
      refine hal.mono ?_
      rintro _ w6 ⟨hb6, ⟨er, he, _, rfl⟩ | ⟨_, am, cm, he, rfl, hom⟩⟩
      rotate_left
      · rw [HT.out.2.1] at he
        cases he
      rw [HT.out.2.1] at he
      obtain rfl := Except.error.inj he
      have H6 : Hid (Below w.heap.size w w6 ∧ TbAt w6 B p T) := ⟨H5.out.1.trans (hb6.mono H5.out.1.size), H5.out.2.below hb6⟩
      clear hal hb6 he H5
      have hgt := get12 H6.out.2 u q HU.out.1 HU.out.2
      have hrg := fun V (hV : Below w.heap.size w V) => rget12 (HK.out.below hV) u q
      have hor := HT.out.2.2
      have hA0 := told_err (lgetK l u q)
      generalize toldK (lgetK l u q) = A at hrg hA0 hor
      obtain ⟨av, aw, ae⟩ := A
      obtain rfl : ae = 0 := hA0
      dsimp only at hrg
      have HRG : Hid (∀ V, Below w.heap.size w V → Calls Tryz.prog 20 #[.slice a n cap, .string u, .int .u64 (q : Int)] V fun e w' => e = .returned (.tuple #[.string av, .int .i64 ((aw : Nat) : Int)]) ∧ V = w') := hrg
      clear hrg
      rcases hor with hor | hor
      · rw [hor] at hgt
        unfold ansV at hgt
        clear hor
        go_wp2_with fail
        refine hgt.mono ?_
        rintro _ w7 ⟨rfl, hb7⟩
        have H7 : Hid (Below w.heap.size w w7) := H6.out.1.trans (hb7.mono H6.out.1.size)
        clear hgt hb7 H6
        go_wp2_with fail
        refine (HRG.out _ H7.out).mono ?_
        rintro _ w8 ⟨rfl, hw8⟩
        obtain rfl : w7 = w8 := hw8
        go_wp2
        go_ret
        exact ⟨ret1 rfl, H7.out⟩
      · rw [hor] at hgt
        unfold ansV at hgt
        clear hor
        go_wp2_with fail
        refine hgt.mono ?_
        rintro _ w7 ⟨rfl, hb7⟩
        have H7 : Hid (Below w.heap.size w w7) := H6.out.1.trans (hb7.mono H6.out.1.size)
        clear hgt hb7 H6
        go_wp2_with fail
        refine (HRG.out _ H7.out).mono ?_
        rintro _ w8 ⟨rfl, hw8⟩
        obtain rfl : w7 = w8 := hw8
        have hvv : (av.toList == av.toList) = true := by simp
        have hww : ((aw : Int) == (aw : Int)) = true := by simp
        go_wp2
        go_ret
        exact ⟨ret1 rfl, H7.out⟩
end Go.Proofs.YtgegjcnjlibfdaaGreat
