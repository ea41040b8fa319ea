/- The walk of SstableTunes. -/
import Derived.Test.YtgegjcnjlibfdabGreatQa20
import Derived.Test.YtgegjcnjlibfdabGreatT12All
import Derived.Test.YtgegjcnjlibfdabGreatQa22
import Derived.Test.YtgegjcnjlibfdabGreatQa05
import Derived.Deep.DeepCutAuto
namespace Go.Proofs.YtgegjcnjlibfdabGreat
open Go.RowKit
set_option linter.unusedVariables false
set_option linter.unusedSimpArgs false
theorem wrap_u64T (x : Int) : IntKind.u64.wrap x = x % 18446744073709551616 := by
  simp [IntKind.wrap, IntKind.bits, IntKind.signed]
theorem raw_wflT {l : List KV} (h : ∀ e ∈ l, RawOk e ∧ e.1.seq < 18446744073709551616) : WfL l := fun e he => ⟨by have := (h e he).1.key; unfold maxLen at this; omega, (h e he).1.val⟩
theorem users_leT {l : List KV} (h : ∀ e ∈ l, e.1.user.size ≤ 140737488351232 ∧ e.2.size ≤ 140737488351232) : ∀ s ∈ usersL l, s.size ≤ 140737488351232 := fun s hs => by
  obtain ⟨e, he, rfl⟩ := List.mem_map.1 hs
  exact (h e he).1
set_option maxRecDepth 100000 in
set_option maxHeartbeats 8000000 in
theorem sstableTunes_walk (a : Option Addr) (len cap : Nat) (l0 : List KV) (bl iv : Int) (bits : Nat) (bl2 iv2 : Int) (bits2 : Nat) (u : ByteArray) (a4 : Int) (w : World) (h0 : KsAt w a len cap l0) (hr0 : ∀ e ∈ l0, RawOk e ∧ e.1.seq < 18446744073709551616) (hg : (a = none → cap = 0) ∧ ∀ x, a = some x → x.spot = none) (hx0 : ∀ e ∈ l0, e.1.user.size ≤ 140737488351232 ∧ e.2.size ≤ 140737488351232) (hu : u.size ≤ 140737488351232) (h3 : (Lit.int .u64 a4).wf = true) :
    Calls Tryz.prog 3 #[.slice a len cap, .agg #[.int .i64 bl, .int .i64 iv, .float .f64 bits], .agg #[.int .i64 bl2, .int .i64 iv2, .float .f64 bits2], .string u, .int .u64 a4] w fun e w' => e = .returned (.bool true) ∧ Below w.heap.size w w' := by
  obtain ⟨q, rfl, hq⟩ : ∃ q : Nat, a4 = (q : Int) ∧ q < 18446744073709551616 := by
    simp [Lit.wf, IntKind.min, IntKind.max, IntKind.bits, IntKind.signed] at h3
    exact ⟨a4.toNat, by omega, by omega⟩
  have HS0 : Hid (KsAt w a len cap l0 ∧ (∀ e ∈ l0, RawOk e ∧ e.1.seq < 18446744073709551616) ∧ ∀ e ∈ l0, e.1.user.size ≤ 140737488351232 ∧ e.2.size ≤ 140737488351232) := ⟨h0, hr0, hx0⟩
  have HG : Hid ((a = none → cap = 0) ∧ ∀ x, a = some x → x.spot = none) := hg
  have HU : Hid (u.size ≤ 140737488351232) := hu
  have hcm := h0.max
  have hle := h0.le
  unfold maxLen at hcm
  have H0 : Hid (Below w.heap.size w ((w.alloc (.cells #[.int .i64 bl, .int .i64 iv, .float .f64 bits] TOp)).alloc (.cells #[.int .i64 bl2, .int .i64 iv2, .float .f64 bits2] TOp)) ∧ Box ((w.alloc (.cells #[.int .i64 bl, .int .i64 iv, .float .f64 bits] TOp)).alloc (.cells #[.int .i64 bl2, .int .i64 iv2, .float .f64 bits2] TOp)) w.heap.size TOp #[.int .i64 bl, .int .i64 iv, .float .f64 bits] ∧ Box ((w.alloc (.cells #[.int .i64 bl, .int .i64 iv, .float .f64 bits] TOp)).alloc (.cells #[.int .i64 bl2, .int .i64 iv2, .float .f64 bits2] TOp)) (w.heap.size + 1) TOp #[.int .i64 bl2, .int .i64 iv2, .float .f64 bits2]) := by
    refine ⟨((Below.refl _ _).alloc (Nat.le_refl _) _).alloc (by simp) _, (Box.new _ _ _).alloc _, ?_⟩
    have := Box.new (w.alloc (.cells #[.int .i64 bl, .int .i64 iv, .float .f64 bits] TOp)) TOp #[.int .i64 bl2, .int .i64 iv2, .float .f64 bits2]
    rwa [World.size_alloc] at this
  clear h0 hr0 hg hx0 hu h3
  go_enter Tryz.func3, Tryz.ntmps3
  go_wp2_with fail
  refine (awake12_any _).mono ?_
  rintro _ w1 ⟨rfl, hb1⟩
  have HB1 : Hid (Below w.heap.size w w1 ∧ Box w1 w.heap.size TOp #[.int .i64 bl, .int .i64 iv, .float .f64 bits] ∧ Box w1 (w.heap.size + 1) TOp #[.int .i64 bl2, .int .i64 iv2, .float .f64 bits2]) := ⟨H0.out.1.trans (hb1.mono H0.out.1.size), H0.out.2.1.kept (hb1.block _ H0.out.2.1.lt), H0.out.2.2.kept (hb1.block _ H0.out.2.2.lt)⟩
  clear hb1 H0
  go_upto_if 35 with fail
  go_cut [0] (fun x wz => ∃ n : Nat, x = .slice a n cap ∧ n ≤ 300 ∧ n ≤ cap ∧ wz = w1 ∧ Hid (∃ l, KsAt w a n cap l ∧ (∀ e ∈ l, RawOk e ∧ e.1.seq < 18446744073709551616) ∧ ∀ e ∈ l, e.1.user.size ≤ 140737488351232 ∧ e.2.size ≤ 140737488351232))
  case first =>
    have HI : Hid (KsAt w a len cap l0) := HS0.out.1
    by_cases hq : 300 < len
    · obtain ⟨b, off, hab, _⟩ := HS0.out.1.here (by omega)
      subst hab
      go_wp2_with fail
      go_meet
      exact ⟨300, rfl, by omega, by omega, rfl, l0.take 300, HI.out.upTo (by omega), fun e he => HS0.out.2.1 e (List.mem_of_mem_take he), fun e he => HS0.out.2.2 e (List.mem_of_mem_take he)⟩
    · have hq' : decide ((300 : Int) < (len : Int)) = false := by simp; omega
      go_wp2_with fail
      go_meet
      exact ⟨len, rfl, by omega, hle, rfl, l0, HI.out, HS0.out.2⟩
  case rest =>
    obtain ⟨n, rfl, hn, hnc, rfl, HL⟩ := hcut
    obtain ⟨l, hl1, hl2, hl3⟩ := HL.out
    have HK : Hid (KsAt w a n cap l) := hl1
    have HSZ : Hid (l.length = n) := hl1.size
    have hany := build12_any a n cap l bl iv bits (raw_wflT hl2) (users_leT hl3) (by omega) hl1.size
    have hany2 := build12_any a n cap l bl2 iv2 bits2 (raw_wflT hl2) (users_leT hl3) (by omega) hl1.size
    have y0 : wc.cell? ⟨w.heap.size, 0, none⟩ = some (.int .i64 bl) := HB1.out.2.1.cell 0
    have y1 : wc.cell? ⟨w.heap.size, 1, none⟩ = some (.int .i64 iv) := HB1.out.2.1.cell 1
    have y2 : wc.cell? ⟨w.heap.size, 2, none⟩ = some (.float .f64 bits) := HB1.out.2.1.cell 2
    have HYB : Hid (∀ V, Below wc.heap.size wc V → V.cell? ⟨w.heap.size + 1, 0, none⟩ = some (.int .i64 bl2) ∧ V.cell? ⟨w.heap.size + 1, 1, none⟩ = some (.int .i64 iv2) ∧ V.cell? ⟨w.heap.size + 1, 2, none⟩ = some (.float .f64 bits2)) := fun V hV => by
      have h := HB1.out.2.2.kept (hV.block _ HB1.out.2.2.lt)
      exact ⟨h.cell 0, h.cell 1, h.cell 2⟩
    clear hl1 hl2 hl3 HL HS0 hle
    rcases hany with ⟨er, her, hx⟩ | ⟨v, vb, rfl, rfl, hv1, hv16, hvb1, hvb2, hok, hck, hn1, hx⟩
    · have HX : Hid _ := hx
      clear hx
      have hne : (er != 0) = true := by simpa using her
      obtain ⟨rv, re, HR2⟩ : ∃ (rv : World → Ending → World → Prop) (re : Int), Hid (∀ V, Below w.heap.size w V → Calls Tryz.prog 5 #[.slice a n cap, .agg #[.int .i64 bl2, .int .i64 iv2, .float .f64 bits2]] V fun r w' => ∃ (ax : Option Addr) (nx cx : Nat), r = .returned (.tuple #[.slice ax nx cx, .int .i64 re]) ∧ Below V.heap.size V w') := by
        rcases hany2 with ⟨er2, _, hx2⟩ | ⟨v2, vb2, _, _, _, _, _, _, _, _, _, hx2⟩
        · exact ⟨fun _ _ _ => True, er2, fun V hV => (hx2 V (HK.out.below hV)).mono fun r w' ⟨h1, h2⟩ => ⟨none, 0, 0, h1, h2⟩⟩
        · exact ⟨fun _ _ _ => True, 0, fun V hV => (hx2 V (HK.out.below hV) HG.out.1 HG.out.2).mono fun r w' ⟨a', c', h1, _, h2⟩ => ⟨a', _, c', h1, h2⟩⟩
      clear hany2
      go_wp2_with fail
      refine (HX.out _ (HK.out.below HB1.out.1)).mono ?_
      rintro _ w2 ⟨rfl, hb2⟩
      have HB2 : Hid (Below w.heap.size w w2) := HB1.out.1.trans (hb2.mono HB1.out.1.size)
      obtain ⟨z0, z1, z2⟩ := HYB.out w2 hb2
      clear hb2
      go_wp2_with fail
      refine (HR2.out _ HB2.out).mono ?_
      rintro _ w3 ⟨ax, nx, cx, rfl, hb3⟩
      have HB3 : Hid (Below w.heap.size w w3) := HB2.out.trans (hb3.mono HB2.out.size)
      clear hb3
      go_wp2
      go_ret
      exact ⟨ret1 rfl, HB3.out⟩
    have HX : Hid _ := hx
    have hlne : l ≠ [] := by
      intro e
      have := HSZ.out
      rw [e] at this
      simp at this
      omega
    have HTE : Hid (Tells ⟨fltN bits l, tdOf v (grps v vb l), l.length⟩ l ∧ openT (tblB v vb bits l) = .ok ⟨fltN bits l, tdOf v (grps v vb l), l.length⟩) := ⟨tells_built hv1 hv16 hck hlne (by rw [HSZ.out]; omega) hok, open_tbl hv1 hv16 hck hlne (by rw [HSZ.out]; omega) hok⟩
    have htl := tblB_le (bl := vb) (bits := bits) hv1 hv16 hck (by rw [HSZ.out]; omega) hok
    clear hx hok
    go_wp2_with fail
    refine (HX.out _ (HK.out.below HB1.out.1) HG.out.1 HG.out.2).mono ?_
    rintro _ w2 ⟨a2, c2, rfl, ho2, hb2⟩
    generalize (⟨fltN bits l, tdOf v (grps v vb l), l.length⟩ : TD) = T at HTE
    generalize (tblB v vb bits l).length = ll at *
    generalize tblB v vb bits l = tb at *
    have H2 : Hid (Below w.heap.size w w2 ∧ BsAt w2 a2 ll c2 tb) := ⟨HB1.out.1.trans (hb2.mono HB1.out.1.size), ho2.bs⟩
    obtain ⟨z0, z1, z2⟩ := HYB.out w2 hb2
    clear ho2 hb2 HX y0 y1 y2 HYB
    rcases hany2 with ⟨er, her, hx⟩ | ⟨v2, vb2, rfl, rfl, hv21, hv216, _, _, hok2, _, _, hx⟩
    · have HX : Hid _ := hx
      have hne : (er != 0) = true := by simpa using her
      clear hx
      go_wp2_with fail
      refine (HX.out _ (HK.out.below H2.out.1)).mono ?_
      rintro _ w3 ⟨rfl, hb3⟩
      have HB3 : Hid (Below w.heap.size w w3) := H2.out.1.trans (hb3.mono H2.out.1.size)
      clear hb3
      go_wp2
      go_ret
      exact ⟨ret1 rfl, HB3.out⟩
    have HX : Hid _ := hx
    have HTE2 : Hid (Tells ⟨fltN bits2 l, tdOf v2 (grps v2 vb2 l), l.length⟩ l ∧ openT (tblB v2 vb2 bits2 l) = .ok ⟨fltN bits2 l, tdOf v2 (grps v2 vb2 l), l.length⟩) := ⟨tells_built hv21 hv216 hck hlne (by rw [HSZ.out]; omega) hok2, open_tbl hv21 hv216 hck hlne (by rw [HSZ.out]; omega) hok2⟩
    have htl2 := tblB_le (bl := vb2) (bits := bits2) hv21 hv216 hck (by rw [HSZ.out]; omega) hok2
    clear hx hck hlne hok2
    go_wp2_with fail
    refine (HX.out _ (HK.out.below H2.out.1) HG.out.1 HG.out.2).mono ?_
    rintro _ w3 ⟨a3, c3, rfl, ho3, hb3⟩
    generalize (⟨fltN bits2 l, tdOf v2 (grps v2 vb2 l), l.length⟩ : TD) = T2 at HTE2
    generalize (tblB v2 vb2 bits2 l).length = ll2 at *
    generalize tblB v2 vb2 bits2 l = tb2 at *
    have H3 : Hid (Below w.heap.size w w3 ∧ BsAt w3 a2 ll c2 tb ∧ BsAt w3 a3 ll2 c3 tb2) := ⟨H2.out.1.trans (hb3.mono H2.out.1.size), H2.out.2.below (Nat.le_refl _) hb3, ho3.bs⟩
    clear ho3 hb3 HX z0 z1 z2 H2
    have hop := open12_any H3.out.2.1 htl
    go_wp2_with fail
    refine hop.mono ?_
    rintro _ w4 ⟨hb4, ⟨er, he, rfl⟩ | ⟨T', p, he, rfl, ht⟩⟩
    · rw [HTE.out.2] at he
      cases he
    rw [HTE.out.2] at he
    obtain rfl := Except.ok.inj he
    have H4 : Hid (Below w.heap.size w w4 ∧ TbAt w4 w3.heap.size p T ∧ BsAt w4 a3 ll2 c3 tb2) := ⟨H3.out.1.trans (hb4.mono H3.out.1.size), ht, H3.out.2.2.below (Nat.le_refl _) hb4⟩
    generalize w3.heap.size = B at H4
    clear ht hb4 hop H3 he
    have hop := open12_any H4.out.2.2 htl2
    go_wp2_with fail
    refine hop.mono ?_
    rintro _ w5 ⟨hb5, ⟨er, he, rfl⟩ | ⟨T', p2, he, rfl, ht⟩⟩
    · rw [HTE2.out.2] at he
      cases he
    rw [HTE2.out.2] at he
    obtain rfl := Except.ok.inj he
    have H5 : Hid (Below w.heap.size w w5 ∧ TbAt w5 B p T ∧ TbAt w5 w4.heap.size p2 T2) := ⟨H4.out.1.trans (hb5.mono H4.out.1.size), H4.out.2.1.below hb5, ht⟩
    generalize w4.heap.size = B2 at H5
    clear ht hb5 hop H4 he
    have hal := all12 H5.out.2.1
    go_wp2_with fail
    refine hal.mono ?_
    rintro _ w6 ⟨hb6, ⟨er, he, _, rfl⟩ | ⟨m, am, cm, he, rfl, hom⟩⟩
    · rw [HTE.out.1.allT] at he
      cases he
    rw [HTE.out.1.allT] at he
    obtain rfl := Except.ok.inj he
    have H6 : Hid (Below w.heap.size w w6 ∧ TbAt w6 B p T ∧ TbAt w6 B2 p2 T2 ∧ KsAt w6 am n cm l) := ⟨H5.out.1.trans (hb6.mono H5.out.1.size), H5.out.2.1.below hb6, H5.out.2.2.below hb6, by have := hom.ks; rw [HSZ.out] at this; exact this⟩
    clear hal hb6 hom he H5
    rw [HSZ.out]
    have hal := all12 H6.out.2.2.1
    go_wp2_with fail
    refine hal.mono ?_
    rintro _ w7 ⟨hb7, ⟨er, he, _, rfl⟩ | ⟨m, am2, cm2, he, rfl, hom⟩⟩
    · rw [HTE2.out.1.allT] at he
      cases he
    rw [HTE2.out.1.allT] at he
    obtain rfl := Except.ok.inj he
    have H7 : Hid (Below w.heap.size w w7 ∧ TbAt w7 B p T ∧ TbAt w7 B2 p2 T2 ∧ KsAt w7 am n cm l ∧ KsAt w7 am2 n cm2 l) := ⟨H6.out.1.trans (hb7.mono H6.out.1.size), H6.out.2.1.below hb7, H6.out.2.2.1.below hb7, H6.out.2.2.2.below hb7, by have := hom.ks; rw [HSZ.out] at this; exact this⟩
    clear hal hb7 hom he H6
    rw [HSZ.out]
    go_wp2_with fail
    refine (same12 H7.out.2.2.2.1 H7.out.2.2.2.2).mono ?_
    rintro _ w8 ⟨rfl, d8, hd8⟩
    have H8 : Hid (Below w.heap.size w w8 ∧ TbAt w8 B p T ∧ TbAt w8 B2 p2 T2) := by
      subst hd8
      exact ⟨below_drewN H7.out.1 d8, H7.out.2.1.below (below_drewN (Below.refl _ _) d8), H7.out.2.2.1.below (below_drewN (Below.refl _ _) d8)⟩
    clear hd8 H7
    go_wp2_with fail
    go_loopw [25] (fun x wr => ∃ k s : Nat, k ≤ 12 ∧ s < 18446744073709551616 ∧ x = .int .u64 (s : Int) ∧ ((s : Int) - (q : Int)) % 18446744073709551616 = (k : Int) ∧ Hid (s = (q + k) % 18446744073709551616) ∧ Hid (Below w.heap.size w wr ∧ TbAt wr B p T ∧ TbAt wr B2 p2 T2)) (fun x _ => 12 - ((intOf x - (q : Int)) % 18446744073709551616).toNat)
    case atStart => exact ⟨0, q, by omega, hq, rfl, by omega, by unfold Hid; omega, H8.out⟩
    case round =>
      obtain ⟨k, s, hk, hs, rfl, hsk, HSK, HR⟩ := hrel
      have hwr : IntKind.u64.wrap ((s : Int) - (q : Int)) = (k : Int) := by
        rw [← hsk]
        exact wrap_u64T _
      have hw1 : IntKind.u64.wrap ((s : Int) + 1) = (((s + 1) % 18446744073709551616 : Nat) : Int) := by
        rw [wrap_u64T]
        omega
      by_cases hk12 : k < 12
      · have hgt := get12 HR.out.2.1 u s HU.out hs
        rw [HTE.out.1.get u s] at hgt
        have hgt2 := fun V (hV : TbAt V B2 p2 T2) => get12 hV u s HU.out hs
        simp only [HTE2.out.1.get u s] at hgt2
        have hA0 := told_err (lgetK l u s)
        generalize toldK (lgetK l u s) = A at hgt hgt2 hA0
        obtain ⟨av, aw, ae⟩ := A
        obtain rfl : ae = 0 := hA0
        unfold ansV at hgt hgt2
        dsimp only at hgt hgt2
        have HG2 : Hid (∀ V, TbAt V B2 p2 T2 → Calls Tryz.prog 9 #[at_ p2, .string u, .int .u64 (s : Int)] V fun e w' => e = .returned (.tuple #[.string av, .int .i64 ((aw : Nat) : Int), .int .i64 0]) ∧ Below V.heap.size V w') := hgt2
        have hvv : (av.toList == av.toList) = true := by simp
        have hww : ((aw : Int) != (aw : Int)) = false := by simp
        clear hgt2
        go_wp2_with fail
        refine hgt.mono ?_
        rintro _ v1 ⟨rfl, hb1⟩
        have H9 : Hid (Below w.heap.size w v1 ∧ TbAt v1 B p T ∧ TbAt v1 B2 p2 T2) := ⟨HR.out.1.trans (hb1.mono HR.out.1.size), HR.out.2.1.below hb1, HR.out.2.2.below hb1⟩
        clear hgt hb1
        go_wp2_with fail
        refine (HG2.out _ H9.out.2.2).mono ?_
        rintro _ v2 ⟨rfl, hb2⟩
        have H10 : Hid (Below w.heap.size w v2 ∧ TbAt v2 B p T ∧ TbAt v2 B2 p2 T2) := ⟨H9.out.1.trans (hb2.mono H9.out.1.size), H9.out.2.1.below hb2, H9.out.2.2.below hb2⟩
        clear hb2 HG2
        go_wp2
        go_roundw
        case rel => exact ⟨k + 1, (s + 1) % 18446744073709551616, by omega, by omega, by go_num, by omega, by have := HSK.out; unfold Hid; omega, H10.out⟩
        case measure =>
          simp only [intOf]
          have := HSK.out
          omega
      · obtain rfl : k = 12 := by omega
        go_wp2
        go_ret
        exact ⟨ret1 rfl, HR.out.1⟩
end Go.Proofs.YtgegjcnjlibfdabGreat
