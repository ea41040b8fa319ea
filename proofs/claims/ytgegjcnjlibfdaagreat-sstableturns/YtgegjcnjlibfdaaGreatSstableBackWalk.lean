/- The walk of SstableBack. -/
import Derived.Test.YtgegjcnjlibfdaaGreatQa19
import Derived.Test.YtgegjcnjlibfdaaGreatT12All
import Derived.Test.YtgegjcnjlibfdaaGreatQa22
import Derived.Test.YtgegjcnjlibfdaaGreatQa21
import Derived.Deep.DeepCutAuto
namespace Go.Proofs.YtgegjcnjlibfdaaGreat
open Go.RowKit
set_option linter.unusedVariables false
set_option linter.unusedSimpArgs false
theorem raw_wfl12 {l : List KV} (h : ∀ e ∈ l, RawOk e ∧ e.1.seq < 18446744073709551616) : WfL l := fun e he => ⟨by have := (h e he).1.key; unfold maxLen at this; omega, (h e he).1.val⟩
theorem users_le12 {l : List KV} (h : ∀ e ∈ l, e.1.user.size ≤ 140737488351232 ∧ e.2.size ≤ 140737488351232) : ∀ s ∈ usersL l, s.size ≤ 140737488351232 := fun s hs => by
  obtain ⟨e, he, rfl⟩ := List.mem_map.1 hs
  exact (h e he).1
set_option maxRecDepth 100000 in
set_option maxHeartbeats 8000000 in
theorem sstableBack_walk (a : Option Addr) (len cap : Nat) (l0 : List KV) (bl iv : Int) (bits : Nat) (u : ByteArray) (a3 : Int) (w : World) (h0 : KsAt w a len cap l0) (hr0 : ∀ e ∈ l0, RawOk e ∧ e.1.seq < 18446744073709551616) (hg : (a = none → cap = 0) ∧ ∀ x, a = some x → x.spot = none) (hx0 : ∀ e ∈ l0, e.1.user.size ≤ 140737488351232 ∧ e.2.size ≤ 140737488351232) (hu : u.size ≤ 140737488351232) (h3 : (Lit.int .u64 a3).wf = true) :
    Calls Tryz.prog 6 #[.slice a len cap, .agg #[.int .i64 bl, .int .i64 iv, .float .f64 bits], .string u, .int .u64 a3] w fun e w' => e = .returned (.bool true) ∧ Below w.heap.size w w' := by
  obtain ⟨q, rfl, hq⟩ : ∃ q : Nat, a3 = (q : Int) ∧ q < 18446744073709551616 := by
    simp [Lit.wf, IntKind.min, IntKind.max, IntKind.bits, IntKind.signed] at h3
    exact ⟨a3.toNat, by omega, by omega⟩
  have HS0 : Hid (KsAt w a len cap l0 ∧ (∀ e ∈ l0, RawOk e ∧ e.1.seq < 18446744073709551616) ∧ ∀ e ∈ l0, e.1.user.size ≤ 140737488351232 ∧ e.2.size ≤ 140737488351232) := ⟨h0, hr0, hx0⟩
  have HG : Hid ((a = none → cap = 0) ∧ ∀ x, a = some x → x.spot = none) := hg
  have HU : Hid (u.size ≤ 140737488351232 ∧ q < 18446744073709551616) := ⟨hu, hq⟩
  have hcm := h0.max
  have hle := h0.le
  unfold maxLen at hcm
  have H0 : Hid (Below w.heap.size w (w.alloc (.cells #[.int .i64 bl, .int .i64 iv, .float .f64 bits] TOp)) ∧ Box (w.alloc (.cells #[.int .i64 bl, .int .i64 iv, .float .f64 bits] TOp)) w.heap.size TOp #[.int .i64 bl, .int .i64 iv, .float .f64 bits]) := ⟨(Below.refl _ _).alloc (Nat.le_refl _) _, Box.new _ _ _⟩
  clear h0 hr0 hg hx0 hu hq h3
  go_enter Tryz.func6, Tryz.ntmps6
  go_wp2_with fail
  refine (awake12_any _).mono ?_
  rintro _ w1 ⟨rfl, hb1⟩
  have HB1 : Hid (Below w.heap.size w w1 ∧ Box w1 w.heap.size TOp #[.int .i64 bl, .int .i64 iv, .float .f64 bits]) := ⟨H0.out.1.trans (hb1.mono H0.out.1.size), H0.out.2.kept (hb1.block _ H0.out.2.lt)⟩
  clear hb1 H0
  go_upto_if 26 with fail
  go_cut [0] (fun x wz => ∃ n : Nat, x = .slice a n cap ∧ n ≤ 300 ∧ n ≤ cap ∧ wz = w1 ∧ Hid (∃ l, KsAt w1 a n cap l ∧ (∀ e ∈ l, RawOk e ∧ e.1.seq < 18446744073709551616) ∧ ∀ e ∈ l, e.1.user.size ≤ 140737488351232 ∧ e.2.size ≤ 140737488351232))
  case first =>
    have HI : Hid (KsAt w1 a len cap l0) := HS0.out.1.below HB1.out.1
    by_cases hq : 300 < len
    · obtain ⟨b, off, hab, _⟩ := HS0.out.1.here (by omega)
      subst hab
      go_wp2_with fail
      go_meet
      exact ⟨300, rfl, by omega, by omega, rfl, l0.take 300, HI.out.upTo (by omega), fun e he => HS0.out.2.1 e (List.mem_of_mem_take he), fun e he => HS0.out.2.2 e (List.mem_of_mem_take he)⟩
    · have hq' : decide ((300 : Int) < (len : Int)) = false := by simp; omega
      go_wp2_with fail
      go_meet
      exact ⟨len, rfl, by omega, hle, rfl, l0, HI.out, HS0.out.2⟩
  case rest =>
    obtain ⟨n, rfl, hn, hnc, rfl, HL⟩ := hcut
    obtain ⟨l, hl1, hl2, hl3⟩ := HL.out
    have HK : Hid (KsAt wc a n cap l ∧ ∀ e ∈ l, e.1.user.size ≤ 140737488351232 ∧ e.1.seq < 18446744073709551616) := ⟨hl1, fun e he => ⟨(hl3 e he).1, (hl2 e he).2⟩⟩
    have HSZ : Hid (l.length = n) := hl1.size
    have hany := build12_any a n cap l bl iv bits (raw_wfl12 hl2) (users_le12 hl3) (by omega) hl1.size
    have y0 : wc.cell? ⟨w.heap.size, 0, none⟩ = some (.int .i64 bl) := HB1.out.2.cell 0
    have y1 : wc.cell? ⟨w.heap.size, 1, none⟩ = some (.int .i64 iv) := HB1.out.2.cell 1
    have y2 : wc.cell? ⟨w.heap.size, 2, none⟩ = some (.float .f64 bits) := HB1.out.2.cell 2
    clear hl1 hl2 hl3 HL HS0 hle
    rcases hany with ⟨er, her, hx⟩ | ⟨v, vb, rfl, rfl, hv1, hv16, hvb1, hvb2, hok, hck, hn1, hx⟩
    · have HX : Hid _ := hx
      clear hx
      go_wp2_with fail
      refine (HX.out _ HK.out.1).mono ?_
      rintro _ w2 ⟨rfl, hb2⟩
      have hne : (er != 0) = true := by simpa using her
      have HB2 : Hid (Below w.heap.size w w2) := HB1.out.1.trans (hb2.mono HB1.out.1.size)
      clear hb2
      go_wp2
      go_ret
      exact ⟨ret1 rfl, HB2.out⟩
    have HX : Hid _ := hx
    have hlne : l ≠ [] := by
      intro e
      have := HSZ.out
      rw [e] at this
      simp at this
      omega
    have HTE : Hid (Tells ⟨fltN bits l, tdOf v (grps v vb l), l.length⟩ l ∧ openT (tblB v vb bits l) = .ok ⟨fltN bits l, tdOf v (grps v vb l), l.length⟩) := ⟨tells_built hv1 hv16 hck hlne (by rw [HSZ.out]; omega) hok, open_tbl hv1 hv16 hck hlne (by rw [HSZ.out]; omega) hok⟩
    have htl := tblB_le (bl := vb) (bits := bits) hv1 hv16 hck (by rw [HSZ.out]; omega) hok
    clear hx hck hlne hok
    go_wp2_with fail
    refine (HX.out _ HK.out.1 HG.out.1 HG.out.2).mono ?_
    rintro _ w2 ⟨a2, c2, rfl, ho2, hb2⟩
    generalize (⟨fltN bits l, tdOf v (grps v vb l), l.length⟩ : TD) = T at HTE
    have H2 : Hid (Below w.heap.size w w2 ∧ KsAt w2 a n cap l ∧ BsAt w2 a2 (tblB v vb bits l).length c2 (tblB v vb bits l)) := ⟨HB1.out.1.trans (hb2.mono HB1.out.1.size), HK.out.1.below hb2, ho2.bs⟩
    clear ho2 hb2 HB1 HX y0 y1 y2
    have hop := open12_any H2.out.2.2 htl
    generalize (tblB v vb bits l).length = ll at H2 hop
    generalize tblB v vb bits l = tb at H2 hop HTE
    go_wp2_with fail
    refine hop.mono ?_
    rintro _ w3 ⟨hb3, ⟨er, he, rfl⟩ | ⟨T', p, he, rfl, ht⟩⟩
    · rw [HTE.out.2] at he
      cases he
    rw [HTE.out.2] at he
    obtain rfl := Except.ok.inj he
    have H3 : Hid (Below w.heap.size w w3 ∧ KsAt w3 a n cap l ∧ TbAt w3 w2.heap.size p T) := ⟨H2.out.1.trans (hb3.mono H2.out.1.size), H2.out.2.1.below hb3, ht⟩
    generalize w2.heap.size = B at H3
    clear ht hb3 hop H2 he
    have hal := all12 H3.out.2.2
    go_wp2_with fail
    refine hal.mono ?_
    rintro _ w4 ⟨hb4, ⟨er, he, _, rfl⟩ | ⟨m, am, cm, he, rfl, hom⟩⟩
    · rw [HTE.out.1.allT] at he
      cases he
    rw [HTE.out.1.allT] at he
    obtain rfl := Except.ok.inj he
    have H4 : Hid (Below w.heap.size w w4 ∧ KsAt w4 a n cap l ∧ TbAt w4 B p T ∧ KsAt w4 am n cm l) := ⟨H3.out.1.trans (hb4.mono H3.out.1.size), H3.out.2.1.below hb4, H3.out.2.2.below hb4, by have := hom.ks; rw [HSZ.out] at this; exact this⟩
    clear hal hb4 hom he H3
    rw [HSZ.out]
    go_wp2_with fail
    refine (same12 H4.out.2.2.2 H4.out.2.1).mono ?_
    rintro _ w5 ⟨rfl, d5, hd5⟩
    have H5 : Hid (Below w.heap.size w w5 ∧ KsAt w5 a n cap l ∧ TbAt w5 B p T) := by
      subst hd5
      exact ⟨below_drewN H4.out.1 d5, H4.out.2.1.below (below_drewN (Below.refl _ _) d5), H4.out.2.2.1.below (below_drewN (Below.refl _ _) d5)⟩
    clear hd5 H4
    have hbk := blocks_any H5.out.2.2
    obtain ⟨nb, HNB⟩ : ∃ nb, Hid (T.blocks.length = nb) := ⟨_, (rfl : T.blocks.length = T.blocks.length)⟩
    rw [HNB.out] at hbk
    have hb1 : 1 ≤ nb := by rw [← HNB.out]; exact HTE.out.1.one
    have hb2 : nb ≤ n := by rw [← HNB.out, ← HSZ.out]; exact HTE.out.1.most
    have HBK : Hid (Calls Tryz.prog 19 #[at_ p] w5 fun r w' => r = .returned (.int .i64 ((nb : Nat) : Int)) ∧ w5 = w') := hbk
    clear hbk
    go_wp2_with fail
    refine HBK.out.mono ?_
    rintro _ w6 ⟨rfl, hw6⟩
    obtain rfl : w5 = w6 := hw6
    go_wp2_with fail
    refine HBK.out.mono ?_
    rintro _ w6 ⟨rfl, hw6⟩
    obtain rfl : w5 = w6 := hw6
    clear HBK
    have hgt := get12 H5.out.2.2 u q HU.out.1 HU.out.2
    rw [HTE.out.1.get u q] at hgt
    have hrg := fun V (hV : KsAt V a n cap l) => rget12 hV u q
    have hA0 := told_err (lgetK l u q)
    generalize toldK (lgetK l u q) = A at hgt hrg hA0
    obtain ⟨av, aw, ae⟩ := A
    obtain rfl : ae = 0 := hA0
    unfold ansV at hgt
    dsimp only at hgt hrg
    have HRG : Hid (∀ V, KsAt V a n cap l → Calls Tryz.prog 20 #[.slice a n cap, .string u, .int .u64 (q : Int)] V fun e w' => e = .returned (.tuple #[.string av, .int .i64 ((aw : Nat) : Int)]) ∧ V = w') := hrg
    clear hrg
    go_wp2_with fail
    refine hgt.mono ?_
    rintro _ w6 ⟨rfl, hb6⟩
    have H6 : Hid (Below w.heap.size w w6 ∧ KsAt w6 a n cap l ∧ TbAt w6 B p T) := ⟨H5.out.1.trans (hb6.mono H5.out.1.size), H5.out.2.1.below hb6, H5.out.2.2.below hb6⟩
    clear hgt hb6 H5
    go_wp2_with fail
    refine (HRG.out _ H6.out.2.1).mono ?_
    rintro _ w7 ⟨rfl, hw7⟩
    obtain rfl : w6 = w7 := hw7
    have hvv : (av.toList == av.toList) = true := by simp
    have hww : ((aw : Int) != (aw : Int)) = false := by simp
    go_wp2_with fail
    clear HRG hvv hww
    go_loopw [22] (fun x wr => ∃ i : Nat, i ≤ n ∧ x = .int .i64 (i : Int) ∧ Hid (Below w.heap.size w wr ∧ KsAt wr a n cap l ∧ TbAt wr B p T)) (fun x _ => n - (intOf x).toNat)
    case atStart => exact ⟨0, Nat.zero_le _, rfl, H6.out⟩
    case round =>
      obtain ⟨i, hi, rfl, HR⟩ := hrel
      by_cases hin : i < n
      · have hil : i < l.length := by rw [HSZ.out]; exact hin
        obtain ⟨b, off, hab, _⟩ := HR.out.2.1.cells4 (by omega)
        have HC : Hid (∀ W, KsAt W a n cap l → W.cell? ⟨b, off + i * 4, none⟩ = some (.string l[i].1.user) ∧ W.cell? ⟨b, off + i * 4 + 1, none⟩ = some (.int .u64 (l[i].1.seq : Int))) := fun W hW => by
          obtain ⟨b', off', hab', hc⟩ := hW.cells4 (by omega)
          rw [hab] at hab'
          cases hab'
          exact ⟨(hc i hil).1, (hc i hil).2.1⟩
        have hidx := fun W => idxKV W (a := a) (b := b) (off := off) (n := n) (c := cap) hab hin
        have hsz := HK.out.2 _ (List.getElem_mem hil)
        have hgt := fun V (hV : TbAt V B p T) => get12 hV l[i].1.user l[i].1.seq hsz.1 hsz.2
        have hrg := fun V (hV : KsAt V a n cap l) => rget12 hV l[i].1.user l[i].1.seq
        generalize l[i] = e at HC hgt hrg
        obtain ⟨⟨eu, es, ek⟩, ev⟩ := e
        dsimp only at HC hgt hrg
        simp only [HTE.out.1.get eu es] at hgt
        have hA0 := told_err (lgetK l eu es)
        generalize toldK (lgetK l eu es) = A at hgt hrg hA0
        obtain ⟨av, aw, ae⟩ := A
        obtain rfl : ae = 0 := hA0
        unfold ansV at hgt
        dsimp only at hgt hrg
        have HGT : Hid (∀ V, TbAt V B p T → Calls Tryz.prog 17 #[at_ p, .string eu, .int .u64 (es : Int)] V fun e w' => e = .returned (.tuple #[.string av, .int .i64 ((aw : Nat) : Int), .int .i64 0]) ∧ Below V.heap.size V w') := hgt
        have HRG : Hid (∀ V, KsAt V a n cap l → Calls Tryz.prog 20 #[.slice a n cap, .string eu, .int .u64 (es : Int)] V fun e w' => e = .returned (.tuple #[.string av, .int .i64 ((aw : Nat) : Int)]) ∧ V = w') := hrg
        have hvv : (av.toList == av.toList) = true := by simp
        have hww : ((aw : Int) != (aw : Int)) = false := by simp
        clear hgt hrg hab
        go_wp2_with fail
        obtain ⟨x0, x1⟩ := HC.out wr.drew (HR.out.2.1.below (Below.refl _ _).drew)
        go_region_held3 (fun V => V.cell? ⟨b, off + i * 4, none⟩ = some (.string eu) ∧ V.cell? ⟨b, off + i * 4 + 1, none⟩ = some (.int .u64 (es : Int))) (first | with_reducible exact ⟨x0, x1⟩ | go_keep)
          (first
           | (go_at_call 17; refine (HGT.out _ (HR.out.2.2.below (Below.refl _ _).drew)).mono ?_; rintro _ v1 ⟨rfl, hb1'⟩
              have H7 : Hid (Below w.heap.size w v1 ∧ KsAt v1 a n cap l ∧ TbAt v1 B p T) := ⟨HR.out.1.drew.trans (hb1'.mono HR.out.1.size), (HR.out.2.1.below (Below.refl _ _).drew).below hb1', (HR.out.2.2.below (Below.refl _ _).drew).below hb1'⟩
              obtain ⟨x0, x1⟩ := HC.out v1 H7.out.2.1
              clear hb1'))
        go_wp2_with fail
        obtain ⟨x0, x1⟩ := HC.out v1.drew (H7.out.2.1.below (Below.refl _ _).drew)
        go_region_held3 (fun V => V.cell? ⟨b, off + i * 4, none⟩ = some (.string eu) ∧ V.cell? ⟨b, off + i * 4 + 1, none⟩ = some (.int .u64 (es : Int))) (first | with_reducible exact ⟨x0, x1⟩ | go_keep)
          (first
           | (go_at_call 20; refine (HRG.out _ (H7.out.2.1.below (Below.refl _ _).drew)).mono ?_; rintro _ v2 ⟨rfl, hv2⟩
              have H8 : Hid (Below w.heap.size w v2 ∧ KsAt v2 a n cap l ∧ TbAt v2 B p T) := by
                rw [← hv2]
                exact ⟨H7.out.1.drew, H7.out.2.1.below (Below.refl _ _).drew, H7.out.2.2.below (Below.refl _ _).drew⟩
              obtain ⟨x0, x1⟩ := HC.out v2 H8.out.2.1
              clear hv2))
        go_wp2
        go_roundw
        case rel => exact ⟨i + 1, hin, by go_num, H8.out⟩
        case measure => simp only [intOf]; omega
      · go_wp2
        go_ret
        exact ⟨ret1 rfl, HR.out.1⟩
end Go.Proofs.YtgegjcnjlibfdaaGreat
