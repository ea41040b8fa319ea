/- The walk of BlockBack. -/
import Derived.Test.YtjlmjgbkeibaiaaK11Law
import Derived.Deep.DeepCutAuto
namespace Go.Proofs.Ytjlmjgbkeibaiaa
open Go.RowKit
set_option linter.unusedVariables false
set_option linter.unusedSimpArgs false
set_option maxRecDepth 100000 in
set_option maxHeartbeats 4000000 in
theorem blockBack_walk (a : Option Addr) (len cap : Nat) (l0 : List KV) (iv : Int) (s2 : ByteArray) (q2 k2 : Int) (w : World) (h0 : KsAt w a len cap l0) (hr0 : ∀ e ∈ l0, RawOk e) (hg : (a = none → cap = 0) ∧ ∀ x, a = some x → x.spot = none) (_hi : (Lit.int .i64 iv).wf = true) (_e2 : s2.size ≤ 140737488351232) (x2 : (Lit.int .u64 q2).wf = true) (_y2 : (Lit.int .i64 k2).wf = true) : Calls Try.prog 6 #[.slice a len cap, .int .i64 iv, .agg #[.string s2, .int .u64 q2, .int .i64 k2]] w fun e w' => e = .returned (.bool true) ∧ Below w.heap.size w w' := by
  obtain ⟨n2, rfl⟩ : ∃ n : Nat, q2 = (n : Int) := by
    simp [Lit.wf, IntKind.min, IntKind.max, IntKind.bits, IntKind.signed] at x2
    exact ⟨q2.toNat, by omega⟩
  have HS0 : Hid (KsAt w a len cap l0 ∧ ∀ e ∈ l0, RawOk e) := ⟨h0, hr0⟩
  have HG : Hid ((a = none → cap = 0) ∧ ∀ x, a = some x → x.spot = none) := hg
  have hcm := h0.max
  have hle := h0.le
  unfold maxLen at hcm
  clear h0 hr0 hg _hi x2 _y2 _e2
  have H0 : Hid (Below w.heap.size w (w.alloc (.cells #[.string s2, .int .u64 (n2 : Int), .int .i64 k2] 32)) ∧ Box (w.alloc (.cells #[.string s2, .int .u64 (n2 : Int), .int .i64 k2] 32)) w.heap.size 32 #[.string s2, .int .u64 (n2 : Int), .int .i64 k2]) := ⟨(Below.refl _ _).alloc (Nat.le_refl _) _, Box.new _ _ _⟩
  go_enter Try.func6, Try.ntmps6
  go_wp2_with fail
  refine (awake_any _).mono ?_
  rintro _ w1 ⟨rfl, hb1⟩
  have HB1 : Hid (Below w.heap.size w w1 ∧ Box w1 w.heap.size TK #[.string s2, .int .u64 (n2 : Int), .int .i64 k2]) := ⟨H0.out.1.trans (hb1.mono H0.out.1.size), H0.out.2.kept (hb1.block _ H0.out.2.lt)⟩
  clear hb1 H0
  go_upto_if 19 with fail
  go_cut [0] (fun x wz => ∃ n : Nat, x = .slice a n cap ∧ n ≤ 1000 ∧ n ≤ cap ∧ wz = w1 ∧ Hid (∃ l, KsAt w1 a n cap l ∧ ∀ e ∈ l, RawOk e))
  case first =>
    have HI : Hid (KsAt w1 a len cap l0) := HS0.out.1.below HB1.out.1
    by_cases hq : 1000 < len
    · obtain ⟨b, off, hab, _⟩ := HS0.out.1.here (by omega)
      subst hab
      go_wp2_with fail
      go_meet
      exact ⟨1000, rfl, by omega, by omega, rfl, l0.take 1000, HI.out.upTo (by omega), fun e he => HS0.out.2 e (List.mem_of_mem_take he)⟩
    · have hq' : decide ((1000 : Int) < (len : Int)) = false := by simp; omega
      go_wp2_with fail
      go_meet
      exact ⟨len, rfl, by omega, hle, rfl, l0, HI.out, HS0.out.2⟩
  case rest =>
    obtain ⟨n, rfl, hn, hnc, rfl, HL⟩ := hcut
    obtain ⟨l, hl1, hl2⟩ := HL.out
    have HK : Hid (KsAt wc a n cap l ∧ WfL l) := ⟨hl1, RawOk.wfl hl2⟩
    have HSZ : Hid (l.length = n) := hl1.size
    clear hl1 hl2 HL HS0 hle
    rcases build_any a n cap l iv HK.out.2 (by omega) with ⟨er, her, hx⟩ | ⟨v, rfl, hv1, hv16, hck, hx⟩
    · have HX : Hid _ := hx
      clear hx
      go_wp2_with fail
      refine (HX.out _ HK.out.1).mono ?_
      rintro _ w2 ⟨rfl, hb2⟩
      have hne : (er != 0) = true := by simpa using her
      have HB2 : Hid (Below w.heap.size w w2) := HB1.out.1.trans (hb2.mono HB1.out.1.size)
      clear hb2
      go_wp2
      go_ret
      exact ⟨ret1 rfl, HB2.out⟩
    have HX : Hid _ := hx
    have HCK : Hid (chkL l = 0 ∧ Rises l) := ⟨hck, (chkL_zero.1 hck).2⟩
    have hll : (layP v l).length ≤ 1106 * n + 5 := by
      have := lay_le hv1 l (chkL_zero.1 hck).1
      rw [HSZ.out] at this
      exact this
    clear hx hck
    go_wp2_with fail
    refine (HX.out _ HK.out.1 HG.out.1 HG.out.2).mono ?_
    rintro _ w2 ⟨a2, c2, rfl, ho2, hb2⟩
    have H2 : Hid (Below w.heap.size w w2 ∧ KsAt w2 a n cap l ∧ Box w2 w.heap.size TK #[.string s2, .int .u64 (n2 : Int), .int .i64 k2] ∧ BsAt w2 a2 (layP v l).length c2 (layP v l)) := ⟨HB1.out.1.trans (hb2.mono HB1.out.1.size), HK.out.1.below hb2, HB1.out.2.kept (hb2.block _ HB1.out.2.lt), ho2.bs⟩
    clear ho2 hb2 HK HB1 HX
    have hop := open_built H2.out.2.2.2 (by omega) hv1 hv16 HCK.out.1
    generalize (layP v l).length = ll at H2 hop
    go_wp2_with fail
    refine hop.mono ?_
    rintro _ w3 ⟨p, rfl, hgb, hb3⟩
    have H3 : Hid (Below w.heap.size w w3 ∧ KsAt w3 a n cap l ∧ Box w3 w.heap.size TK #[.string s2, .int .u64 (n2 : Int), .int .i64 k2] ∧ GB w3 w2.heap.size p v l) := ⟨H2.out.1.trans (hb3.mono H2.out.1.size), H2.out.2.1.below hb3, H2.out.2.2.1.kept (hb3.block _ H2.out.2.2.1.lt), hgb⟩
    clear hgb hb3 H2 hop
    have HL := len_any H3.out.2.2.2.bk
    rw [HSZ.out] at HL
    go_wp2_with fail
    refine HL.mono ?_
    rintro _ w4 ⟨rfl, hw4⟩
    obtain rfl : w3 = w4 := hw4
    clear HL
    generalize w2.heap.size = B at H3
    go_wp2_with fail
    go_loopw [12] (fun x wr => ∃ i : Nat, i ≤ n ∧ x = .int .i64 (i : Int) ∧ Hid (Below w.heap.size w wr ∧ KsAt wr a n cap l ∧ Box wr w.heap.size TK #[.string s2, .int .u64 (n2 : Int), .int .i64 k2] ∧ GB wr B p v l)) (fun x _ => n - (intOf x).toNat)
    case atStart => exact ⟨0, Nat.zero_le _, rfl, H3.out⟩
    case round =>
      obtain ⟨i, hi, rfl, HR⟩ := hrel
      by_cases hin : i < n
      · have hil : i < l.length := by rw [HSZ.out]; exact hin
        have HAT := at_yes HR.out.2.2.2 (i := i) hil
        obtain ⟨b, off, hab, _⟩ := HR.out.2.1.cells4 (by omega)
        have HC : Hid (∀ W, KsAt W a n cap l → W.cell? ⟨b, off + i * 4, none⟩ = some (.string l[i].1.user) ∧ W.cell? ⟨b, off + i * 4 + 1, none⟩ = some (.int .u64 (l[i].1.seq : Int)) ∧ W.cell? ⟨b, off + i * 4 + 2, none⟩ = some (.int .i64 l[i].1.kind) ∧ W.cell? ⟨b, off + i * 4 + 3, none⟩ = some (.string l[i].2)) := fun W hW => by
          obtain ⟨b', off', hab', hc⟩ := hW.cells4 (by omega)
          rw [hab] at hab'
          cases hab'
          exact hc i hil
        have hidx := fun W => idxKV W (a := a) (b := b) (off := off) (n := n) (c := cap) hab hin
        have HFO : Hid (FirstAt l l[i].1 i) := first_own HCK.out.2 hil
        generalize l[i] = e at HAT HC HFO
        have HAT2 : Hid (Calls Try.prog 18 #[at_ p, .int .i64 (i : Int)] wr fun r w' => r = .returned (.tuple #[.agg #[.string e.1.user, .int .u64 (e.1.seq : Int), .int .i64 e.1.kind, .string e.2], .int .i64 0]) ∧ Below wr.heap.size wr w') := HAT
        clear HAT hab
        have hneq := fun W => run_neq_kv e W
        go_wp2_with fail
        refine HAT2.out.mono ?_
        rintro _ w5 ⟨rfl, hb5⟩
        have H5 : Hid (Below w.heap.size w w5 ∧ KsAt w5 a n cap l ∧ Box w5 w.heap.size TK #[.string s2, .int .u64 (n2 : Int), .int .i64 k2] ∧ GB w5 B p v l) := ⟨HR.out.1.trans (hb5.mono HR.out.1.size), HR.out.2.1.below hb5, HR.out.2.2.1.kept (hb5.block _ HR.out.2.2.1.lt), HR.out.2.2.2.below hb5⟩
        clear hb5 HAT2
        go_wp2_with fail
        have hb6 : Below w5.heap.size w5 (w5.alloc (.cells #[.string e.1.user, .int .u64 (e.1.seq : Int), .int .i64 e.1.kind, .string e.2] 42)).drew := ((Below.refl _ _).alloc (Nat.le_refl _) _).drew
        have H6 : Hid (Below w.heap.size w (w5.alloc (.cells #[.string e.1.user, .int .u64 (e.1.seq : Int), .int .i64 e.1.kind, .string e.2] 42)).drew ∧ KsAt (w5.alloc (.cells #[.string e.1.user, .int .u64 (e.1.seq : Int), .int .i64 e.1.kind, .string e.2] 42)).drew a n cap l ∧ Box (w5.alloc (.cells #[.string e.1.user, .int .u64 (e.1.seq : Int), .int .i64 e.1.kind, .string e.2] 42)).drew w.heap.size TK #[.string s2, .int .u64 (n2 : Int), .int .i64 k2] ∧ GB (w5.alloc (.cells #[.string e.1.user, .int .u64 (e.1.seq : Int), .int .i64 e.1.kind, .string e.2] 42)).drew B p v l ∧ Box (w5.alloc (.cells #[.string e.1.user, .int .u64 (e.1.seq : Int), .int .i64 e.1.kind, .string e.2] 42)).drew w5.heap.size TKV #[.string e.1.user, .int .u64 (e.1.seq : Int), .int .i64 e.1.kind, .string e.2]) := ⟨H5.out.1.trans (hb6.mono H5.out.1.size), H5.out.2.1.below hb6, H5.out.2.2.1.kept (hb6.block _ H5.out.2.2.1.lt), H5.out.2.2.2.below hb6, Box.new _ _ _⟩
        clear hb6 H5
        have HCC : Hid (∀ W, KsAt W a n cap l → Box W w5.heap.size TKV #[.string e.1.user, .int .u64 (e.1.seq : Int), .int .i64 e.1.kind, .string e.2] → (W.cell? ⟨b, off + i * 4, none⟩ = some (.string e.1.user) ∧ W.cell? ⟨b, off + i * 4 + 1, none⟩ = some (.int .u64 (e.1.seq : Int)) ∧ W.cell? ⟨b, off + i * 4 + 2, none⟩ = some (.int .i64 e.1.kind) ∧ W.cell? ⟨b, off + i * 4 + 3, none⟩ = some (.string e.2)) ∧ W.cell? ⟨w5.heap.size, 0, none⟩ = some (.string e.1.user) ∧ W.cell? ⟨w5.heap.size, 1, none⟩ = some (.int .u64 (e.1.seq : Int)) ∧ W.cell? ⟨w5.heap.size, 2, none⟩ = some (.int .i64 e.1.kind) ∧ W.cell? ⟨w5.heap.size, 3, none⟩ = some (.string e.2)) := fun W h1 h2 => ⟨HC.out W h1, h2.cell 0, h2.cell 1, h2.cell 2, h2.cell 3⟩
        generalize w5.alloc (.cells #[.string e.1.user, .int .u64 (e.1.seq : Int), .int .i64 e.1.kind, .string e.2] 42) = w6 at H6 ⊢
        generalize w5.heap.size = eb at H6 HCC ⊢
        obtain ⟨⟨x0, x1, x2, x3⟩, y0, y1, y2, y3⟩ := HCC.out _ H6.out.2.1 H6.out.2.2.2.2
        have HFD : Hid (∀ V : World, GB V B p v l → Calls Try.prog 16 #[at_ p, .agg #[.string e.1.user, .int .u64 (e.1.seq : Int), .int .i64 e.1.kind]] V fun r w' => r = .returned (.int .i64 (i : Int)) ∧ Below V.heap.size V w') := fun V hV => (find_any hV e.1).mono fun r w' ⟨m, h1, h2, h3⟩ => ⟨by rw [h2, h1.uniq HFO.out], h3⟩
        have hnn : ((i : Int) != (i : Int)) = false := by simp
        go_region_held3 (fun V => V.cell? ⟨b, off + i * 4, none⟩ = some (.string e.1.user) ∧ V.cell? ⟨b, off + i * 4 + 1, none⟩ = some (.int .u64 (e.1.seq : Int)) ∧ V.cell? ⟨b, off + i * 4 + 2, none⟩ = some (.int .i64 e.1.kind) ∧ V.cell? ⟨b, off + i * 4 + 3, none⟩ = some (.string e.2) ∧ V.cell? ⟨eb, 0, none⟩ = some (.string e.1.user) ∧ V.cell? ⟨eb, 1, none⟩ = some (.int .u64 (e.1.seq : Int)) ∧ V.cell? ⟨eb, 2, none⟩ = some (.int .i64 e.1.kind) ∧ V.cell? ⟨eb, 3, none⟩ = some (.string e.2)) (first | exact ⟨x0, x1, x2, x3, y0, y1, y2, y3⟩ | go_keep)
          (first
           | (go_at_call 16; refine (HFD.out _ H6.out.2.2.2.1).mono ?_; rintro _ vx ⟨rfl, hbx⟩
              have H7 : Hid (Below w.heap.size w vx ∧ KsAt vx a n cap l ∧ Box vx w.heap.size TK #[.string s2, .int .u64 (n2 : Int), .int .i64 k2] ∧ GB vx B p v l ∧ Box vx eb TKV #[.string e.1.user, .int .u64 (e.1.seq : Int), .int .i64 e.1.kind, .string e.2]) := ⟨H6.out.1.trans (hbx.mono H6.out.1.size), H6.out.2.1.below hbx, H6.out.2.2.1.kept (hbx.block _ H6.out.2.2.1.lt), H6.out.2.2.2.1.below hbx, H6.out.2.2.2.2.kept (hbx.block _ H6.out.2.2.2.2.lt)⟩
              obtain ⟨⟨x0, x1, x2, x3⟩, y0, y1, y2, y3⟩ := HCC.out _ H7.out.2.1 H7.out.2.2.2.2
              clear hbx))
        go_wp2
        go_roundw
        case rel => exact ⟨i + 1, hin, by go_num, H7.out.1, H7.out.2.1, H7.out.2.2.1, H7.out.2.2.2.1⟩
        case measure => simp only [intOf]; omega
      · obtain rfl : i = n := by omega
        have c0 : wr.cell? ⟨w.heap.size, 0, none⟩ = some (.string s2) := HR.out.2.2.1.cell 0
        have c1 : wr.cell? ⟨w.heap.size, 1, none⟩ = some (.int .u64 (n2 : Int)) := HR.out.2.2.1.cell 1
        have c2 : wr.cell? ⟨w.heap.size, 2, none⟩ = some (.int .i64 k2) := HR.out.2.2.1.cell 2
        have HFD : Hid (Calls Try.prog 16 #[at_ p, .agg #[.string s2, .int .u64 (n2 : Int), .int .i64 k2]] wr fun r w' => ∃ n, FirstAt l ⟨s2, n2, k2⟩ n ∧ r = .returned (.int .i64 (n : Int)) ∧ Below wr.heap.size wr w') := find_any HR.out.2.2.2 ⟨s2, n2, k2⟩
        go_wp2_with fail
        refine HFD.out.mono ?_
        rintro _ w5 ⟨r, hfa, rfl, hb5⟩
        have HFA : Hid (FirstAt l ⟨s2, n2, k2⟩ r) := hfa
        have hri : r ≤ i := by have := hfa.le; rw [HSZ.out] at this; exact this
        have H5 : Hid (Below w.heap.size w w5 ∧ KsAt w5 a i cap l ∧ Box w5 w.heap.size TK #[.string s2, .int .u64 (n2 : Int), .int .i64 k2]) := ⟨HR.out.1.trans (hb5.mono HR.out.1.size), HR.out.2.1.below hb5, HR.out.2.2.1.kept (hb5.block _ HR.out.2.2.1.lt)⟩
        clear hfa hb5 HFD c0 c1 c2 HR
        by_cases hrn : r < i
        · have hAl : r < l.length := by rw [HSZ.out]; omega
          obtain ⟨bA, offA, habA, _⟩ := H5.out.2.1.cells4 (by omega)
          have HCA : Hid (∀ W, KsAt W a i cap l → W.cell? ⟨bA, offA + (r) * 4, none⟩ = some (.string (l[r]'hAl).1.user) ∧ W.cell? ⟨bA, offA + (r) * 4 + 1, none⟩ = some (.int .u64 ((l[r]'hAl).1.seq : Int)) ∧ W.cell? ⟨bA, offA + (r) * 4 + 2, none⟩ = some (.int .i64 (l[r]'hAl).1.kind)) := fun W hW => by
            obtain ⟨b', off', hab', hc⟩ := hW.cells4 (by omega)
            rw [habA] at hab'
            cases hab'
            obtain ⟨z0, z1, z2, _⟩ := hc (r) hAl
            exact ⟨z0, z1, z2⟩
          have hidxA : ∀ W : World, (Instr.indexAt 23 (.slice a i cap) (.int .i64 ((r : Int)))).run Try.prog W = .ok (.pointer (some ⟨bA, offA + (r) * 4, none⟩)) W := fun W => by
            have := idxKV W (a := a) (b := bA) (off := offA) (n := i) (c := cap) habA (show r < i by omega)
            rw [show ((r : Nat) : Int) = (r : Int) by omega] at this
            exact this
          have HVA : Hid (0 ≤ (l[r]'hAl).1.cmp ⟨s2, n2, k2⟩) := HFA.out.yes r hAl (Nat.le_refl _)
          have HCPA : Hid (∀ W : World, Calls Try.prog 19 #[.agg #[.string (l[r]'hAl).1.user, .int .u64 ((l[r]'hAl).1.seq : Int), .int .i64 (l[r]'hAl).1.kind], .agg #[.string s2, .int .u64 (n2 : Int), .int .i64 k2]] W fun rr w' => rr = .returned (.int .i64 ((l[r]'hAl).1.cmp ⟨s2, n2, k2⟩)) ∧ Below W.heap.size W w') := fun W => compare_any _ _ _ _ _ _ W
          generalize (l[r]'hAl) = eA at HCA HVA HCPA
          generalize offA + (r) * 4 = oA at HCA hidxA
          generalize eA.1.cmp ⟨s2, n2, k2⟩ = vA at HVA HCPA
          clear habA
          go_wp2_with fail
          have hdrA : Below w5.heap.size w5 w5.drew := (Below.refl _ _).drew
          have HAA : Hid (Below w.heap.size w w5.drew ∧ KsAt w5.drew a i cap l ∧ Box w5.drew w.heap.size TK #[.string s2, .int .u64 (n2 : Int), .int .i64 k2]) := ⟨H5.out.1.trans (hdrA.mono H5.out.1.size), H5.out.2.1.below hdrA, H5.out.2.2.kept (hdrA.block _ H5.out.2.2.lt)⟩
          clear hdrA
          obtain ⟨x0, x1, x2⟩ := HCA.out _ HAA.out.2.1
          have c0 : w5.drew.cell? ⟨w.heap.size, 0, none⟩ = some (.string s2) := HAA.out.2.2.cell 0
          have c1 : w5.drew.cell? ⟨w.heap.size, 1, none⟩ = some (.int .u64 (n2 : Int)) := HAA.out.2.2.cell 1
          have c2 : w5.drew.cell? ⟨w.heap.size, 2, none⟩ = some (.int .i64 k2) := HAA.out.2.2.cell 2
          have hgd : decide ((r : Int) < (i : Int)) = true := decide_eq_true (by omega)
          go_region_held3 (fun V => V.cell? ⟨bA, oA, none⟩ = some (.string eA.1.user) ∧ V.cell? ⟨bA, oA + 1, none⟩ = some (.int .u64 (eA.1.seq : Int)) ∧ V.cell? ⟨bA, oA + 2, none⟩ = some (.int .i64 eA.1.kind) ∧ V.cell? ⟨w.heap.size, 0, none⟩ = some (.string s2) ∧ V.cell? ⟨w.heap.size, 1, none⟩ = some (.int .u64 (n2 : Int)) ∧ V.cell? ⟨w.heap.size, 2, none⟩ = some (.int .i64 k2)) (first | exact ⟨x0, x1, x2, c0, c1, c2⟩ | go_keep)
            (first
             | (go_at_call 19; refine (HCPA.out _).mono ?_; rintro _ vxA ⟨rfl, hbx⟩
                have HBA : Hid (Below w.heap.size w vxA ∧ KsAt vxA a i cap l ∧ Box vxA w.heap.size TK #[.string s2, .int .u64 (n2 : Int), .int .i64 k2]) := ⟨HAA.out.1.trans (hbx.mono HAA.out.1.size), HAA.out.2.1.below hbx, HAA.out.2.2.kept (hbx.block _ HAA.out.2.2.lt)⟩
                obtain ⟨x0, x1, x2⟩ := HCA.out _ HBA.out.2.1
                have c0 : vxA.cell? ⟨w.heap.size, 0, none⟩ = some (.string s2) := HBA.out.2.2.cell 0
                have c1 : vxA.cell? ⟨w.heap.size, 1, none⟩ = some (.int .u64 (n2 : Int)) := HBA.out.2.2.cell 1
                have c2 : vxA.cell? ⟨w.heap.size, 2, none⟩ = some (.int .i64 k2) := HBA.out.2.2.cell 2
                clear hbx))
          have hvA : ¬ vA < 0 := by have := HVA.out; omega
          by_cases hr0 : r = 0
          · subst hr0
            go_wp2_with fail
            go_quiet (fail)
            go_wp2
            go_ret
            exact ⟨ret1 rfl, by first | exact Below.drewM (Below.drewM HBA.out.1 _) _ | exact Below.drewM HBA.out.1 _ | exact HBA.out.1⟩
          · have hBl : r - 1 < l.length := by rw [HSZ.out]; omega
            obtain ⟨bB, offB, habB, _⟩ := HBA.out.2.1.cells4 (by omega)
            have HCB : Hid (∀ W, KsAt W a i cap l → W.cell? ⟨bB, offB + (r - 1) * 4, none⟩ = some (.string (l[r - 1]'hBl).1.user) ∧ W.cell? ⟨bB, offB + (r - 1) * 4 + 1, none⟩ = some (.int .u64 ((l[r - 1]'hBl).1.seq : Int)) ∧ W.cell? ⟨bB, offB + (r - 1) * 4 + 2, none⟩ = some (.int .i64 (l[r - 1]'hBl).1.kind)) := fun W hW => by
              obtain ⟨b', off', hab', hc⟩ := hW.cells4 (by omega)
              rw [habB] at hab'
              cases hab'
              obtain ⟨z0, z1, z2, _⟩ := hc (r - 1) hBl
              exact ⟨z0, z1, z2⟩
            have hidxB : ∀ W : World, (Instr.indexAt 23 (.slice a i cap) (.int .i64 ((r : Int) - 1))).run Try.prog W = .ok (.pointer (some ⟨bB, offB + (r - 1) * 4, none⟩)) W := fun W => by
              have := idxKV W (a := a) (b := bB) (off := offB) (n := i) (c := cap) habB (show r - 1 < i by omega)
              rw [show ((r - 1 : Nat) : Int) = (r : Int) - 1 by omega] at this
              exact this
            have HVB : Hid ((l[r - 1]'hBl).1.cmp ⟨s2, n2, k2⟩ < 0) := HFA.out.no (r - 1) hBl (by omega)
            have HCPB : Hid (∀ W : World, Calls Try.prog 19 #[.agg #[.string (l[r - 1]'hBl).1.user, .int .u64 ((l[r - 1]'hBl).1.seq : Int), .int .i64 (l[r - 1]'hBl).1.kind], .agg #[.string s2, .int .u64 (n2 : Int), .int .i64 k2]] W fun rr w' => rr = .returned (.int .i64 ((l[r - 1]'hBl).1.cmp ⟨s2, n2, k2⟩)) ∧ Below W.heap.size W w') := fun W => compare_any _ _ _ _ _ _ W
            generalize (l[r - 1]'hBl) = eB at HCB HVB HCPB
            generalize offB + (r - 1) * 4 = oB at HCB hidxB
            generalize eB.1.cmp ⟨s2, n2, k2⟩ = vB at HVB HCPB
            clear habB
            go_wp2_with fail
            have hdrB : Below vxA.heap.size vxA vxA.drew := (Below.refl _ _).drew
            have HAB : Hid (Below w.heap.size w vxA.drew ∧ KsAt vxA.drew a i cap l ∧ Box vxA.drew w.heap.size TK #[.string s2, .int .u64 (n2 : Int), .int .i64 k2]) := ⟨HBA.out.1.trans (hdrB.mono HBA.out.1.size), HBA.out.2.1.below hdrB, HBA.out.2.2.kept (hdrB.block _ HBA.out.2.2.lt)⟩
            clear hdrB
            obtain ⟨x0, x1, x2⟩ := HCB.out _ HAB.out.2.1
            have c0 : vxA.drew.cell? ⟨w.heap.size, 0, none⟩ = some (.string s2) := HAB.out.2.2.cell 0
            have c1 : vxA.drew.cell? ⟨w.heap.size, 1, none⟩ = some (.int .u64 (n2 : Int)) := HAB.out.2.2.cell 1
            have c2 : vxA.drew.cell? ⟨w.heap.size, 2, none⟩ = some (.int .i64 k2) := HAB.out.2.2.cell 2
            have hgd2 : ((r : Int) == 0) = false := by simp; omega
            have hwr : IntKind.i64.wrap ((r : Int) - 1) = (r : Int) - 1 := by rw [IntKind.wrap_i64]; omega
            go_region_held3 (fun V => V.cell? ⟨bB, oB, none⟩ = some (.string eB.1.user) ∧ V.cell? ⟨bB, oB + 1, none⟩ = some (.int .u64 (eB.1.seq : Int)) ∧ V.cell? ⟨bB, oB + 2, none⟩ = some (.int .i64 eB.1.kind) ∧ V.cell? ⟨w.heap.size, 0, none⟩ = some (.string s2) ∧ V.cell? ⟨w.heap.size, 1, none⟩ = some (.int .u64 (n2 : Int)) ∧ V.cell? ⟨w.heap.size, 2, none⟩ = some (.int .i64 k2)) (first | exact ⟨x0, x1, x2, c0, c1, c2⟩ | go_keep)
              (first
               | (go_at_call 19; refine (HCPB.out _).mono ?_; rintro _ vxB ⟨rfl, hbx⟩
                  have HBB : Hid (Below w.heap.size w vxB ∧ KsAt vxB a i cap l ∧ Box vxB w.heap.size TK #[.string s2, .int .u64 (n2 : Int), .int .i64 k2]) := ⟨HAB.out.1.trans (hbx.mono HAB.out.1.size), HAB.out.2.1.below hbx, HAB.out.2.2.kept (hbx.block _ HAB.out.2.2.lt)⟩
                  obtain ⟨x0, x1, x2⟩ := HCB.out _ HBB.out.2.1
                  have c0 : vxB.cell? ⟨w.heap.size, 0, none⟩ = some (.string s2) := HBB.out.2.2.cell 0
                  have c1 : vxB.cell? ⟨w.heap.size, 1, none⟩ = some (.int .u64 (n2 : Int)) := HBB.out.2.2.cell 1
                  have c2 : vxB.cell? ⟨w.heap.size, 2, none⟩ = some (.int .i64 k2) := HBB.out.2.2.cell 2
                  clear hbx))
            have hvB : vB < 0 := HVB.out
            go_wp2
            go_ret
            exact ⟨ret1 (by simp [hvB]), HBB.out.1⟩
        · have hgd : decide ((r : Int) < (i : Int)) = false := decide_eq_false (by omega)
          go_wp2_with fail
          go_quiet (fail)
          have hdq : Below w5.heap.size w5 (w5.drewN nq) := Below.drewM (Below.refl _ _) nq
          have HQ : Hid (Below w.heap.size w (w5.drewN nq) ∧ KsAt (w5.drewN nq) a i cap l ∧ Box (w5.drewN nq) w.heap.size TK #[.string s2, .int .u64 (n2 : Int), .int .i64 k2]) := ⟨H5.out.1.trans (hdq.mono H5.out.1.size), H5.out.2.1.below hdq, H5.out.2.2.kept (hdq.block _ H5.out.2.2.lt)⟩
          clear hdq
          generalize w5.drewN nq = w6 at HQ ⊢
          by_cases hr0 : r = 0
          · subst hr0
            go_wp2_with fail
            go_quiet (fail)
            go_wp2
            go_ret
            exact ⟨ret1 rfl, by first | exact Below.drewM (Below.drewM HQ.out.1 _) _ | exact Below.drewM HQ.out.1 _ | exact HQ.out.1⟩
          · have hBl : r - 1 < l.length := by rw [HSZ.out]; omega
            obtain ⟨bB, offB, habB, _⟩ := HQ.out.2.1.cells4 (by omega)
            have HCB : Hid (∀ W, KsAt W a i cap l → W.cell? ⟨bB, offB + (r - 1) * 4, none⟩ = some (.string (l[r - 1]'hBl).1.user) ∧ W.cell? ⟨bB, offB + (r - 1) * 4 + 1, none⟩ = some (.int .u64 ((l[r - 1]'hBl).1.seq : Int)) ∧ W.cell? ⟨bB, offB + (r - 1) * 4 + 2, none⟩ = some (.int .i64 (l[r - 1]'hBl).1.kind)) := fun W hW => by
              obtain ⟨b', off', hab', hc⟩ := hW.cells4 (by omega)
              rw [habB] at hab'
              cases hab'
              obtain ⟨z0, z1, z2, _⟩ := hc (r - 1) hBl
              exact ⟨z0, z1, z2⟩
            have hidxB : ∀ W : World, (Instr.indexAt 23 (.slice a i cap) (.int .i64 ((r : Int) - 1))).run Try.prog W = .ok (.pointer (some ⟨bB, offB + (r - 1) * 4, none⟩)) W := fun W => by
              have := idxKV W (a := a) (b := bB) (off := offB) (n := i) (c := cap) habB (show r - 1 < i by omega)
              rw [show ((r - 1 : Nat) : Int) = (r : Int) - 1 by omega] at this
              exact this
            have HVB : Hid ((l[r - 1]'hBl).1.cmp ⟨s2, n2, k2⟩ < 0) := HFA.out.no (r - 1) hBl (by omega)
            have HCPB : Hid (∀ W : World, Calls Try.prog 19 #[.agg #[.string (l[r - 1]'hBl).1.user, .int .u64 ((l[r - 1]'hBl).1.seq : Int), .int .i64 (l[r - 1]'hBl).1.kind], .agg #[.string s2, .int .u64 (n2 : Int), .int .i64 k2]] W fun rr w' => rr = .returned (.int .i64 ((l[r - 1]'hBl).1.cmp ⟨s2, n2, k2⟩)) ∧ Below W.heap.size W w') := fun W => compare_any _ _ _ _ _ _ W
            generalize (l[r - 1]'hBl) = eB at HCB HVB HCPB
            generalize offB + (r - 1) * 4 = oB at HCB hidxB
            generalize eB.1.cmp ⟨s2, n2, k2⟩ = vB at HVB HCPB
            clear habB
            go_wp2_with fail
            have hdrB : Below w6.heap.size w6 w6.drew := (Below.refl _ _).drew
            have HAB : Hid (Below w.heap.size w w6.drew ∧ KsAt w6.drew a i cap l ∧ Box w6.drew w.heap.size TK #[.string s2, .int .u64 (n2 : Int), .int .i64 k2]) := ⟨HQ.out.1.trans (hdrB.mono HQ.out.1.size), HQ.out.2.1.below hdrB, HQ.out.2.2.kept (hdrB.block _ HQ.out.2.2.lt)⟩
            clear hdrB
            obtain ⟨x0, x1, x2⟩ := HCB.out _ HAB.out.2.1
            have c0 : w6.drew.cell? ⟨w.heap.size, 0, none⟩ = some (.string s2) := HAB.out.2.2.cell 0
            have c1 : w6.drew.cell? ⟨w.heap.size, 1, none⟩ = some (.int .u64 (n2 : Int)) := HAB.out.2.2.cell 1
            have c2 : w6.drew.cell? ⟨w.heap.size, 2, none⟩ = some (.int .i64 k2) := HAB.out.2.2.cell 2
            have hgd2 : ((r : Int) == 0) = false := by simp; omega
            have hwr : IntKind.i64.wrap ((r : Int) - 1) = (r : Int) - 1 := by rw [IntKind.wrap_i64]; omega
            go_region_held3 (fun V => V.cell? ⟨bB, oB, none⟩ = some (.string eB.1.user) ∧ V.cell? ⟨bB, oB + 1, none⟩ = some (.int .u64 (eB.1.seq : Int)) ∧ V.cell? ⟨bB, oB + 2, none⟩ = some (.int .i64 eB.1.kind) ∧ V.cell? ⟨w.heap.size, 0, none⟩ = some (.string s2) ∧ V.cell? ⟨w.heap.size, 1, none⟩ = some (.int .u64 (n2 : Int)) ∧ V.cell? ⟨w.heap.size, 2, none⟩ = some (.int .i64 k2)) (first | exact ⟨x0, x1, x2, c0, c1, c2⟩ | go_keep)
              (first
               | (go_at_call 19; refine (HCPB.out _).mono ?_; rintro _ vxB ⟨rfl, hbx⟩
                  have HBB : Hid (Below w.heap.size w vxB ∧ KsAt vxB a i cap l ∧ Box vxB w.heap.size TK #[.string s2, .int .u64 (n2 : Int), .int .i64 k2]) := ⟨HAB.out.1.trans (hbx.mono HAB.out.1.size), HAB.out.2.1.below hbx, HAB.out.2.2.kept (hbx.block _ HAB.out.2.2.lt)⟩
                  obtain ⟨x0, x1, x2⟩ := HCB.out _ HBB.out.2.1
                  have c0 : vxB.cell? ⟨w.heap.size, 0, none⟩ = some (.string s2) := HBB.out.2.2.cell 0
                  have c1 : vxB.cell? ⟨w.heap.size, 1, none⟩ = some (.int .u64 (n2 : Int)) := HBB.out.2.2.cell 1
                  have c2 : vxB.cell? ⟨w.heap.size, 2, none⟩ = some (.int .i64 k2) := HBB.out.2.2.cell 2
                  clear hbx))
            have hvB : vB < 0 := HVB.out
            go_wp2
            go_ret
            exact ⟨ret1 (by simp [hvB]), HBB.out.1⟩
end Go.Proofs.Ytjlmjgbkeibaiaa
