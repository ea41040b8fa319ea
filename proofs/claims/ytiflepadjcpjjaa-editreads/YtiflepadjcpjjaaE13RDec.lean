/- The contract of the document's own Decode. -/
import Derived.Test.YtiflepadjcpjjaaE13RDecA
import Derived.Deep.DeepCutAuto
namespace Go.Proofs.Ytiflepadjcpjjaa
open Go.RowKit
set_option linter.unusedVariables false
set_option linter.unusedSimpArgs false
theorem rdecE_no {b : List UInt8} (h : rtakeE b = none) : rdecE b = none := by unfold rdecE; rw [h]; rfl
theorem rdecE_no2 {b : List UInt8} {x : PE} (h : rtakeE b = some x) (h2 : ¬ (x.err = 0 ∧ x.enc = b)) : rdecE b = none := by unfold rdecE; rw [h, Option.bind_some, if_neg h2]
theorem rdecE_yes {b : List UInt8} {x : PE} (h : rtakeE b = some x) (h2 : x.err = 0 ∧ x.enc = b) : rdecE b = some x := by unfold rdecE; rw [h, Option.bind_some, if_pos h2]
set_option maxRecDepth 100000 in
set_option maxHeartbeats 8000000 in
theorem redec_any (a : Option Addr) (n c : Nat) (b : List UInt8) (w : World) (h : BsAt w a n c b) (hl : n ≤ 200000000000000) :
    Calls Try.prog 15 #[.slice a n c] w fun r w' => Below w.heap.size w w' ∧ ((rdecE b = none ∧ r = .returned (.tuple #[.agg #[.int .u64 0, .int .u64 0, .int .u64 0, .slice none 0 0, .slice none 0 0], .int .i64 133])) ∨ ∃ (x : PE) (s : SE), rdecE b = some x ∧ r = .returned (.tuple #[.agg #[.int .u64 (x.log : Int), .int .u64 (x.next : Int), .int .u64 (x.last : Int), .slice s.a x.dels.length s.c, .slice s.a' x.adds.length s.c'], .int .i64 0]) ∧ EdAt w' x s) := by
  have HB : Hid (BsAt w a n c b) := h
  have H0 : Hid (RdS w (((w.alloc (.cells (eA ez sz0) TE)).alloc (.cells #[.slice a n c, .bool false] TRd)).alloc (.cells (eA ez sz0) TE)) (some b) ez sz0) := by
    have hb1 : Below w.heap.size w ((w.alloc (.cells (eA ez sz0) TE)).alloc (.cells #[.slice a n c, .bool false] TRd)) := ((Below.refl _ _).alloc (Nat.le_refl _) _).alloc (by simp) _
    refine ⟨⟨⟨a, n, c, b, ?_, h, by rw [h.size]; exact hl, fun b' e => (by cases e; rfl)⟩, hb1.alloc (by simp; omega) _, by omega⟩, ((Box.new _ _ _).alloc _).alloc _, ?_, OwnG.nil _ _, OwnF.nil _ _⟩
    · refine Box.alloc ?_ _
      have := Box.new (w.alloc (.cells (eA ez sz0) TE)) TRd #[.slice a n c, .bool false]
      simpa using this
    · have := Box.new ((w.alloc (.cells (eA ez sz0) TE)).alloc (.cells #[.slice a n c, .bool false] TRd)) TE (eA ez sz0)
      simpa using this
  have hq0 := rnum_at H0.out.rd
  clear h
  go_enter Try.func15, Try.ntmps15
  go_wp2_with fail
  refine hq0.mono ?_
  rintro _ w1 ⟨lg, st1, rfl, hv1, hc1, hz1, hr1, hg1⟩
  have T1 := H0.out.turn hc1 hr1
  have H1 : Hid (RdS w (w1.setCell ⟨w.heap.size + 2, 0, none⟩ (.int .u64 (lg : Int))) st1 ⟨lg, 0, 0, [], []⟩ sz0) := T1.setn 0 _ ⟨lg, 0, 0, [], []⟩ rfl rfl (by simp [eA, ez])
  have HK1 : Hid (rtakeE b = st1.bind fun r => KB lg r) := by
    show rtakeE b = _
    rw [rtakeE_eq]
    exact hg1.bind (fun v r => KB v r)
  have y0 : w1.cell? ⟨w.heap.size + 2, 0, none⟩ = some (.int .u64 0) := T1.var.cell 0
  have z0 := T1.var.soft 0
  have hq1 := rnum_at H1.out.rd
  clear hc1 hz1 hr1 hg1 T1 hq0 H0
  go_wp2_with fail
  refine hq1.mono ?_
  clear y0 z0
  rintro _ w2 ⟨nx, st2, rfl, hv2, hc2, hz2, hr2, hg2⟩
  have T2 := H1.out.turn hc2 hr2
  have H2 : Hid (RdS w (w2.setCell ⟨w.heap.size + 2, 1, none⟩ (.int .u64 (nx : Int))) st2 ⟨lg, nx, 0, [], []⟩ sz0) := T2.setn 1 _ ⟨lg, nx, 0, [], []⟩ rfl rfl (by simp [eA, ez])
  have HK2 : Hid (rtakeE b = st2.bind fun r => KC lg nx r) := by
    show rtakeE b = _
    rw [HK1.out]
    exact hg2.bind (fun v r => KC lg v r)
  have y0 : w2.cell? ⟨w.heap.size + 2, 1, none⟩ = some (.int .u64 0) := T2.var.cell 1
  have z0 := T2.var.soft 1
  have hq2 := rnum_at H2.out.rd
  clear hc2 hz2 hr2 hg2 T2 hq1 H1
  go_wp2_with fail
  refine hq2.mono ?_
  clear y0 z0
  rintro _ w3 ⟨la, st3, rfl, hv3, hc3, hz3, hr3, hg3⟩
  have T3 := H2.out.turn hc3 hr3
  have H3 : Hid (RdS w (w3.setCell ⟨w.heap.size + 2, 2, none⟩ (.int .u64 (la : Int))) st3 ⟨lg, nx, la, [], []⟩ sz0) := T3.setn 2 _ ⟨lg, nx, la, [], []⟩ rfl rfl (by simp [eA, ez])
  have HK3 : Hid (rtakeE b = st3.bind fun r => KD lg nx la r) := by
    show rtakeE b = _
    rw [HK2.out]
    exact hg3.bind (fun v r => KD lg nx v r)
  have y0 : w3.cell? ⟨w.heap.size + 2, 2, none⟩ = some (.int .u64 0) := T3.var.cell 2
  have z0 := T3.var.soft 2
  have hq3 := rnum_at H3.out.rd
  clear hc3 hz3 hr3 hg3 T3 hq2 H2
  go_wp2_with fail
  refine hq3.mono ?_
  clear y0 z0
  rintro _ w4 ⟨N0, st4, rfl, hv4, hc4, hz4, hr4, hg4⟩
  have H4 : Hid (RdS w w4 st4 ⟨lg, nx, la, [], []⟩ sz0) := H3.out.turn hc4 hr4
  have HK4 : Hid (rtakeE b = st4.bind fun r => (readL rtakeG (min N0 20001) r).bind fun d => KA lg nx la ([] ++ d.1) d.2) := by
    show rtakeE b = _
    rw [HK3.out]
    exact hg4.bind (fun v r => (readL rtakeG (min v 20001) r).bind fun d => KA lg nx la d.1 d.2)
  obtain ⟨M0, hM0⟩ : ∃ M, M = min N0 20001 := ⟨_, rfl⟩
  have hM1 : M0 ≤ N0 ∧ M0 ≤ 20001 ∧ (M0 = N0 ∨ M0 = 20001) := by rw [hM0]; omega
  rw [← hM0] at HK4
  clear hc4 hz4 hr4 hg4 hq3 H3 hM0 HK1 HK2 HK3
  go_wp2_with fail
  go_loopw [7] (fun i wr => ∃ k : Nat, k ≤ M0 ∧ i = .int .u64 (k : Int) ∧ Hid (∃ st dels s, RdS w wr st ⟨lg, nx, la, dels, []⟩ s ∧ dels.length = k ∧ rtakeE b = st.bind fun r => (readL rtakeG (M0 - k) r).bind fun d => KA lg nx la (dels ++ d.1) d.2)) (fun i _ => M0 - (intOf i).toNat)
  case atStart => exact ⟨0, Nat.zero_le _, rfl, st4, [], sz0, H4.out, rfl, HK4.out⟩
  case round =>
    obtain ⟨k, hk, rfl, HR⟩ := hrel
    obtain ⟨st, dels, s, hT, hdl, hkk⟩ := HR.out
    have HT : Hid (RdS w wr st ⟨lg, nx, la, dels, []⟩ s ∧ dels.length = k ∧ rtakeE b = st.bind fun r => (readL rtakeG (M0 - k) r).bind fun d => KA lg nx la (dels ++ d.1) d.2) := ⟨hT, hdl, hkk⟩
    clear hT hdl hkk HR
    have hd1 : wr.cell? ⟨w.heap.size + 1, 1, none⟩ = some (.bool st.isNone) := by
      obtain ⟨_, _, _, _, hbx, _⟩ := HT.out.1.rd.here
      exact hbx.cell 1
    go_upto_region 8 with fail
    go_cut [42] (fun t wz => t = .bool (decide (k < N0 ∧ st.isNone = false ∧ k ≤ 20000)) ∧ wz = wr)
    case first =>
      by_cases hkn : k < N0
      · by_cases hk2 : k ≤ 20000
        · cases st with
          | none =>
            simp only [Option.isNone_none] at hd1
            go_wp2_with fail
            go_meet
            exact ⟨congrArg Value.bool (by simp), rfl⟩
          | some r =>
            simp only [Option.isNone_some] at hd1
            go_wp2_with fail
            go_meet
            exact ⟨congrArg Value.bool (decide_eq_decide.2 ⟨fun h => ⟨by omega, rfl, by omega⟩, fun h => by have := h.2.2; omega⟩), rfl⟩
        · cases st with
          | none =>
            simp only [Option.isNone_none] at hd1
            go_wp2_with fail
            go_meet
            exact ⟨congrArg Value.bool (by simp), rfl⟩
          | some r =>
            simp only [Option.isNone_some] at hd1
            go_wp2_with fail
            go_meet
            exact ⟨congrArg Value.bool (decide_eq_decide.2 ⟨fun h => ⟨by omega, rfl, by omega⟩, fun h => by have := h.2.2; omega⟩), rfl⟩
      · go_wp2_with fail
        go_meet
        exact ⟨congrArg Value.bool (by simp; omega), rfl⟩
    case rest =>
      obtain ⟨rfl, rfl⟩ := hcut
      by_cases hin : k < N0 ∧ st.isNone = false ∧ k ≤ 20000
      · rw [decide_eq_true hin]
        obtain ⟨m, hm⟩ : ∃ m, M0 - k = m + 1 := ⟨M0 - k - 1, by omega⟩
        have hm2 : M0 - (k + 1) = m := by omega
        have HK : Hid (rtakeE b = st.bind fun r => (rlev r).bind fun p => (numR p.2).bind fun q => (readL rtakeG m q.2).bind fun d => KA lg nx la ((dels ++ [⟨p.1, q.1⟩]) ++ d.1) d.2) := by
          show rtakeE b = _
          rw [HT.out.2.2, hm]
          exact readG_step _ _ _ _
        have HM : Hid (M0 - (k + 1) = m ∧ dels.length = k) := ⟨hm2, HT.out.2.1⟩
        have hkM : k < M0 := by omega
        have HT1 : Hid (RdS w wc st ⟨lg, nx, la, dels, []⟩ s) := HT.out.1
        have hdn : dels.length ≤ 20001 := by have := HT.out.2.1; omega
        have hlv := rlevel_at HT1.out.rd
        clear HT hd1 hin hm hm2
        go_wp2_with fail
        refine hlv.mono ?_
        rintro _ v1 ⟨lv, s1, rfl, hc, hz, hr, hg⟩
        have HT2 : Hid (RdS w v1 s1 ⟨lg, nx, la, dels, []⟩ s) := HT1.out.turn hc hr
        have HKa : Hid (rtakeE b = s1.bind fun r => (numR r).bind fun q => (readL rtakeG m q.2).bind fun d => KA lg nx la ((dels ++ [⟨lv, q.1⟩]) ++ d.1) d.2) := by
          show rtakeE b = _
          rw [HK.out]
          exact hg.bind (fun v r => (numR r).bind fun q => (readL rtakeG m q.2).bind fun d => KA lg nx la ((dels ++ [⟨v, q.1⟩]) ++ d.1) d.2)
        have hnm := rnum_at HT2.out.rd
        clear hc hz hr hg hlv HT1 HK
        go_wp2_with fail
        refine hnm.mono ?_
        rintro _ v2 ⟨nm, s2, rfl, hvn, hc, hz, hr, hg⟩
        have HT3 : Hid (RdS w v2 s2 ⟨lg, nx, la, dels, []⟩ s) := HT2.out.turn hc hr
        have HKb : Hid (rtakeE b = s2.bind fun r => (readL rtakeG m r).bind fun d => KA lg nx la ((dels ++ [⟨lv, nm⟩]) ++ d.1) d.2) := by
          show rtakeE b = _
          rw [HKa.out]
          exact hg.bind (fun v r => (readL rtakeG m r).bind fun d => KA lg nx la ((dels ++ [⟨lv, v⟩]) ++ d.1) d.2)
        have c3 : v2.cell? ⟨w.heap.size + 2, 3, none⟩ = some (.slice s.a dels.length s.c) := HT3.out.var.cell 3
        have hbig := HT3.out.big
        clear hc hz hr hg hnm HT2 HKa
        have H5 : Hid (OwnG (v2.alloc (.cells (gA ⟨lv, nm⟩) TG)) (w.heap.size + 3) s.a dels.length s.c dels ∧ GsAt (v2.alloc (.cells (gA ⟨lv, nm⟩) TG)) (some ⟨v2.heap.size, 0, none⟩) 1 1 [⟨lv, nm⟩]) := ⟨HT3.out.gs.alloc _, GsAt.one _ _⟩
        go_wp2_with (first
          | (at_builtin; refine wpList_appG (v2.alloc (.cells (gA ⟨lv, nm⟩) TG)) rfl _ _ rfl (w.heap.size + 3) s.a dels.length s.c dels rfl H5.out.1 (some ⟨v2.heap.size, 0, none⟩) 1 1 [⟨lv, nm⟩] rfl H5.out.2 (by omega) (by simp; omega) ?_))
        intro a6 k6 w6 ho6 hb6 hg6
        have HT6 : Hid (RdS w (w6.setCell ⟨w.heap.size + 2, 3, none⟩ (.slice a6 (dels.length + 1) k6)) s2 ⟨lg, nx, la, dels ++ [⟨lv, nm⟩], []⟩ ⟨a6, k6, s.a', s.c'⟩) := HT3.out.pushG ho6 _ hb6 hg6
        have hv6 : Box w6 (w.heap.size + 2) TE (eA ⟨lg, nx, la, dels, []⟩ s) := (HT3.out.alloc (.cells (gA ⟨lv, nm⟩) TG)).var.kept (hb6.block _ (by omega))
        have x3 : w6.cell? ⟨w.heap.size + 2, 3, none⟩ = some (.slice s.a dels.length s.c) := hv6.cell 3
        have z3 := hv6.soft 3
        clear ho6 hb6 hg6 hv6 H5 HT3 c3
        go_wp2
        generalize w6.setCell ⟨w.heap.size + 2, 3, none⟩ (.slice a6 (dels.length + 1) k6) = w7 at HT6 ⊢
        go_roundw
        case rel => exact ⟨k + 1, by omega, by go_num, s2, dels ++ [⟨lv, nm⟩], ⟨a6, k6, s.a', s.c'⟩, HT6.out, by rw [List.length_append, HM.out.2]; rfl, by rw [HM.out.1]; exact HKb.out⟩
        case measure => simp only [intOf]; omega
      · rw [decide_eq_false hin]
        have HK5 : Hid (rtakeE b = st.bind fun r => KA lg nx la dels r) := by
          show rtakeE b = _
          cases st with
          | none => exact HT.out.2.2
          | some r =>
            have hkM : M0 - k = 0 := by
              have h1 : ¬ (k < N0 ∧ k ≤ 20000) := fun h => hin ⟨h.1, rfl, h.2⟩
              omega
            rw [HT.out.2.2, hkM]
            exact read_end _ _ _ _
        have HT5 : Hid (RdS w wc st ⟨lg, nx, la, dels, []⟩ s) := HT.out.1
        have hnm := rnum_at HT5.out.rd
        clear HT hd1 hin
        go_wp2_with fail
        refine hnm.mono ?_
        rintro _ w8 ⟨N1, st8, rfl, hv8, hc8, hz8, hr8, hg8⟩
        have H8 : Hid (RdS w w8 st8 ⟨lg, nx, la, dels, []⟩ s) := HT5.out.turn hc8 hr8
        have HK8 : Hid (rtakeE b = st8.bind fun r => (readL rtakeF (min N1 101) r).bind fun d => FZ lg nx la dels ([] ++ d.1) d.2) := by
          show rtakeE b = _
          rw [HK5.out]
          exact hg8.bind (fun v r => (readL rtakeF (min v 101) r).bind fun d => some (⟨lg, nx, la, dels, d.1⟩ : PE))
        obtain ⟨M1, hM0⟩ : ∃ M, M = min N1 101 := ⟨_, rfl⟩
        have hM2 : M1 ≤ N1 ∧ M1 ≤ 101 ∧ (M1 = N1 ∨ M1 = 101) := by rw [hM0]; omega
        rw [← hM0] at HK8
        clear hc8 hz8 hr8 hg8 hnm HT5 hM0 HK5
        go_wp2_with fail
        go_loopw [10] (fun i wr => ∃ k : Nat, k ≤ M1 ∧ i = .int .u64 (k : Int) ∧ Hid (∃ st adds s, RdS w wr st ⟨lg, nx, la, dels, adds⟩ s ∧ adds.length = k ∧ rtakeE b = st.bind fun r => (readL rtakeF (M1 - k) r).bind fun d => FZ lg nx la dels (adds ++ d.1) d.2)) (fun i _ => M1 - (intOf i).toNat)
        case atStart => exact ⟨0, Nat.zero_le _, rfl, st8, [], s, H8.out, rfl, HK8.out⟩
        case round =>
          obtain ⟨j, hj, rfl, HR⟩ := hrel
          clear H8 HK8
          obtain ⟨st, adds, s, hT, hdl, hkk⟩ := HR.out
          have HT : Hid (RdS w wr st ⟨lg, nx, la, dels, adds⟩ s ∧ adds.length = j ∧ rtakeE b = st.bind fun r => (readL rtakeF (M1 - j) r).bind fun d => FZ lg nx la dels (adds ++ d.1) d.2) := ⟨hT, hdl, hkk⟩
          clear hT hdl hkk HR
          have hd1 : wr.cell? ⟨w.heap.size + 1, 1, none⟩ = some (.bool st.isNone) := by
            obtain ⟨_, _, _, _, hbx, _⟩ := HT.out.1.rd.here
            exact hbx.cell 1
          go_upto_region 15 with fail
          go_cut [72] (fun t wz => t = .bool (decide (j < N1 ∧ st.isNone = false ∧ j ≤ 100)) ∧ wz = wr)
          case first =>
            by_cases hkn : j < N1
            · by_cases hk2 : j ≤ 100
              · cases st with
                | none =>
                  simp only [Option.isNone_none] at hd1
                  go_wp2_with fail
                  go_meet
                  exact ⟨congrArg Value.bool (by simp), rfl⟩
                | some r =>
                  simp only [Option.isNone_some] at hd1
                  go_wp2_with fail
                  go_meet
                  exact ⟨congrArg Value.bool (decide_eq_decide.2 ⟨fun h => ⟨by omega, rfl, by omega⟩, fun h => by have := h.2.2; omega⟩), rfl⟩
              · cases st with
                | none =>
                  simp only [Option.isNone_none] at hd1
                  go_wp2_with fail
                  go_meet
                  exact ⟨congrArg Value.bool (by simp), rfl⟩
                | some r =>
                  simp only [Option.isNone_some] at hd1
                  go_wp2_with fail
                  go_meet
                  exact ⟨congrArg Value.bool (decide_eq_decide.2 ⟨fun h => ⟨by omega, rfl, by omega⟩, fun h => by have := h.2.2; omega⟩), rfl⟩
            · go_wp2_with fail
              go_meet
              exact ⟨congrArg Value.bool (by simp; omega), rfl⟩
          case rest =>
            obtain ⟨rfl, rfl⟩ := hcut
            by_cases hin : j < N1 ∧ st.isNone = false ∧ j ≤ 100
            · rw [decide_eq_true hin]
              obtain ⟨m, hm⟩ : ∃ m, M1 - j = m + 1 := ⟨M1 - j - 1, by omega⟩
              have hm2 : M1 - (j + 1) = m := by omega
              have HK : Hid (rtakeE b = st.bind fun r => (rlev r).bind fun p => F1 (FZ lg nx la dels) adds m p.1 p.2) := by
                show rtakeE b = _
                rw [HT.out.2.2, hm]
                exact readF_step1 _ _ _ _
              have HM : Hid (M1 - (j + 1) = m ∧ adds.length = j) := ⟨hm2, HT.out.2.1⟩
              have hjM : j < M1 := by omega
              have han : adds.length ≤ 101 := by have := HT.out.2.1; omega
              obtain ⟨fb, hfb⟩ : ∃ fb, wc.heap.size = fb := ⟨_, rfl⟩
              have HF0 : Hid (RdF w (wc.alloc (.cells #[.int .i64 0, .int .u64 0, .int .i64 0, .string ⟨#[]⟩, .int .u64 0, .int .i64 0, .string ⟨#[]⟩, .int .u64 0, .int .i64 0] 44)) st ⟨lg, nx, la, dels, adds⟩ s fb #[.int .i64 0, .int .u64 0, .int .i64 0, .string ⟨#[]⟩, .int .u64 0, .int .i64 0, .string ⟨#[]⟩, .int .u64 0, .int .i64 0]) := by
                refine ⟨HT.out.1.alloc _, ?_, by have := HT.out.1.big; omega, fun k e => by have := tag_lt (HT.out.1.fs.tag e); omega⟩
                rw [← hfb]
                exact Box.new _ _ _
              have hfge := HF0.out.ge
              have hf1 : w.heap.size + 1 ≠ fb := by omega
              have hf2 : w.heap.size + 2 ≠ fb := by omega
              have hlv := rlevel_at HF0.out.rs.rd
              clear HT hd1 hin hm hm2
              go_wp2_with fail
              refine hlv.mono ?_
              rintro _ v1 ⟨lv, s1, rfl, hc, hz, hr, hg⟩
              have T1 := HF0.out.turn hc hr
              have HF1 : Hid (RdF w (v1.setCell ⟨fb, 0, none⟩ (.int .i64 lv)) s1 ⟨lg, nx, la, dels, adds⟩ s fb #[.int .i64 lv, .int .u64 0, .int .i64 0, .string ⟨#[]⟩, .int .u64 0, .int .i64 0, .string ⟨#[]⟩, .int .u64 0, .int .i64 0]) := (T1.set 0 (.int .i64 lv)).eq (by simp)
              have HK1 : Hid (rtakeE b = s1.bind fun r => F1 (FZ lg nx la dels) adds m lv r) := by
                show rtakeE b = _
                rw [HK.out]
                exact hg.bind (fun v r => F1 (FZ lg nx la dels) adds m v r)
              have y0 : v1.cell? ⟨fb, 0, none⟩ = some (.int .i64 0) := T1.bx.cell 0
              have z0 := T1.bx.soft 0
              have hnm := rnum_at HF1.out.rs.rd
              clear hc hz hr hg hlv T1 HF0 HK
              go_wp2_with fail
              refine hnm.mono ?_
              clear y0 z0
              rintro _ v2 ⟨nm, s2, rfl, hvn, hc, hz, hr, hg⟩
              have T2 := HF1.out.turn hc hr
              have HF2 : Hid (RdF w (v2.setCell ⟨fb, 1, none⟩ (.int .u64 (nm : Int))) s2 ⟨lg, nx, la, dels, adds⟩ s fb #[.int .i64 lv, .int .u64 (nm : Int), .int .i64 0, .string ⟨#[]⟩, .int .u64 0, .int .i64 0, .string ⟨#[]⟩, .int .u64 0, .int .i64 0]) := (T2.set 1 (.int .u64 (nm : Int))).eq (by simp)
              have HK2 : Hid (rtakeE b = s2.bind fun r => F2 (FZ lg nx la dels) adds m lv nm r) := by
                show rtakeE b = _
                rw [HK1.out]
                exact hg.bind (fun v r => F2 (FZ lg nx la dels) adds m lv v r)
              have y1 : v2.cell? ⟨fb, 1, none⟩ = some (.int .u64 0) := T2.bx.cell 1
              have z1 := T2.bx.soft 1
              have hns := rnum_at HF2.out.rs.rd
              clear hc hz hr hg hnm T2 HF1 HK1
              go_wp2_with fail
              refine hns.mono ?_
              clear y1 z1
              rintro _ v3 ⟨sz, s3, rfl, hvs, hc, hz, hr, hg⟩
              have HT3 : Hid (RdF w v3 s3 ⟨lg, nx, la, dels, adds⟩ s fb #[.int .i64 lv, .int .u64 (nm : Int), .int .i64 0, .string ⟨#[]⟩, .int .u64 0, .int .i64 0, .string ⟨#[]⟩, .int .u64 0, .int .i64 0]) := HF2.out.turn hc hr
              have hcv := conv_toI sz
              have HG3 : Hid (Got s2 numR sz s3) := hg
              have u1 : v3.cell? ⟨w.heap.size + 1, 1, none⟩ = some (.bool s3.isNone) := by
                obtain ⟨_, _, _, _, hbx, _⟩ := HT3.out.rs.rd.here
                exact hbx.cell 1
              have q1 : v3.frozen? ⟨w.heap.size + 1, 1, none⟩ = false := by
                obtain ⟨_, _, _, _, hbx, _⟩ := HT3.out.rs.rd.here
                exact hbx.soft 1
              have y2 : v3.cell? ⟨fb, 2, none⟩ = some (.int .i64 0) := HT3.out.bx.cell 2
              have z2 := HT3.out.bx.soft 2
              clear hc hz hr hg hns HF2
              by_cases hsz : sz ≤ 2147483648
              · have HF3 : Hid (RdF w (v3.setCell ⟨fb, 2, none⟩ (.int .i64 (toI sz))) s3 ⟨lg, nx, la, dels, adds⟩ s fb #[.int .i64 lv, .int .u64 (nm : Int), .int .i64 (toI sz), .string ⟨#[]⟩, .int .u64 0, .int .i64 0, .string ⟨#[]⟩, .int .u64 0, .int .i64 0]) := (HT3.out.set 2 (.int .i64 (toI sz))).eq (by simp)
                have HK3 : Hid (rtakeE b = s3.bind fun r => F3 (FZ lg nx la dels) adds m lv nm (toI sz) r) := by
                  show rtakeE b = _
                  rw [HK2.out]
                  exact (got_size HG3.out hsz).bind (fun v r => F3 (FZ lg nx la dels) adds m lv nm v r)
                have hka := rkey_at HF3.out.rs.rd
                clear HT3 HG3 HK2
                go_wp2_with fail
                refine hka.mono ?_
                clear y2 z2 u1 q1
                rintro _ v4 ⟨ka, s4, rfl, hc, hr, hg⟩
                have T4 := HF3.out.turn hc hr
                have HF4 : Hid (RdF w (((v4.setCell ⟨fb, 3, none⟩ (.string ka.user)).setCell ⟨fb, 4, none⟩ (.int .u64 (ka.seq : Int))).setCell ⟨fb, 5, none⟩ (.int .i64 ka.kind)) s4 ⟨lg, nx, la, dels, adds⟩ s fb #[.int .i64 lv, .int .u64 (nm : Int), .int .i64 (toI sz), .string ka.user, .int .u64 (ka.seq : Int), .int .i64 ka.kind, .string ⟨#[]⟩, .int .u64 0, .int .i64 0]) := (((T4.set 3 (.string ka.user)).set 4 (.int .u64 (ka.seq : Int))).set 5 (.int .i64 ka.kind)).eq (by simp)
                have HK4 : Hid (rtakeE b = s4.bind fun r => F4 (FZ lg nx la dels) adds m lv nm (toI sz) ka r) := by
                  show rtakeE b = _
                  rw [HK3.out]
                  exact hg.bind (fun v r => F4 (FZ lg nx la dels) adds m lv nm (toI sz) v r)
                have y3 : v4.cell? ⟨fb, 3, none⟩ = some (.string ⟨#[]⟩) := T4.bx.cell 3
                have z3 := T4.bx.soft 3
                have y4 : v4.cell? ⟨fb, 4, none⟩ = some (.int .u64 0) := T4.bx.cell 4
                have z4 := T4.bx.soft 4
                have y5 : v4.cell? ⟨fb, 5, none⟩ = some (.int .i64 0) := T4.bx.cell 5
                have z5 := T4.bx.soft 5
                have hkb := rkey_at HF4.out.rs.rd
                clear hc hr hg hka T4 HF3 HK3 hcv
                go_wp2_with fail
                refine hkb.mono ?_
                clear y3 z3 y4 z4 y5 z5
                rintro _ v5 ⟨kb, s5, rfl, hc, hr, hg⟩
                have T5 := HF4.out.turn hc hr
                have HF5 : Hid (RdF w (((v5.setCell ⟨fb, 6, none⟩ (.string kb.user)).setCell ⟨fb, 7, none⟩ (.int .u64 (kb.seq : Int))).setCell ⟨fb, 8, none⟩ (.int .i64 kb.kind)) s5 ⟨lg, nx, la, dels, adds⟩ s fb #[.int .i64 lv, .int .u64 (nm : Int), .int .i64 (toI sz), .string ka.user, .int .u64 (ka.seq : Int), .int .i64 ka.kind, .string kb.user, .int .u64 (kb.seq : Int), .int .i64 kb.kind]) := (((T5.set 6 (.string kb.user)).set 7 (.int .u64 (kb.seq : Int))).set 8 (.int .i64 kb.kind)).eq (by simp)
                have HK5 : Hid (rtakeE b = s5.bind fun r => F5 (FZ lg nx la dels) adds m lv nm (toI sz) ka kb r) := by
                  show rtakeE b = _
                  rw [HK4.out]
                  exact hg.bind (fun v r => F5 (FZ lg nx la dels) adds m lv nm (toI sz) ka v r)
                have y0 : v5.cell? ⟨fb, 0, none⟩ = some (.int .i64 lv) := T5.bx.cell 0
                have z0 := T5.bx.soft 0
                have y1 : v5.cell? ⟨fb, 1, none⟩ = some (.int .u64 (nm : Int)) := T5.bx.cell 1
                have z1 := T5.bx.soft 1
                have y2 : v5.cell? ⟨fb, 2, none⟩ = some (.int .i64 (toI sz)) := T5.bx.cell 2
                have z2 := T5.bx.soft 2
                have y3 : v5.cell? ⟨fb, 3, none⟩ = some (.string ka.user) := T5.bx.cell 3
                have z3 := T5.bx.soft 3
                have y4 : v5.cell? ⟨fb, 4, none⟩ = some (.int .u64 (ka.seq : Int)) := T5.bx.cell 4
                have z4 := T5.bx.soft 4
                have y5 : v5.cell? ⟨fb, 5, none⟩ = some (.int .i64 ka.kind) := T5.bx.cell 5
                have z5 := T5.bx.soft 5
                have y6 : v5.cell? ⟨fb, 6, none⟩ = some (.string ⟨#[]⟩) := T5.bx.cell 6
                have z6 := T5.bx.soft 6
                have y7 : v5.cell? ⟨fb, 7, none⟩ = some (.int .u64 0) := T5.bx.cell 7
                have z7 := T5.bx.soft 7
                have y8 : v5.cell? ⟨fb, 8, none⟩ = some (.int .i64 0) := T5.bx.cell 8
                have z8 := T5.bx.soft 8
                have c4 : v5.cell? ⟨w.heap.size + 2, 4, none⟩ = some (.slice s.a' adds.length s.c') := T5.rs.var.cell 4
                have hbig := T5.rs.big
                obtain ⟨V5, e5⟩ : ∃ V, V = ((v5.setCell ⟨fb, 6, none⟩ (.string kb.user)).setCell ⟨fb, 7, none⟩ (.int .u64 (kb.seq : Int))).setCell ⟨fb, 8, none⟩ (.int .i64 kb.kind) := ⟨_, rfl⟩
                have HE5 : Hid (((v5.setCell ⟨fb, 6, none⟩ (.string kb.user)).setCell ⟨fb, 7, none⟩ (.int .u64 (kb.seq : Int))).setCell ⟨fb, 8, none⟩ (.int .i64 kb.kind) = V5) := e5.symm
                have hs5 : V5.heap.size = v5.heap.size := by rw [e5]; simp
                have HV5 : Hid (RdS w V5 s5 ⟨lg, nx, la, dels, adds⟩ s) := by rw [e5]; exact HF5.out.rs
                have H5 : Hid (OwnF (V5.alloc (.cells (fA ⟨lv, nm, toI sz, ka, kb⟩) TF)) (w.heap.size + 3) s.a' adds.length s.c' adds ∧ FlAt (V5.alloc (.cells (fA ⟨lv, nm, toI sz, ka, kb⟩) TF)) (some ⟨v5.heap.size, 0, none⟩) 1 1 [⟨lv, nm, toI sz, ka, kb⟩] ∧ w.heap.size + 3 ≤ (V5.alloc (.cells (fA ⟨lv, nm, toI sz, ka, kb⟩) TF)).heap.size) := by
                  refine ⟨HV5.out.fs.alloc _, ?_, by simp; omega⟩
                  rw [← hs5]
                  exact FlAt.one _ _
                clear hc hr hg hkb T5 HF4 HK4 e5 HF5
                go_wp2_with (first
                  | (at_builtin
                     rw [HE5.out]
                     refine wpList_appFl (V5.alloc (.cells (fA ⟨lv, nm, toI sz, ka, kb⟩) TF)) rfl _ _ rfl (w.heap.size + 3) s.a' adds.length s.c' adds rfl H5.out.1 (some ⟨v5.heap.size, 0, none⟩) 1 1 [⟨lv, nm, toI sz, ka, kb⟩] rfl H5.out.2.1 (by omega) H5.out.2.2 ?_))
                intro a6 k6 w6 ho6 hb6 hg6
                have HT6 : Hid (RdS w (w6.setCell ⟨w.heap.size + 2, 4, none⟩ (.slice a6 (adds.length + 1) k6)) s5 ⟨lg, nx, la, dels, adds ++ [⟨lv, nm, toI sz, ka, kb⟩]⟩ ⟨s.a, s.c, a6, k6⟩) := HV5.out.pushF ho6 _ hb6 hg6
                have hv6 : Box w6 (w.heap.size + 2) TE (eA ⟨lg, nx, la, dels, adds⟩ s) := (HV5.out.alloc (.cells (fA ⟨lv, nm, toI sz, ka, kb⟩) TF)).var.kept (hb6.block _ (by omega))
                have x4 : w6.cell? ⟨w.heap.size + 2, 4, none⟩ = some (.slice s.a' adds.length s.c') := hv6.cell 4
                have w4z := hv6.soft 4
                clear ho6 hb6 hg6 hv6 H5 HV5 c4 y0 y1 y2 y3 y4 y5 y6 y7 y8 z0 z1 z2 z3 z4 z5 z6 z7 z8
                go_wp2
                generalize w6.setCell ⟨w.heap.size + 2, 4, none⟩ (.slice a6 (adds.length + 1) k6) = w7 at HT6 ⊢
                go_roundw
                case rel => exact ⟨j + 1, by omega, by go_num, s5, adds ++ [⟨lv, nm, toI sz, ka, kb⟩], ⟨s.a, s.c, a6, k6⟩, HT6.out, by rw [List.length_append, HM.out.2]; rfl, by rw [HM.out.1]; exact HK5.out⟩
                case measure => simp only [intOf]; omega
              · have HF3 : Hid (RdF w ((v3.setCell ⟨w.heap.size + 1, 1, none⟩ (.bool true)).setCell ⟨fb, 2, none⟩ (.int .i64 (toI sz))) none ⟨lg, nx, la, dels, adds⟩ s fb #[.int .i64 lv, .int .u64 (nm : Int), .int .i64 (toI sz), .string ⟨#[]⟩, .int .u64 0, .int .i64 0, .string ⟨#[]⟩, .int .u64 0, .int .i64 0]) := (HT3.out.bad.set 2 (.int .i64 (toI sz))).eq (by simp)
                have HK3 : Hid (rtakeE b = (none : Option (List UInt8)).bind fun r => F3 (FZ lg nx la dels) adds m lv nm (toI sz) r) := by
                  show rtakeE b = _
                  rw [HK2.out]
                  exact (got_size_no HG3.out hsz).bind (fun v r => F3 (FZ lg nx la dels) adds m lv nm v r)
                have hka := rkey_at HF3.out.rs.rd
                clear HT3 HG3 HK2
                go_wp2_with fail
                refine hka.mono ?_
                clear y2 z2 u1 q1
                rintro _ v4 ⟨ka, s4, rfl, hc, hr, hg⟩
                have T4 := HF3.out.turn hc hr
                have HF4 : Hid (RdF w (((v4.setCell ⟨fb, 3, none⟩ (.string ka.user)).setCell ⟨fb, 4, none⟩ (.int .u64 (ka.seq : Int))).setCell ⟨fb, 5, none⟩ (.int .i64 ka.kind)) s4 ⟨lg, nx, la, dels, adds⟩ s fb #[.int .i64 lv, .int .u64 (nm : Int), .int .i64 (toI sz), .string ka.user, .int .u64 (ka.seq : Int), .int .i64 ka.kind, .string ⟨#[]⟩, .int .u64 0, .int .i64 0]) := (((T4.set 3 (.string ka.user)).set 4 (.int .u64 (ka.seq : Int))).set 5 (.int .i64 ka.kind)).eq (by simp)
                have HK4 : Hid (rtakeE b = s4.bind fun r => F4 (FZ lg nx la dels) adds m lv nm (toI sz) ka r) := by
                  show rtakeE b = _
                  rw [HK3.out]
                  exact hg.bind (fun v r => F4 (FZ lg nx la dels) adds m lv nm (toI sz) v r)
                have y3 : v4.cell? ⟨fb, 3, none⟩ = some (.string ⟨#[]⟩) := T4.bx.cell 3
                have z3 := T4.bx.soft 3
                have y4 : v4.cell? ⟨fb, 4, none⟩ = some (.int .u64 0) := T4.bx.cell 4
                have z4 := T4.bx.soft 4
                have y5 : v4.cell? ⟨fb, 5, none⟩ = some (.int .i64 0) := T4.bx.cell 5
                have z5 := T4.bx.soft 5
                have hkb := rkey_at HF4.out.rs.rd
                clear hc hr hg hka T4 HF3 HK3 hcv
                go_wp2_with fail
                refine hkb.mono ?_
                clear y3 z3 y4 z4 y5 z5
                rintro _ v5 ⟨kb, s5, rfl, hc, hr, hg⟩
                have T5 := HF4.out.turn hc hr
                have HF5 : Hid (RdF w (((v5.setCell ⟨fb, 6, none⟩ (.string kb.user)).setCell ⟨fb, 7, none⟩ (.int .u64 (kb.seq : Int))).setCell ⟨fb, 8, none⟩ (.int .i64 kb.kind)) s5 ⟨lg, nx, la, dels, adds⟩ s fb #[.int .i64 lv, .int .u64 (nm : Int), .int .i64 (toI sz), .string ka.user, .int .u64 (ka.seq : Int), .int .i64 ka.kind, .string kb.user, .int .u64 (kb.seq : Int), .int .i64 kb.kind]) := (((T5.set 6 (.string kb.user)).set 7 (.int .u64 (kb.seq : Int))).set 8 (.int .i64 kb.kind)).eq (by simp)
                have HK5 : Hid (rtakeE b = s5.bind fun r => F5 (FZ lg nx la dels) adds m lv nm (toI sz) ka kb r) := by
                  show rtakeE b = _
                  rw [HK4.out]
                  exact hg.bind (fun v r => F5 (FZ lg nx la dels) adds m lv nm (toI sz) ka v r)
                have y0 : v5.cell? ⟨fb, 0, none⟩ = some (.int .i64 lv) := T5.bx.cell 0
                have z0 := T5.bx.soft 0
                have y1 : v5.cell? ⟨fb, 1, none⟩ = some (.int .u64 (nm : Int)) := T5.bx.cell 1
                have z1 := T5.bx.soft 1
                have y2 : v5.cell? ⟨fb, 2, none⟩ = some (.int .i64 (toI sz)) := T5.bx.cell 2
                have z2 := T5.bx.soft 2
                have y3 : v5.cell? ⟨fb, 3, none⟩ = some (.string ka.user) := T5.bx.cell 3
                have z3 := T5.bx.soft 3
                have y4 : v5.cell? ⟨fb, 4, none⟩ = some (.int .u64 (ka.seq : Int)) := T5.bx.cell 4
                have z4 := T5.bx.soft 4
                have y5 : v5.cell? ⟨fb, 5, none⟩ = some (.int .i64 ka.kind) := T5.bx.cell 5
                have z5 := T5.bx.soft 5
                have y6 : v5.cell? ⟨fb, 6, none⟩ = some (.string ⟨#[]⟩) := T5.bx.cell 6
                have z6 := T5.bx.soft 6
                have y7 : v5.cell? ⟨fb, 7, none⟩ = some (.int .u64 0) := T5.bx.cell 7
                have z7 := T5.bx.soft 7
                have y8 : v5.cell? ⟨fb, 8, none⟩ = some (.int .i64 0) := T5.bx.cell 8
                have z8 := T5.bx.soft 8
                have c4 : v5.cell? ⟨w.heap.size + 2, 4, none⟩ = some (.slice s.a' adds.length s.c') := T5.rs.var.cell 4
                have hbig := T5.rs.big
                obtain ⟨V5, e5⟩ : ∃ V, V = ((v5.setCell ⟨fb, 6, none⟩ (.string kb.user)).setCell ⟨fb, 7, none⟩ (.int .u64 (kb.seq : Int))).setCell ⟨fb, 8, none⟩ (.int .i64 kb.kind) := ⟨_, rfl⟩
                have HE5 : Hid (((v5.setCell ⟨fb, 6, none⟩ (.string kb.user)).setCell ⟨fb, 7, none⟩ (.int .u64 (kb.seq : Int))).setCell ⟨fb, 8, none⟩ (.int .i64 kb.kind) = V5) := e5.symm
                have hs5 : V5.heap.size = v5.heap.size := by rw [e5]; simp
                have HV5 : Hid (RdS w V5 s5 ⟨lg, nx, la, dels, adds⟩ s) := by rw [e5]; exact HF5.out.rs
                have H5 : Hid (OwnF (V5.alloc (.cells (fA ⟨lv, nm, toI sz, ka, kb⟩) TF)) (w.heap.size + 3) s.a' adds.length s.c' adds ∧ FlAt (V5.alloc (.cells (fA ⟨lv, nm, toI sz, ka, kb⟩) TF)) (some ⟨v5.heap.size, 0, none⟩) 1 1 [⟨lv, nm, toI sz, ka, kb⟩] ∧ w.heap.size + 3 ≤ (V5.alloc (.cells (fA ⟨lv, nm, toI sz, ka, kb⟩) TF)).heap.size) := by
                  refine ⟨HV5.out.fs.alloc _, ?_, by simp; omega⟩
                  rw [← hs5]
                  exact FlAt.one _ _
                clear hc hr hg hkb T5 HF4 HK4 e5 HF5
                go_wp2_with (first
                  | (at_builtin
                     rw [HE5.out]
                     refine wpList_appFl (V5.alloc (.cells (fA ⟨lv, nm, toI sz, ka, kb⟩) TF)) rfl _ _ rfl (w.heap.size + 3) s.a' adds.length s.c' adds rfl H5.out.1 (some ⟨v5.heap.size, 0, none⟩) 1 1 [⟨lv, nm, toI sz, ka, kb⟩] rfl H5.out.2.1 (by omega) H5.out.2.2 ?_))
                intro a6 k6 w6 ho6 hb6 hg6
                have HT6 : Hid (RdS w (w6.setCell ⟨w.heap.size + 2, 4, none⟩ (.slice a6 (adds.length + 1) k6)) s5 ⟨lg, nx, la, dels, adds ++ [⟨lv, nm, toI sz, ka, kb⟩]⟩ ⟨s.a, s.c, a6, k6⟩) := HV5.out.pushF ho6 _ hb6 hg6
                have hv6 : Box w6 (w.heap.size + 2) TE (eA ⟨lg, nx, la, dels, adds⟩ s) := (HV5.out.alloc (.cells (fA ⟨lv, nm, toI sz, ka, kb⟩) TF)).var.kept (hb6.block _ (by omega))
                have x4 : w6.cell? ⟨w.heap.size + 2, 4, none⟩ = some (.slice s.a' adds.length s.c') := hv6.cell 4
                have w4z := hv6.soft 4
                clear ho6 hb6 hg6 hv6 H5 HV5 c4 y0 y1 y2 y3 y4 y5 y6 y7 y8 z0 z1 z2 z3 z4 z5 z6 z7 z8
                go_wp2
                generalize w6.setCell ⟨w.heap.size + 2, 4, none⟩ (.slice a6 (adds.length + 1) k6) = w7 at HT6 ⊢
                go_roundw
                case rel => exact ⟨j + 1, by omega, by go_num, s5, adds ++ [⟨lv, nm, toI sz, ka, kb⟩], ⟨s.a, s.c, a6, k6⟩, HT6.out, by rw [List.length_append, HM.out.2]; rfl, by rw [HM.out.1]; exact HK5.out⟩
                case measure => simp only [intOf]; omega
            · rw [decide_eq_false hin]
              have HK9 : Hid (rtakeE b = st.bind fun r => FZ lg nx la dels adds r) := by
                show rtakeE b = _
                cases st with
                | none => exact HT.out.2.2
                | some r =>
                  have hkM : M1 - j = 0 := by
                    have h1 : ¬ (j < N1 ∧ j ≤ 100) := fun h => hin ⟨h.1, rfl, h.2⟩
                    omega
                  rw [HT.out.2.2, hkM]
                  exact read_end _ _ _ _
              have H9 : Hid (RdS w wc st ⟨lg, nx, la, dels, adds⟩ s) := HT.out.1
              clear HT hin
              cases st with
              | none =>
                have HNO : Hid (rdecE b = none) := rdecE_no HK9.out
                simp only [Option.isNone_none] at hd1
                obtain ⟨x0, x1, x2, x3, x4⟩ := H9.out.res.five
                have z0 := H9.out.res.soft 0
                have z1 := H9.out.res.soft 1
                have z2 := H9.out.res.soft 2
                have z3 := H9.out.res.soft 3
                have z4 := H9.out.res.soft 4
                go_wp2
                exact bodyPost_ret (v := .tuple #[.agg #[.int .u64 0, .int .u64 0, .int .u64 0, .slice none 0 0, .slice none 0 0], .int .i64 133]) (by simp [results, Try.results15, go_sem, x0, x1, x2, x3, x4]) rfl ⟨set5_below (x := ez) (s := sz0) H9.out.base (Nat.le_refl _), .inl ⟨HNO.out, rfl⟩⟩
              | some r =>
                have HY : Hid (rtakeE b = some ⟨lg, nx, la, dels, adds⟩) := HK9.out
                simp only [Option.isNone_some] at hd1
                obtain ⟨c0, c1, c2, c3, c4⟩ := H9.out.var.five
                simp only at c0 c1 c2 c3 c4
                have hen := reenc_any ⟨lg, nx, la, dels, adds⟩ s wc ⟨H9.out.gs.gs, H9.out.fs.fs⟩ (rtakeE_wf HY.out)
                simp only at hen
                clear HK9
                go_wp2_with fail
                refine hen.mono ?_
                rintro _ w9 ⟨a9, k9, rfl, ho9, hb9⟩
                have H10 : Hid (RdS w w9 (some r) ⟨lg, nx, la, dels, adds⟩ s) := H9.out.call hb9
                have cv1 := conv_of ho9.bs
                have cv2 := conv_of (HB.out.below (Nat.le_refl _) H10.out.base)
                have HLY : Hid ((⟨lg, nx, la, dels, adds⟩ : PE).err = 0 → (⟨lg, nx, la, dels, adds⟩ : PE).lay = (⟨lg, nx, la, dels, adds⟩ : PE).enc) := PE.lay_yes
                have HEQ : Hid (((strOf (⟨lg, nx, la, dels, adds⟩ : PE).lay).toList == (strOf b).toList) = ((⟨lg, nx, la, dels, adds⟩ : PE).lay == b)) := strOf_beq _ _
                clear ho9 hb9 hen c0 c1 c2 c3 c4 H9 hd1
                generalize hxl : (⟨lg, nx, la, dels, adds⟩ : PE).lay = LY at cv1 HLY HEQ ⊢
                clear hxl
                generalize LY.length = nl at cv1 ⊢
                generalize strOf LY = S1 at cv1 HEQ
                generalize strOf b = S2 at cv2 HEQ
                obtain ⟨c0, c1, c2, c3, c4⟩ := H10.out.var.five
                simp only at c0 c1 c2 c3 c4
                by_cases her : (⟨lg, nx, la, dels, adds⟩ : PE).err = 0
                · rw [her]
                  by_cases hbb : LY = b
                  · have HYY : Hid (rdecE b = some ⟨lg, nx, la, dels, adds⟩) := rdecE_yes HY.out ⟨her, by rw [← HLY.out her]; exact hbb⟩
                    have heq : (S1.toList == S2.toList) = true := by rw [HEQ.out]; simp [hbb]
                    clear her hbb
                    obtain ⟨x0, x1, x2, x3, x4⟩ := H10.out.res.five
                    have z0 := H10.out.res.soft 0
                    have z1 := H10.out.res.soft 1
                    have z2 := H10.out.res.soft 2
                    have z3 := H10.out.res.soft 3
                    have z4 := H10.out.res.soft 4
                    go_wp2
                    refine bodyPost_ret (v := .tuple #[.agg #[.int .u64 (lg : Int), .int .u64 (nx : Int), .int .u64 (la : Int), .slice s.a dels.length s.c, .slice s.a' adds.length s.c'], .int .i64 0]) (by simp [results, Try.results15, go_sem, x0, x1, x2, x3, x4]) rfl ⟨set5_below (x := ⟨lg, nx, la, dels, adds⟩) (s := s) H10.out.base (Nat.le_refl _), .inr ⟨⟨lg, nx, la, dels, adds⟩, s, HYY.out, rfl, ?_⟩⟩
                    have hgk := H10.out.gs.kept (w' := set5 w9 w.heap.size ⟨lg, nx, la, dels, adds⟩ s) fun k e => set5_heap (by have := H10.out.gs.ge e; omega)
                    have hfk := H10.out.fs.kept (w' := set5 w9 w.heap.size ⟨lg, nx, la, dels, adds⟩ s) fun k e => set5_heap (by have := H10.out.fs.ge e; omega)
                    exact ⟨hgk.gs, hfk.fs⟩
                  · have HNO : Hid (rdecE b = none) := rdecE_no2 HY.out (fun h => hbb (by rw [HLY.out her]; exact h.2))
                    have heq : (S1.toList == S2.toList) = false := by rw [HEQ.out]; simp [hbb]
                    clear her hbb
                    obtain ⟨x0, x1, x2, x3, x4⟩ := H10.out.res.five
                    have z0 := H10.out.res.soft 0
                    have z1 := H10.out.res.soft 1
                    have z2 := H10.out.res.soft 2
                    have z3 := H10.out.res.soft 3
                    have z4 := H10.out.res.soft 4
                    go_wp2
                    exact bodyPost_ret (v := .tuple #[.agg #[.int .u64 0, .int .u64 0, .int .u64 0, .slice none 0 0, .slice none 0 0], .int .i64 133]) (by simp [results, Try.results15, go_sem, x0, x1, x2, x3, x4]) rfl ⟨set5_below (x := ez) (s := sz0) H10.out.base (Nat.le_refl _), .inl ⟨HNO.out, rfl⟩⟩
                · have HNO : Hid (rdecE b = none) := rdecE_no2 HY.out (fun h => her h.1)
                  have hne : ((((⟨lg, nx, la, dels, adds⟩ : PE).err : Nat) : Int) != 0) = true := by simp; omega
                  generalize (⟨lg, nx, la, dels, adds⟩ : PE).err = er at hne ⊢
                  obtain ⟨x0, x1, x2, x3, x4⟩ := H10.out.res.five
                  have z0 := H10.out.res.soft 0
                  have z1 := H10.out.res.soft 1
                  have z2 := H10.out.res.soft 2
                  have z3 := H10.out.res.soft 3
                  have z4 := H10.out.res.soft 4
                  go_wp2
                  exact bodyPost_ret (v := .tuple #[.agg #[.int .u64 0, .int .u64 0, .int .u64 0, .slice none 0 0, .slice none 0 0], .int .i64 133]) (by simp [results, Try.results15, go_sem, x0, x1, x2, x3, x4]) rfl ⟨set5_below (x := ez) (s := sz0) H10.out.base (Nat.le_refl _), .inl ⟨HNO.out, rfl⟩⟩
  end Go.Proofs.Ytiflepadjcpjjaa
