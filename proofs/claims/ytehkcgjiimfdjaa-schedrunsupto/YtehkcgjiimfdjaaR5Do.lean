/- The contract of the document's own Run. -/
import Derived.Test.YtehkcgjiimfdjaaPbIni
import Derived.Test.YtehkcgjiimfdjaaR5Good
import Derived.Deep.RegionHeld3
namespace Go.Proofs.Ytehkcgjiimfdjaa
open Go.RowKit
/-- Between the first loops: what the world holds. -/
abbrev rwAt (cs : List Int) (n i j k : Nat) : RW := ⟨csTo cs i, hasTo j, tsTo n k, [], 0, none, 0⟩
set_option linter.unusedSimpArgs false in
set_option maxRecDepth 100000 in
set_option maxHeartbeats 4000000 in
theorem rdo_at {w : World} (a : Option Addr) (len cap : Nat) (code : List (List Ins)) (ca : Option Addr) (cl cc : Nat) (cs : List Int) (pa : Option Addr) (pl pc : Nat) (ps : List Int) (h : CdAt w a len cap code) (hc : IsAt w ca cl cc cs) (hp : IsAt w pa pl pc ps) (hst : ps.length ≤ 4611686018427387904) (hem : allOk code cs = true → ((begins code cs).run ps).em.length < 1099511627776) :
    Calls Try.prog 11 #[.slice a len cap, .slice ca cl cc, .slice pa pl pc] w fun e w' => DoEnd w w' code cs ps e := by
  have HC : Hid (CdAt w a len cap code) := h
  have HI : Hid (IsAt w ca cl cc cs) := hc
  have HP : Hid (IsAt w pa pl pc ps) := hp
  have HS : Hid (cs.length = cl) := hc.size
  have HZ : Hid (code.length = len) := h.size
  have HPS : Hid (ps.length = pl) := hp.size
  have HST : Hid (ps.length ≤ 4611686018427387904) := hst
  have HEM : Hid (allOk code cs = true → ((begins code cs).run ps).em.length < 1099511627776) := hem
  have h1 := h.le
  have h2 := h.max
  have h3 := hc.le
  have h4 := hc.max
  have h5 := hp.le
  have h6 := hp.max
  unfold maxLen at h2 h4 h6
  clear h hc hp hst hem
  have HR0 : Hid (Res w (w.alloc (.cells #[.slice none 0 0, .slice none 0 0, .slice none 0 0, .int .i64 0] 27))) := Res.new w
  obtain ⟨z0, z1, z2, z3⟩ := HR0.out.cells
  obtain ⟨t0, t1, t2, t3⟩ := HR0.out.softs
  by_cases hbig : 8 < len
  · skip
    have hbad : allOk code cs = false := by
      simp [allOk, HZ.out]
      omega
    go_enter Try.func11, Try.ntmps11
    go_wp2
    refine bodyPost_ret (v := .tuple #[.agg #[.slice none 0 0, .slice none 0 0, .slice none 0 0, .int .i64 0], .int .i64 50]) (by simp [results, Try.results11, go_sem, *]) rfl ?_
    exact .inl ⟨hbad, rfl, HR0.out.base⟩
  by_cases hbig2 : 16 < cl
  · skip
    have hbad : allOk code cs = false := by
      simp [allOk, HS.out]
      omega
    go_enter Try.func11, Try.ntmps11
    go_wp2
    refine bodyPost_ret (v := .tuple #[.agg #[.slice none 0 0, .slice none 0 0, .slice none 0 0, .int .i64 0], .int .i64 50]) (by simp [results, Try.results11, go_sem, *]) rfl ?_
    exact .inl ⟨hbad, rfl, HR0.out.base⟩
  have hl8 : len ≤ 8 := by omega
  have hc16 : cl ≤ 16 := by omega
  have hmk : ∀ W : World, _ := fun W => make_tasks (n := len) hl8 W
  clear z0 z1 z2 z3 t0 t1 t2 t3 hbig hbig2
  go_enter Try.func11, Try.ntmps11
  go_wp2_with fail
  generalize hV : ((w.alloc (.cells #[.slice none 0 0, .slice none 0 0, .slice none 0 0, .int .i64 0] 27)).alloc (.cells (cellsT (List.replicate len rt0)).toArray 54)).alloc (.cells #[.slice a len cap, .slice (some ⟨w.heap.size + 1, 0, none⟩) len len, .int .i64 0, .int .i64 0, .int .i64 0, .int .i64 0, .int .i64 0, .int .i64 0, .int .i64 0, .int .i64 0, .int .i64 0, .int .i64 0, .int .i64 0, .int .i64 0, .int .i64 0, .int .i64 0, .int .i64 0, .int .i64 0, .int .i64 0, .int .i64 0, .int .i64 0, .int .i64 0, .int .i64 0, .int .i64 0, .int .i64 0, .int .i64 0, .int .i64 0, .int .i64 0, .int .i64 0, .int .i64 0, .int .i64 0, .int .i64 0, .int .i64 0, .int .i64 0, .slice none 0 0, .int .i64 0] 51) = V
  obtain ⟨w1, HW1⟩ : ∃ w1, Hid (w1 = w.alloc (.cells #[.slice none 0 0, .slice none 0 0, .slice none 0 0, .int .i64 0] 27)) := ⟨_, rfl⟩
  rw [← HW1.out] at HR0 hV
  have hs1 : w1.heap.size = w.heap.size + 1 := by rw [HW1.out]; simp
  obtain ⟨p, HPP⟩ : ∃ p, Hid (p = w.heap.size + 1 + 1) := ⟨_, rfl⟩
  obtain ⟨q, HQQ⟩ : ∃ q, Hid (q = w.heap.size + 1) := ⟨_, rfl⟩
  have HWd0 : Hid (Wd w1 V p q (.slice a len cap) (rwAt cs len 0 0 0)) := by
    have := Wd.made w1 a len cap hl8
    rw [wdL_new, hs1] at this
    unfold Hid
    rw [← hV, HPP.out, HQQ.out]
    exact this
  have HC1 : Hid (CdAt w1 a len cap code) := HC.out.below (Nat.le_refl _) HR0.out.base
  have HI1 : Hid (IsAt w1 ca cl cc cs) := HI.out.below (Nat.le_refl _) HR0.out.base
  have HP1 : Hid (IsAt w1 pa pl pc ps) := HP.out.below (Nat.le_refl _) HR0.out.base
  rw [← HPP.out]
  clear hV hmk HC HI HP HW1 hs1 HPP HQQ
  go_loopw [9] (fun ix wr => ∃ k : Nat, k ≤ 16 ∧ ix = .int .i64 (k : Int) ∧ Hid (Wd w1 wr p q (.slice a len cap) (rwAt cs len 0 k 0))) (fun ix _ => 16 - (intOf ix).toNat)
  case atStart => exact ⟨0, Nat.zero_le _, rfl, HWd0⟩
  case round =>
    obtain ⟨k, hk, rfl, HWd⟩ := hrel
    clear HWd0
    by_cases hlt : k < 16
    · skip
      have hk1 : (0 : Int) ≤ (k : Int) := by omega
      have hk2 : (k : Int) < 16 := by omega
      have f0 := HWd.out.box.soft (18 + k)
      have c0 := HWd.out.cell.2.2.2.1 k hlt
      have HN : Hid (Wd w1 (wr.setCell ⟨p, 18 + k, none⟩ (.int .i64 (-1))) p q (.slice a len cap) (rwAt cs len 0 (k + 1) 0)) := HWd.out.setHas hlt (-1)
      go_wp2
      go_roundw
      case rel => exact ⟨k + 1, by omega, by go_num, HN⟩
      case measure => simp [intOf]; omega
    obtain rfl : k = 16 := by omega
    have HW2 : Hid (Wd w1 wr p q (.slice a len cap) (rwAt cs len 0 16 0)) := HWd
    clear HWd hlt hk
    rw [show ((16 : Nat) : Int) = 16 from rfl]
    go_wp2_with fail
    go_loopw [10] (fun ix wz => ∃ k : Nat, k ≤ len ∧ ix = .int .i64 (k : Int) ∧ Hid (Wd w1 wz p q (.slice a len cap) (rwAt cs len 0 16 k)) ∧ Hid (∀ j, j < k → codeOk (code.getD j []) = true)) (fun ix _ => len - (intOf ix).toNat)
    case atStart => exact ⟨0, Nat.zero_le _, rfl, HW2, fun j hj => absurd hj (Nat.not_lt_zero _)⟩
    case round =>
      obtain ⟨k, hk, rfl, HWd, HD⟩ := hrel
      clear HW2
      by_cases hlt : k < len
      · skip
        obtain ⟨cb, co, rfl⟩ := HC1.out.addr (by omega)
        have b1 := HWd.out.cell.2.1
        rw [show (rwAt cs len 0 16 k).ts.length = len from tsTo_len len k] at b1
        have f7 := HWd.out.row.soft (k * 9 + 7)
        have f8 := HWd.out.row.soft (k * 9 + 8)
        obtain ⟨_, _, _, _, _, _, _, q7, q8⟩ := HWd.out.tcell (i := k) (by rw [show (rwAt cs len 0 16 k).ts.length = len from tsTo_len len k]; exact hlt)
        have hpq : p ≠ q := HWd.out.ne
        have HW3 : Hid (Wd w1 ((wr.setCell ⟨q, k * 9 + 7, none⟩ (.int .i64 (-1))).setCell ⟨q, k * 9 + 8, none⟩ (.int .i64 (-1))) p q (.slice (some ⟨cb, co, none⟩) len cap) (rwAt cs len 0 16 (k + 1))) := Wd.ready (G := rwAt cs len 0 16 k) HWd.out hlt
        obtain ⟨aj, cj, c0⟩ := (HC1.out.below (Nat.le_refl _) HW3.out.base).rowAt hlt
        obtain ⟨n, HN⟩ : ∃ n, Hid (n = (code.getD k []).length) := ⟨_, rfl⟩
        rw [← HN.out] at c0
        have hk1 : (0 : Int) ≤ (k : Int) := by omega
        have hk2 : (k : Int) < (len : Int) := by omega
        by_cases h64 : 64 < n
        · skip
          have hbad : allOk code cs = false := by
            unfold allOk
            rw [codeBad (k := k) (by rw [HZ.out]; exact hlt) (by unfold codeOk; rw [← HN.out, decide_eq_false (by omega), Bool.false_and])]
            simp
          have HR3 := HR0.out.on HW3.out.base
          obtain ⟨z0, z1, z2, z3⟩ := HR3.cells
          obtain ⟨t0, t1, t2, t3⟩ := HR3.softs
          go_wp2
          refine bodyPost_ret (v := .tuple #[.agg #[.slice none 0 0, .slice none 0 0, .slice none 0 0, .int .i64 0], .int .i64 50]) (by simp [results, Try.results11, go_sem, *]) rfl ?_
          exact HR3.no hbad
        go_wp2_with fail
        clear b1 f7 f8 q7 q8 c0 HWd
        go_loopw [11] (fun ix wz => ∃ m : Nat, m ≤ n ∧ ix = .int .i64 (m : Int) ∧ Hid (Wd w1 wz p q (.slice (some ⟨cb, co, none⟩) len cap) (rwAt cs len 0 16 (k + 1))) ∧ Hid (∀ j, j < m → insOk ((code.getD k []).getD j ins0) n = true)) (fun ix _ => n - (intOf ix).toNat)
        case atStart => exact ⟨0, Nat.zero_le _, rfl, HW3, fun j hj => absurd hj (Nat.not_lt_zero _)⟩
        case round =>
          obtain ⟨m, hm, rfl, HW4, HD4⟩ := hrel
          clear HW3
          obtain ⟨aj, cj, c0⟩ := (HC1.out.below (Nat.le_refl _) HW4.out.base).rowAt hlt
          rw [← HN.out] at c0
          by_cases hlt4 : m < n
          · skip
            clear c0
            obtain ⟨ib, io, ic, c0, d0, d1, d2, d3⟩ := cd_ins (HC1.out.below (Nat.le_refl _) HW4.out.base) (k := m) hlt (by rw [← HN.out]; exact hlt4)
            rw [← HN.out] at c0
            obtain ⟨xo, xa, xb, xc, HX⟩ : ∃ xo xa xb xc, Hid (insAt code k m = ⟨xo, xa, xb, xc⟩) := ⟨_, _, _, _, rfl⟩
            rw [HX.out] at d0 d1 d2 d3
            simp only at d0 d1 d2 d3
            have hm1 : (0 : Int) ≤ (m : Int) := by omega
            have hm2 : (m : Int) < (n : Int) := by omega
            cases hok : insOk ⟨xo, xa, xb, xc⟩ n
            · skip
              have hbad : allOk code cs = false := by
                unfold allOk
                rw [codeBad (k := k) (by rw [HZ.out]; exact hlt) (by unfold codeOk; rw [insBad (k := m) (by rw [← HN.out]; exact hlt4) (by rw [← HN.out]; rw [← hok, ← HX.out]; rfl)]; simp)]
                simp
              go_wp2_with fail
              go_region_held3 (fun w' => w'.cell? ⟨cb, co + k, none⟩ = some (.slice (some ⟨ib, io, none⟩) n ic) ∧ w'.cell? ⟨ib, io + m * 4, none⟩ = some (.int .i64 xo) ∧ w'.cell? ⟨ib, io + m * 4 + 1, none⟩ = some (.int .i64 xa) ∧ w'.cell? ⟨ib, io + m * 4 + 2, none⟩ = some (.int .i64 xb) ∧ w'.cell? ⟨ib, io + m * 4 + 3, none⟩ = some (.int .i64 xc)) (first | exact ⟨c0, d0, d1, d2, d3⟩ | go_keep)
                (first
                 | (go_at_call 18; refine (rgood_any xo xa xb xc n _).mono ?_; rw [hok]; rintro e vx ⟨rfl, hb⟩
                    have HW4 : Hid (Wd w1 vx p q (.slice (some ⟨cb, co, none⟩) len cap) (rwAt cs len 0 16 (k + 1))) := HW4.out.drew.below hb
                    have c0 := (hb.cell (World.block_lt_of_cell? _ _ c0)).trans c0
                    have d0 := (hb.cell (World.block_lt_of_cell? _ _ d0)).trans d0
                    have d1 := (hb.cell (World.block_lt_of_cell? _ _ d1)).trans d1
                    have d2 := (hb.cell (World.block_lt_of_cell? _ _ d2)).trans d2
                    have d3 := (hb.cell (World.block_lt_of_cell? _ _ d3)).trans d3
                    clear hb))
              all_goals
                have HR3 := HR0.out.on HW4.out.base
                obtain ⟨z0, z1, z2, z3⟩ := HR3.cells
                obtain ⟨t0, t1, t2, t3⟩ := HR3.softs
                go_wp2
                refine bodyPost_ret (v := .tuple #[.agg #[.slice none 0 0, .slice none 0 0, .slice none 0 0, .int .i64 0], .int .i64 50]) (by simp [results, Try.results11, go_sem, *]) rfl ?_
                exact HR3.no hbad
            · skip
              have HD5 : Hid (∀ j, j < m + 1 → insOk ((code.getD k []).getD j ins0) n = true) := fun j hj => by
                by_cases hjk : j = m
                · rw [hjk, ← hok, ← HX.out]
                  rfl
                · exact HD4.out j (by omega)
              go_wp2_with fail
              go_region_held3 (fun w' => w'.cell? ⟨cb, co + k, none⟩ = some (.slice (some ⟨ib, io, none⟩) n ic) ∧ w'.cell? ⟨ib, io + m * 4, none⟩ = some (.int .i64 xo) ∧ w'.cell? ⟨ib, io + m * 4 + 1, none⟩ = some (.int .i64 xa) ∧ w'.cell? ⟨ib, io + m * 4 + 2, none⟩ = some (.int .i64 xb) ∧ w'.cell? ⟨ib, io + m * 4 + 3, none⟩ = some (.int .i64 xc)) (first | exact ⟨c0, d0, d1, d2, d3⟩ | go_keep)
                (first
                 | (go_at_call 18; refine (rgood_any xo xa xb xc n _).mono ?_; rw [hok]; rintro e vx ⟨rfl, hb⟩
                    have HW4 : Hid (Wd w1 vx p q (.slice (some ⟨cb, co, none⟩) len cap) (rwAt cs len 0 16 (k + 1))) := HW4.out.drew.below hb
                    have c0 := (hb.cell (World.block_lt_of_cell? _ _ c0)).trans c0
                    have d0 := (hb.cell (World.block_lt_of_cell? _ _ d0)).trans d0
                    have d1 := (hb.cell (World.block_lt_of_cell? _ _ d1)).trans d1
                    have d2 := (hb.cell (World.block_lt_of_cell? _ _ d2)).trans d2
                    have d3 := (hb.cell (World.block_lt_of_cell? _ _ d3)).trans d3
                    clear hb))
              all_goals
                go_wp2
                go_roundw
                case rel => exact ⟨m + 1, by omega, by go_num, HW4, HD5⟩
                case measure => simp [intOf]; omega
          obtain rfl : n = m := by omega
          have HD5 : Hid (∀ j, j < k + 1 → codeOk (code.getD j []) = true) := fun j hj => by
            by_cases hjk : j = k
            · rw [hjk]
              unfold codeOk
              rw [← HN.out, insOks (fun j hj => HD4.out j (by rw [HN.out]; exact hj))]
              simp
              omega
            · exact HD.out j (by omega)
          go_wp2
          go_roundw
          case rel => exact ⟨k + 1, by omega, by go_num, HW4, HD5⟩
          case measure => simp [intOf]; omega
      obtain rfl : len = k := by omega
      have hok : allOk code cs = true := by
        unfold allOk
        rw [codeOks (fun j hj => HD.out j (by rw [← HZ.out]; exact hj))]
        simp [HZ.out, HS.out, hl8, hc16]
      have H64 : Hid (∀ i, i < len → (code.getD i []).length ≤ 64) := fun i hi => by
        have := HD.out i hi
        simp [codeOk] at this
        exact this.1
      have HW5 : Hid (Wd w1 wr p q (.slice a len cap) (rwAt cs len 0 16 len)) := HWd
      clear HWd HD hlt hk
      go_wp2_with fail
      go_loopw [13] (fun ix wz => ∃ i : Nat, i ≤ cl ∧ ix = .int .i64 (i : Int) ∧ Hid (Wd w1 wz p q (.slice a len cap) (rwAt cs len i 16 len))) (fun ix _ => cl - (intOf ix).toNat)
      case atStart => exact ⟨0, Nat.zero_le _, rfl, HW5⟩
      case round =>
        obtain ⟨i, hi, rfl, HWd⟩ := hrel
        clear HW5
        by_cases hlt : i < cl
        · skip
          obtain ⟨ib, io, rfl, hcc⟩ := (HI1.out.below (Nat.le_refl _) HWd.out.base).here (by omega)
          have c0 := hcc i hlt
          obtain ⟨v, HV⟩ : ∃ v, Hid (v = cs.getD i 0) := ⟨_, rfl⟩
          rw [← HV.out] at c0
          clear hcc
          have f0 := HWd.out.box.soft (2 + i)
          have p0 := HWd.out.cell.2.2.1 i (by omega)
          have hi1 : (0 : Int) ≤ (i : Int) := by omega
          have hi2 : (i : Int) < (cl : Int) := by omega
          have hi3 : (i : Int) < 16 := by omega
          have HN : Hid (Wd w1 (wr.drew.setCell ⟨p, 2 + i, none⟩ (.int .i64 v)) p q (.slice a len cap) (rwAt cs len (i + 1) 16 len)) := by
            unfold Hid
            rw [HV.out]
            exact HWd.out.drew.setCl (by omega) _
          go_wp2
          go_region
          go_wp2
          go_roundw
          case rel => exact ⟨i + 1, by omega, by go_num, HN⟩
          case measure => simp [intOf]; omega
        obtain rfl : cl = i := by omega
        have HW6 : Hid (Wd w1 wr p q (.slice a len cap) (rinit code cs)) := by
          unfold Hid
          rw [← rinit_eq code cs (by rw [HS.out]; exact hc16), HS.out, HZ.out]
          exact HWd.out
        have HSB : Hid (Sim code (begins code cs) ((rinit code cs).ends code) ∧ Ends (begins code cs) ((rinit code cs).ends code)) := sim_ends (sim_begins code cs) (begins_ok hok)
        have HT0 : Hid (((rinit code cs).ends code).steps = 0) := rfl
        clear HWd hlt hi
        go_wp2_with fail
        refine (ends_at HW6.out HC1.out (by simp [rinit, HZ.out]) H64.out).mono ?_
        rintro _ v6 ⟨rfl, hw7⟩
        obtain ⟨G0, HG0⟩ : ∃ G0, Hid (G0 = (rinit code cs).ends code) := ⟨_, rfl⟩
        rw [← HG0.out] at hw7 HSB HT0
        have HW7 : Hid (Wd w1 v6 p q (.slice a len cap) G0) := hw7
        clear hw7 HG0 HW6
        go_wp2_with fail
        go_loopw [14] (fun ix wz => ∃ (k : Nat) (G : RW), k ≤ pl ∧ ix = .int .i64 (k : Int) ∧ Hid (Wd w1 wz p q (.slice a len cap) G) ∧ Hid (Sim code ((begins code cs).run (ps.take k)) G) ∧ Hid (Ends ((begins code cs).run (ps.take k)) G) ∧ Hid (G.steps = ((begins code cs).run (ps.take k)).steps)) (fun ix _ => pl - (intOf ix).toNat)
        case atStart => exact ⟨0, G0, Nat.zero_le _, rfl, HW7, HSB.out.1, HSB.out.2, HT0⟩
        case round =>
          obtain ⟨k, G, hk, rfl, HWd, HSim, HEn, HTs⟩ := hrel
          clear HW7 HSB HT0
          obtain ⟨C, HCC⟩ : ∃ C, Hid (C = (begins code cs).run (ps.take k)) := ⟨_, rfl⟩
          rw [← HCC.out] at HSim HEn HTs
          have HOk : Hid C.Ok := by
            unfold Hid
            rw [HCC.out]
            exact (run_ok _ (begins_ok hok)).1
          by_cases hlt : k < pl
          · skip
            have HGK : Hid (Gok code G) := HSim.out.gok HEn.out HOk.out
            have HNG : Hid (G.ts.length = len) := by
              unfold Hid
              rw [← HGK.out.many]
              exact HZ.out
            have HNC : Hid (C.ts.length = len) := by
              unfold Hid
              rw [← HSim.out.len]
              exact HNG.out
            have b1 := HWd.out.cell.2.1
            rw [HNG.out] at b1
            have hlt' : k < ps.length := by rw [HPS.out]; exact hlt
            have HSTEP : Hid ((begins code cs).run (ps.take (k + 1)) = C.step (ps.getD k 0)) := by
              unfold Hid
              have e : ps.take (k + 1) = ps.take k ++ [ps.getD k 0] := by
                rw [List.take_add_one, List.getElem?_eq_getElem hlt']
                simp [List.getD, hlt']
              rw [e, run_append, ← HCC.out]
              rfl
            have HREST : Hid ((begins code cs).run ps = C.run (ps.drop k)) := by
              unfold Hid
              have e : ps = ps.take k ++ ps.drop k := (List.take_append_drop k ps).symm
              rw [HCC.out, ← run_append, ← e]
            have HEMC : Hid (C.em.length < 1099511627776) := by
              unfold Hid
              have h7 := HEM.out hok
              rw [HREST.out] at h7
              obtain ⟨x, hx, _⟩ := (run_ok (ps.drop k) HOk.out).2.2.1
              rw [hx, List.length_append] at h7
              omega
            have HSTC : Hid (C.steps ≤ 4611686018427387904) := by
              unfold Hid
              have h7 := (run_ok (ps.take k) (begins_ok hok)).2.2.2
              have h8 := HST.out
              rw [← HCC.out, List.length_take] at h7
              have h9 : (begins code cs).steps = 0 := rfl
              omega
            clear hlt'
            rename World => x3
            go_wp2_with fail
            go_loopw [15, 16] (fun lv jx wz => ∃ (j ln lc : Nat) (la : Option Addr), j ≤ len ∧ jx = .int .i64 (j : Int) ∧ lv = .slice la ln lc ∧ ln ≤ j ∧ Hid (ln = (rableTo code G j).length) ∧ Hid (Below x3.heap.size x3 wz) ∧ Hid (wz.ownsRow x3.heap.size 3 1 (.slice la ln lc) ln (cellsN (rableTo code G j)))) (fun _ jx _ => len - (intOf jx).toNat)
            case atStart => exact ⟨0, 0, 0, none, Nat.zero_le _, rfl, rfl, Nat.zero_le _, rfl, Below.refl _ _, World.ownsRow_nil _ _ _ 1⟩
            case round =>
              obtain ⟨j, ln, lc, la, hj, rfl, rfl, hlj, HLN, HBx, HRow⟩ := hrel
              have HWr : Hid (Wd w1 wr p q (.slice a len cap) G) := HWd.out.below HBx.out
              clear b1
              have b1 := HWr.out.cell.2.1
              rw [HNG.out] at b1
              by_cases hltj : j < len
              · skip
                have HJG : Hid (j < G.ts.length) := by
                  unfold Hid
                  rw [HNG.out]
                  exact hltj
                go_wp2_with fail
                refine (rcan_at HWr.out HC1.out HGK.out (i := j) HJG.out).mono ?_
                rintro e v1 ⟨rfl, hb1⟩
                have HB1 : Hid (Below x3.heap.size x3 v1) := HBx.out.trans (hb1.mono HBx.out.size)
                have HRow1 : Hid (v1.ownsRow x3.heap.size 3 1 (.slice la ln lc) ln (cellsN (rableTo code G j))) := row_below HRow.out hb1
                have HZ1 : Hid (x3.heap.size ≤ v1.heap.size) := HB1.out.size
                obtain ⟨cn, HCN⟩ : ∃ cn, Hid (cn = G.can code j) := ⟨_, rfl⟩
                rw [← HCN.out]
                clear hb1 b1 HBx HRow HWr
                cases cn
                · have HNX : Hid (rableTo code G (j + 1) = rableTo code G j) := by
                    unfold Hid
                    rw [rableTo, ← HCN.out]
                    simp
                  rw [← HNX.out] at HRow1 HLN
                  go_wp2
                  go_roundw
                  case rel => exact ⟨j + 1, ln, lc, la, by omega, by go_num, rfl, by omega, HLN, HB1, HRow1⟩
                  case measure => simp [intOf]; omega
                · have HNX : Hid (rableTo code G (j + 1) = rableTo code G j ++ [(j : Int)]) := by
                    unfold Hid
                    rw [rableTo, ← HCN.out]
                    simp
                  go_wp2_with (first | (at_builtin; refine wpList_app1 _ _ rfl _ _ rfl x3.heap.size _ _ _ _ rfl HRow1.out rfl (by omega) HZ1.out ?_))
                  intro a4 c4 w4 hr4 hb4 hg4
                  have HR4 : Hid (w4.ownsRow x3.heap.size 3 1 (.slice a4 (ln + 1) c4) (ln + 1) (cellsN (rableTo code G (j + 1)))) := by
                    unfold Hid
                    have e : cellsN (rableTo code G j ++ [(j : Int)]) = cellsN (rableTo code G j) ++ [.int .i64 (j : Int)] := by simp [cellsN]
                    rw [HNX.out, e]
                    exact hr4
                  have HB4 : Hid (Below x3.heap.size x3 w4) := HB1.out.trans hb4
                  have HL4 : Hid (ln + 1 = (rableTo code G (j + 1)).length) := by
                    unfold Hid
                    rw [HNX.out, List.length_append, ← HLN.out]
                    rfl
                  clear hr4 hb4 hg4
                  go_wp2
                  go_roundw
                  case rel => exact ⟨j + 1, ln + 1, c4, a4, by omega, by go_num, rfl, by omega, HL4, HB4, HR4⟩
                  case measure => simp [intOf]; omega
              obtain rfl : len = j := by omega
              have HAB : Hid (rableTo code G len = C.able.map Int.ofNat) := by
                unfold Hid
                rw [← HNC.out]
                exact rable_all HSim.out HEn.out HOk.out
              rw [HAB.out] at HLN HRow
              have HLA : Hid (ln = C.able.length) := by
                unfold Hid
                rw [HLN.out]
                simp
              clear hltj hj HLN HAB
              by_cases h0 : ln = 0
              · skip
                subst h0
                have HRUN : Hid (C = (begins code cs).run ps) := by
                  unfold Hid
                  rw [HREST.out]
                  exact (run_stuck _ HLA.out.symm).symm
                have HWt : Hid (Wd w1 wr p q (.slice a len cap) G) := HWr
                clear HWr HWd
                go_wp2_with fail
                refine (rrun_at HWt.out HC1.out HSim.out HEn.out HOk.out).mono ?_
                rintro _ v9 ⟨ac, kc, sa, sc, rfl, ⟨b1, r1⟩, ⟨b2, r2⟩, ⟨b3, r3⟩, hb9⟩
                have HR9 : Hid (Res w v9) := (HR0.out.on HWt.out.base).on hb9
                obtain ⟨ne, HNE⟩ : ∃ ne, Hid (ne = G.em.length) := ⟨_, rfl⟩
                obtain ⟨nt, HNT⟩ : ∃ nt, Hid (nt = C.ts.length) := ⟨_, rfl⟩
                obtain ⟨ns, HNS⟩ : ∃ ns : Int, Hid (ns = (G.steps : Int)) := ⟨_, rfl⟩
                rw [← HNT.out] at r2
                rw [← HNE.out] at r3
                rw [← HNE.out, ← HNT.out, ← HNS.out]
                have HY := HR9.out.yes hok HRUN.out HOk.out (ac := ac) (ea := G.ea) (sa := sa) (kc := kc) (ec := G.ec) (sc := sc) (n := ne) (m := nt) (s := ns) (by rw [HNE.out, HSim.out.em]) HNT.out (by rw [HNS.out, HTs.out]) r1 r2 r3
                obtain ⟨z0, z1, z2, z3⟩ := HR9.out.cells
                obtain ⟨t0, t1, t2, t3⟩ := HR9.out.softs
                clear r1 r2 r3 hb9 HNE HNT HNS
                go_wp2
                refine bodyPost_ret (v := .tuple #[.agg #[.slice ac 16 kc, .slice G.ea ne G.ec, .slice sa nt sc, .int .i64 ns], .int .i64 0]) (by simp [results, Try.results11, go_sem, *]) rfl ?_
                exact HY
              obtain ⟨pb, po, rfl, hpc⟩ := (HP1.out.below (Nat.le_refl _) HWr.out.base).here (by omega)
              have pk := hpc k hlt
              have hwf := HP1.out.wf k hlt
              clear hpc
              obtain ⟨pick, HPK⟩ : ∃ pick, Hid (pick = ps.getD k 0) := ⟨_, rfl⟩
              rw [← HPK.out] at pk hwf HSTEP
              obtain ⟨fz, hfz⟩ : ∃ fz : Nat, fromZ pick = (fz : Int) := ⟨(fromZ pick).toNat, by have := fromZ_pos pick; omega⟩
              have hmod : fz % ln < ln := Nat.mod_lt _ (by omega)
              obtain ⟨jj, HJ⟩ : ∃ jj, Hid (jj = fz % ln) := ⟨_, rfl⟩
              rw [← HJ.out] at hmod
              have hmd : (fz : Int).tmod (ln : Int) = (jj : Int) := by rw [HJ.out]; exact (Int.ofNat_tmod fz ln).symm
              obtain ⟨i4, HI4⟩ : ∃ i4, Hid (i4 = C.able.getD jj 0) := ⟨_, rfl⟩
              obtain ⟨lb, rfl⟩ := (row_addr HRow.out).2.2.2 (by omega)
              have cj : wr.cell? ⟨lb, jj, none⟩ = some (.int .i64 (i4 : Int)) := by
                have hja : jj < C.able.length := by rw [← HLA.out]; exact hmod
                rw [World.ownsRow.cellAt HRow.out jj (by omega), cellsN_get _ jj (by simpa using hja), HI4.out]
                simp [List.getD, hja]
              have hidx := able_idx (B := C) (j := jj) (by rw [← HLA.out]; exact hmod)
              rw [← HI4.out] at hidx
              have HSX : Hid (C.step pick = C.more.act i4) := by
                unfold Hid PB.step
                rw [if_neg (by rw [← HLA.out]; exact h0), hfz, HI4.out, HJ.out, HLA.out]
                rfl
              obtain ⟨g1, g2, g3, g4⟩ := sim_goes HSim.out hidx.1 hidx.2
              have HONE : Hid (Calls Try.prog 21 #[at_ p, .int .i64 (i4 : Int)] wr fun e w' => e = .returned (.tuple #[]) ∧ OneAt w1 w' p q (.slice a len cap) (G.one code i4)) := one_at ⟨HWr.out, HC1.out, HGK.out, g1, g2, g3⟩ g4 (by rw [HSim.out.em]; exact HEMC.out)
              have HTURN : Hid (∀ (ea : Option Addr) (ec n : Nat), _) := fun ea ec n => sim_turn HSim.out HOk.out hidx.1 hidx.2 ea ec n
              have hx1 : (0 : Int) ≤ (k : Int) := by omega
              have hx2 : (k : Int) < (pl : Int) := by omega
              have hx3 : (0 : Int) ≤ (jj : Int) := by omega
              have hx4 : (jj : Int) < (ln : Int) := by omega
              have hx5 : (ln : Int) ≠ 0 := by omega
              clear g1 g2 g3 g4 hidx HJ HI4 HBx HRow
              rcases (by omega : pick < 0 ∨ 0 ≤ pick) with hn | hn
              · have hz : -1 - pick = (fz : Int) := by
                  unfold fromZ at hfz
                  rw [if_pos hn] at hfz
                  exact hfz
                have hm1 : (-1 - pick).tmod (ln : Int) = (jj : Int) := by rw [hz]; exact hmd
                have hm2 : -((pick + 1).tmod (ln : Int)) = (jj : Int) := by
                  rw [← Int.neg_tmod, show -(pick + 1) = -1 - pick by omega]
                  exact hm1
                clear hfz hz hmd
                go_wp2_with fail
                refine (Calls.mono HONE.out) ?_
                rintro _ v5 ⟨rfl, ea5, ec5, h5⟩
                obtain ⟨s5, HS5⟩ : ∃ s5, Hid (s5 = C.steps) := ⟨_, rfl⟩
                have e5 : ({ G.one code i4 with ea := ea5, ec := ec5 } : RW).steps = s5 := by
                  show (G.one code i4).steps = s5
                  rw [one_steps, HTs.out, HS5.out]
                have b35 := h5.cell.2.2.2.2.2
                rw [e5] at b35
                have f35 := h5.box.soft 35
                have hs5 : (s5 : Int) + 1 ≤ 9223372036854775807 := by
                  have := HSTC.out
                  rw [← HS5.out] at this
                  omega
                have hs6 : (0 : Int) ≤ (s5 : Int) := by omega
                have H6 : Hid (Wd w1 (v5.setCell ⟨p, 35, none⟩ (.int .i64 ((s5 : Int) + 1))) p q (.slice a len cap) { ({ G.one code i4 with ea := ea5, ec := ec5 } : RW) with steps := s5 + 1 }) := h5.setSt (s5 + 1)
                have HT6 : Hid _ := HTURN.out ea5 ec5 (s5 + 1)
                obtain ⟨G6, HG6⟩ : ∃ G6 : RW, Hid (G6 = { ({ G.one code i4 with ea := ea5, ec := ec5 } : RW) with steps := s5 + 1 }) := ⟨_, rfl⟩
                rw [← HG6.out] at H6 HT6
                obtain ⟨y1, y2, y3, _, y5⟩ := HT6.out
                have HN6 : Hid (len = G6.ts.length) := by
                  unfold Hid
                  rw [HG6.out]
                  exact (y5.trans HNC.out).symm
                have HS7 : Hid (Sim code ((begins code cs).run (ps.take (k + 1))) (G6.ends code)) := by
                  unfold Hid
                  rw [HSTEP.out, HSX.out]
                  exact y1
                have HE7 : Hid (Ends ((begins code cs).run (ps.take (k + 1))) (G6.ends code)) := by
                  unfold Hid
                  rw [HSTEP.out, HSX.out]
                  exact y2
                have HT7 : Hid ((G6.ends code).steps = ((begins code cs).run (ps.take (k + 1))).steps) := by
                  unfold Hid
                  rw [HSTEP.out, HSX.out, y3]
                  show G6.steps = _
                  rw [HG6.out, HS5.out]
                clear h5 e5 y1 y2 y3 y5 HT6 HG6
                go_wp2_with fail
                refine (ends_at H6.out HC1.out HN6.out H64.out).mono ?_
                rintro _ v7 ⟨rfl, h7⟩
                have H7 : Hid (Wd w1 v7 p q (.slice a len cap) (G6.ends code)) := h7
                clear h7
                go_wp2_with fail
                go_roundw
                case rel => exact ⟨k + 1, G6.ends code, by omega, by go_num, H7, HS7, HE7, HT7⟩
                case measure => simp [intOf]; omega
              · obtain rfl : pick = (fz : Int) := by
                  unfold fromZ at hfz
                  rw [if_neg (by omega)] at hfz
                  exact hfz
                clear hfz
                go_wp2_with fail
                refine (Calls.mono HONE.out) ?_
                rintro _ v5 ⟨rfl, ea5, ec5, h5⟩
                obtain ⟨s5, HS5⟩ : ∃ s5, Hid (s5 = C.steps) := ⟨_, rfl⟩
                have e5 : ({ G.one code i4 with ea := ea5, ec := ec5 } : RW).steps = s5 := by
                  show (G.one code i4).steps = s5
                  rw [one_steps, HTs.out, HS5.out]
                have b35 := h5.cell.2.2.2.2.2
                rw [e5] at b35
                have f35 := h5.box.soft 35
                have hs5 : (s5 : Int) + 1 ≤ 9223372036854775807 := by
                  have := HSTC.out
                  rw [← HS5.out] at this
                  omega
                have hs6 : (0 : Int) ≤ (s5 : Int) := by omega
                have H6 : Hid (Wd w1 (v5.setCell ⟨p, 35, none⟩ (.int .i64 ((s5 : Int) + 1))) p q (.slice a len cap) { ({ G.one code i4 with ea := ea5, ec := ec5 } : RW) with steps := s5 + 1 }) := h5.setSt (s5 + 1)
                have HT6 : Hid _ := HTURN.out ea5 ec5 (s5 + 1)
                obtain ⟨G6, HG6⟩ : ∃ G6 : RW, Hid (G6 = { ({ G.one code i4 with ea := ea5, ec := ec5 } : RW) with steps := s5 + 1 }) := ⟨_, rfl⟩
                rw [← HG6.out] at H6 HT6
                obtain ⟨y1, y2, y3, _, y5⟩ := HT6.out
                have HN6 : Hid (len = G6.ts.length) := by
                  unfold Hid
                  rw [HG6.out]
                  exact (y5.trans HNC.out).symm
                have HS7 : Hid (Sim code ((begins code cs).run (ps.take (k + 1))) (G6.ends code)) := by
                  unfold Hid
                  rw [HSTEP.out, HSX.out]
                  exact y1
                have HE7 : Hid (Ends ((begins code cs).run (ps.take (k + 1))) (G6.ends code)) := by
                  unfold Hid
                  rw [HSTEP.out, HSX.out]
                  exact y2
                have HT7 : Hid ((G6.ends code).steps = ((begins code cs).run (ps.take (k + 1))).steps) := by
                  unfold Hid
                  rw [HSTEP.out, HSX.out, y3]
                  show G6.steps = _
                  rw [HG6.out, HS5.out]
                clear h5 e5 y1 y2 y3 y5 HT6 HG6
                go_wp2_with fail
                refine (ends_at H6.out HC1.out HN6.out H64.out).mono ?_
                rintro _ v7 ⟨rfl, h7⟩
                have H7 : Hid (Wd w1 v7 p q (.slice a len cap) (G6.ends code)) := h7
                clear h7
                go_wp2_with fail
                go_roundw
                case rel => exact ⟨k + 1, G6.ends code, by omega, by go_num, H7, HS7, HE7, HT7⟩
                case measure => simp [intOf]; omega
          obtain rfl : pl = k := by omega
          have HRUN : Hid (C = (begins code cs).run ps) := by
            unfold Hid
            rw [HCC.out, ← HPS.out, List.take_length]
          have HWt : Hid (Wd w1 wr p q (.slice a len cap) G) := HWd
          clear HWd
          go_wp2_with fail
          refine (rrun_at HWt.out HC1.out HSim.out HEn.out HOk.out).mono ?_
          rintro _ v9 ⟨ac, kc, sa, sc, rfl, ⟨b1, r1⟩, ⟨b2, r2⟩, ⟨b3, r3⟩, hb9⟩
          have HR9 : Hid (Res w v9) := (HR0.out.on HWt.out.base).on hb9
          obtain ⟨ne, HNE⟩ : ∃ ne, Hid (ne = G.em.length) := ⟨_, rfl⟩
          obtain ⟨nt, HNT⟩ : ∃ nt, Hid (nt = C.ts.length) := ⟨_, rfl⟩
          obtain ⟨ns, HNS⟩ : ∃ ns : Int, Hid (ns = (G.steps : Int)) := ⟨_, rfl⟩
          rw [← HNT.out] at r2
          rw [← HNE.out] at r3
          rw [← HNE.out, ← HNT.out, ← HNS.out]
          have HY := HR9.out.yes hok HRUN.out HOk.out (ac := ac) (ea := G.ea) (sa := sa) (kc := kc) (ec := G.ec) (sc := sc) (n := ne) (m := nt) (s := ns) (by rw [HNE.out, HSim.out.em]) HNT.out (by rw [HNS.out, HTs.out]) r1 r2 r3
          obtain ⟨z0, z1, z2, z3⟩ := HR9.out.cells
          obtain ⟨t0, t1, t2, t3⟩ := HR9.out.softs
          clear r1 r2 r3 hb9 HNE HNT HNS
          go_wp2
          refine bodyPost_ret (v := .tuple #[.agg #[.slice ac 16 kc, .slice G.ea ne G.ec, .slice sa nt sc, .int .i64 ns], .int .i64 0]) (by simp [results, Try.results11, go_sem, *]) rfl ?_
          exact HY
end Go.Proofs.Ytehkcgjiimfdjaa
