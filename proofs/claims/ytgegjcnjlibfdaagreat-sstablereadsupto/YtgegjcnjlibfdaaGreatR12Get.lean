/- The contract of the document's own Get of a table. -/
import Derived.Test.YtgegjcnjlibfdaaGreatR12All
import Derived.Test.YtgegjcnjlibfdaaGreatQa25
import Derived.Test.YtgegjcnjlibfdaaGreatQa19
namespace Go.Proofs.YtgegjcnjlibfdaaGreat
set_option maxRecDepth 100000
open Go.RowKit
set_option linter.unusedVariables false
set_option linter.unusedSimpArgs false
theorem ba_eqG {s t : ByteArray} (h : s.toList = t.toList) : s = t := by
  apply ByteArray.ext
  have h3 := congrArg List.toArray h
  simpa [ByteArray.toList_eq] using h3
set_option maxHeartbeats 8000000 in
theorem rgett12 {W : World} {B q : Nat} {a : Option Addr} {n c : Nat} {b : List UInt8} {fa cnt : Nat} {pl : List PlR} {T : TD} (h : RTb W B q a n c b fa T.filter.length cnt pl) (hb : BsAt W a n c b) (hn : n ≤ 3000000) (hin : ∀ d ∈ pl, d.p + d.s + 4 ≤ n) (hT : T.blocks = plBl b pl) (hF : T.filter = segB b fa T.filter.length) (hfl : T.filter.length ≤ 3000000) (hm : pl.length ≤ 750000) (u : ByteArray) (s : Nat) (hu : u.size ≤ 140737488351232) (hs : s < 18446744073709551616) :
    Calls Tryz.prog 18 #[at_ q, .string u, .int .u64 (s : Int)] W fun r w' => r = .returned (ansV (getT T u s)) ∧ Below W.heap.size W w' := by
  have HR : Hid (RTb W B q a n c b fa T.filter.length cnt pl ∧ BsAt W a n c b ∧ (∀ d ∈ pl, d.p + d.s + 4 ≤ n) ∧ T.blocks = plBl b pl) := ⟨h, hb, hin, hT⟩
  obtain ⟨m, HM⟩ : ∃ m, Hid (pl.length = m) := ⟨_, (rfl : pl.length = pl.length)⟩
  obtain ⟨af, al, cf, cl, t0, t1, t2, t3, how, hff, hql⟩ := h.cells
  have hfb := hff W hb
  rw [← hF] at hfb
  have HOW : Hid (OwnP W B al pl.length cl pl) := how
  have HC : Hid (∀ V, Below W.heap.size W V → V.cell? ⟨q, 2, none⟩ = some (.slice al m cl)) := fun V hV => by
    rw [hV.cell hql, ← HM.out]
    exact t2
  have HTL : Hid (T.blocks.length = m) := by unfold Hid; rw [hT]; unfold plBl; rw [List.length_map]; exact HM.out
  have hma := rmay_any af T.filter.length cf T.filter u W hfb (by omega) hu
  rw [HM.out] at hm
  clear h hb hin hT t0 t2 t3 how hff hfb hF
  go_enter Tryz.func18, Tryz.ntmps18
  go_wp2_with fail
  refine hma.mono ?_
  rintro _ w1 ⟨rfl, hb1⟩
  have H1 : Hid (Below W.heap.size W w1) := hb1
  clear hma hb1 t1
  cases hmay : mayN T.filter u.data.toList with
  | false =>
    have HE : Hid (getT T u s = noA) := getT_1 hmay
    clear hmay
    go_wp2
    refine bodyPost_ret (v := ansV noA) (by simp [results, Tryz.results18, go_sem, ansV, noA]) rfl ⟨by rw [HE.out], H1.out⟩
  | true =>
    have HMY : Hid (mayN T.filter u.data.toList = true) := hmay
    clear hmay
    go_upto_if 24 with fail
    go_cut [2] (fun x wz => ∃ M : Nat, x = .int .u64 (M : Int) ∧ M < 18446744073709551616 ∧ wz = w1 ∧ Hid (theK u s = ⟨u, M, 1⟩))
    case first =>
      by_cases hq : 72057594037927935 < s
      · go_wp2_with fail
        go_meet
        exact ⟨72057594037927935, rfl, by omega, rfl, by unfold Hid theK; rw [Nat.min_eq_right (by omega)]⟩
      · have hq' : decide ((72057594037927935 : Int) < (s : Int)) = false := by simp; omega
        go_wp2_with fail
        go_meet
        exact ⟨s, rfl, hs, rfl, by unfold Hid theK; rw [Nat.min_eq_left (by omega)]⟩
    case rest =>
      obtain ⟨M, rfl, hM, rfl, HKM⟩ := hcut
      have H2 : Hid (Below W.heap.size W (wc.alloc (.cells #[.string u, .int .u64 (M : Int), .int .i64 1] TK)) ∧ Box (wc.alloc (.cells #[.string u, .int .u64 (M : Int), .int .i64 1] TK)) wc.heap.size TK (ikA ⟨u, M, 1⟩)) := ⟨H1.out.alloc H1.out.size _, Box.new _ _ _⟩
      go_wp2_with fail
      generalize hgk : wc.heap.size = gk at *
      have hgW : W.heap.size ≤ gk := by rw [← hgk]; exact H1.out.size
      clear hgk
      go_loopw [11] (fun x wr => ∃ k : Nat, k ≤ m ∧ x = .int .i64 (k : Int) ∧ Hid (Below W.heap.size W wr ∧ Box wr gk TK (ikA ⟨u, M, 1⟩) ∧ T.blocks.find? (fun x => naB x (theK u s)) = (T.blocks.drop k).find? (fun x => naB x (theK u s)))) (fun x _ => m - (intOf x).toNat)
      case atStart => exact ⟨0, Nat.zero_le _, rfl, H2.out.1, H2.out.2, rfl⟩
      case round =>
        obtain ⟨k, hk, rfl, HI⟩ := hrel
        have y2 := HC.out wr HI.out.1
        by_cases hkm : k < m
        · have hkp : k < pl.length := by rw [HM.out]; exact hkm
          have hkt : k < T.blocks.length := by rw [HTL.out]; exact hkm
          have HBK : Hid (T.blocks[k] = (segB b pl[k].p (pl[k].s + 4), pl[k].k)) := by
            have : T.blocks[k] = (plBl b pl)[k]'(by rw [← HR.out.2.2.2]; exact hkt) := by simp only [HR.out.2.2.2]
            unfold Hid
            rw [this, plBl_at hkp]
          have HDR : Hid ((T.blocks.drop k).find? (fun x => naB x (theK u s)) = if naB (segB b pl[k].p (pl[k].s + 4), pl[k].k) (theK u s) = true then some (segB b pl[k].p (pl[k].s + 4), pl[k].k) else (T.blocks.drop (k + 1)).find? (fun x => naB x (theK u s))) := by
            unfold Hid
            rw [List.drop_eq_getElem_cons hkt, HBK.out, List.find?_cons]
            cases naB (segB b pl[k].p (pl[k].s + 4), pl[k].k) (theK u s) <;> rfl
          obtain ⟨g, hal, e0, e1, e2, _, _⟩ := HOW.out.cells5 hkp
          have HKC : Hid (∀ V, Below W.heap.size W V → V.cell? ⟨g, k * 5, none⟩ = some (.string pl[k].k.user) ∧ V.cell? ⟨g, k * 5 + 1, none⟩ = some (.int .u64 (pl[k].k.seq : Int)) ∧ V.cell? ⟨g, k * 5 + 2, none⟩ = some (.int .i64 pl[k].k.kind)) := fun V hV => by
            have tr : ∀ {a : Addr} {v : Value}, W.cell? a = some v → V.cell? a = some v := fun {a v} hv => by rw [hV.cell (World.block_lt_of_cell? W _ hv)]; exact hv
            exact ⟨tr e0, tr e1, tr e2⟩
          have hix := fun V => idxP V (a := al) (b := g) (n := m) (c := cl) hal hkm
          have hrd := fun V (hV : Below W.heap.size W V) => rread12 (HR.out.1.below hV) (HR.out.2.1.below (Nat.le_refl _) hV) hn hkp HR.out.2.2.1
          have HNB : Hid (naB (segB b pl[k].p (pl[k].s + 4), pl[k].k) (theK u s) = decide (0 ≤ kcmp pl[k].k.user.toList u.toList (pl[k].k.seq : Int) (M : Int) pl[k].k.kind 1)) := by
            unfold Hid naB
            rw [HKM.out]
            rfl
          have HRD : Hid (∀ V, Below W.heap.size W V → _) := hrd
          clear e0 e1 e2 hal HBK hrd
          generalize pl[k] = d at *
          obtain ⟨dk, dp, ds⟩ := d
          dsimp only at HKC HRD HNB HDR
          have hcp := fun V => rcompare_any dk.user u (dk.seq : Int) (M : Int) dk.kind 1 V
          generalize kcmp dk.user.toList u.toList (dk.seq : Int) (M : Int) dk.kind 1 = cv at hcp HNB
          have HCP : Hid (∀ V, Calls Tryz.prog 45 #[.agg #[.string dk.user, .int .u64 (dk.seq : Int), .int .i64 dk.kind], .agg #[.string u, .int .u64 (M : Int), .int .i64 1]] V fun e w' => e = .returned (.int .i64 cv) ∧ Below V.heap.size V w') := hcp
          have HS : Hid (∀ V, Below W.heap.size W V → Box V gk TK (ikA ⟨u, M, 1⟩) → V.cell? ⟨q, 2, none⟩ = some (.slice al m cl) ∧ V.cell? ⟨g, k * 5, none⟩ = some (.string dk.user) ∧ V.cell? ⟨g, k * 5 + 1, none⟩ = some (.int .u64 (dk.seq : Int)) ∧ V.cell? ⟨g, k * 5 + 2, none⟩ = some (.int .i64 dk.kind) ∧ V.cell? ⟨gk, 0, none⟩ = some (.string u) ∧ V.cell? ⟨gk, 1, none⟩ = some (.int .u64 (M : Int)) ∧ V.cell? ⟨gk, 2, none⟩ = some (.int .i64 1)) := fun V hV hB => ⟨HC.out V hV, (HKC.out V hV).1, (HKC.out V hV).2.1, (HKC.out V hV).2.2, hB.cell 0, hB.cell 1, hB.cell 2⟩
          clear hcp
          go_wp2_with fail
          obtain ⟨x0, x1, x2, x3, x4, x5, x6⟩ := HS.out wr.drew HI.out.1.drew HI.out.2.1
          go_region_held3 (fun V => V.cell? ⟨q, 2, none⟩ = some (.slice al m cl) ∧ V.cell? ⟨g, k * 5, none⟩ = some (.string dk.user) ∧ V.cell? ⟨g, k * 5 + 1, none⟩ = some (.int .u64 (dk.seq : Int)) ∧ V.cell? ⟨g, k * 5 + 2, none⟩ = some (.int .i64 dk.kind) ∧ V.cell? ⟨gk, 0, none⟩ = some (.string u) ∧ V.cell? ⟨gk, 1, none⟩ = some (.int .u64 (M : Int)) ∧ V.cell? ⟨gk, 2, none⟩ = some (.int .i64 1)) (first | with_reducible exact ⟨x0, x1, x2, x3, x4, x5, x6⟩ | go_keep)
            (first
             | (go_at_call 45; refine (HCP.out _).mono ?_; rintro _ v1 ⟨rfl, hb1⟩
                have H3 : Hid (Below W.heap.size W v1 ∧ Box v1 gk TK (ikA ⟨u, M, 1⟩)) := ⟨HI.out.1.drew.trans (hb1.mono HI.out.1.size), HI.out.2.1.kept (hb1.block _ HI.out.2.1.lt)⟩
                obtain ⟨x0, x1, x2, x3, x4, x5, x6⟩ := HS.out v1 H3.out.1 H3.out.2
                clear hb1))
          clear HS HCP HKC hix y2
          by_cases hcv : 0 ≤ cv
          case neg =>
            have hlt : cv < 0 := by omega
            have HNX : Hid (T.blocks.find? (fun x => naB x (theK u s)) = (T.blocks.drop (k + 1)).find? (fun x => naB x (theK u s))) := by
              unfold Hid
              rw [HI.out.2.2, HDR.out, HNB.out, decide_eq_false hcv]
              rfl
            go_wp2_with fail
            go_roundw
            case rel => exact ⟨k + 1, hkm, by go_num, H3.out.1, H3.out.2, HNX.out⟩
            case measure => simp only [intOf]; omega
          have hlt : ¬ cv < 0 := by omega
          have HFD : Hid (T.blocks.find? (fun x => naB x (theK u s)) = some (segB b dp (ds + 4), dk)) := by
            unfold Hid
            rw [HI.out.2.2, HDR.out, HNB.out, decide_eq_true hcv]
            rfl
          clear HNB HDR HI
          have hrd := HRD.out v1 H3.out.1
          go_wp2_with fail
          refine hrd.mono ?_
          rintro _ w3 ⟨hb3, ⟨er, he, hne0, rfl⟩ | ⟨l, a5, c5, he, hl0, hl3, rfl, hks, hck⟩⟩
          · have H4 : Hid (Below W.heap.size W w3 ∧ getT T u s = ⟨⟨#[]⟩, 0, er⟩) := ⟨H3.out.1.trans (hb3.mono H3.out.1.size), getT_3 HMY.out HFD.out he⟩
            have hbq : ((er : Int) != 0) = true := by rw [bne_iff_ne]; omega
            clear he hb3 hrd hne0
            go_wp2
            exact bodyPost_ret (v := ansV ⟨⟨#[]⟩, 0, er⟩) (by simp [results, Tryz.results18, go_sem, ansV]) rfl ⟨by rw [H4.out.2], H4.out.1⟩
          · have H4 : Hid (Below W.heap.size W w3 ∧ getT T u s = ansOf u (theK u s) l ∧ KsAt w3 a5 l.length c5 l ∧ Box w3 gk TK (ikA ⟨u, M, 1⟩) ∧ Rises l) := ⟨H3.out.1.trans (hb3.mono H3.out.1.size), getT_4 HMY.out HFD.out he, hks, H3.out.2.kept (hb3.block _ H3.out.2.lt), (chkL_zero.1 hck).2⟩
            obtain ⟨ln, HLN⟩ : ∃ ln, Hid (l.length = ln) := ⟨_, (rfl : l.length = l.length)⟩
            rw [HLN.out] at hl0 hl3 H4 ⊢
            have k0 : w3.cell? ⟨gk, 0, none⟩ = some (.string u) := H4.out.2.2.2.1.cell 0
            have k1 : w3.cell? ⟨gk, 1, none⟩ = some (.int .u64 (M : Int)) := H4.out.2.2.2.1.cell 1
            have k2 : w3.cell? ⟨gk, 2, none⟩ = some (.int .i64 1) := H4.out.2.2.2.1.cell 2
            have hfi := rfind_any H4.out.2.2.1 H4.out.2.2.2.2 (by omega) ⟨u, M, 1⟩
            unfold IK.v at hfi
            clear he hb3 hrd hks hck HFD
            go_wp2_with fail
            refine hfi.mono ?_
            rintro _ w4 ⟨nn, hfa, rfl, hb4⟩
            have H5 : Hid (Below W.heap.size W w4 ∧ KsAt w4 a5 ln c5 l ∧ l.find? (fun e => decide (0 ≤ e.1.cmp (theK u s))) = l[nn]?) := ⟨H4.out.1.trans (hb4.mono H4.out.1.size), H4.out.2.2.1.below hb4, by rw [HKM.out]; exact first_find hfa⟩
            have hnn : nn ≤ ln := by rw [← HLN.out]; exact hfa.le
            clear hfa hb4 hfi k0 k1 k2
            by_cases hnl : nn < ln
            case neg =>
              obtain rfl : nn = ln := by omega
              have HA : Hid (getT T u s = noA) := by
                unfold Hid
                rw [H4.out.2.1]
                unfold ansOf
                rw [H5.out.2.2, List.getElem?_eq_none (by rw [HLN.out]; exact Nat.le_refl _)]
              go_wp2
              exact bodyPost_ret (v := ansV noA) (by simp [results, Tryz.results18, go_sem, ansV, noA]) rfl ⟨by rw [HA.out], H5.out.1⟩
            have hnll : nn < l.length := by rw [HLN.out]; exact hnl
            have hne : ((nn : Int) == (ln : Int)) = false := by rw [beq_eq_false_iff_ne]; omega
            have HA : Hid (getT T u s = if l[nn].1.user = u then (if l[nn].1.kind = 0 then ⟨⟨#[]⟩, 1, 0⟩ else ⟨l[nn].2, 2, 0⟩) else noA) := by
              unfold Hid
              rw [H4.out.2.1]
              unfold ansOf
              rw [H5.out.2.2, List.getElem?_eq_getElem hnll]
            obtain ⟨bb, off, hab, hcs⟩ := H5.out.2.1.cells4 (by omega)
            obtain ⟨f0, f1, f2, f3⟩ := hcs nn hnll
            have hix := fun V => idxKV V (a := a5) (b := bb) (off := off) (n := ln) (c := c5) hab hnl
            generalize l[nn] = e at *
            clear hcs hab f1
            by_cases hus : e.1.user = u
            · have hsq : (e.1.user.toList == u.toList) = true := by rw [hus]; simp
              have HUS : Hid (e.1.user = u) := hus
              clear hus
              by_cases hkd : e.1.kind = 0
              · have hkq : (e.1.kind == 0) = true := by rw [hkd]; rfl
                have HKD : Hid (e.1.kind = 0) := hkd
                clear hkd
                go_wp2
                refine bodyPost_ret (v := ansV ⟨⟨#[]⟩, 1, 0⟩) (by simp [results, Tryz.results18, go_sem, ansV]) rfl ⟨?_, H5.out.1⟩
                rw [HA.out, if_pos HUS.out, if_pos HKD.out]
              · have hkq : (e.1.kind == 0) = false := by simpa using hkd
                have HKD : Hid (¬ e.1.kind = 0) := hkd
                clear hkd
                go_wp2
                refine bodyPost_ret (v := ansV ⟨e.2, 2, 0⟩) (by simp [results, Tryz.results18, go_sem, ansV]) rfl ⟨?_, H5.out.1⟩
                rw [HA.out, if_pos HUS.out, if_neg HKD.out]
            · have hsq : (e.1.user.toList == u.toList) = false := by
                rw [beq_eq_false_iff_ne]
                exact fun hh => hus (ba_eqG hh)
              have HUS : Hid (¬ e.1.user = u) := hus
              clear hus
              go_wp2
              refine bodyPost_ret (v := ansV noA) (by simp [results, Tryz.results18, go_sem, ansV, noA]) rfl ⟨?_, H5.out.1⟩
              rw [HA.out, if_neg HUS.out]
        · obtain rfl : k = m := by omega
          have HE : Hid (getT T u s = noA) := getT_2 HMY.out (by rw [HI.out.2.2, List.drop_eq_nil_of_le (by rw [HTL.out]; exact Nat.le_refl _)]; rfl)
          go_wp2
          exact bodyPost_ret (v := ansV noA) (by simp [results, Tryz.results18, go_sem, ansV, noA]) rfl ⟨by rw [HE.out], HI.out.1⟩
end Go.Proofs.YtgegjcnjlibfdaaGreat
