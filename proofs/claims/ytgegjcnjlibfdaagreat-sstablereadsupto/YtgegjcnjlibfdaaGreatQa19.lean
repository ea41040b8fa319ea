/- The contract of a table's Get. -/
import Derived.Test.YtgegjcnjlibfdaaGreatQa18
import Derived.Test.YtgegjcnjlibfdaaGreatQa09
import Derived.Lib.MinMax
import Derived.Test.YtgegjcnjlibfdaaGreatQa16
namespace Go.Proofs.YtgegjcnjlibfdaaGreat
set_option maxRecDepth 100000
open Go.RowKit
set_option linter.unusedVariables false
set_option linter.unusedSimpArgs false
def ansV (x : Ans) : Value := .tuple #[.string x.value, .int .i64 (x.what : Int), .int .i64 (x.err : Int)]
theorem getT_1 {T : TD} {u : ByteArray} {s : Nat} (h : mayN T.filter u.data.toList = false) : getT T u s = noA := by unfold getT; rw [if_pos h]
theorem getT_2 {T : TD} {u : ByteArray} {s : Nat} (h : mayN T.filter u.data.toList = true) (h2 : T.blocks.find? (fun x => naB x (theK u s)) = none) : getT T u s = noA := by
  unfold getT
  rw [if_neg (by rw [h]; simp)]
  unfold naB at h2
  rw [h2]
theorem getT_3 {T : TD} {u : ByteArray} {s : Nat} {x : List UInt8 × IK} {e : Nat} (h : mayN T.filter u.data.toList = true) (h2 : T.blocks.find? (fun x => naB x (theK u s)) = some x) (h3 : readS x.1 x.2 = .error e) : getT T u s = ⟨⟨#[]⟩, 0, e⟩ := by
  unfold getT
  rw [if_neg (by rw [h]; simp)]
  unfold naB at h2
  rw [h2]
  simp only [h3]
theorem getT_4 {T : TD} {u : ByteArray} {s : Nat} {x : List UInt8 × IK} {l : List KV} (h : mayN T.filter u.data.toList = true) (h2 : T.blocks.find? (fun x => naB x (theK u s)) = some x) (h3 : readS x.1 x.2 = .ok l) : getT T u s = ansOf u (theK u s) l := by
  unfold getT
  rw [if_neg (by rw [h]; simp)]
  unfold naB at h2
  rw [h2]
  simp only [h3]
theorem naB_mono {T : TD} (hr : T.blocks.Pairwise (fun x y => x.2.cmp y.2 < 0)) (k : IK) (i j : Nat) (hij : i ≤ j) (hj : j < T.blocks.length) (h : naB (T.blocks[i]'(by omega)) k = true) : naB T.blocks[j] k = true := by
  rcases Nat.lt_or_eq_of_le hij with hlt | rfl
  · have h1 := (List.pairwise_iff_getElem.1 hr) i j (by omega) hj hlt
    have h2 := of_decide_eq_true h
    refine decide_eq_true ?_
    have h3 := IK.cmp_turn T.blocks[j].2 k
    have h4 := IK.cmp_turn (T.blocks[i]'(by omega)).2 k
    by_cases h5 : T.blocks[j].2.cmp k < 0
    · have := IK.cmp_trans h1 h5
      omega
    · omega
  · exact h
theorem first_find {l : List KV} {k : IK} {n : Nat} (h : FirstAt l k n) : l.find? (fun e => decide (0 ≤ e.1.cmp k)) = l[n]? := by
  refine find_first l n h.le (fun i hi hin => decide_eq_false ?_) (fun hn => decide_eq_true (h.yes n hn (Nat.le_refl _)))
  have := h.no i hi hin
  omega
set_option maxHeartbeats 8000000 in
theorem get12 {w : World} {B p : Nat} {T : TD} (h : TbAt w B p T) (u : ByteArray) (s : Nat) (hu : u.size ≤ 140737488351232) (hs : s < 18446744073709551616) :
    Calls Tryz.prog 17 #[at_ p, .string u, .int .u64 (s : Int)] w fun r w' => r = .returned (ansV (getT T u s)) ∧ Below w.heap.size w w' := by
  have HT : Hid (TbAt w B p T) := h
  have H0 : Hid (Below w.heap.size w (w.alloc (.cells #[at_ p] TPT)) ∧ Box (w.alloc (.cells #[at_ p] TPT)) w.heap.size TPT #[at_ p]) := ⟨(Below.refl _ _).alloc (Nat.le_refl _) _, Box.new _ _ _⟩
  have hmf : ∀ (fn : Fn) (first cap : Array Value) (w : World), (Instr.makeFunc fn first cap).run Tryz.prog w = .ok (.func fn first cap) w := fun _ _ _ _ => rfl
  have hpl : p < w.heap.size := by
    obtain ⟨af, ar, cf, cr, c0, c1, c2, _, _⟩ := h.slots
    exact World.block_lt_of_cell? w _ c0
  obtain ⟨af, ar, cf, cr, c0, c1, c2, hfb, hall⟩ := (h.below H0.out.1).slots
  have HFB : Hid (BsAt (w.alloc (.cells #[at_ p] TPT)) af T.filter.length cf T.filter) := hfb
  have hsm := h.small
  have HNB : Hid (T.blocks.length = T.blocks.length) := rfl
  clear hall c2 h hfb
  go_enter Tryz.func17, Tryz.ntmps17
  go_wp2_with fail
  clear c0 c1
  refine (may_any af T.filter.length cf T.filter u _ HFB.out (by omega) hu).mono ?_
  rintro _ w1 ⟨rfl, hb1⟩
  have H1 : Hid (Below w.heap.size w w1 ∧ Box w1 w.heap.size TPT #[at_ p]) := ⟨H0.out.1.trans (hb1.mono H0.out.1.size), H0.out.2.kept (hb1.block _ H0.out.2.lt)⟩
  clear hb1 HFB
  cases hmay : mayN T.filter u.data.toList with
  | false =>
    have HM : Hid (getT T u s = noA) := getT_1 hmay
    clear hmay
    go_wp2
    refine bodyPost_ret (v := ansV noA) (by simp [results, Tryz.results17, go_sem, ansV, noA]) rfl ⟨by rw [HM.out], H1.out.1⟩
  | true =>
    have HM : Hid (mayN T.filter u.data.toList = true) := hmay
    clear hmay
    obtain ⟨M, hM, HKM⟩ : ∃ M : Nat, min (s : Int) 72057594037927935 = (M : Int) ∧ Hid (theK u s = ⟨u, M, 1⟩) := ⟨min s 72057594037927935, by omega, rfl⟩
    have x0 : w1.cell? ⟨w.heap.size, 0, none⟩ = some (at_ p) := H1.out.2.cell 0
    obtain ⟨af, ar, cf, cr, c0, c1, c2, hfb, hall⟩ := (HT.out.below H1.out.1).slots
    have hl1 : w.heap.size < w1.heap.size := H1.out.2.lt
    have hpl1 : p < w1.heap.size := by omega
    have H2 : Hid (Below w.heap.size w (w1.alloc (.cells #[.string u, .int .u64 (M : Int), .int .i64 1] TK)) ∧ Box (w1.alloc (.cells #[.string u, .int .u64 (M : Int), .int .i64 1] TK)) w.heap.size TPT #[at_ p] ∧ Box (w1.alloc (.cells #[.string u, .int .u64 (M : Int), .int .i64 1] TK)) w1.heap.size TK (ikA ⟨u, M, 1⟩)) := ⟨H1.out.1.alloc H1.out.1.size _, H1.out.2.alloc _, Box.new _ _ _⟩
    have HSE : Hid (Calls Tryz.prog 47 #[.int .i64 ((T.blocks.length : Nat) : Int), .func (.func 48) #[] #[at_ w.heap.size, at_ w1.heap.size]] (w1.alloc (.cells #[.string u, .int .u64 (M : Int), .int .i64 1] TK)) fun e w' => ∃ r : Nat, e = .returned (.int .i64 (r : Int)) ∧ r ≤ T.blocks.length ∧ T.blocks.find? (fun x => naB x ⟨u, M, 1⟩) = T.blocks[r]? ∧ Below (w1.alloc (.cells #[.string u, .int .u64 (M : Int), .int .i64 1] TK)).heap.size (w1.alloc (.cells #[.string u, .int .u64 (M : Int), .int .i64 1] TK)) w') := by
      refine (searchG T.blocks.length (by have := HT.out.small; omega) (fun i => if hh : i < T.blocks.length then naB T.blocks[i] ⟨u, M, 1⟩ else true) _ _ _ (fun W hW i hi => ?_) (fun i j hij hj hp => ?_)).mono ?_
      · rw [dif_pos hi]
        exact getc_any (HT.out.below (H2.out.1.trans (hW.mono H2.out.1.size))) (H2.out.2.1.kept (hW.block _ H2.out.2.1.lt)) ⟨u, M, 1⟩ (H2.out.2.2.kept (hW.block _ H2.out.2.2.lt)) hi
      · rw [dif_pos hj]
        rw [dif_pos (by omega)] at hp
        exact naB_mono HT.out.rise _ i j hij hj hp
      · rintro _ w' ⟨r, rfl, hr, h1, h2, hb⟩
        refine ⟨r, rfl, hr, ?_, hb⟩
        refine find_first T.blocks r hr (fun i h hi => ?_) (fun h => ?_)
        · have := h1 i hi
          rw [dif_pos h] at this
          exact this
        · have := h2 r (Nat.le_refl _) h
          rw [dif_pos h] at this
          exact this
    obtain ⟨m, HNM⟩ : ∃ m, Hid (T.blocks.length = m) := ⟨_, (rfl : T.blocks.length = T.blocks.length)⟩
    rw [HNM.out] at HSE c1
    clear hall hfb c0 c2
    go_wp2_with fail
    clear hM
    refine HSE.out.mono ?_
    rintro _ w2 ⟨r, rfl, hr, hfd, hb2⟩
    have H3 : Hid (Below w.heap.size w w2 ∧ Box w2 w.heap.size TPT #[at_ p] ∧ Box w2 w1.heap.size TK (ikA ⟨u, M, 1⟩) ∧ T.blocks.find? (fun x => naB x (theK u s)) = T.blocks[r]?) := ⟨H2.out.1.trans (hb2.mono H2.out.1.size), H2.out.2.1.kept (hb2.block _ H2.out.2.1.lt), H2.out.2.2.kept (hb2.block _ H2.out.2.2.lt), by rw [HKM.out]; exact hfd⟩
    clear hb2 hfd HSE x0 c1 H2
    have x0 : w2.cell? ⟨w.heap.size, 0, none⟩ = some (at_ p) := H3.out.2.1.cell 0
    obtain ⟨af, ar, cf, cr, c0, c1, c2, hfb, hall⟩ := (HT.out.below H3.out.1).slots
    rw [HNM.out] at c1
    by_cases hrm : r = m
    · subst hrm
      have HR : Hid (getT T u s = noA) := getT_2 HM.out (by rw [H3.out.2.2.2]; exact List.getElem?_eq_none (by rw [HNM.out]; exact Nat.le_refl _))
      clear hall hfb c0 c2
      go_wp2
      exact bodyPost_ret (v := ansV noA) (by simp [results, Tryz.results17, go_sem, ansV, noA]) rfl ⟨by rw [HR.out], H3.out.1⟩
    · have hlt : r < m := by omega
      have hltb : r < T.blocks.length := by rw [HNM.out]; exact hlt
      have hne : ((r : Int) == (m : Int)) = false := by rw [beq_eq_false_iff_ne]; omega
      obtain ⟨b, ai, n, har, d0, d1, d2, d3, hbs, hn4, hn3⟩ := hall r hltb
      have hix := fun W => idxD W (a := ar) (b := b) (off := 0) (n := m) (c := cr) har hlt
      simp only [Nat.zero_add] at hix
      have HF : Hid (T.blocks.find? (fun x => naB x (theK u s)) = some T.blocks[r]) := by
        unfold Hid
        rw [H3.out.2.2.2]
        exact List.getElem?_eq_getElem hltb
      generalize T.blocks[r] = z at *
      obtain ⟨zp, zk⟩ := z
      dsimp only at d1 d2 d3 hbs
      have hrd := read_any hbs hn4 (by omega) zk
      unfold stA at hrd
      clear hall hfb c0 c2 har hrm hbs
      go_wp2_with fail
      refine hrd.mono ?_
      rintro _ w3 ⟨hb3, ⟨er, her, rfl, hne0⟩ | ⟨l, q, hok, hl0, rfl, hgb⟩⟩
      · have H4 : Hid (Below w.heap.size w w3 ∧ getT T u s = ⟨⟨#[]⟩, 0, er⟩) := ⟨H3.out.1.trans (hb3.mono H3.out.1.size), getT_3 HM.out HF.out her⟩
        have hbq : ((er : Int) != 0) = true := by rw [bne_iff_ne]; omega
        clear her hb3 hrd hne0
        go_wp2
        exact bodyPost_ret (v := ansV ⟨⟨#[]⟩, 0, er⟩) (by simp [results, Tryz.results17, go_sem, ansV]) rfl ⟨by rw [H4.out.2], H4.out.1⟩
      · have H4 : Hid (Below w.heap.size w w3 ∧ getT T u s = ansOf u (theK u s) l ∧ GB w3 w.heap.size q (ivOf (bodyB zp)) l ∧ Box w3 w1.heap.size TK (ikA ⟨u, M, 1⟩)) := ⟨H3.out.1.trans (hb3.mono H3.out.1.size), getT_4 HM.out HF.out hok, hgb.less H3.out.1.size, H3.out.2.2.1.kept (hb3.block _ H3.out.2.2.1.lt)⟩
        have k0 : w3.cell? ⟨w1.heap.size, 0, none⟩ = some (.string u) := H4.out.2.2.2.cell 0
        have k1 : w3.cell? ⟨w1.heap.size, 1, none⟩ = some (.int .u64 (M : Int)) := H4.out.2.2.2.cell 1
        have k2 : w3.cell? ⟨w1.heap.size, 2, none⟩ = some (.int .i64 1) := H4.out.2.2.2.cell 2
        have hfi := find_any H4.out.2.2.1 ⟨u, M, 1⟩
        unfold IK.v at hfi
        clear hok hb3 hrd hgb
        go_wp2_with fail
        refine hfi.mono ?_
        rintro _ w4 ⟨nn, hfa, rfl, hb4⟩
        have H5 : Hid (Below w.heap.size w w4 ∧ GB w4 w.heap.size q (ivOf (bodyB zp)) l ∧ l.find? (fun e => decide (0 ≤ e.1.cmp (theK u s))) = l[nn]?) := ⟨H4.out.1.trans (hb4.mono H4.out.1.size), H4.out.2.2.1.below hb4, by rw [HKM.out]; exact first_find hfa⟩
        have hnn := hfa.le
        clear hfa hb4 hfi k0 k1 k2
        by_cases hnl : nn < l.length
        · have hat := at_yes H5.out.2.1 hnl
          have HA : Hid (getT T u s = if l[nn].1.user = u then (if l[nn].1.kind = 0 then ⟨⟨#[]⟩, 1, 0⟩ else ⟨l[nn].2, 2, 0⟩) else noA) := by
            unfold Hid
            rw [H4.out.2.1]
            unfold ansOf
            rw [H5.out.2.2, List.getElem?_eq_getElem hnl]
          generalize l[nn] = e at hat HA
          unfold kvv at hat
          go_wp2_with fail
          refine hat.mono ?_
          rintro _ w5 ⟨rfl, hb5⟩
          have H6 : Hid (Below w.heap.size w (w5.alloc (.cells #[.string e.1.user, .int .u64 (e.1.seq : Int), .int .i64 e.1.kind, .string e.2] TKV))) := by
            have h1 := H5.out.1.trans (hb5.mono H5.out.1.size)
            exact h1.alloc h1.size _
          clear hb5 hat
          by_cases hus : e.1.user = u
          · have hsq : (e.1.user.toList == u.toList) = true := by rw [hus]; simp
            have HUS : Hid (e.1.user = u) := hus
            clear hus
            by_cases hkd : e.1.kind = 0
            · have hkq : (e.1.kind == 0) = true := by rw [hkd]; rfl
              have HKD : Hid (e.1.kind = 0) := hkd
              clear hkd
              go_wp2
              refine bodyPost_ret (v := ansV ⟨⟨#[]⟩, 1, 0⟩) (by simp [results, Tryz.results17, go_sem, ansV]) rfl ⟨?_, H6.out⟩
              rw [HA.out, if_pos HUS.out, if_pos HKD.out]
            · have hkq : (e.1.kind == 0) = false := by simpa using hkd
              have HKD : Hid (¬ e.1.kind = 0) := hkd
              clear hkd
              go_wp2
              refine bodyPost_ret (v := ansV ⟨e.2, 2, 0⟩) (by simp [results, Tryz.results17, go_sem, ansV]) rfl ⟨?_, H6.out⟩
              rw [HA.out, if_pos HUS.out, if_neg HKD.out]
          · have hsq : (e.1.user.toList == u.toList) = false := by
              rw [beq_eq_false_iff_ne]
              intro hh
              apply hus
              apply ByteArray.ext
              have h3 := congrArg List.toArray hh
              simpa [ByteArray.toList_eq] using h3
            have HUS : Hid (¬ e.1.user = u) := hus
            clear hus
            go_wp2
            refine bodyPost_ret (v := ansV noA) (by simp [results, Tryz.results17, go_sem, ansV, noA]) rfl ⟨?_, H6.out⟩
            rw [HA.out, if_neg HUS.out]
        · have HA : Hid (getT T u s = noA) := by
            unfold Hid
            rw [H4.out.2.1]
            unfold ansOf
            rw [H5.out.2.2, List.getElem?_eq_none (by omega)]
          have hat := at_no (q := at_ q) (i := (nn : Int)) (n := l.length) (W := w4) (fun V hV => len_any (H5.out.2.1.bk.below hV)) (.inr (by omega))
          go_wp2_with fail
          refine hat.mono ?_
          rintro _ w5 ⟨rfl, hb5⟩
          unfold kvz
          have H6 : Hid (Below w.heap.size w (w5.alloc (.cells #[.string ⟨#[]⟩, .int .u64 0, .int .i64 0, .string ⟨#[]⟩] TKV))) := by
            have h1 := H5.out.1.trans (hb5.mono H5.out.1.size)
            exact h1.alloc h1.size _
          clear hb5 hat
          go_wp2
          exact bodyPost_ret (v := ansV noA) (by simp [results, Tryz.results17, go_sem, ansV, noA]) rfl ⟨by rw [HA.out], H6.out⟩
theorem get_nil (u : ByteArray) (s : Nat) (w : World) : Calls Tryz.prog 17 #[.pointer none, .string u, .int .u64 (s : Int)] w fun r w' => r = .returned (.tuple #[.string ⟨#[]⟩, .int .i64 0, .int .i64 1]) ∧ Below w.heap.size w w' := by
  go_enter Tryz.func17, Tryz.ntmps17
  go_wp2
  exact bodyPost_ret (v := .tuple #[.string ⟨#[]⟩, .int .i64 0, .int .i64 1]) (by simp [results, Tryz.results17, go_sem]) rfl ⟨rfl, (Below.refl _ _).alloc (Nat.le_refl _) _⟩
end Go.Proofs.YtgegjcnjlibfdaaGreat
/- What Build makes is opened; its length; what is told of it. -/
namespace Go.Proofs.YtgegjcnjlibfdaaGreat
set_option maxRecDepth 100000
open Go.RowKit
set_option linter.unusedVariables false
set_option linter.unusedSimpArgs false
theorem gs_ok {iv : Nat} (h1 : 1 ≤ iv) (h2 : iv ≤ 16) (bl : Nat) {l : List KV} (hc : chkL l = 0) (hn : l.length ≤ 1000) : Gs iv (grps iv bl l) := by
  refine ⟨h1, h2, fun g hg => (grps_mem iv bl l g hg).1, by rw [grps_flat]; exact hc, fun g hg => ?_⟩
  have h3 := (grps_mem iv bl l g hg).2
  have h4 := (chkL_zero.1 hc).1
  have h5 := lay_le12 h1 g (fun e he => h4 e (by rw [← grps_flat iv bl l]; exact List.mem_flatten.2 ⟨g, hg, he⟩))
  omega
theorem bodyT_le {iv : Nat} (hi : 1 ≤ iv) : ∀ gs : List (List KV), (∀ g ∈ gs, g ≠ []) → (∀ g ∈ gs, ∀ e ∈ g, EOk e) → (bodyT (tdOf iv gs)).length ≤ 1115 * gs.flatten.length
  | [], _, _ => by simp [bodyT, tdOf]
  | g :: gs, h0, h => by
    have e1 : bodyT (tdOf iv (g :: gs)) = partB (layP iv g) ++ bodyT (tdOf iv gs) := rfl
    have h1 := lay_le12 hi g (h g List.mem_cons_self)
    have h2 := bodyT_le hi gs (fun x hx => h0 x (List.mem_cons_of_mem _ hx)) (fun x hx => h x (List.mem_cons_of_mem _ hx))
    have h3 : 0 < g.length := List.length_pos_iff.2 (h0 g List.mem_cons_self)
    rw [e1, List.length_append, partB_len, List.flatten_cons, List.length_append]
    omega
theorem ixE_len : ∀ (ps : List (List UInt8 × IK)) (k : Nat), (ixE k ps).length = ps.length
  | [], k => rfl
  | x :: ps, k => by
    show ((_ : List KV)).length + 1 = _
    rw [ixE_len ps]
    rfl
theorem tblB_le {iv bl bits : Nat} (h1 : 1 ≤ iv) (h2 : iv ≤ 16) {l : List KV} (hc : chkL l = 0) (hn : l.length ≤ 1000) (hok : okB bits = true) : (tblB iv bl bits l).length ≤ 3000000 := by
  have hg := gs_ok h1 h2 bl hc hn
  have h3 := bodyT_le h1 (grps iv bl l) hg.some (fun g hgm e he => (chkL_zero.1 hc).1 e (by rw [← grps_flat iv bl l]; exact List.mem_flatten.2 ⟨g, hgm, he⟩))
  rw [grps_flat] at h3
  have hix : chkL (ixE 0 (tdOf iv (grps iv bl l))) = 0 := ix_chk (fun x hx => (tdOf_ok hg x hx).1) (tdOf_rises _ hg) 0
  have h4 := lay_le12 (Nat.le_refl 1) (ixE 0 (tdOf iv (grps iv bl l))) (chkL_zero.1 hix).1
  have h5 : (tdOf iv (grps iv bl l)).length = (grps iv bl l).length := by unfold tdOf; rw [List.length_map]
  rw [ixE_len, h5] at h4
  have h6 := grps_len iv bl l
  have h7 := szN_le hok hn
  unfold tblB
  rw [tabB_len, fltN_len]
  have h8 : (ixB (tdOf iv (grps iv bl l))).length = (layP 1 (ixE 0 (tdOf iv (grps iv bl l)))).length := rfl
  omega
theorem open_tbl {iv bl bits : Nat} (h1 : 1 ≤ iv) (h2 : iv ≤ 16) {l : List KV} (hc : chkL l = 0) (hne : l ≠ []) (hn : l.length ≤ 1000) (hok : okB bits = true) : openT (tblB iv bl bits l) = .ok ⟨fltN bits l, tdOf iv (grps iv bl l), l.length⟩ := by
  have hg := gs_ok h1 h2 bl hc hn
  have hix : chkL (ixE 0 (tdOf iv (grps iv bl l))) = 0 := ix_chk (fun x hx => (tdOf_ok hg x hx).1) (tdOf_rises _ hg) 0
  have hl := tblB_le (bl := bl) (bits := bits) h1 h2 hc hn hok
  unfold tblB at hl ⊢
  refine open_tab ?_ ?_ hix (by omega) (by omega)
  · rw [grps_cons iv bl hne]
    simp [tdOf]
  · intro x hx
    obtain ⟨g, _, rfl⟩ := List.mem_map.1 hx
    show 4 ≤ (partB (layP iv g)).length
    rw [partB_len]
    omega
/-- What Get tells of what Build makes. -/
theorem get_tbl {iv bl bits : Nat} (h1 : 1 ≤ iv) (h2 : iv ≤ 16) {l : List KV} (hc : chkL l = 0) (hn : l.length ≤ 1000) (u : ByteArray) (s : Nat) :
    getT ⟨fltN bits l, tdOf iv (grps iv bl l), l.length⟩ u s = if mayN (fltN bits l) u.data.toList = false then noA else ansOf u (theK u s) l := by
  rw [get_laid (gs_ok h1 h2 bl hc hn), grps_flat]
end Go.Proofs.YtgegjcnjlibfdaaGreat
/- The entries of the statements' awake, and what is told of their table. -/
namespace Go.Proofs.YtgegjcnjlibfdaaGreat
set_option maxRecDepth 100000
open Go.RowKit
set_option linter.unusedVariables false
set_option linter.unusedSimpArgs false
def l1w : List KV := [(⟨⟨#[97]⟩, 1, 1⟩, ⟨#[120]⟩)]
def l1A : Array Value := #[.string ⟨#[97]⟩, .int .u64 1, .int .i64 1, .string ⟨#[120]⟩]
theorem l1_chk : chkL l1w = 0 := by
  refine chkL_zero.2 ⟨?_, ?_⟩
  · intro e he
    simp only [l1w, List.mem_cons, List.not_mem_nil, or_false] at he
    subst he
    exact ⟨by decide +kernel, by decide +kernel⟩
  · exact List.Pairwise.cons (fun x hx => absurd hx (by simp)) List.Pairwise.nil
theorem l1_ks (w : World) : KsAt (w.alloc (.cells l1A TKV)) (some ⟨w.heap.size, 0, none⟩) 1 1 l1w := by
  refine ⟨rfl, Nat.le_refl _, by unfold maxLen; omega, fun _ => ⟨w.heap.size, 0, rfl, fun j hj => ?_⟩⟩
  rw [Nat.zero_add, (Box.new w TKV l1A).cell, ← Array.getElem?_toList]
  rfl
theorem l1_grps : grps 1 1 l1w = [l1w] := by
  have h : l1w ≠ [] := by simp [l1w]
  have h1 := (fillN_is 1 1 h).pos
  rw [grps_cons 1 1 h]
  have h2 : l1w.take (fillN 1 1 l1w) = l1w := List.take_of_length_le (by show 1 ≤ _; omega)
  have h3 : l1w.drop (fillN 1 1 l1w) = [] := List.drop_eq_nil_of_le (by show 1 ≤ _; omega)
  rw [h2, h3, grps_nil]
theorem l1_sz : szN 4621819117588971520 1 = 8 := by decide +kernel
theorem l1_flt : fltN 4621819117588971520 l1w = buildN [[97]] 6 8 := by
  unfold fltN
  rw [ok10.2.2.1]
  have h0 : l1w.length = 1 := rfl
  rw [h0, l1_sz]
  rfl
theorem l1_len : (tblB 1 1 4621819117588971520 l1w).length = 94 := by
  unfold tblB
  rw [tabB_len, fltN_len, l1_grps]
  have h0 : l1w.length = 1 := rfl
  rw [h0, l1_sz]
  have h1 : (bodyT (tdOf 1 [l1w])).length = 26 := by decide +kernel
  have h2 : (ixB (tdOf 1 [l1w])).length = 23 := by decide +kernel
  omega
theorem l1_may : mayN (buildN [[97]] 6 8) [97] = true := by decide +kernel
theorem l1_get1 : ansOf ⟨#[97]⟩ (theK ⟨#[97]⟩ 1) l1w = ⟨⟨#[120]⟩, 2, 0⟩ := by
  unfold ansOf l1w
  rw [List.find?_cons]
  have h : decide (0 ≤ IK.cmp ⟨⟨#[97]⟩, 1, 1⟩ (theK ⟨#[97]⟩ 1)) = true := by
    unfold IK.cmp theK
    simp only
    rw [ByteArray.toList_eq]
    decide +kernel
  rw [h]
  rfl
theorem l1_get0 : ansOf ⟨#[97]⟩ (theK ⟨#[97]⟩ 0) l1w = noA := by
  unfold ansOf l1w
  rw [List.find?_cons]
  have h : decide (0 ≤ IK.cmp ⟨⟨#[97]⟩, 1, 1⟩ (theK ⟨#[97]⟩ 0)) = false := by
    unfold IK.cmp theK
    simp only
    rw [ByteArray.toList_eq]
    decide +kernel
  rw [h]
  rfl
end Go.Proofs.YtgegjcnjlibfdaaGreat
/- The contract of the statements' awake. -/
namespace Go.Proofs.YtgegjcnjlibfdaaGreat
set_option maxRecDepth 100000
open Go.RowKit
set_option linter.unusedVariables false
set_option linter.unusedSimpArgs false
theorem run_store_float12 (P : Program) (w : World) (a : Addr) (k : FloatKind) (n : Nat) (m : Mode) : (store a (.float k n) m).run P w = stored P w a (.float k n) m := run_store P w a _ m rfl
attribute [local go_sem] run_store_float12
set_option maxHeartbeats 4000000 in
theorem awake12_any (w : World) : Calls Tryz.prog 9 #[] w fun e w' => e = .returned (.bool true) ∧ Below w.heap.size w w' := by
  obtain ⟨u, hu⟩ : ∃ u, u = w.alloc (.cells (opA 1 1 4621819117588971520) TOp) := ⟨_, rfl⟩
  have hus : u.heap.size = w.heap.size + 1 := by rw [hu]; exact World.size_alloc _ _
  have H0 : Hid (Below w.heap.size w (u.alloc (.cells l1A TKV))) := by rw [hu]; exact ((Below.refl _ _).alloc (Nat.le_refl _) _).alloc (by rw [World.size_alloc]; omega) _
  have hbd : Calls Tryz.prog 10 #[.slice (some ⟨w.heap.size + 1, 0, none⟩) 1 1, .agg (opA 1 1 4621819117588971520)] (u.alloc (.cells l1A TKV)) fun r w' => ∃ a' c', r = .returned (.tuple #[.slice a' 94 c', .int .i64 0]) ∧ OwnB w' (u.alloc (.cells l1A TKV)).heap.size a' 94 c' (tblB 1 1 4621819117588971520 l1w) ∧ Below (u.alloc (.cells l1A TKV)).heap.size (u.alloc (.cells l1A TKV)) w' := by
    have h := build12_yes (bits := 4621819117588971520) (bl := 1) (iv := 1) (l1_ks u) ⟨by simp, by intro x e; cases e; rfl, by omega, by omega, l1_chk, rfl, by omega⟩ (by omega) (by omega) ok10.1 (by omega) (by omega)
    rw [l1_len] at h
    rw [hus] at h
    exact h
  have hop : openT (tblB 1 1 4621819117588971520 l1w) = .ok ⟨fltN 4621819117588971520 l1w, tdOf 1 (grps 1 1 l1w), l1w.length⟩ := open_tbl (by omega) (by omega) l1_chk (by simp [l1w]) (by show 1 ≤ 1000; omega) ok10.1
  have hg := fun s => get_tbl (iv := 1) (bl := 1) (bits := 4621819117588971520) (by omega) (by omega) l1_chk (by show 1 ≤ 1000; omega) ⟨#[97]⟩ s
  have hg1 := hg 1
  have hg0 := hg 0
  have hm : ¬ mayN (fltN 4621819117588971520 l1w) (⟨#[97]⟩ : ByteArray).data.toList = false := by rw [l1_flt]; show ¬ mayN (buildN [[97]] 6 8) [97] = false; rw [l1_may]; simp
  rw [if_neg hm, l1_get1] at hg1
  rw [if_neg hm, l1_get0] at hg0
  have hbl : (tdOf 1 (grps 1 1 l1w)).length = 1 := by rw [l1_grps]; rfl
  generalize tblB 1 1 4621819117588971520 l1w = tb at *
  clear hg hm
  generalize fltN 4621819117588971520 l1w = fl at *
  generalize tdOf 1 (grps 1 1 l1w) = td at *
  have HX : Hid (openT tb = .ok ⟨fl, td, l1w.length⟩ ∧ getT ⟨fl, td, l1w.length⟩ ⟨#[97]⟩ 1 = ⟨⟨#[120]⟩, 2, 0⟩ ∧ getT ⟨fl, td, l1w.length⟩ ⟨#[97]⟩ 0 = noA ∧ td.length = 1) := ⟨hop, hg1, hg0, hbl⟩
  clear hop hg1 hg0 hbl
  subst hu
  unfold opA l1A at *
  go_enter Tryz.func9, Tryz.ntmps9
  go_wp2_with fail
  refine hbd.mono ?_
  rintro _ w1 ⟨a1, c1, rfl, ho1, hb1⟩
  have H1 : Hid (Below w.heap.size w w1 ∧ BsAt w1 a1 94 c1 tb) := ⟨H0.out.trans (hb1.mono H0.out.size), ho1.bs⟩
  clear ho1 hb1 hbd H0
  have ho := open12_any H1.out.2 (by omega)
  go_wp2_with fail
  refine ho.mono ?_
  rintro _ w2 ⟨hb2, ⟨er, he, rfl⟩ | ⟨T, p, he, rfl, ht⟩⟩
  · rw [HX.out.1] at he
    cases he
  rw [HX.out.1] at he
  obtain rfl := Except.ok.inj he
  have H2 : Hid (Below w.heap.size w w2 ∧ TbAt w2 w1.heap.size p ⟨fl, td, l1w.length⟩) := ⟨H1.out.1.trans (hb2.mono H1.out.1.size), ht⟩
  clear hb2 ht ho
  have hG1 := get12 H2.out.2 ⟨#[97]⟩ 1 (by decide) (by omega)
  rw [HX.out.2.1] at hG1
  go_wp2_with fail
  refine hG1.mono ?_
  rintro _ w3 ⟨rfl, hb3⟩
  have H3 : Hid (Below w.heap.size w w3 ∧ TbAt w3 w1.heap.size p ⟨fl, td, l1w.length⟩) := ⟨H2.out.1.trans (hb3.mono H2.out.1.size), H2.out.2.below hb3⟩
  clear hb3 hG1
  have hG0 := get12 H3.out.2 ⟨#[97]⟩ 0 (by decide) (by omega)
  rw [HX.out.2.2.1] at hG0
  unfold ansV
  go_wp2_with fail
  refine hG0.mono ?_
  rintro _ w4 ⟨rfl, hb4⟩
  have H4 : Hid (Below w.heap.size w w4 ∧ TbAt w4 w1.heap.size p ⟨fl, td, l1w.length⟩) := ⟨H3.out.1.trans (hb4.mono H3.out.1.size), H3.out.2.below hb4⟩
  clear hb4 hG0
  have hB := blocks_any H4.out.2
  rw [show (TD.blocks ⟨fl, td, l1w.length⟩).length = 1 from HX.out.2.2.2] at hB
  unfold ansV noA
  go_wp2_with fail
  refine hB.mono ?_
  rintro _ w5 ⟨rfl, rfl⟩
  go_wp2
  go_ret
  exact ⟨ret1 rfl, H4.out.1⟩
end Go.Proofs.YtgegjcnjlibfdaaGreat
