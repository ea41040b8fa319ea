/- View's own keeps what is asked of it. -/
import Derived.Test.YtjoamhcehpjepabQa16
import Derived.Test.YtjoamhcehpjepabQa12
import Derived.Test.YtjoamhcehpjepabQa06
namespace Go.Proofs.Ytjoamhcehpjepab
open Go.RowKit
set_option linter.unusedVariables false
set_option linter.unusedSimpArgs false
theorem vw_kept {W W' : World} {R : Nat → Prop} {p : Nat} {I : List It17} {o : Option Nat} (h : Vw17 W R p I o) (hs : W.heap.size ≤ W'.heap.size) (hk : ∀ k, R k → W'.heap[k]? = W.heap[k]?) : Vw17 W' R p I o := by
  obtain ⟨L, s, T, oi, hm, rest⟩ := h
  exact ⟨L, s, T, oi, mv_kept hm hs hk, rest⟩
theorem vw_lt {W : World} {R : Nat → Prop} {p : Nat} {I : List It17} {o : Option Nat} (h : Vw17 W R p I o) : ∀ k, R k → k < W.heap.size := by
  obtain ⟨L, s, T, oi, hm, rest⟩ := h
  exact mv_lt hm
theorem vw_fit {W : World} {R : Nat → Prop} {p : Nat} {I : List It17} {o : Option Nat} (h : Vw17 W R p I o) : ∀ i, o = some i → i < I.length := by
  obtain ⟨L, s, T, oi, hm, _, _, _, _, _, _, hk⟩ := h
  exact fun i e => (hk i e).1
theorem vw_same {W : World} {R : Nat → Prop} {p : Nat} {I : List It17} {o : Option Nat} (h : Vw17 W R p I o) {W' : World} (hb : Below W.heap.size W W') : VwPost Vw17 R p I o W W' := ⟨R, vw_kept h hb.size fun k hk => hb.block k (vw_lt h k hk), fun k hk => .inl hk, Chg.of hb⟩
section
variable {w : World} {R : Nat → Prop} {p : Nat} {I : List It17} {o : Option Nat}
set_option maxRecDepth 100000 in
set_option maxHeartbeats 2000000 in
theorem first_17 (h : Vw17 w R p I o) : Calls Try.prog 9 #[at_ p] w fun e w' => e = .returned (.tuple #[]) ∧ VwPost Vw17 R p I (go7 I 1 ⟨#[]⟩ o) w w' := by
  obtain ⟨L, s, T, oi, hm, rfl, hs, hwf, hsq, _⟩ := h
  have HM : Hid (MgV T w R p L oi ∧ s < 18446744073709551616 ∧ WfS (allL L) ∧ T.sq = .int .u64 (s : Int)) := ⟨hm, hs, hwf, hsq⟩
  clear hm hs hwf hsq
  go_enter Try.func9, Try.ntmps9
  go_wp2_with fail
  refine (first_v HM.out.1).mono ?_
  rintro _ w1 ⟨rfl, hp1⟩
  obtain ⟨R1, h1, _⟩ := (IvS.start HM.out.1).step hp1
  have H1 : Hid (IvS T w w1 R R1 p L (posV (allL L) 0 true) fun _ => False) := h1
  clear hp1 h1
  go_wp2_with fail
  refine (wayon_any w1).mono ?_
  rintro _ w2 ⟨rfl, hb2⟩
  have H2 : Hid (IvS T w w2 R R1 p L (posV (allL L) 0 true) fun _ => False) := H1.out.below hb2
  clear hb2 H1
  go_wp2_with fail
  refine (look_any (up := true) newc_on H2.out.it (cutv_zero s _) HM.out.2.1 HM.out.2.2.1 HM.out.2.2.2).mono ?_
  rintro _ w3 ⟨rfl, hp3⟩
  have HF : Hid (VwPost Vw17 R p (seenL s (allL L)) (go7 (seenL s (allL L)) 1 ⟨#[]⟩ o) w w3) := vw_post H2.out hp3
  clear hp3
  go_wp2
  go_end0
  exact ⟨rfl, HF.out⟩
theorem vw_is (h : Vw17 w R p I o) : w.cell? ⟨p, 11, none⟩ = some (.bool o.isSome) := by
  obtain ⟨L, s, T, oi, hm, _, _, _, _, his, _⟩ := h
  obtain ⟨_, _, _, _, _, _, c⟩ := hm.cells
  rw [his] at c
  exact c
set_option maxRecDepth 100000 in
set_option maxHeartbeats 2000000 in
theorem next_17 (h : Vw17 w R p I o) : Calls Try.prog 11 #[at_ p] w fun e w' => e = .returned (.tuple #[]) ∧ VwPost Vw17 R p I (go7 I 4 ⟨#[]⟩ o) w w' := by
  have HV : Hid (Vw17 w R p I o) := h
  have c := vw_is h
  clear h
  cases o with
  | none =>
    have HF : Hid (VwPost Vw17 R p I (go7 I 4 ⟨#[]⟩ none) w w) := vw_same HV.out (Below.refl _ _)
    have c : w.cell? ⟨p, 11, none⟩ = some (.bool false) := c
    clear HV
    go_enter Try.func11, Try.ntmps11
    go_wp2
    go_end0
    exact ⟨rfl, HF.out⟩
  | some k =>
    have c : w.cell? ⟨p, 11, none⟩ = some (.bool true) := c
    go_enter Try.func11, Try.ntmps11
    go_wp2_with fail
    refine (wayon_any w).mono ?_
    rintro _ w2 ⟨rfl, hb2⟩
    have H2 : Hid (Vw17 w2 R p I (some k) ∧ VwPost Vw17 R p I (some k) w w2) := ⟨vw_kept HV.out hb2.size fun q hq => hb2.block q (vw_lt HV.out q hq), vw_same HV.out hb2⟩
    clear hb2
    go_wp2_with fail
    refine (beside_on H2.out.1).mono ?_
    rintro _ w3 ⟨rfl, R3, h31, h32, h33⟩
    have HF : Hid (VwPost Vw17 R p I (go7 I 4 ⟨#[]⟩ (some k)) w w3) := by
      obtain ⟨_, _, _, hc⟩ := H2.out.2
      refine ⟨R3, h31, fun q hq => ?_, ?_⟩
      · rcases h32 q hq with h4 | h4
        · exact .inl h4
        · exact .inr (Nat.le_trans hc.size h4)
      · obtain ⟨R', h1, h2, h3⟩ := H2.out.2
        exact h3.andThen h33 fun _ _ x => x
    clear h31 h32 h33
    go_wp2
    go_end0
    exact ⟨rfl, HF.out⟩
set_option maxRecDepth 100000 in
set_option maxHeartbeats 2000000 in
theorem prev_17 (h : Vw17 w R p I o) : Calls Try.prog 12 #[at_ p] w fun e w' => e = .returned (.tuple #[]) ∧ VwPost Vw17 R p I (go7 I 5 ⟨#[]⟩ o) w w' := by
  have HV : Hid (Vw17 w R p I o) := h
  have c := vw_is h
  clear h
  cases o with
  | none =>
    have HF : Hid (VwPost Vw17 R p I (go7 I 5 ⟨#[]⟩ none) w w) := vw_same HV.out (Below.refl _ _)
    have c : w.cell? ⟨p, 11, none⟩ = some (.bool false) := c
    clear HV
    go_enter Try.func12, Try.ntmps12
    go_wp2
    go_end0
    exact ⟨rfl, HF.out⟩
  | some k =>
    have c : w.cell? ⟨p, 11, none⟩ = some (.bool true) := c
    go_enter Try.func12, Try.ntmps12
    go_wp2_with fail
    refine (wayback_any w).mono ?_
    rintro _ w2 ⟨rfl, hb2⟩
    have H2 : Hid (Vw17 w2 R p I (some k) ∧ VwPost Vw17 R p I (some k) w w2) := ⟨vw_kept HV.out hb2.size fun q hq => hb2.block q (vw_lt HV.out q hq), vw_same HV.out hb2⟩
    clear hb2
    go_wp2_with fail
    refine (beside_back H2.out.1).mono ?_
    rintro _ w3 ⟨rfl, R3, h31, h32, h33⟩
    have HF : Hid (VwPost Vw17 R p I (go7 I 5 ⟨#[]⟩ (some k)) w w3) := by
      obtain ⟨_, _, _, hc⟩ := H2.out.2
      refine ⟨R3, h31, fun q hq => ?_, ?_⟩
      · rcases h32 q hq with h4 | h4
        · exact .inl h4
        · exact .inr (Nat.le_trans hc.size h4)
      · obtain ⟨R', h1, h2, h3⟩ := H2.out.2
        exact h3.andThen h33 fun _ _ x => x
    clear h31 h32 h33
    go_wp2
    go_end0
    exact ⟨rfl, HF.out⟩
theorem vw_told (h : Vw17 w R p I o) : w.cell? ⟨p, 9, none⟩ = some (.string (told7 I o).1.1) ∧ w.cell? ⟨p, 10, none⟩ = some (.string (told7 I o).1.2) ∧ w.cell? ⟨p, 11, none⟩ = some (.bool (told7 I o).2) := by
  obtain ⟨L, s, T, oi, hm, _, _, _, _, his, hno, hk⟩ := h
  obtain ⟨_, _, _, _, c9, c10, c11⟩ := hm.cells
  cases o with
  | none =>
    obtain ⟨h1, h2⟩ := hno rfl
    rw [h1] at c9; rw [h2] at c10; rw [his] at c11
    exact ⟨c9, c10, c11⟩
  | some k =>
    obtain ⟨_, h1, h2, _⟩ := hk k rfl
    rw [h1] at c9; rw [h2] at c10; rw [his] at c11
    exact ⟨c9, c10, c11⟩
set_option maxRecDepth 100000 in
set_option maxHeartbeats 2000000 in
theorem at_17 (h : Vw17 w R p I o) : Calls Try.prog 10 #[at_ p] w fun e w' => e = .returned (.tuple #[.agg (itA (told7 I o).1), .bool (told7 I o).2]) ∧ VwPost Vw17 R p I o w w' := by
  have HV : Hid (Vw17 w R p I o) := h
  obtain ⟨c9, c10, c11⟩ := vw_told h
  have hpl : p < w.heap.size := by
    obtain ⟨L, s, T, oi, hm, _⟩ := h
    exact mv_box_lt hm
  clear h
  obtain ⟨e, b, he⟩ : ∃ e b, told7 I o = (e, b) := ⟨_, _, rfl⟩
  rw [he] at c9 c10 c11 ⊢
  clear he
  obtain ⟨W1, eW1⟩ : ∃ W1, W1 = w.alloc (.cells #[.string ⟨#[]⟩, .string ⟨#[]⟩] TItm) := ⟨_, rfl⟩
  have H1 : Hid (Below w.heap.size w W1 ∧ Box W1 w.heap.size TItm #[.string ⟨#[]⟩, .string ⟨#[]⟩]) := by
    rw [eW1]
    exact ⟨(Below.refl _ _).alloc (Nat.le_refl _) _, Box.new _ _ _⟩
  have hne : p ≠ w.heap.size := by omega
  have d9 : W1.cell? ⟨p, 9, none⟩ = some (.string e.1) := by rw [H1.out.1.cell hpl]; exact c9
  have d10 : W1.cell? ⟨p, 10, none⟩ = some (.string e.2) := by rw [H1.out.1.cell hpl]; exact c10
  have d11 : W1.cell? ⟨p, 11, none⟩ = some (.bool b) := by rw [H1.out.1.cell hpl]; exact c11
  have HF : Hid (VwPost Vw17 R p I o w ((W1.setCell ⟨w.heap.size, 0, none⟩ (.string e.1)).setCell ⟨w.heap.size, 1, none⟩ (.string e.2)).drew ∧ Box ((W1.setCell ⟨w.heap.size, 0, none⟩ (.string e.1)).setCell ⟨w.heap.size, 1, none⟩ (.string e.2)).drew w.heap.size TItm #[.string e.1, .string e.2]) := ⟨vw_same HV.out ((H1.out.1.setCell (p := ⟨w.heap.size, 0, none⟩) (Nat.le_refl _) _).setCell (p := ⟨w.heap.size, 1, none⟩) (Nat.le_refl _) _).drew, (((H1.out.2.set 0 _).set 1 _).eq (by simp)).drew17⟩
  clear c9 c10 c11 HV
  go_enter Try.func10, Try.ntmps10
  go_wp2_with fail
  rw [← eW1]
  clear eW1
  have q0 := H1.out.2.cell 0
  have q1 := H1.out.2.cell 1
  simp only [List.getElem?_toArray, List.getElem?_cons_succ, List.getElem?_cons_zero] at q0 q1
  have qs := H1.out.2.soft
  have e9 : W1.drew.cell? ⟨p, 9, none⟩ = some (.string e.1) := d9
  have e10 : W1.drew.cell? ⟨p, 10, none⟩ = some (.string e.2) := d10
  have e11 : W1.drew.cell? ⟨p, 11, none⟩ = some (.bool b) := d11
  have HST : Hid (∀ u v : Value, (((W1.setCell ⟨w.heap.size, 0, none⟩ u).setCell ⟨w.heap.size, 1, none⟩ v).drew.cell? ⟨p, 9, none⟩ = some (.string e.1) ∧ ((W1.setCell ⟨w.heap.size, 0, none⟩ u).setCell ⟨w.heap.size, 1, none⟩ v).drew.cell? ⟨p, 10, none⟩ = some (.string e.2) ∧ ((W1.setCell ⟨w.heap.size, 0, none⟩ u).setCell ⟨w.heap.size, 1, none⟩ v).drew.cell? ⟨p, 11, none⟩ = some (.bool b))) := fun u v => by
    have k : ((W1.setCell ⟨w.heap.size, 0, none⟩ u).setCell ⟨w.heap.size, 1, none⟩ v).heap[p]? = W1.heap[p]? := (Below.heap_setCell _ _ _ _ hne).trans (Below.heap_setCell _ _ _ _ hne)
    have key : ∀ V : World, V.heap[p]? = W1.heap[p]? → V.drew.cell? ⟨p, 9, none⟩ = some (.string e.1) ∧ V.drew.cell? ⟨p, 10, none⟩ = some (.string e.2) ∧ V.drew.cell? ⟨p, 11, none⟩ = some (.bool b) := fun V hV => by
      have c : ∀ j, V.drew.cell? ⟨p, j, none⟩ = W1.cell? ⟨p, j, none⟩ := fun j => by
        show V.cell? ⟨p, j, none⟩ = _
        unfold World.cell?
        rw [hV]
      exact ⟨(c 9).trans d9, (c 10).trans d10, (c 11).trans d11⟩
    exact key _ k
  go_region_held3 (fun V => V.cell? ⟨p, 9, none⟩ = some (.string e.1) ∧ V.cell? ⟨p, 10, none⟩ = some (.string e.2) ∧ V.cell? ⟨p, 11, none⟩ = some (.bool b)) (first | with_reducible exact ⟨e9, e10, e11⟩ | with_reducible exact HST.out _ _ | go_keep) (fail)
  clear HST q0 q1 qs e9 e10 e11 d9 d10 d11
  generalize ((W1.setCell ⟨w.heap.size, 0, none⟩ (.string e.1)).setCell ⟨w.heap.size, 1, none⟩ (.string e.2)).drew = W2 at HF ⊢
  have r0 := HF.out.2.cell 0
  have r1 := HF.out.2.cell 1
  simp only [List.getElem?_toArray, List.getElem?_cons_succ, List.getElem?_cons_zero] at r0 r1
  go_wp2
  exact bodyPost_ret (v := .tuple #[.agg #[.string e.1, .string e.2], .bool b]) (by simp [results, Try.results10, go_sem, r0, r1]) rfl ⟨rfl, HF.out.1⟩
end
theorem wf_all {L : List (List KV)} (h : WfLs L) : WfS (allL L) := fun e he => by
  obtain ⟨l, hl, hel⟩ := List.mem_flatten.1 ((perm_flat L).mem_iff.1 he)
  exact h l hl e hel
set_option maxRecDepth 100000 in
set_option maxHeartbeats 4000000 in
theorem new_17 (a : Option Addr) (n c : Nat) (L : List (List KV)) (s : Nat) (w : World) (h : LsAt w a n c L) (hf : FewV L) (hs : s < 18446744073709551616) :
    Calls Try.prog 6 #[.slice a n c, .int .u64 (s : Int)] w fun e w' => Below w.heap.size w w' ∧ ((RiseL L ∧ ∃ p R, e = .returned (.tuple #[at_ p, .int .i64 0]) ∧ Vw17 w' R p (seenL s (allL L)) none ∧ ∀ k, R k → w.heap.size ≤ k) ∨ (¬ RiseL L ∧ e = .returned (.tuple #[nilVw, .int .i64 160]))) := by
  have HFV : Hid (FewV L ∧ s < 18446744073709551616) := ⟨hf, hs⟩
  have HN := new_16 a n c L w h ⟨hf.1, hf.2.1⟩
  clear h hf hs
  go_enter Try.func6, Try.ntmps6
  go_wp2_with fail
  refine HN.mono ?_
  clear HN
  rintro _ w1 ⟨hb1, hc⟩
  have HB : Hid (Below w.heap.size w w1) := hb1
  clear hb1
  rcases hc with ⟨hr, p0, R0, rfl, hm, hge⟩ | ⟨hr, rfl⟩
  · obtain ⟨RL, la, lc, x, hv, hit, _⟩ := hm
    have HIT : Hid (It w1 R0 RL p0 la lc L x false hv ∧ RiseL L ∧ ∀ k, R0 k → w.heap.size ≤ k) := ⟨hit, hr, hge⟩
    have x0 := hit.box.cell 0
    have x1 := hit.box.cell 1
    have x2 := hit.box.cell 2
    have x3 := hit.box.cell 3
    have x4 := hit.box.cell 4
    simp only [List.getElem?_toArray, List.getElem?_cons_succ, List.getElem?_cons_zero] at x0 x1 x2 x3 x4
    clear hit hr hge
    have HF : Hid (Below w.heap.size w (w1.alloc (.cells #[.slice la L.length lc, .int .i64 (x.1 : Int), .int .i64 (x.2 : Int), .bool false, hv, .int .u64 (s : Int), .bool false, .nilFunc, .nilFunc, .string ⟨#[]⟩, .string ⟨#[]⟩, .bool false] TVw)) ∧ Vw17 (w1.alloc (.cells #[.slice la L.length lc, .int .i64 (x.1 : Int), .int .i64 (x.2 : Int), .bool false, hv, .int .u64 (s : Int), .bool false, .nilFunc, .nilFunc, .string ⟨#[]⟩, .string ⟨#[]⟩, .bool false] TVw)) (fun k => k = w1.heap.size ∨ RL k) w1.heap.size (seenL s (allL L)) none ∧ ∀ k, (k = w1.heap.size ∨ RL k) → w.heap.size ≤ k) := by
      have hit := HIT.out.1
      have hlt : ∀ k, RL k → k < w1.heap.size := fun k hk => hit.lt k (hit.rl k hk)
      refine ⟨HB.out.alloc HB.out.size _, ⟨L, s, ⟨.int .u64 (s : Int), .bool false, .nilFunc, .nilFunc, .string ⟨#[]⟩, .string ⟨#[]⟩, .bool false⟩, none, ⟨RL, la, lc, x, hv, ⟨Box.new _ _ _, fun k hk => ?_, ⟨.inl rfl, fun hr => Nat.lt_irrefl _ (hlt _ hr)⟩, fun k hk => .inr hk, hit.ls.kept fun k hk => Below.heap_alloc w1 _ k (hlt k hk), hit.rise, hit.few⟩, fun i e => by cases e⟩, rfl, HFV.out.2, wf_all HFV.out.1.2.2, rfl, rfl, fun _ => ⟨rfl, rfl⟩, fun k e => by cases e⟩, fun k hk => ?_⟩
      · rcases hk with rfl | hk
        · simp
        · have := hlt k hk
          simp; omega
      · rcases hk with rfl | hk
        · exact HB.out.size
        · exact HIT.out.2.2 k (hit.rl k hk)
    have HR : Hid (RiseL L) := HIT.out.2.1
    clear HIT HB HFV
    go_wp2
    go_ret2
    exact ⟨HF.out.1, .inl ⟨HR.out, w1.heap.size, _, ret2 rfl rfl, HF.out.2.1, HF.out.2.2⟩⟩
  · have HR : Hid (¬ RiseL L) := hr
    clear hr
    go_wp2
    go_ret2
    exact ⟨HB.out, .inr ⟨HR.out, ret2 rfl rfl⟩⟩
set_option maxRecDepth 100000 in
set_option maxHeartbeats 1000000 in
theorem vnil_first (w : World) : Calls Try.prog 9 #[nilVw] w fun e w' => e = .returned (.tuple #[]) ∧ Below w.heap.size w w' := by
  go_enter Try.func9, Try.ntmps9
  go_wp2
  go_end0
  exact ⟨rfl, (Below.refl _ _)⟩
set_option maxRecDepth 100000 in
set_option maxHeartbeats 1000000 in
theorem vnil_next (w : World) : Calls Try.prog 11 #[nilVw] w fun e w' => e = .returned (.tuple #[]) ∧ Below w.heap.size w w' := by
  go_enter Try.func11, Try.ntmps11
  go_wp2
  go_end0
  exact ⟨rfl, (Below.refl _ _)⟩
set_option maxRecDepth 100000 in
set_option maxHeartbeats 1000000 in
theorem vnil_prev (w : World) : Calls Try.prog 12 #[nilVw] w fun e w' => e = .returned (.tuple #[]) ∧ Below w.heap.size w w' := by
  go_enter Try.func12, Try.ntmps12
  go_wp2
  go_end0
  exact ⟨rfl, (Below.refl _ _)⟩
set_option maxRecDepth 100000 in
set_option maxHeartbeats 1000000 in
theorem vnil_at (w : World) : Calls Try.prog 10 #[nilVw] w fun e w' => e = .returned (.tuple #[.agg (itA i0), .bool false]) ∧ Below w.heap.size w w' := by
  go_enter Try.func10, Try.ntmps10
  go_wp2
  exact bodyPost_ret (v := .tuple #[.agg #[.string ⟨#[]⟩, .string ⟨#[]⟩], .bool false]) (by simp [results, Try.results10, go_sem]) rfl ⟨rfl, (Below.refl _ _).alloc (Nat.le_refl _) _⟩
theorem vw17 : VwOk Vw17 where
  kept := vw_kept
  lt := vw_lt
  fit := vw_fit
  new := new_17
  first := first_17
  next := next_17
  prev := prev_17
  at' := at_17
end Go.Proofs.Ytjoamhcehpjepab
