/- The walk of ManifestWrites. -/
import Derived.Test.YtmlfbihlbiikeaaGreatDoorQd37
import Derived.Test.YtmlfbihlbiikeaaGreatDoorQd26
import Derived.Test.YtmlfbihlbiikeaaGreatDoorQd49
import Derived.Deep.DeepCutAuto
namespace Go.Proofs.YtmlfbihlbiikeaaGreatDoor
open Go.RowKit
set_option linter.unusedVariables false
set_option linter.unusedSimpArgs false
set_option maxRecDepth 100000
def f2 : PF := ⟨2, 0, 0, ⟨ByteArray.empty, 0, 0⟩, ⟨ByteArray.empty, 0, 0⟩⟩
def badS (s : PSt) : PSt := ⟨s.num, s.v.upd 1 (s.v 1 ++ [f2]), s.log, s.next, s.last⟩
theorem bad_chk (s : PSt) : chkS (badS s) = 140 := by
  have h : ¬ VOk (badS s).v := fun h => by
    have h1 : f2 ∈ (badS s).v.all := by
      unfold PV.all badS
      simp [PV.upd]
    have h2 := h.errs f2 h1
    revert h2
    decide
  unfold chkS
  rw [chkV_no h]
  rfl
theorem bad_write (s : PSt) (S : PFs) : writeP (badS s) S = (S, 140) := by
  unfold writeP
  rw [bad_chk]
  rfl
theorem bad_len {s : PSt} (h : s.v.all.length ≤ 6000) : (badS s).v.all.length ≤ 60000 := by
  have : (badS s).v.all.length = s.v.all.length + 1 := by
    unfold PV.all badS
    simp [PV.upd]
    omega
  omega
theorem bad_wf {s : PSt} (h : WfV s.v) : WfV (badS s).v := fun n hn f hf => by
  by_cases h1 : n = 1
  · subst h1
    have e : (badS s).v 1 = s.v 1 ++ [f2] := by simp [badS, PV.upd]
    rw [e] at hf
    rcases List.mem_append.1 hf with hf | hf
    · exact h 1 hn f hf
    · obtain rfl := List.mem_singleton.1 hf
      refine ⟨?_, ?_⟩ <;> decide
  · have e : (badS s).v n = s.v n := by simp [badS, PV.upd, h1]
    rw [e] at hf
    exact h n hn f hf
theorem bad_rows {W w9 : World} {B : Nat} {v : PV} {t : SV} {a' : Option Addr} {c' : Nat} (h : OwnV W B v t) (hap : ApV 4 t) (hg : W.grownBy w9 (blkOf (t.a 1))) (ho : OwnF w9 B a' ((v 1).length + 1) c' (v 1 ++ [f2])) : OwnV w9 B (v.upd 1 (v 1 ++ [f2])) (t.upd 1 a' c') := fun n hn => by
  by_cases e : n = 1
  · subst e
    simp only [PV.upd, SV.upd, if_true]
    rw [List.length_append]
    exact ho
  · simp only [PV.upd, SV.upd, if_neg e]
    exact (h n hn).kept fun g hk => hg.block g (tag_lt ((h n hn).tag hk)) fun e2 => hap n 1 hn (by decide) e g hk e2.symm
set_option maxHeartbeats 8000000 in
theorem manifestWrites_walk (a0 : Option Addr) (n0 c0 : Nat) (l0 : List (PE × SE)) (a1 : Option Addr) (n1 c1 : Nat) (l1 : List (PE × SE)) (last : Nat) (a3 : Option Addr) (n3 c3 : Nat) (b3 : List Int) (w : World) (h0 : EsAt w a0 n0 c0 l0) (e0 : n0 * 72 ≤ 140737488351232) (h1 : EsAt w a1 n1 c1 l1) (e1 : n1 * 72 ≤ 140737488351232) (w2 : (Lit.int .u64 (last : Int)).wf = true) (h3 : IsAt w a3 n3 c3 b3) (hg : Gl w) (h6 : 6 ≤ w.heap.size) :
    Calls Tryz.prog 6 #[.slice a0 n0 c0, .slice a1 n1 c1, .int .u64 (last : Int), .slice a3 n3 c3] w fun e w' => e = .returned (.bool true) ∧ Below w.heap.size w w' := by
  have hla : last < 18446744073709551616 := by simp [Lit.wf, IntKind.min, IntKind.max, IntKind.bits, IntKind.signed] at w2; omega
  have HA := awake_yes w hg h6
  have HARG : Hid (EsAt w a0 n0 c0 l0 ∧ EsAt w a1 n1 c1 l1 ∧ IsAt w a3 n3 c3 b3 ∧ n0 ≤ 2000000000000 ∧ n1 ≤ 2000000000000 ∧ last < 18446744073709551616 ∧ Gl w ∧ 6 ≤ w.heap.size) := ⟨h0, h1, h3, by omega, by omega, hla, hg, h6⟩
  clear w2 h0 e0 h1 e1 h3 hg h6 hla
  go_enter Tryz.func6, Tryz.ntmps6
  go_wp2_with fail
  refine HA.mono ?_
  rintro _ wa ⟨rfl, hba⟩
  have HRA : Hid (EsAt wa a0 n0 c0 l0 ∧ EsAt wa a1 n1 c1 l1 ∧ IsAt wa a3 n3 c3 b3 ∧ Gl wa ∧ 6 ≤ wa.heap.size ∧ Below w.heap.size w wa) := ⟨HARG.out.1.below hba, HARG.out.2.1.below hba, HARG.out.2.2.1.below (Nat.le_refl _) hba, HARG.out.2.2.2.2.2.2.1.later hba, Nat.le_trans HARG.out.2.2.2.2.2.2.2 hba.size, hba⟩
  have HNN : Hid (n0 ≤ 2000000000000 ∧ n1 ≤ 2000000000000 ∧ last < 18446744073709551616) := ⟨HARG.out.2.2.2.1, HARG.out.2.2.2.2.1, HARG.out.2.2.2.2.2.1⟩
  clear HA hba HARG
  have HN := fw_new fsOk 1048576 (by decide) HRA.out.2.2.2.1 HRA.out.2.2.2.2.1
  go_wp2_with fail
  refine HN.mono ?_
  rintro _ w1 ⟨p, R1, rfl, h1⟩
  have HS5 := fw_state fsOk h1 5 last a0 n0 c0 l0 (HRA.out.1.below h1.base) HNN.out.1 (by decide) HNN.out.2.2
  have HD5 : Hid (Std 5 (stateP 5 last (l0.map Prod.fst)) ∧ (stateP 5 last (l0.map Prod.fst)).v.all.length ≤ 600) := ⟨state_std 5 last _ (by decide) (by decide), (state_st 5 last _).few⟩
  generalize stateP 5 last (l0.map Prod.fst) = s5 at HS5 HD5
  clear HN h1
  go_wp2_with fail
  refine HS5.mono ?_
  rintro _ w2 ⟨t5, rfl, R2, h2, n2', v5⟩
  obtain ⟨W3, R3, eW3, h3, n3', b5⟩ := Fw.box2 fsOk h2 s5 v5
  have HS9 := fw_state fsOk h3 9 last a1 n1 c1 l1 (HRA.out.2.1.below h3.base) HNN.out.2.1 (by decide) HNN.out.2.2
  have HD9 : Hid (Std 9 (stateP 9 last (l1.map Prod.fst))) := state_std 9 last _ (by decide) (by decide)
  generalize stateP 9 last (l1.map Prod.fst) = s9 at HS9 HD9
  have HB3 : Hid (SB W3 R3 w2.heap.size s5 t5) := b5
  clear HS5 h2 n2' v5 h3 n3' b5
  go_wp2_with fail
  rw [← eW3.out]
  clear eW3
  generalize w2.heap.size = q5 at HB3 ⊢
  refine HS9.mono ?_
  rintro _ w4 ⟨t9, rfl, R4, h4, n4, v9⟩
  obtain ⟨W5, R5, eW5, h5, n5, b9⟩ := Fw.box2 fsOk h4 s9 v9
  have HB5 : Hid (SB W5 R5 q5 s5 t5 ∧ SB W5 R5 w4.heap.size s9 t9) := ⟨(HB3.out.nx n4).nx n5, b9⟩
  obtain ⟨W6, R6, eW6, h6, n6, b14⟩ := Fw.box2 fsOk h5 s5 HB5.out.1.vs
  have HB6 : Hid (SB W6 R6 q5 s5 t5 ∧ SB W6 R6 w4.heap.size s9 t9 ∧ SB W6 R6 W5.heap.size s5 t5 ∧ Fw D0 wa p (PFs.new 1048576) R6 W6 ∧ W5.heap.size < W6.heap.size ∧ q5 < W5.heap.size ∧ w4.heap.size < W5.heap.size ∧ wa.heap.size ≤ W5.heap.size) := ⟨HB5.out.1.nx n6, HB5.out.2.nx n6, b14, h6, b14.box.lt, HB5.out.1.box.lt, HB5.out.2.box.lt, h5.base.size⟩
  have HOW := rown_apart s5.v t5 W6 HB6.out.2.2.1.vs.at (by have := HD5.out.2; omega)
  obtain ⟨x0, x1, x2, x3, x4, x5, x6, x7⟩ := HB5.out.1.box.eight
  obtain ⟨c0', c1', c2', c3', c4', c5', c6', c7'⟩ := HB6.out.1.box.eight
  clear HS9 h4 n4 v9 HB3 h5 n5 b9 h6 n6 b14 HB5
  go_upto_region 7 with fail
  rw [← eW5.out]
  clear eW5
  go_upto_region 8 with fail
  rw [← eW6.out]
  clear eW6
  clear x0 x1 x2 x3 x4 x5 x6 x7
  generalize w4.heap.size = q9 at HB6 ⊢
  generalize W5.heap.size = q14 at HB6 ⊢
  go_wp2_with fail
  refine HOW.mono ?_
  rintro _ w7 ⟨tq, rfl, HO, hb7, hap⟩
  have H7 : Hid (OwnV w7 W6.heap.size s5.v tq ∧ Below W6.heap.size W6 w7 ∧ ApV 4 tq ∧ Box w7 q14 TSt (sA s5 t5)) := ⟨HO, hb7, hap, HB6.out.2.2.1.box.kept (hb7.block _ HB6.out.2.2.1.box.lt)⟩
  obtain ⟨Z1, eZ1, HZ1⟩ := put4_all H7.out.2.2.2 s5.v tq
  have hq14 : q14 < W6.heap.size := HB6.out.2.2.2.2.1
  have H8 : Hid (OwnV Z1 W6.heap.size s5.v tq ∧ Box Z1 q14 TSt (sA s5 tq) ∧ Chg (fun k => k = q14) W6 Z1 ∧ W6.heap.size ≤ Z1.heap.size) := by
    refine ⟨H7.out.1.kept15 (w' := Z1) fun k hk hB => HZ1.out.2.block k hk (by omega), HZ1.out.1, (Chg.of (R := fun k => k = q14) H7.out.2.1).andThen HZ1.out.2 (fun k _ e => e), Nat.le_trans H7.out.2.1.size HZ1.out.2.size⟩
  have hfr := fun j => H7.out.2.2.2.soft j
  obtain ⟨x0, x1, x2, x3, x4, x5, x6, x7⟩ := H7.out.2.2.2.eight
  obtain ⟨g0, g1, g2, g3, g4, g5, g6, g7⟩ := H8.out.2.1.eight
  have HAP : Hid (ApV 4 tq) := hap
  clear HOW HO hb7 hap c0' c1' c2' c3' c4' c5' c6' c7'
  go_upto_region 9 with fail
  rw [← eZ1]
  clear eZ1 x0 x1 x2 x3 x4 x5 x6 x7 hfr H7
  have hrow := all_le s5.v (n := 1) (by decide)
  have hfew := HD5.out.2
  have HRW : Hid (OwnF (Z1.alloc (.cells (fA f2) TF)) W6.heap.size (tq.a 1) (s5.v 1).length (tq.c 1) (s5.v 1) ∧ W6.heap.size ≤ (Z1.alloc (.cells (fA f2) TF)).heap.size ∧ ((s5.v 1).length + 1) * 88 ≤ 140737488355328) := by
    refine ⟨(H8.out.1 1 (by decide)).alloc _, Nat.le_trans H8.out.2.2.2 (by simp), by omega⟩
  go_wp2_with (at_builtin; refine wpList_appFl (Z1.alloc (.cells (fA f2) TF)) rfl _ _ rfl W6.heap.size (tq.a 1) (s5.v 1).length (tq.c 1) (s5.v 1) rfl HRW.out.1 (some ⟨Z1.heap.size, 0, none⟩) 1 1 [f2] rfl (FlAt.one Z1 f2) HRW.out.2.2 HRW.out.2.1 ?_; intro a' c' w9 ho9 hb9 hg9; have H9 : Hid (OwnV w9 W6.heap.size (s5.v.upd 1 (s5.v 1 ++ [f2])) (tq.upd 1 a' c') ∧ Below W6.heap.size (Z1.alloc (.cells (fA f2) TF)) w9 ∧ Box w9 q14 TSt (sA s5 tq)) := ⟨bad_rows (W := Z1.alloc (.cells (fA f2) TF)) (fun n hn => (H8.out.1 n hn).alloc _) HAP.out hg9 ho9, hb9, (H8.out.2.1.alloc _).kept (hb9.block _ hq14)⟩; have hf9 := fun j => H9.out.2.2.soft j; obtain ⟨y0, y1, y2, y3, y4, y5, y6, y7⟩ := H9.out.2.2.eight; clear ho9 hb9 hg9)
  have HC4 : Hid (Chg (fun k => k = q14) W6 (w9.setCell ⟨q14, 2, none⟩ (.slice a' ((s5.v 1).length + 1) c')) ∧ Chg (fun k => k = q14) w9 (w9.setCell ⟨q14, 2, none⟩ (.slice a' ((s5.v 1).length + 1) c'))) := by
    have C2 : Chg (fun k => k = q14) Z1 (Z1.alloc (.cells (fA f2) TF)) := Chg.of ((Below.refl _ _).alloc (Nat.le_refl _) _)
    have C3 : Chg (fun k => W6.heap.size ≤ k) (Z1.alloc (.cells (fA f2) TF)) w9 := ⟨H9.out.2.1.os, H9.out.2.1.tape, H9.out.2.1.output, H9.out.2.1.size, fun k hk hn => H9.out.2.1.block k (by omega)⟩
    have C4 : Chg (fun k => k = q14) w9 (w9.setCell ⟨q14, 2, none⟩ (.slice a' ((s5.v 1).length + 1) c')) := (Chg.refl (fun k => k = q14) w9).set (fun _ => rfl) _ _
    exact ⟨((H8.out.2.2.1.andThen C2 (fun k _ e => e)).andThen C3 (fun k hk e => absurd e (by omega))).andThen C4 (fun k _ e => e), C4⟩
  obtain ⟨Z2, eZ2⟩ : ∃ Z2, Z2 = w9.setCell ⟨q14, 2, none⟩ (.slice a' ((s5.v 1).length + 1) c') := ⟨_, rfl⟩
  rw [← eZ2] at HC4 ⊢
  clear eZ2
  obtain ⟨R10, hR10, h10⟩ := Fw.chg fsOk HB6.out.2.2.2.1 (HC4.out.1.wide fun k _ e => by rw [e]; exact HB6.out.2.2.1.mine) (HC4.out.1.below (fun k hk => by have := HB6.out.2.2.2.2.2.2.2; omega) (Nat.le_trans HB6.out.2.2.2.2.2.2.2 (Nat.le_of_lt hq14)))
  have HB10 : Hid (SB Z2 R10 q5 s5 t5 ∧ SB Z2 R10 q9 s9 t9) := ⟨(HB6.out.1.other (by have := HB6.out.2.2.2.2.2.1; omega) HB6.out.2.2.1.box HC4.out.1.block).more hR10, (HB6.out.2.1.other (by have := HB6.out.2.2.2.2.2.2.1; omega) HB6.out.2.2.1.box HC4.out.1.block).more hR10⟩
  have HWB : Calls Tryz.prog 25 #[at_ p, .agg #[.int .u64 (s5.num : Int), .slice (tq.a 0) (s5.v 0).length (tq.c 0), .slice a' ((s5.v 1).length + 1) c', .slice (tq.a 2) (s5.v 2).length (tq.c 2), .slice (tq.a 3) (s5.v 3).length (tq.c 3), .int .u64 (s5.log : Int), .int .u64 (s5.next : Int), .int .u64 (s5.last : Int)]] Z2 (fun e w' => e = .returned (.int .i64 140) ∧ FR D0 wa p (PFs.new 1048576) R10 Z2 w') := by
    have h := fw_write fsOk h10 (badS s5) (tq.upd 1 a' c') (by decide) ((H9.out.1.kept15 (w' := Z2) fun k hk hB => HC4.out.2.block k hk (by omega)).at) (bad_wf HB6.out.1.vs.wf) (bad_len (Nat.le_trans hfew (by decide))) (by show s5.num < _; rw [HD5.out.1.num]; decide)
    rw [bad_write] at h
    have e : sV (badS s5) (tq.upd 1 a' c') = .agg #[.int .u64 (s5.num : Int), .slice (tq.a 0) (s5.v 0).length (tq.c 0), .slice a' ((s5.v 1).length + 1) c', .slice (tq.a 2) (s5.v 2).length (tq.c 2), .slice (tq.a 3) (s5.v 3).length (tq.c 3), .int .u64 (s5.log : Int), .int .u64 (s5.next : Int), .int .u64 (s5.last : Int)] := by
      simp [badS, PV.upd, SV.upd]
    rw [e] at h
    exact h
  clear HC4 h10 hR10 H9 H8 HRW HAP y0 y1 y2 y3 y4 y5 y6 y7 g0 g1 g2 g3 g4 g5 g6 g7 hf9 HB6
  refine HWB.mono ?_
  rintro _ w11 ⟨rfl, R11, h11, n11⟩
  have HB11 : Hid (SB w11 R11 q5 s5 t5 ∧ SB w11 R11 q9 s9 t9) := ⟨HB10.out.1.nx n11, HB10.out.2.nx n11⟩
  have HWR := fw_write fsOk h11 s5 t5 (by decide) HB11.out.1.vs.at HB11.out.1.vs.wf HD5.out.1.few (by rw [HD5.out.1.num]; decide)
  have hnm5 : nameP 3 s5.num = manD 53 := by rw [HD5.out.1.num]; exact name_5
  have hnm9 : nameP 3 s9.num = manD 57 := by rw [HD9.out.num]; exact name_9
  obtain ⟨k12, ek, hk12⟩ := write_new HD5.out.1.chk (by rw [hnm5]; exact fresh_5) (Nat.le_trans HD5.out.1.len (by decide))
  rw [ek] at HWR
  dsimp only at HWR
  have hBase : Base (cr1 (nameP 3 s5.num) s5.bytes) (nameP 3 s5.num) s5.bytes 2 1 := cr1_base s5.bytes (man_mn (by rw [HD5.out.1.num]; decide) (by rw [HD5.out.1.num]; decide)).1 (by rw [hnm5]; exact fresh_5)
  have hmn9 : Mn (nameP 3 s9.num) := (man_mn (by rw [HD9.out.num]; decide) (by rw [HD9.out.num]; decide)).1
  have hBase9 : Base (endW (cr1 (nameP 3 s5.num) s5.bytes) (nameP 3 s9.num) s9.bytes) (nameP 3 s9.num) s9.bytes 5 4 := end_base s9.bytes hmn9 hBase.idx hBase.full
  have HNM : Hid (Fine k12 12 ∧ Base (cr1 (nameP 3 s5.num) s5.bytes) (nameP 3 s5.num) s5.bytes 2 1 ∧ Base (endW (cr1 (nameP 3 s5.num) s5.bytes) (nameP 3 s9.num) s9.bytes) (nameP 3 s9.num) s9.bytes 5 4 ∧ nameP 3 s9.num ≠ nameP 3 s5.num ∧ Mn (nameP 3 s9.num)) := ⟨hk12, hBase, hBase9, by rw [hnm5, hnm9]; decide, hmn9⟩
  obtain ⟨c0', c1', c2', c3', c4', c5', c6', c7'⟩ := HB11.out.1.box.eight
  clear HWB h11 n11 HB10 ek hk12 hBase hmn9 hBase9 hnm5 hnm9
  go_wp2_with fail
  refine HWR.mono ?_
  rintro _ w12 ⟨rfl, R12, h12, n12⟩
  have HB12 : Hid (SB w12 R12 q5 s5 t5 ∧ SB w12 R12 q9 s9 t9) := ⟨HB11.out.1.nx n12, HB11.out.2.nx n12⟩
  have HCR := fw_crash fsOk h12 a3 n3 c3 b3 HRA.out.2.2.1
  obtain ⟨k13, hq13, hu13, ha13, ecr⟩ := HNM.out.2.1.crash k12 b3
  rw [ecr] at HCR
  have HK13 : Hid (k13.quiet ∧ k13.quota = 1048576 ∧ k13.asked ≤ 12) := ⟨hq13, by rw [hu13]; exact HNM.out.1.quota, by rw [ha13]; exact HNM.out.1.asked⟩
  clear HWR h12 n12 HB11 ecr hq13 hu13 ha13 c0' c1' c2' c3' c4' c5' c6' c7'
  go_wp2_with fail
  refine HCR.mono ?_
  rintro _ w13 ⟨rfl, R13, h13, n13⟩
  have HB13 : Hid (SB w13 R13 q5 s5 t5 ∧ SB w13 R13 q9 s9 t9) := ⟨HB12.out.1.nx n13, HB12.out.2.nx n13⟩
  have HLD := fw_loadW fsOk h13 HK13.out.1 (by rw [HD5.out.1.num]; decide) HNM.out.2.1.holds (Nat.le_trans HD5.out.1.len (by decide)) HD5.out.1.ok.errs (Nat.le_trans HD5.out.1.edl (by decide)) HD5.out.1.told
  clear HCR h13 n13 HB12
  go_wp2_with fail
  refine HLD.mono ?_
  rintro _ w14 ⟨tx, rfl, R14, h14, n14, vx⟩
  obtain ⟨W15, R15, eW15, h15, n15, bX⟩ := Fw.box2 fsOk h14 s5 vx
  have HB15 : Hid (SB W15 R15 q5 s5 t5 ∧ SB W15 R15 q9 s9 t9 ∧ SB W15 R15 w14.heap.size s5 tx) := ⟨(HB13.out.1.nx n14).nx n15, (HB13.out.2.nx n14).nx n15, bX⟩
  have HSA := fw_same fsOk h15 HB15.out.2.2.vs.at HB15.out.1.vs.at
  obtain ⟨c0', c1', c2', c3', c4', c5', c6', c7'⟩ := HB15.out.1.box.eight
  obtain ⟨g0', g1', g2', g3', g4', g5', g6', g7'⟩ := HB15.out.2.2.box.eight
  clear HLD h14 n14 vx HB13 h15 n15 bX
  go_upto_region 14 with fail
  rw [← eW15.out]
  clear eW15
  generalize w14.heap.size = q15 at HB15 g0' g1' g2' g3' g4' g5' g6' g7' ⊢
  go_wp2_with fail
  refine HSA.mono ?_
  rintro _ w16 ⟨bo, rfl, hbo, R16, h16, n16⟩
  obtain rfl : bo = true := hbo (PSt.Like.refl _)
  have HB16 : Hid (SB w16 R16 q9 s9 t9) := HB15.out.2.1.nx n16
  clear HSA c0' c1' c2' c3' c4' c5' c6' c7' g0' g1' g2' g3' g4' g5' g6' g7' HB15 hbo
  have HW9 := fw_write fsOk h16 s9 t9 (by have := HK13.out.2.2; show k13.asked < _; omega) HB16.out.vs.at HB16.out.vs.wf HD9.out.few (by rw [HD9.out.num]; decide)
  obtain ⟨k17, ew, hk17⟩ := write_next (s := s9) (c := cr1 (nameP 3 s5.num) s5.bytes) (k := k13) (n := 12) HD9.out.chk (cr1_find _ HNM.out.2.2.2.1 HNM.out.2.2.2.2.cur) HNM.out.2.1.tmp HNM.out.2.1.idx (by rw [cr1_bulk]; have h1 := HD5.out.1.len; have h2 := HD9.out.len; have h3 := (man_mn (n := s5.num) (by rw [HD5.out.1.num]; decide) (by rw [HD5.out.1.num]; decide)).2; omega) ⟨HK13.out.1, HK13.out.2.1, HK13.out.2.2⟩
  rw [ew] at HW9
  dsimp only at HW9
  have HK17 : Hid (Fine k17 24) := hk17
  obtain ⟨c0', c1', c2', c3', c4', c5', c6', c7'⟩ := HB16.out.box.eight
  clear h16 n16 ew hk17
  go_wp2_with fail
  refine HW9.mono ?_
  rintro _ w17 ⟨rfl, R17, h17, n17⟩
  have HB17 : Hid (SB w17 R17 q9 s9 t9) := HB16.out.nx n17
  have HCR := fw_crash fsOk h17 a3 n3 c3 b3 HRA.out.2.2.1
  obtain ⟨k18, hq18, hu18, ha18, ecr⟩ := HNM.out.2.2.1.crash k17 b3
  rw [ecr] at HCR
  have HK18 : Hid (k18.quiet ∧ k18.quota = 1048576 ∧ k18.asked ≤ 24) := ⟨hq18, by rw [hu18]; exact HK17.out.quota, by rw [ha18]; exact HK17.out.asked⟩
  clear HW9 h17 n17 HB16 ecr hq18 hu18 ha18 c0' c1' c2' c3' c4' c5' c6' c7'
  go_wp2_with fail
  refine HCR.mono ?_
  rintro _ w18 ⟨rfl, R18, h18, n18⟩
  have HB18 : Hid (SB w18 R18 q9 s9 t9) := HB17.out.nx n18
  have HLD := fw_loadW fsOk h18 HK18.out.1 (by rw [HD9.out.num]; decide) HNM.out.2.2.1.holds (Nat.le_trans HD9.out.len (by decide)) HD9.out.ok.errs (Nat.le_trans HD9.out.edl (by decide)) HD9.out.told
  clear HCR h18 n18 HB17
  go_wp2_with fail
  refine HLD.mono ?_
  rintro _ w19 ⟨ty, rfl, R19, h19, n19, vy⟩
  obtain ⟨W20, R20, eW20, h20, n20, bY⟩ := Fw.box2 fsOk h19 s9 vy
  have HB20 : Hid (SB W20 R20 q9 s9 t9 ∧ SB W20 R20 w19.heap.size s9 ty) := ⟨(HB18.out.nx n19).nx n20, bY⟩
  have HSA := fw_same fsOk h20 HB20.out.2.vs.at HB20.out.1.vs.at
  obtain ⟨c0', c1', c2', c3', c4', c5', c6', c7'⟩ := HB20.out.1.box.eight
  obtain ⟨g0', g1', g2', g3', g4', g5', g6', g7'⟩ := HB20.out.2.box.eight
  clear HLD h19 n19 vy HB18 h20 n20 bY
  go_upto_region 19 with fail
  rw [← eW20.out]
  clear eW20
  generalize w19.heap.size = q20 at HB20 g0' g1' g2' g3' g4' g5' g6' g7' ⊢
  go_wp2_with fail
  refine HSA.mono ?_
  rintro _ w21 ⟨bo, rfl, hbo, R21, h21, n21⟩
  obtain rfl : bo = true := hbo (PSt.Like.refl _)
  have HB21 : Hid (SB w21 R21 q9 s9 t9) := HB20.out.1.nx n21
  clear HSA c0' c1' c2' c3' c4' c5' c6' c7' g0' g1' g2' g3' g4' g5' g6' g7' HB20 hbo
  have HWA := fw_write fsOk h21 s9 t9 (by have := HK18.out.2.2; show k18.asked < _; omega) HB21.out.vs.at HB21.out.vs.wf HD9.out.few (by rw [HD9.out.num]; decide)
  obtain ⟨k22, ew, hk22⟩ := write_again (s := s9) (c := endW (cr1 (nameP 3 s5.num) s5.bytes) (nameP 3 s9.num) s9.bytes) (k := k18) (n := 24) HD9.out.chk HNM.out.2.2.1.man ⟨HK18.out.1, HK18.out.2.1, HK18.out.2.2⟩
  rw [ew] at HWA
  dsimp only at HWA
  have HK22 : Hid (Fine k22 25) := hk22
  obtain ⟨c0', c1', c2', c3', c4', c5', c6', c7'⟩ := HB21.out.box.eight
  clear h21 n21 ew hk22
  go_wp2_with fail
  refine HWA.mono ?_
  rintro _ w22 ⟨rfl, R22, h22, n22⟩
  have HB22 : Hid (SB w22 R22 q9 s9 t9) := HB21.out.nx n22
  have HLD := fw_loadW fsOk h22 HK22.out.quiet (by rw [HD9.out.num]; decide) HNM.out.2.2.1.holds (Nat.le_trans HD9.out.len (by decide)) HD9.out.ok.errs (Nat.le_trans HD9.out.edl (by decide)) HD9.out.told
  clear HWA h22 n22 HB21 c0' c1' c2' c3' c4' c5' c6' c7'
  go_wp2_with fail
  refine HLD.mono ?_
  rintro _ w23 ⟨tz, rfl, R23, h23, n23, vz⟩
  obtain ⟨W24, R24, eW24, h24, n24, bZ⟩ := Fw.box2 fsOk h23 s9 vz
  have HB24 : Hid (SB W24 R24 q9 s9 t9 ∧ SB W24 R24 w23.heap.size s9 tz) := ⟨(HB22.out.nx n23).nx n24, bZ⟩
  have HSA := fw_same fsOk h24 HB24.out.2.vs.at HB24.out.1.vs.at
  obtain ⟨c0', c1', c2', c3', c4', c5', c6', c7'⟩ := HB24.out.1.box.eight
  obtain ⟨g0', g1', g2', g3', g4', g5', g6', g7'⟩ := HB24.out.2.box.eight
  clear HLD h23 n23 vz HB22 h24 n24 bZ
  go_upto_region 22 with fail
  rw [← eW24.out]
  clear eW24
  generalize w23.heap.size = q24 at HB24 g0' g1' g2' g3' g4' g5' g6' g7' ⊢
  go_wp2_with fail
  refine HSA.mono ?_
  rintro _ w25 ⟨bo, rfl, hbo, R25, h25, n25⟩
  obtain rfl : bo = true := hbo (PSt.Like.refl _)
  have HZ : Hid (Below w.heap.size w w25) := HRA.out.2.2.2.2.2.trans (h25.base.mono HRA.out.2.2.2.2.2.size)
  clear HSA c0' c1' c2' c3' c4' c5' c6' c7' g0' g1' g2' g3' g4' g5' g6' g7' HB24 hbo h25 n25
  go_wp2
  try go_ret
  exact ⟨ret1 rfl, HZ.out⟩
end Go.Proofs.YtmlfbihlbiikeaaGreatDoor
