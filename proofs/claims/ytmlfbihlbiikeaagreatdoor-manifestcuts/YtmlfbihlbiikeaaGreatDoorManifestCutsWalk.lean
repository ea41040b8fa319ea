/- The walk of ManifestCuts. -/
import Derived.Test.YtmlfbihlbiikeaaGreatDoorQe48
import Derived.Test.YtmlfbihlbiikeaaGreatDoorQe42
import Derived.Test.YtmlfbihlbiikeaaGreatDoorQe26
import Derived.Deep.DeepCutAuto
import Derived.Deep.RegionHeld3
set_option linter.unusedVariables false
set_option linter.unusedSimpArgs false
set_option maxRecDepth 100000
namespace Go.Proofs.YtmlfbihlbiikeaaGreatDoor
open Go.RowKit
theorem OwnE.made (w : World) : OwnE (w.alloc (.cells #[] TE)) w.heap.size (some ⟨w.heap.size, 0, none⟩) 0 0 [] := ⟨rfl, World.ownsRow_made w #[] 0 (Nat.le_refl _) (Nat.zero_le _) (by simp)⟩
theorem OwnE.less {w : World} {B B' : Nat} {a : Option Addr} {n c : Nat} {l : List (PE × SE)} (h : OwnE w B a n c l) (hB : B' ≤ B) : OwnE w B' a n c l := by
 refine ⟨h.size, h.row.1, ?_⟩
 rcases h.row.2 with h1 | ⟨g, c', cur, h1, h2, h3⟩
 · exact .inl h1
 · exact .inr ⟨g, c', cur, h1, Nat.le_trans hB h2, h3⟩
set_option maxHeartbeats 16000000 in
theorem manifestCuts_walk (a0 : Option Addr) (n0 c0 : Nat) (l0 : List (PE × SE)) (x : PE) (sx : SE) (anew : Bool) (a3 : Int) (a4 : Option Addr) (n4 c4 : Nat) (b4 : List Int) (w : World) (h0 : EsAt w a0 n0 c0 l0) (e0 : n0 * 72 ≤ 140737488351232) (hx : EdAt w x sx) (fx : WfE x) (ex : x.dels.length * 16 ≤ 140737488351232) (gx : x.adds.length * 88 ≤ 140737488351232) (w3 : (Lit.int .i64 a3).wf = true) (h4 : IsAt w a4 n4 c4 b4) (hg : Gl w) (h6 : 6 ≤ w.heap.size) :
 Calls Tryz.prog 7 #[.slice a0 n0 c0, .agg #[.int .u64 (x.log : Int), .int .u64 (x.next : Int), .int .u64 (x.last : Int), .slice sx.a x.dels.length sx.c, .slice sx.a' x.adds.length sx.c'], .bool anew, .int .i64 a3, .slice a4 n4 c4] w fun e w' => e = .returned (.bool true) ∧ Below w.heap.size w w' := by
 have hfa : -9223372036854775808 ≤ a3 ∧ a3 ≤ 9223372036854775807 := by simp [Lit.wf, IntKind.min, IntKind.max, IntKind.bits, IntKind.signed] at w3; omega
 have hb0 : Below w.heap.size w (w.alloc (.cells (eA x sx) TE)) := (Below.refl _ _).alloc (Nat.le_refl _) _
 have HA := awake_yes (w.alloc (.cells (eA x sx) TE)) (hg.later hb0) (Nat.le_trans h6 hb0.size)
 have HARG : Hid (EsAt w a0 n0 c0 l0 ∧ EdAt w x sx ∧ WfE x ∧ IsAt w a4 n4 c4 b4 ∧ Gl w ∧ 6 ≤ w.heap.size ∧ Below w.heap.size w (w.alloc (.cells (eA x sx) TE)) ∧ Box (w.alloc (.cells (eA x sx) TE)) w.heap.size TE (eA x sx)) := ⟨h0, hx, fx, h4, hg, h6, hb0, Box.new _ _ _⟩
 have HSZ : Hid (x.dels.length * 16 ≤ 140737488351232 ∧ x.adds.length * 88 ≤ 140737488351232) := ⟨ex, gx⟩
 have hn0 : n0 ≤ 1990000000000 := by omega
 clear h0 hx fx ex gx w3 h4 hg h6 hb0
 go_enter Tryz.func7, Tryz.ntmps7
 go_wp2_with fail
 refine HA.mono ?_
 rintro _ wa ⟨rfl, hba⟩
 have HRA : Hid (EsAt wa a0 n0 c0 l0 ∧ EdAt wa x sx ∧ WfE x ∧ IsAt wa a4 n4 c4 b4 ∧ Gl wa ∧ 6 ≤ wa.heap.size ∧ Below w.heap.size w wa ∧ Box wa w.heap.size TE (eA x sx)) := by
  have hb := HARG.out.2.2.2.2.2.2.1.trans (hba.mono HARG.out.2.2.2.2.2.2.1.size)
  exact ⟨HARG.out.1.below hb, HARG.out.2.1.below hb, HARG.out.2.2.1, HARG.out.2.2.2.1.below (Nat.le_refl _) hb, HARG.out.2.2.2.2.1.later hb, Nat.le_trans HARG.out.2.2.2.2.2.1 hb.size, hb, HARG.out.2.2.2.2.2.2.2.kept (hba.block _ HARG.out.2.2.2.2.2.2.2.lt)⟩
 have HKX : Hid (∀ W, Below wa.heap.size wa W → Box W w.heap.size TE (eA x sx) ∧ EdAt W x sx) := fun W hW => ⟨HRA.out.2.2.2.2.2.2.2.kept (hW.block _ HRA.out.2.2.2.2.2.2.2.lt), HRA.out.2.1.below hW⟩
 have HQX : Hid (w.heap.size < wa.heap.size) := HRA.out.2.2.2.2.2.2.2.lt
 clear HA hba HARG
 have HN := fw_new fsOk 1048576 (by decide) HRA.out.2.2.2.2.1 HRA.out.2.2.2.2.2.1
 go_wp2_with fail
 refine HN.mono ?_
 rintro _ w1 ⟨p, R1, rfl, h1⟩
 have HS5 := fw_state fsOk h1 5 7 a0 n0 c0 l0 (HRA.out.1.below h1.base) (by omega) (by decide) (by decide)
 have HD5 : Hid (Std 5 (stateP 5 7 (l0.map Prod.fst))) := state_std 5 7 _ (by decide) (by decide)
 have HFEW : Hid ((stateP 5 7 (l0.map Prod.fst)).v.all.length < 60000) := Nat.lt_of_le_of_lt (state_st 5 7 _).few (by decide)
 generalize stateP 5 7 (l0.map Prod.fst) = s5 at HS5 HD5 HFEW
 clear HN h1
 go_wp2_with fail
 refine HS5.mono ?_
 rintro _ w2 ⟨t5, rfl, R2, h2, n2', v5⟩
 obtain ⟨W3, R3, eW3, h3, n3, b5⟩ := Fw.box2 fsOk h2 s5 v5
 have HWR := fw_write fsOk h3 s5 t5 (by decide) b5.vs.at b5.vs.wf HD5.out.few (by rw [HD5.out.num]; decide)
 have hnm5 : nameP 3 s5.num = manD 53 := by rw [HD5.out.num]; exact name_5
 obtain ⟨k4, ek, hk4⟩ := write_new HD5.out.chk (by rw [hnm5]; exact fresh_5) (Nat.le_trans HD5.out.len (by decide))
 rw [ek, hnm5] at HWR
 dsimp only at HWR
 have HB3 : Hid (SB W3 R3 w2.heap.size s5 t5 ∧ Fine k4 12 ∧ wa.heap.size ≤ w2.heap.size) := ⟨b5, hk4, h2.base.size⟩
 obtain ⟨c0', c1', c2', c3', c4', c5', c6', c7'⟩ := HB3.out.1.box.eight
 clear HS5 h2 n2' v5 h3 n3 b5 ek hk4 hnm5
 go_upto_region 6 with fail
 rw [← eW3.out]
 clear eW3
 generalize w2.heap.size = q14 at HB3 c0' c1' c2' c3' c4' c5' c6' c7' ⊢
 go_wp2_with fail
 refine HWR.mono ?_
 rintro _ w5 ⟨rfl, R5, h5, n5⟩
 have HB5 : Hid (SB w5 R5 q14 s5 t5) := HB3.out.1.nx n5
 obtain ⟨W6, R6, eW6, h6, n6, b15⟩ := Fw.box2 fsOk h5 s5 HB5.out.vs
 have HW6 : Hid (Fw D0 wa p (pf (cr1 (manD 53) s5.bytes) k4) R6 W6 ∧ SB W6 R6 q14 s5 t5 ∧ SB W6 R6 w5.heap.size s5 t5 ∧ q14 < w5.heap.size ∧ wa.heap.size ≤ w5.heap.size) := ⟨h6, HB5.out.nx n6, b15, HB5.out.box.lt, h5.base.size⟩
 obtain ⟨x0, x1, x2, x3, x4, x5, x6, x7⟩ := HB5.out.box.eight
 clear HWR h5 n5 h6 n6 b15 HB5 c0' c1' c2' c3' c4' c5' c6' c7'
 go_upto_region 9 with fail
 rw [← eW6.out]
 clear eW6 x0 x1 x2 x3 x4 x5 x6 x7
 generalize w5.heap.size = q15 at HW6 ⊢
 have HK4 : Hid (Fine k4 12 ∧ wa.heap.size ≤ q14) := HB3.out.2
 clear HB3
 go_upto_if 45 with fail
 go_cut [3] (fun xs wz => xs = .int .i64 a3 ∧ ∃ (s2 : PSt) (t2 : SV) (R : Nat → Prop), Hid (Fw D0 wa p (pf (cr1 (manD 53) s5.bytes) k4) R wz ∧ SB wz R q14 s5 t5 ∧ SB wz R q15 s2 t2 ∧ ((anew = true ∧ Std 9 s2) ∨ (anew = false ∧ ∃ u, applyV s5.v x = (0, u) ∧ s2 = s5.turn x u))))
 case first =>
  cases anew with
  | true =>
   have HXW := HKX.out W6 HW6.out.1.base
   have HB6 : Hid (Box W6 w.heap.size TE (eA x sx) ∧ EdAt W6 x sx ∧ EsAt W6 a0 n0 c0 l0 ∧ WfE x) := ⟨HXW.1, HXW.2, HRA.out.1.below HW6.out.1.base, HRA.out.2.2.1⟩
   have hqlt : w.heap.size < W6.heap.size := HXW.1.lt
   have HC : Hid (∀ V : World, Below W6.heap.size W6 V → V.cell? ⟨w.heap.size, 0, none⟩ = some (.int .u64 (x.log : Int)) ∧ V.cell? ⟨w.heap.size, 1, none⟩ = some (.int .u64 (x.next : Int)) ∧ V.cell? ⟨w.heap.size, 2, none⟩ = some (.int .u64 (x.last : Int)) ∧ V.cell? ⟨w.heap.size, 3, none⟩ = some (.slice sx.a x.dels.length sx.c) ∧ V.cell? ⟨w.heap.size, 4, none⟩ = some (.slice sx.a' x.adds.length sx.c')) := fun V hV => (HB6.out.1.kept (hV.block _ HB6.out.1.lt)).five
   have hD : Below W6.heap.size W6 W6.drew := (Below.refl _ _).drew
   have hA : Below W6.heap.size W6 (W6.drew.alloc (.cells #[] TE)) := hD.alloc (Nat.le_refl _) _
   have hX : Below W6.heap.size W6 (W6.drew.alloc (.cells #[.int .u64 (x.log : Int), .int .u64 (x.next : Int), .int .u64 (x.last : Int), .slice sx.a x.dels.length sx.c, .slice sx.a' x.adds.length sx.c'] TE)) := hD.alloc (Nat.le_refl _) _
   have hAX : Below W6.heap.size W6 ((W6.drew.alloc (.cells #[] TE)).alloc (.cells #[.int .u64 (x.log : Int), .int .u64 (x.next : Int), .int .u64 (x.last : Int), .slice sx.a x.dels.length sx.c, .slice sx.a' x.adds.length sx.c'] TE)) := hA.alloc (by simp) _
   have hXA : Below W6.heap.size W6 ((W6.drew.alloc (.cells #[.int .u64 (x.log : Int), .int .u64 (x.next : Int), .int .u64 (x.last : Int), .slice sx.a x.dels.length sx.c, .slice sx.a' x.adds.length sx.c'] TE)).alloc (.cells #[] TE)) := hX.alloc (by simp) _
   have HDD : Hid (Below W6.heap.size W6 (W6.drew.alloc (.cells #[] TE)) ∧ Below W6.heap.size W6 (W6.drew.alloc (.cells #[.int .u64 (x.log : Int), .int .u64 (x.next : Int), .int .u64 (x.last : Int), .slice sx.a x.dels.length sx.c, .slice sx.a' x.adds.length sx.c'] TE)) ∧ Below W6.heap.size W6 ((W6.drew.alloc (.cells #[] TE)).alloc (.cells #[.int .u64 (x.log : Int), .int .u64 (x.next : Int), .int .u64 (x.last : Int), .slice sx.a x.dels.length sx.c, .slice sx.a' x.adds.length sx.c'] TE)) ∧ Below W6.heap.size W6 ((W6.drew.alloc (.cells #[.int .u64 (x.log : Int), .int .u64 (x.next : Int), .int .u64 (x.last : Int), .slice sx.a x.dels.length sx.c, .slice sx.a' x.adds.length sx.c'] TE)).alloc (.cells #[] TE))) := ⟨hA, hX, hAX, hXA⟩
   obtain ⟨y0, y1, y2, y3, y4⟩ := HC.out _ hD
   have HDR : Hid (Below W6.heap.size W6 W6.drew) := hD
   clear hD hA hX hAX hXA HXW
   go_upto_region 10 with fail
   have hmix : Tryz.prog.follows Departure.mixedOrders = true := by kernel_rfl
   refine wp_region_noPanic ?_
   refine wp_region_held_drew (S := fun V => V.cell? ⟨w.heap.size, 0, none⟩ = some (.int .u64 (x.log : Int)) ∧ V.cell? ⟨w.heap.size, 1, none⟩ = some (.int .u64 (x.next : Int)) ∧ V.cell? ⟨w.heap.size, 2, none⟩ = some (.int .u64 (x.last : Int)) ∧ V.cell? ⟨w.heap.size, 3, none⟩ = some (.slice sx.a x.dels.length sx.c) ∧ V.cell? ⟨w.heap.size, 4, none⟩ = some (.slice sx.a' x.adds.length sx.c')) hmix (HC.out _ HDR.out) (fun hHeld => ?_)
   refine wpAnyH_take (i := 1) (v := ?_) rfl (by kernel_rfl) (by kernel_rfl) (by kernel_rfl) (fun _ _ _ h => h) (Or.inl ⟨by rfl, ?_⟩) hHeld ?_
   rotate_left
   · intro wl hSw
     try dsimp only at hSw
     go_simp
     try with_reducible rfl
   try simp only [Act.put, List.getElem_toArray, List.getElem_cons_succ, List.getElem_cons_zero, Array.getInternal_eq_getElem, List.setIfInBounds_toArray, List.set_cons_zero, List.set_cons_succ]
   refine wpAnyH_take (i := 3) (v := ?_) rfl (by kernel_rfl) (by kernel_rfl) (by kernel_rfl) (fun _ _ _ h => h) (Or.inl ⟨by rfl, ?_⟩) hHeld ?_
   rotate_left
   · intro wl hSw
     try dsimp only at hSw
     obtain ⟨l0', l1', l2', l3', l4'⟩ := hSw
     go_simp
     try with_reducible rfl
   try simp only [Act.put, List.getElem_toArray, List.getElem_cons_succ, List.getElem_cons_zero, Array.getInternal_eq_getElem, List.setIfInBounds_toArray, List.set_cons_zero, List.set_cons_succ]
   refine wpAnyH_ready (rs := [0, 4]) (by kernel_rfl) (by simp) ?_
   refine AllReadyH.cons rfl (fun K hK => ?_) ?_
   · skip
     go_simp
     obtain ⟨y0, y1, y2, y3, y4⟩ := HC.out _ HDD.out.1
     clear hHeld
     refine hK.out _ _ (HC.out _ HDD.out.1) (fun hHeld => ?_)
     clear hK K
     try simp only [Act.put, List.getElem_toArray, List.getElem_cons_succ, List.getElem_cons_zero, Array.getInternal_eq_getElem, List.setIfInBounds_toArray, List.set_cons_zero, List.set_cons_succ]
     refine wpAnyH_ready (rs := [2, 4]) (by kernel_rfl) (by simp) ?_
     refine AllReadyH.cons rfl (fun K hK => ?_) ?_
     · skip
       refine step_appE rfl (.tmp 46) (.tmp 47) rfl W6.heap.size (some ⟨W6.heap.size, 0, none⟩) 0 0 [] (by simp [Act.eval]) (OwnE.made W6.drew) a0 n0 c0 l0 (by simp [Act.eval]) HB6.out.2.2.1.size (HB6.out.2.2.1.below HDD.out.1).row (by omega) HDD.out.1.size ?_
       intro a8 c8 w8 ho8 hb8 _
       rw [Nat.zero_add, List.nil_append] at ho8
       rw [Nat.zero_add]
       have HB8 : Hid (Below W6.heap.size W6 w8 ∧ OwnE w8 W6.heap.size a8 n0 c8 l0) := ⟨HDD.out.1.trans hb8, ho8⟩
       clear ho8 hb8 y0 y1 y2 y3 y4
       obtain ⟨y0, y1, y2, y3, y4⟩ := HC.out _ HB8.out.1
       clear hHeld
       refine hK.out _ _ (HC.out _ HB8.out.1) (fun hHeld => ?_)
       clear hK K
       try simp only [Act.put, List.getElem_toArray, List.getElem_cons_succ, List.getElem_cons_zero, Array.getInternal_eq_getElem, List.setIfInBounds_toArray, List.set_cons_zero, List.set_cons_succ]
       refine wpAnyH_ready (rs := [4]) (by kernel_rfl) (by simp) ?_
       refine AllReadyH.cons rfl (fun K hK => ?_) (AllReadyH.nil)
       go_simp
       have H8 : Hid (Below W6.heap.size W6 (w8.alloc (.cells #[.int .u64 (x.log : Int), .int .u64 (x.next : Int), .int .u64 (x.last : Int), .slice sx.a x.dels.length sx.c, .slice sx.a' x.adds.length sx.c'] TE)) ∧ OwnE (w8.alloc (.cells #[.int .u64 (x.log : Int), .int .u64 (x.next : Int), .int .u64 (x.last : Int), .slice sx.a x.dels.length sx.c, .slice sx.a' x.adds.length sx.c'] TE)) W6.heap.size a8 n0 c8 l0 ∧ OwnE (w8.alloc (.cells #[.int .u64 (x.log : Int), .int .u64 (x.next : Int), .int .u64 (x.last : Int), .slice sx.a x.dels.length sx.c, .slice sx.a' x.adds.length sx.c'] TE)) W6.heap.size (some ⟨w8.heap.size, 0, none⟩) 1 1 [(x, sx)]) := ⟨HB8.out.1.alloc HB8.out.1.size _, HB8.out.2.alloc _, OwnE.one w8 W6.heap.size HB8.out.1.size (x, sx)⟩
       obtain ⟨y0, y1, y2, y3, y4⟩ := HC.out _ H8.out.1
       clear hHeld
       refine hK.out _ _ (HC.out _ H8.out.1) (fun hHeld => ?_)
       clear hK K
       try simp only [Act.put, List.getElem_toArray, List.getElem_cons_succ, List.getElem_cons_zero, Array.getInternal_eq_getElem, List.setIfInBounds_toArray, List.set_cons_zero, List.set_cons_succ]
       refine wpAnyH_ready (rs := [5]) (by kernel_rfl) (by simp) ?_
       refine AllReadyH.cons rfl (fun K hK => ?_) (AllReadyH.nil)
       refine step_appE rfl (.tmp 48) (.tmp 50) rfl W6.heap.size a8 n0 c8 l0 (by simp [Act.eval]) H8.out.2.1 (some ⟨w8.heap.size, 0, none⟩) 1 1 [(x, sx)] (by simp [Act.eval]) rfl H8.out.2.2.row5 (by omega) H8.out.1.size ?_
       intro a9 c9 w9 ho9 hb9 _
       have H9 : Hid (Below W6.heap.size W6 w9 ∧ OwnE w9 W6.heap.size a9 (n0 + 1) c9 (l0 ++ [(x, sx)]) ∧ EsAt w9 a9 (n0 + 1) c9 (l0 ++ [(x, sx)])) := by
        have hb := H8.out.1.trans hb9
        refine ⟨hb, ho9, ho9.size, ho9.row5, fun e he => ?_⟩
        rcases List.mem_append.1 he with he | he
        · exact ⟨(HB6.out.2.2.1.each e he).1.below hb, (HB6.out.2.2.1.each e he).2⟩
        · obtain rfl := List.mem_singleton.1 he
          exact ⟨HB6.out.2.1.below hb, HB6.out.2.2.2, HSZ.out.1, HSZ.out.2⟩
       clear ho9 hb9 H8 y0 y1 y2 y3 y4
       obtain ⟨y0, y1, y2, y3, y4⟩ := HC.out _ H9.out.1
       clear hHeld
       refine hK.out _ _ (HC.out _ H9.out.1) (fun hHeld => ?_)
       clear hK K
       try simp only [Act.put, List.getElem_toArray, List.getElem_cons_succ, List.getElem_cons_zero, Array.getInternal_eq_getElem, List.setIfInBounds_toArray, List.set_cons_zero, List.set_cons_succ]
       refine wpAnyH_ready (rs := [6]) (by kernel_rfl) (by simp) ?_
       refine AllReadyH.cons rfl (fun K hK => ?_) (AllReadyH.nil)
       go_simp
       refine (state_any 9 8 a9 (n0 + 1) c9 (l0 ++ [(x, sx)]) w9 H9.out.2.2 (by omega) (by decide) (by decide)).mono ?_
       rintro _ w10 ⟨t9, rfl, ho10, hw10, hb10⟩
       have HD9 : Hid (Std 9 (stateP 9 8 ((l0 ++ [(x, sx)]).map Prod.fst))) := state_std 9 8 _ (by decide) (by decide)
       generalize stateP 9 8 ((l0 ++ [(x, sx)]).map Prod.fst) = s9 at ho10 hw10 HD9
       have H10 : Hid (Below W6.heap.size W6 w10 ∧ OwnV w10 w9.heap.size s9.v t9 ∧ WfV s9.v ∧ Box w10 q15 TSt (sA s5 t5) ∧ W6.heap.size ≤ w9.heap.size) := by
        have hb := H9.out.1.trans (hb10.mono H9.out.1.size)
        exact ⟨hb, ho10, hw10, HW6.out.2.2.1.box.kept (hb.block _ HW6.out.2.2.1.box.lt), H9.out.1.size⟩
       clear ho10 hw10 hb10 H9 y0 y1 y2 y3 y4
       obtain ⟨y0, y1, y2, y3, y4⟩ := HC.out _ H10.out.1
       clear hHeld
       refine hK.out _ _ (HC.out _ H10.out.1) (fun hHeld => ?_)
       clear hK K
       try simp only [Act.put, List.getElem_toArray, List.getElem_cons_succ, List.getElem_cons_zero, Array.getInternal_eq_getElem, List.setIfInBounds_toArray, List.set_cons_zero, List.set_cons_succ]
       refine wpAnyH_ready (rs := [7]) (by kernel_rfl) (by simp) ?_
       refine AllReadyH.cons rfl (fun K hK => ?_) (AllReadyH.nil)
       obtain ⟨c0, c1, c2, c3, c4, c5, c6, c7⟩ := H10.out.2.2.2.1.eight
       have csf : ∀ j, w10.frozen? ⟨q15, j, none⟩ = false := fun j => H10.out.2.2.2.1.soft j
       obtain ⟨Z, eZ, z0, z1, z2, z3, z4, z5, z6, z7, HZ⟩ := put8_all H10.out.2.2.2.1 (.int .u64 (s9.num : Int)) (.slice (t9.a 0) (s9.v 0).length (t9.c 0)) (.slice (t9.a 1) (s9.v 1).length (t9.c 1)) (.slice (t9.a 2) (s9.v 2).length (t9.c 2)) (.slice (t9.a 3) (s9.v 3).length (t9.c 3)) (.int .u64 (s9.log : Int)) (.int .u64 (s9.next : Int)) (.int .u64 (s9.last : Int))
       go_simp
       rw [← eZ]
       have HQ15 : Hid (q14 < q15 ∧ wa.heap.size ≤ q15) := HW6.out.2.2.2
       have HXZ : Hid (Z.cell? ⟨w.heap.size, 0, none⟩ = some (.int .u64 (x.log : Int)) ∧ Z.cell? ⟨w.heap.size, 1, none⟩ = some (.int .u64 (x.next : Int)) ∧ Z.cell? ⟨w.heap.size, 2, none⟩ = some (.int .u64 (x.last : Int)) ∧ Z.cell? ⟨w.heap.size, 3, none⟩ = some (.slice sx.a x.dels.length sx.c) ∧ Z.cell? ⟨w.heap.size, 4, none⟩ = some (.slice sx.a' x.adds.length sx.c')) := ((HB6.out.1.kept (H10.out.1.block _ HB6.out.1.lt)).kept (HZ.out.2.block _ (Nat.lt_of_lt_of_le HB6.out.1.lt H10.out.1.size) (by have h1 := HQX.out; have h2 := HQ15.out.2; omega))).five
       obtain ⟨R11, hR11, hRn11, hf11⟩ := HW6.out.1.call fsOk H10.out.1
       have hn11 : Nx R6 R11 W6 w10 := ⟨hR11, Kp.of H10.out.1⟩
       have hsb15 := HW6.out.2.2.1.nx hn11
       obtain ⟨R12, hR12, hf12⟩ := Fw.chg fsOk hf11 (HZ.out.2.wide fun k _ e => by rw [e]; exact hsb15.mine) (HZ.out.2.below (fun k hk => by rw [hk]; exact HQ15.out.2) hf11.base.size)
       have hvs : VS w10 R11 s9.v t9 := VS.new H10.out.2.1 H10.out.2.2.1 fun k a b => hRn11 k (Nat.le_trans H10.out.2.2.2.2 a) b
       have HFIN : Hid (Fw D0 wa p (pf (cr1 (manD 53) s5.bytes) k4) R12 Z ∧ SB Z R12 q14 s5 t5 ∧ SB Z R12 q15 s9 t9 ∧ ((true = true ∧ Std 9 s9) ∨ (true = false ∧ ∃ u, applyV s5.v x = (0, u) ∧ s9 = s5.turn x u))) := ⟨hf12, ((HW6.out.2.1.nx hn11).other (by have := HQ15.out.1; omega) hsb15.box HZ.out.2.block).more hR12, ⟨HZ.out.1, hR12 _ hsb15.mine, (hvs.other hsb15.box HZ.out.2.block).more hR12⟩, .inl ⟨rfl, HD9.out⟩⟩
       clear hR11 hRn11 hf11 hn11 hsb15 hR12 hf12 hvs HZ c0 c1 c2 c3 c4 c5 c6 c7 csf z0 z1 z2 z3 z4 z5 z6 z7 eZ H10 y0 y1 y2 y3 y4
       clear hHeld
       refine hK.out _ _ HXZ.out (fun hHeld => ?_)
       clear hK K
       try simp only [Act.put, List.getElem_toArray, List.getElem_cons_succ, List.getElem_cons_zero, Array.getInternal_eq_getElem, List.setIfInBounds_toArray, List.set_cons_zero, List.set_cons_succ]
       refine wpAnyH_done (by kernel_rfl) (NoPanic.normal ?_) _
       clear hHeld
       go_wp2_with fail
       go_meet
       exact ⟨rfl, _, _, _, HFIN.out⟩
     refine AllReadyH.cons rfl (fun K hK => ?_) (AllReadyH.nil)
     go_simp
     obtain ⟨y0, y1, y2, y3, y4⟩ := HC.out _ HDD.out.2.2.1
     clear hHeld
     refine hK.out _ _ (HC.out _ HDD.out.2.2.1) (fun hHeld => ?_)
     clear hK K
     try simp only [Act.put, List.getElem_toArray, List.getElem_cons_succ, List.getElem_cons_zero, Array.getInternal_eq_getElem, List.setIfInBounds_toArray, List.set_cons_zero, List.set_cons_succ]
     refine wpAnyH_ready (rs := [2]) (by kernel_rfl) (by simp) ?_
     refine AllReadyH.cons rfl (fun K hK => ?_) (AllReadyH.nil)
     refine step_appE rfl (.tmp 46) (.tmp 47) rfl W6.heap.size (some ⟨W6.heap.size, 0, none⟩) 0 0 [] (by simp [Act.eval]) ((OwnE.made W6.drew).alloc _) a0 n0 c0 l0 (by simp [Act.eval]) HB6.out.2.2.1.size (HB6.out.2.2.1.below HDD.out.2.2.1).row (by omega) HDD.out.2.2.1.size ?_
     intro a8 c8 w8 ho8 hb8 hg8
     rw [Nat.zero_add, List.nil_append] at ho8
     rw [Nat.zero_add]
     have hx8 := OwnE.one (W6.drew.alloc (.cells #[] TE)) W6.heap.size (by simp) (x, sx)
     rw [show (W6.drew.alloc (.cells #[] TE)).heap.size = W6.heap.size + 1 by simp] at hx8
     have H8 : Hid (Below W6.heap.size W6 w8 ∧ OwnE w8 W6.heap.size a8 n0 c8 l0 ∧ OwnE w8 W6.heap.size (some ⟨W6.heap.size + 1, 0, none⟩) 1 1 [(x, sx)]) := ⟨HDD.out.2.2.1.trans hb8, ho8, hx8.kept fun k hk => hg8.block k (tag_lt (hx8.tag hk)) (fun e => by simp [blkOf] at hk e; omega)⟩
     clear ho8 hb8 hg8 hx8 y0 y1 y2 y3 y4
     obtain ⟨y0, y1, y2, y3, y4⟩ := HC.out _ H8.out.1
     clear hHeld
     refine hK.out _ _ (HC.out _ H8.out.1) (fun hHeld => ?_)
     clear hK K
     try simp only [Act.put, List.getElem_toArray, List.getElem_cons_succ, List.getElem_cons_zero, Array.getInternal_eq_getElem, List.setIfInBounds_toArray, List.set_cons_zero, List.set_cons_succ]
     refine wpAnyH_ready (rs := [5]) (by kernel_rfl) (by simp) ?_
     refine AllReadyH.cons rfl (fun K hK => ?_) (AllReadyH.nil)
     refine step_appE rfl (.tmp 48) (.tmp 50) rfl W6.heap.size a8 n0 c8 l0 (by simp [Act.eval]) H8.out.2.1 (some ⟨W6.heap.size + 1, 0, none⟩) 1 1 [(x, sx)] (by simp [Act.eval]) rfl H8.out.2.2.row5 (by omega) H8.out.1.size ?_
     intro a9 c9 w9 ho9 hb9 _
     have H9 : Hid (Below W6.heap.size W6 w9 ∧ OwnE w9 W6.heap.size a9 (n0 + 1) c9 (l0 ++ [(x, sx)]) ∧ EsAt w9 a9 (n0 + 1) c9 (l0 ++ [(x, sx)])) := by
      have hb := H8.out.1.trans hb9
      refine ⟨hb, ho9, ho9.size, ho9.row5, fun e he => ?_⟩
      rcases List.mem_append.1 he with he | he
      · exact ⟨(HB6.out.2.2.1.each e he).1.below hb, (HB6.out.2.2.1.each e he).2⟩
      · obtain rfl := List.mem_singleton.1 he
        exact ⟨HB6.out.2.1.below hb, HB6.out.2.2.2, HSZ.out.1, HSZ.out.2⟩
     clear ho9 hb9 H8 y0 y1 y2 y3 y4
     obtain ⟨y0, y1, y2, y3, y4⟩ := HC.out _ H9.out.1
     clear hHeld
     refine hK.out _ _ (HC.out _ H9.out.1) (fun hHeld => ?_)
     clear hK K
     try simp only [Act.put, List.getElem_toArray, List.getElem_cons_succ, List.getElem_cons_zero, Array.getInternal_eq_getElem, List.setIfInBounds_toArray, List.set_cons_zero, List.set_cons_succ]
     refine wpAnyH_ready (rs := [6]) (by kernel_rfl) (by simp) ?_
     refine AllReadyH.cons rfl (fun K hK => ?_) (AllReadyH.nil)
     go_simp
     refine (state_any 9 8 a9 (n0 + 1) c9 (l0 ++ [(x, sx)]) w9 H9.out.2.2 (by omega) (by decide) (by decide)).mono ?_
     rintro _ w10 ⟨t9, rfl, ho10, hw10, hb10⟩
     have HD9 : Hid (Std 9 (stateP 9 8 ((l0 ++ [(x, sx)]).map Prod.fst))) := state_std 9 8 _ (by decide) (by decide)
     generalize stateP 9 8 ((l0 ++ [(x, sx)]).map Prod.fst) = s9 at ho10 hw10 HD9
     have H10 : Hid (Below W6.heap.size W6 w10 ∧ OwnV w10 w9.heap.size s9.v t9 ∧ WfV s9.v ∧ Box w10 q15 TSt (sA s5 t5) ∧ W6.heap.size ≤ w9.heap.size) := by
      have hb := H9.out.1.trans (hb10.mono H9.out.1.size)
      exact ⟨hb, ho10, hw10, HW6.out.2.2.1.box.kept (hb.block _ HW6.out.2.2.1.box.lt), H9.out.1.size⟩
     clear ho10 hw10 hb10 H9 y0 y1 y2 y3 y4
     obtain ⟨y0, y1, y2, y3, y4⟩ := HC.out _ H10.out.1
     clear hHeld
     refine hK.out _ _ (HC.out _ H10.out.1) (fun hHeld => ?_)
     clear hK K
     try simp only [Act.put, List.getElem_toArray, List.getElem_cons_succ, List.getElem_cons_zero, Array.getInternal_eq_getElem, List.setIfInBounds_toArray, List.set_cons_zero, List.set_cons_succ]
     refine wpAnyH_ready (rs := [7]) (by kernel_rfl) (by simp) ?_
     refine AllReadyH.cons rfl (fun K hK => ?_) (AllReadyH.nil)
     obtain ⟨c0, c1, c2, c3, c4, c5, c6, c7⟩ := H10.out.2.2.2.1.eight
     have csf : ∀ j, w10.frozen? ⟨q15, j, none⟩ = false := fun j => H10.out.2.2.2.1.soft j
     obtain ⟨Z, eZ, z0, z1, z2, z3, z4, z5, z6, z7, HZ⟩ := put8_all H10.out.2.2.2.1 (.int .u64 (s9.num : Int)) (.slice (t9.a 0) (s9.v 0).length (t9.c 0)) (.slice (t9.a 1) (s9.v 1).length (t9.c 1)) (.slice (t9.a 2) (s9.v 2).length (t9.c 2)) (.slice (t9.a 3) (s9.v 3).length (t9.c 3)) (.int .u64 (s9.log : Int)) (.int .u64 (s9.next : Int)) (.int .u64 (s9.last : Int))
     go_simp
     rw [← eZ]
     have HQ15 : Hid (q14 < q15 ∧ wa.heap.size ≤ q15) := HW6.out.2.2.2
     have HXZ : Hid (Z.cell? ⟨w.heap.size, 0, none⟩ = some (.int .u64 (x.log : Int)) ∧ Z.cell? ⟨w.heap.size, 1, none⟩ = some (.int .u64 (x.next : Int)) ∧ Z.cell? ⟨w.heap.size, 2, none⟩ = some (.int .u64 (x.last : Int)) ∧ Z.cell? ⟨w.heap.size, 3, none⟩ = some (.slice sx.a x.dels.length sx.c) ∧ Z.cell? ⟨w.heap.size, 4, none⟩ = some (.slice sx.a' x.adds.length sx.c')) := ((HB6.out.1.kept (H10.out.1.block _ HB6.out.1.lt)).kept (HZ.out.2.block _ (Nat.lt_of_lt_of_le HB6.out.1.lt H10.out.1.size) (by have h1 := HQX.out; have h2 := HQ15.out.2; omega))).five
     obtain ⟨R11, hR11, hRn11, hf11⟩ := HW6.out.1.call fsOk H10.out.1
     have hn11 : Nx R6 R11 W6 w10 := ⟨hR11, Kp.of H10.out.1⟩
     have hsb15 := HW6.out.2.2.1.nx hn11
     obtain ⟨R12, hR12, hf12⟩ := Fw.chg fsOk hf11 (HZ.out.2.wide fun k _ e => by rw [e]; exact hsb15.mine) (HZ.out.2.below (fun k hk => by rw [hk]; exact HQ15.out.2) hf11.base.size)
     have hvs : VS w10 R11 s9.v t9 := VS.new H10.out.2.1 H10.out.2.2.1 fun k a b => hRn11 k (Nat.le_trans H10.out.2.2.2.2 a) b
     have HFIN : Hid (Fw D0 wa p (pf (cr1 (manD 53) s5.bytes) k4) R12 Z ∧ SB Z R12 q14 s5 t5 ∧ SB Z R12 q15 s9 t9 ∧ ((true = true ∧ Std 9 s9) ∨ (true = false ∧ ∃ u, applyV s5.v x = (0, u) ∧ s9 = s5.turn x u))) := ⟨hf12, ((HW6.out.2.1.nx hn11).other (by have := HQ15.out.1; omega) hsb15.box HZ.out.2.block).more hR12, ⟨HZ.out.1, hR12 _ hsb15.mine, (hvs.other hsb15.box HZ.out.2.block).more hR12⟩, .inl ⟨rfl, HD9.out⟩⟩
     clear hR11 hRn11 hf11 hn11 hsb15 hR12 hf12 hvs HZ c0 c1 c2 c3 c4 c5 c6 c7 csf z0 z1 z2 z3 z4 z5 z6 z7 eZ H10 y0 y1 y2 y3 y4
     clear hHeld
     refine hK.out _ _ HXZ.out (fun hHeld => ?_)
     clear hK K
     try simp only [Act.put, List.getElem_toArray, List.getElem_cons_succ, List.getElem_cons_zero, Array.getInternal_eq_getElem, List.setIfInBounds_toArray, List.set_cons_zero, List.set_cons_succ]
     refine wpAnyH_done (by kernel_rfl) (NoPanic.normal ?_) _
     clear hHeld
     go_wp2_with fail
     go_meet
     exact ⟨rfl, _, _, _, HFIN.out⟩
   refine AllReadyH.cons rfl (fun K hK => ?_) (AllReadyH.nil)
   go_simp
   obtain ⟨y0, y1, y2, y3, y4⟩ := HC.out _ HDD.out.2.1
   clear hHeld
   refine hK.out _ _ (HC.out _ HDD.out.2.1) (fun hHeld => ?_)
   clear hK K
   try simp only [Act.put, List.getElem_toArray, List.getElem_cons_succ, List.getElem_cons_zero, Array.getInternal_eq_getElem, List.setIfInBounds_toArray, List.set_cons_zero, List.set_cons_succ]
   refine wpAnyH_ready (rs := [0]) (by kernel_rfl) (by simp) ?_
   refine AllReadyH.cons rfl (fun K hK => ?_) (AllReadyH.nil)
   go_simp
   obtain ⟨y0, y1, y2, y3, y4⟩ := HC.out _ HDD.out.2.2.2
   clear hHeld
   refine hK.out _ _ (HC.out _ HDD.out.2.2.2) (fun hHeld => ?_)
   clear hK K
   try simp only [Act.put, List.getElem_toArray, List.getElem_cons_succ, List.getElem_cons_zero, Array.getInternal_eq_getElem, List.setIfInBounds_toArray, List.set_cons_zero, List.set_cons_succ]
   refine wpAnyH_ready (rs := [2]) (by kernel_rfl) (by simp) ?_
   refine AllReadyH.cons rfl (fun K hK => ?_) (AllReadyH.nil)
   have hm8 := (OwnE.made (W6.drew.alloc (.cells #[.int .u64 (x.log : Int), .int .u64 (x.next : Int), .int .u64 (x.last : Int), .slice sx.a x.dels.length sx.c, .slice sx.a' x.adds.length sx.c'] TE))).less (B' := W6.heap.size) (by simp)
   rw [show (W6.drew.alloc (.cells #[.int .u64 (x.log : Int), .int .u64 (x.next : Int), .int .u64 (x.last : Int), .slice sx.a x.dels.length sx.c, .slice sx.a' x.adds.length sx.c'] TE)).heap.size = W6.heap.size + 1 by simp] at hm8
   refine step_appE rfl (.tmp 46) (.tmp 47) rfl W6.heap.size (some ⟨W6.heap.size + 1, 0, none⟩) 0 0 [] (by simp [Act.eval]) hm8 a0 n0 c0 l0 (by simp [Act.eval]) HB6.out.2.2.1.size (HB6.out.2.2.1.below HDD.out.2.2.2).row (by omega) HDD.out.2.2.2.size ?_
   intro a8 c8 w8 ho8 hb8 hg8
   rw [Nat.zero_add, List.nil_append] at ho8
   rw [Nat.zero_add]
   have hx8 := (OwnE.one W6.drew W6.heap.size (Nat.le_refl _) (x, sx)).alloc (.cells #[] TE)
   have H8 : Hid (Below W6.heap.size W6 w8 ∧ OwnE w8 W6.heap.size a8 n0 c8 l0 ∧ OwnE w8 W6.heap.size (some ⟨W6.heap.size, 0, none⟩) 1 1 [(x, sx)]) := ⟨HDD.out.2.2.2.trans hb8, ho8, hx8.kept fun k hk => hg8.block k (tag_lt (hx8.tag hk)) (fun e => by simp [blkOf] at hk e; omega)⟩
   clear ho8 hb8 hg8 hx8 hm8 y0 y1 y2 y3 y4
   obtain ⟨y0, y1, y2, y3, y4⟩ := HC.out _ H8.out.1
   clear hHeld
   refine hK.out _ _ (HC.out _ H8.out.1) (fun hHeld => ?_)
   clear hK K
   try simp only [Act.put, List.getElem_toArray, List.getElem_cons_succ, List.getElem_cons_zero, Array.getInternal_eq_getElem, List.setIfInBounds_toArray, List.set_cons_zero, List.set_cons_succ]
   refine wpAnyH_ready (rs := [5]) (by kernel_rfl) (by simp) ?_
   refine AllReadyH.cons rfl (fun K hK => ?_) (AllReadyH.nil)
   refine step_appE rfl (.tmp 48) (.tmp 50) rfl W6.heap.size a8 n0 c8 l0 (by simp [Act.eval]) H8.out.2.1 (some ⟨W6.heap.size, 0, none⟩) 1 1 [(x, sx)] (by simp [Act.eval]) rfl H8.out.2.2.row5 (by omega) H8.out.1.size ?_
   intro a9 c9 w9 ho9 hb9 _
   have H9 : Hid (Below W6.heap.size W6 w9 ∧ OwnE w9 W6.heap.size a9 (n0 + 1) c9 (l0 ++ [(x, sx)]) ∧ EsAt w9 a9 (n0 + 1) c9 (l0 ++ [(x, sx)])) := by
    have hb := H8.out.1.trans hb9
    refine ⟨hb, ho9, ho9.size, ho9.row5, fun e he => ?_⟩
    rcases List.mem_append.1 he with he | he
    · exact ⟨(HB6.out.2.2.1.each e he).1.below hb, (HB6.out.2.2.1.each e he).2⟩
    · obtain rfl := List.mem_singleton.1 he
      exact ⟨HB6.out.2.1.below hb, HB6.out.2.2.2, HSZ.out.1, HSZ.out.2⟩
   clear ho9 hb9 H8 y0 y1 y2 y3 y4
   obtain ⟨y0, y1, y2, y3, y4⟩ := HC.out _ H9.out.1
   clear hHeld
   refine hK.out _ _ (HC.out _ H9.out.1) (fun hHeld => ?_)
   clear hK K
   try simp only [Act.put, List.getElem_toArray, List.getElem_cons_succ, List.getElem_cons_zero, Array.getInternal_eq_getElem, List.setIfInBounds_toArray, List.set_cons_zero, List.set_cons_succ]
   refine wpAnyH_ready (rs := [6]) (by kernel_rfl) (by simp) ?_
   refine AllReadyH.cons rfl (fun K hK => ?_) (AllReadyH.nil)
   go_simp
   refine (state_any 9 8 a9 (n0 + 1) c9 (l0 ++ [(x, sx)]) w9 H9.out.2.2 (by omega) (by decide) (by decide)).mono ?_
   rintro _ w10 ⟨t9, rfl, ho10, hw10, hb10⟩
   have HD9 : Hid (Std 9 (stateP 9 8 ((l0 ++ [(x, sx)]).map Prod.fst))) := state_std 9 8 _ (by decide) (by decide)
   generalize stateP 9 8 ((l0 ++ [(x, sx)]).map Prod.fst) = s9 at ho10 hw10 HD9
   have H10 : Hid (Below W6.heap.size W6 w10 ∧ OwnV w10 w9.heap.size s9.v t9 ∧ WfV s9.v ∧ Box w10 q15 TSt (sA s5 t5) ∧ W6.heap.size ≤ w9.heap.size) := by
    have hb := H9.out.1.trans (hb10.mono H9.out.1.size)
    exact ⟨hb, ho10, hw10, HW6.out.2.2.1.box.kept (hb.block _ HW6.out.2.2.1.box.lt), H9.out.1.size⟩
   clear ho10 hw10 hb10 H9 y0 y1 y2 y3 y4
   obtain ⟨y0, y1, y2, y3, y4⟩ := HC.out _ H10.out.1
   clear hHeld
   refine hK.out _ _ (HC.out _ H10.out.1) (fun hHeld => ?_)
   clear hK K
   try simp only [Act.put, List.getElem_toArray, List.getElem_cons_succ, List.getElem_cons_zero, Array.getInternal_eq_getElem, List.setIfInBounds_toArray, List.set_cons_zero, List.set_cons_succ]
   refine wpAnyH_ready (rs := [7]) (by kernel_rfl) (by simp) ?_
   refine AllReadyH.cons rfl (fun K hK => ?_) (AllReadyH.nil)
   obtain ⟨c0, c1, c2, c3, c4, c5, c6, c7⟩ := H10.out.2.2.2.1.eight
   have csf : ∀ j, w10.frozen? ⟨q15, j, none⟩ = false := fun j => H10.out.2.2.2.1.soft j
   obtain ⟨Z, eZ, z0, z1, z2, z3, z4, z5, z6, z7, HZ⟩ := put8_all H10.out.2.2.2.1 (.int .u64 (s9.num : Int)) (.slice (t9.a 0) (s9.v 0).length (t9.c 0)) (.slice (t9.a 1) (s9.v 1).length (t9.c 1)) (.slice (t9.a 2) (s9.v 2).length (t9.c 2)) (.slice (t9.a 3) (s9.v 3).length (t9.c 3)) (.int .u64 (s9.log : Int)) (.int .u64 (s9.next : Int)) (.int .u64 (s9.last : Int))
   go_simp
   rw [← eZ]
   have HQ15 : Hid (q14 < q15 ∧ wa.heap.size ≤ q15) := HW6.out.2.2.2
   have HXZ : Hid (Z.cell? ⟨w.heap.size, 0, none⟩ = some (.int .u64 (x.log : Int)) ∧ Z.cell? ⟨w.heap.size, 1, none⟩ = some (.int .u64 (x.next : Int)) ∧ Z.cell? ⟨w.heap.size, 2, none⟩ = some (.int .u64 (x.last : Int)) ∧ Z.cell? ⟨w.heap.size, 3, none⟩ = some (.slice sx.a x.dels.length sx.c) ∧ Z.cell? ⟨w.heap.size, 4, none⟩ = some (.slice sx.a' x.adds.length sx.c')) := ((HB6.out.1.kept (H10.out.1.block _ HB6.out.1.lt)).kept (HZ.out.2.block _ (Nat.lt_of_lt_of_le HB6.out.1.lt H10.out.1.size) (by have h1 := HQX.out; have h2 := HQ15.out.2; omega))).five
   obtain ⟨R11, hR11, hRn11, hf11⟩ := HW6.out.1.call fsOk H10.out.1
   have hn11 : Nx R6 R11 W6 w10 := ⟨hR11, Kp.of H10.out.1⟩
   have hsb15 := HW6.out.2.2.1.nx hn11
   obtain ⟨R12, hR12, hf12⟩ := Fw.chg fsOk hf11 (HZ.out.2.wide fun k _ e => by rw [e]; exact hsb15.mine) (HZ.out.2.below (fun k hk => by rw [hk]; exact HQ15.out.2) hf11.base.size)
   have hvs : VS w10 R11 s9.v t9 := VS.new H10.out.2.1 H10.out.2.2.1 fun k a b => hRn11 k (Nat.le_trans H10.out.2.2.2.2 a) b
   have HFIN : Hid (Fw D0 wa p (pf (cr1 (manD 53) s5.bytes) k4) R12 Z ∧ SB Z R12 q14 s5 t5 ∧ SB Z R12 q15 s9 t9 ∧ ((true = true ∧ Std 9 s9) ∨ (true = false ∧ ∃ u, applyV s5.v x = (0, u) ∧ s9 = s5.turn x u))) := ⟨hf12, ((HW6.out.2.1.nx hn11).other (by have := HQ15.out.1; omega) hsb15.box HZ.out.2.block).more hR12, ⟨HZ.out.1, hR12 _ hsb15.mine, (hvs.other hsb15.box HZ.out.2.block).more hR12⟩, .inl ⟨rfl, HD9.out⟩⟩
   clear hR11 hRn11 hf11 hn11 hsb15 hR12 hf12 hvs HZ c0 c1 c2 c3 c4 c5 c6 c7 csf z0 z1 z2 z3 z4 z5 z6 z7 eZ H10 y0 y1 y2 y3 y4
   clear hHeld
   refine hK.out _ _ HXZ.out (fun hHeld => ?_)
   clear hK K
   try simp only [Act.put, List.getElem_toArray, List.getElem_cons_succ, List.getElem_cons_zero, Array.getInternal_eq_getElem, List.setIfInBounds_toArray, List.set_cons_zero, List.set_cons_succ]
   refine wpAnyH_done (by kernel_rfl) (NoPanic.normal ?_) _
   clear hHeld
   go_wp2_with fail
   go_meet
   exact ⟨rfl, _, _, _, HFIN.out⟩
  | false =>
   have HB6 := (HKX.out W6 HW6.out.1.base)
   obtain ⟨y0, y1, y2, y3, y4⟩ := HB6.1.five
   have HAP := vapply_any s5.v t5 x sx W6 HW6.out.2.1.vs.at HB6.2 HW6.out.2.1.vs.wf HRA.out.2.2.1 HFEW.out
   obtain ⟨ea, u, hau⟩ : ∃ (ea : Nat) (u : PV), applyV s5.v x = (ea, u) := ⟨_, _, rfl⟩
   have HAU : Hid (applyV s5.v x = (ea, u)) := hau
   rw [hau] at HAP
   dsimp only at HAP
   obtain ⟨c0, c1, c2, c3, c4, c5, c6, c7⟩ := HW6.out.2.1.box.eight
   clear hau HB6
   go_wp2_with fail
   refine HAP.mono ?_
   rintro _ w8 ⟨tu, rfl, HO8, hb8⟩
   obtain ⟨W9, eW9⟩ : ∃ W9, Hid (W9 = w8.alloc (.cells #[.slice (tu.a 0) (u 0).length (tu.c 0), .slice (tu.a 1) (u 1).length (tu.c 1), .slice (tu.a 2) (u 2).length (tu.c 2), .slice (tu.a 3) (u 3).length (tu.c 3)] TVn)) := ⟨_, rfl⟩
   have HW9 : Hid (Below w8.heap.size w8 W9 ∧ Box W9 w8.heap.size TVn (vA u tu)) := by
    rw [eW9.out]
    exact ⟨(Below.refl _ _).alloc (Nat.le_refl _) _, Box.new _ _ _⟩
   have hb9 : Below W6.heap.size W6 W9 := hb8.trans (HW9.out.1.mono hb8.size)
   obtain ⟨R9, hR9, hRn9, hf9⟩ := HW6.out.1.call fsOk hb9
   have HX9 : Hid (Fw D0 wa p (pf (cr1 (manD 53) s5.bytes) k4) R9 W9 ∧ SB W9 R9 q14 s5 t5 ∧ SB W9 R9 q15 s5 t5 ∧ Box W9 w8.heap.size TVn (vA u tu) ∧ (∃ B, OwnV W9 B u tu) ∧ ∀ n, n < 4 → ∀ b, blkOf (tu.a n) = some b → R9 b) := by
    have ho := fun n hn => (HO8 n hn).below HW9.out.1
    exact ⟨hf9, HW6.out.2.1.nx ⟨hR9, Kp.of hb9⟩, HW6.out.2.2.1.nx ⟨hR9, Kp.of hb9⟩, HW9.out.2, ⟨_, ho⟩, fun n hn b hb => hRn9 b ((ho n hn).ge hb) (tag_lt ((ho n hn).tag hb))⟩
   have HQ15 : Hid (q14 < q15 ∧ wa.heap.size ≤ q15) := HW6.out.2.2.2
   clear HAP HO8 hb8 HW6 HW9 hb9 hR9 hRn9 hf9 c0 c1 c2 c3 c4 c5 c6 c7 y0 y1 y2 y3 y4
   go_upto_if 61 with fail
   rw [← eW9.out]
   clear eW9
   generalize w8.heap.size = qv at HX9 ⊢
   by_cases hea : ea = 0
   · subst hea
     obtain ⟨v0, v1, v2, v3⟩ := HX9.out.2.2.2.1.fourV
     obtain ⟨c0, c1, c2, c3, c4, c5, c6, c7⟩ := HX9.out.2.2.1.box.eight
     have cs : ∀ j, W9.frozen? ⟨q15, j, none⟩ = false := fun j => HX9.out.2.2.1.box.soft j
     obtain ⟨Y1, eY1, HY1⟩ := put4_all HX9.out.2.2.1.box u tu
     have HT1 : Hid (Box Y1 q15 TSt (sA ⟨s5.num, u, s5.log, s5.next, s5.last⟩ tu) ∧ Chg (fun k => k = q15) W9 Y1) := ⟨HY1.out.1, HY1.out.2⟩
     obtain ⟨qx, hqx⟩ : ∃ qx, w.heap.size = qx := ⟨_, rfl⟩
     have HBX : Hid (Box W9 qx TE (eA x sx)) := by have := (HKX.out W9 HX9.out.1.base).1; rw [hqx] at this; exact this
     have HQ : Hid (qx < q15) := by have h1 := HQX.out; have h2 := HQ15.out; unfold Hid; omega
     clear HY1
     go_upto_region 15 with fail
     rw [← eY1]
     clear eY1 v0 v1 v2 v3 c0 c1 c2 c3 c4 c5 c6 c7 cs
     try rw [hqx]
     have HXB : Hid (Box Y1 qx TE (eA x sx)) := HBX.out.kept (HT1.out.2.block _ HBX.out.lt (by have := HQ.out; omega))
     obtain ⟨x0, x1, x2, x3, x4⟩ := HXB.out.five
     obtain ⟨c0, c1, c2, c3, c4, c5, c6, c7⟩ := HT1.out.1.eight
     have cs : ∀ j, Y1.frozen? ⟨q15, j, none⟩ = false := fun j => HT1.out.1.soft j
     go_upto_if 66 with fail
     go_cut [3] (fun xs wz => xs = .int .i64 a3 ∧ Hid (Box wz q15 TSt (sA ⟨s5.num, u, if 0 < x.log then x.log else s5.log, s5.next, s5.last⟩ tu) ∧ Chg (fun k => k = q15) W9 wz))
     case first =>
      by_cases hz : 0 < x.log
      · have hzi : (0 : Int) < (x.log : Int) := by omega
        go_wp2_with fail
        go_meet
        refine ⟨rfl, ?_⟩
        rw [if_pos hz]
        exact ⟨(HT1.out.1.set 5 _).eq (by simp [sA]), HT1.out.2.set (fun _ => rfl) _ _⟩
      · have hzi : ¬ (0 : Int) < (x.log : Int) := by omega
        go_wp2_with fail
        go_meet
        refine ⟨rfl, ?_⟩
        rw [if_neg hz]
        exact HT1.out
     case rest =>
      obtain ⟨rfl, HT2⟩ := hcut
      clear x0 x1 x2 x3 x4 c0 c1 c2 c3 c4 c5 c6 c7 cs HXB HT1
      generalize wc = Y2 at HT2 ⊢
      have HXB : Hid (Box Y2 qx TE (eA x sx)) := HBX.out.kept (HT2.out.2.block _ HBX.out.lt (by have := HQ.out; omega))
      obtain ⟨x0, x1, x2, x3, x4⟩ := HXB.out.five
      obtain ⟨c0, c1, c2, c3, c4, c5, c6, c7⟩ := HT2.out.1.eight
      have cs : ∀ j, Y2.frozen? ⟨q15, j, none⟩ = false := fun j => HT2.out.1.soft j
      go_upto_if 72 with fail
      go_cut [3] (fun xs wz => xs = .int .i64 a3 ∧ Hid (Box wz q15 TSt (sA ⟨s5.num, u, if 0 < x.log then x.log else s5.log, if 0 < x.next then x.next else s5.next, s5.last⟩ tu) ∧ Chg (fun k => k = q15) W9 wz))
      case first =>
       by_cases hz : 0 < x.next
       · have hzi : (0 : Int) < (x.next : Int) := by omega
         go_wp2_with fail
         go_meet
         refine ⟨rfl, ?_⟩
         rw [if_pos hz]
         exact ⟨(HT2.out.1.set 6 _).eq (by simp [sA]), HT2.out.2.set (fun _ => rfl) _ _⟩
       · have hzi : ¬ (0 : Int) < (x.next : Int) := by omega
         go_wp2_with fail
         go_meet
         refine ⟨rfl, ?_⟩
         rw [if_neg hz]
         exact HT2.out
      case rest =>
       obtain ⟨rfl, HT3⟩ := hcut
       clear x0 x1 x2 x3 x4 c0 c1 c2 c3 c4 c5 c6 c7 cs HXB HT2
       generalize wc = Y3 at HT3 ⊢
       have HXB : Hid (Box Y3 qx TE (eA x sx)) := HBX.out.kept (HT3.out.2.block _ HBX.out.lt (by have := HQ.out; omega))
       obtain ⟨x0, x1, x2, x3, x4⟩ := HXB.out.five
       obtain ⟨c0, c1, c2, c3, c4, c5, c6, c7⟩ := HT3.out.1.eight
       have cs : ∀ j, Y3.frozen? ⟨q15, j, none⟩ = false := fun j => HT3.out.1.soft j
       go_upto_if 78 with fail
       go_cut [3] (fun xs wz => xs = .int .i64 a3 ∧ Hid (Box wz q15 TSt (sA ⟨s5.num, u, if 0 < x.log then x.log else s5.log, if 0 < x.next then x.next else s5.next, if 0 < x.last then x.last else s5.last⟩ tu) ∧ Chg (fun k => k = q15) W9 wz))
       case first =>
        by_cases hz : 0 < x.last
        · have hzi : (0 : Int) < (x.last : Int) := by omega
          go_wp2_with fail
          go_meet
          refine ⟨rfl, ?_⟩
          rw [if_pos hz]
          exact ⟨(HT3.out.1.set 7 _).eq (by simp [sA]), HT3.out.2.set (fun _ => rfl) _ _⟩
        · have hzi : ¬ (0 : Int) < (x.last : Int) := by omega
          go_wp2_with fail
          go_meet
          refine ⟨rfl, ?_⟩
          rw [if_neg hz]
          exact HT3.out
       case rest =>
        obtain ⟨rfl, HT4⟩ := hcut
        clear x0 x1 x2 x3 x4 c0 c1 c2 c3 c4 c5 c6 c7 cs HXB HT3
        generalize wc = Y4 at HT4 ⊢
        have HVU : Hid (VS W9 R9 u tu) := ⟨HX9.out.2.2.2.2.1, HX9.out.2.2.2.2.2, wf_apply HAU.out HX9.out.2.1.vs.wf HRA.out.2.2.1⟩
        obtain ⟨R10, hR10, h10⟩ := Fw.chg fsOk HX9.out.1 (HT4.out.2.wide fun k _ e => by rw [e]; exact HX9.out.2.2.1.mine) (HT4.out.2.below (fun k hk => by rw [hk]; exact HQ15.out.2) HX9.out.1.base.size)
        have HFIN : Hid (Fw D0 wa p (pf (cr1 (manD 53) s5.bytes) k4) R10 Y4 ∧ SB Y4 R10 q14 s5 t5 ∧ SB Y4 R10 q15 (s5.turn x u) tu ∧ ((false = true ∧ Std 9 (s5.turn x u)) ∨ (false = false ∧ ∃ u', applyV s5.v x = (0, u') ∧ s5.turn x u = s5.turn x u'))) := ⟨h10, (HX9.out.2.1.other (by have := HQ15.out.1; omega) HX9.out.2.2.1.box HT4.out.2.block).more hR10, ⟨HT4.out.1, hR10 _ HX9.out.2.2.1.mine, (HVU.out.other HX9.out.2.2.1.box HT4.out.2.block).more hR10⟩, .inr ⟨rfl, u, HAU.out, rfl⟩⟩
        subst hqx
        go_wp2_with fail
        go_meet
        exact ⟨rfl, _, _, _, HFIN.out⟩
   · have heab : ((ea : Int) != 0) = true := by simp; omega
     go_wp2
     try go_ret
     exact ⟨ret1 rfl, HRA.out.2.2.2.2.2.2.1.trans (HX9.out.1.base.mono HRA.out.2.2.2.2.2.2.1.size)⟩
 case rest =>
  obtain ⟨rfl, s2, t2, R7, HT⟩ := hcut
  generalize wc = w7 at HT ⊢
  clear HW6
  go_upto_if 83 with fail
  go_cut [3] (fun xs wz => ∃ m : Int, xs = .int .i64 m ∧ (0 ≤ m ∧ m ≤ 9223372036854775807) ∧ wz = w7)
  case first =>
   by_cases hneg : a3 < 0
   · go_wp2_with fail
     go_meet
     exact ⟨_, rfl, by omega, rfl⟩
   · go_wp2_with fail
     go_meet
     exact ⟨_, rfl, by omega, rfl⟩
  case rest =>
   obtain ⟨m, rfl, hm, rfl⟩ := hcut
   have hm0 : 0 ≤ m % 20 := by omega
   have hm1 : m % 20 < 20 := by omega
   have HFU := fw_fuse fsOk HT.out.1 (m % 20) (by omega)
   go_wp2_with fail
   refine HFU.mono ?_
   rintro _ w8 ⟨rfl, R8, h8, n8⟩
   have HT8 : Hid (SB w8 R8 q14 s5 t5 ∧ SB w8 R8 q15 s2 t2 ∧ Fw D0 wa p ((pf (cr1 (manD 53) s5.bytes) k4).setFuse (m % 20)) R8 w8 ∧ ((anew = true ∧ Std 9 s2) ∨ (anew = false ∧ ∃ u, applyV s5.v x = (0, u) ∧ s2 = s5.turn x u))) := ⟨HT.out.2.1.nx n8, HT.out.2.2.1.nx n8, h8, HT.out.2.2.2⟩
   clear HFU h8 n8 HT
   go_upto_if 91 with fail
   go_cut [18] (fun xs wz => ∃ (e : Nat) (cz : Cr) (kz : Kn) (R : Nat → Prop), xs = .int .i64 (e : Int) ∧ Hid (Fw D0 wa p (pf cz kz) R wz ∧ SB wz R q14 s5 t5 ∧ SB wz R q15 s2 t2 ∧ ∃ c5 k5 y, (pf cz kz).crash b4 = pf c5 k5 ∧ Tells15 c5 k5 y ∧ (y = s2 ∨ (e ≠ 0 ∧ y = s5))))
   case first =>
    rcases HT8.out.2.2.2 with ⟨rfl, hst⟩ | ⟨rfl, u, hu, rfl⟩
    · obtain ⟨cz, kz, e, ew, c5, k5, y, hcr, hte, hy⟩ := write_cut2 HD5.out hst HK4.out.1 (m % 20) b4
      have HW := fw_write fsOk HT8.out.2.2.1 s2 t2 (by have := HK4.out.1.asked; show k4.asked < _; omega) HT8.out.2.1.vs.at HT8.out.2.1.vs.wf hst.few (by rw [hst.num]; decide)
      rw [ew] at HW
      dsimp only at HW
      have HE : Hid ((pf cz kz).crash b4 = pf c5 k5 ∧ Tells15 c5 k5 y ∧ (y = s2 ∨ (e ≠ 0 ∧ y = s5))) := ⟨hcr, hte, hy⟩
      obtain ⟨c0, c1, c2, c3, c4, c5', c6, c7⟩ := HT8.out.2.1.box.eight
      clear ew hcr hte hy
      go_wp2_with fail
      refine HW.mono ?_
      rintro _ w9 ⟨rfl, R9, h9, n9⟩
      go_wp2_with fail
      go_meet
      exact ⟨e, cz, kz, R9, rfl, h9, HT8.out.1.nx n9, HT8.out.2.1.nx n9, c5, k5, y, HE.out⟩
    · obtain ⟨cz, kz, e, ew, c5, k5, y, hcr, hte, hy⟩ := append_cut2 HD5.out hu HK4.out.1 (m % 20) b4
      have HB8 := HKX.out w8 HT8.out.2.2.1.base
      have HW := fw_append fsOk HT8.out.2.2.1 5 x sx (by have := HK4.out.1.asked; show k4.asked < _; omega) HB8.2 HRA.out.2.2.1 (by decide)
      rw [ew] at HW
      dsimp only at HW
      have HE : Hid ((pf cz kz).crash b4 = pf c5 k5 ∧ Tells15 c5 k5 y ∧ (y = s5.turn x u ∨ (e ≠ 0 ∧ y = s5))) := ⟨hcr, hte, hy⟩
      obtain ⟨x0, x1, x2, x3, x4⟩ := HB8.1.five
      clear ew hcr hte hy HB8
      go_wp2_with fail
      refine HW.mono ?_
      rintro _ w9 ⟨rfl, R9, h9, n9⟩
      go_wp2_with fail
      go_meet
      exact ⟨e, cz, kz, R9, rfl, h9, HT8.out.1.nx n9, HT8.out.2.1.nx n9, c5, k5, y, HE.out⟩
   case rest =>
    obtain ⟨e, cz, kz, R9, rfl, HZ9⟩ := hcut
    generalize wc = w9 at HZ9 ⊢
    clear HT8
    obtain ⟨c5, k5, y, hcr, hte, hy⟩ := HZ9.out.2.2.2
    have HCR := fw_crash fsOk HZ9.out.1 a4 n4 c4 b4 HRA.out.2.2.2.1
    rw [hcr] at HCR
    have HE : Hid (Tells15 c5 k5 y ∧ (y = s2 ∨ (e ≠ 0 ∧ y = s5))) := ⟨hte, hy⟩
    clear hcr hte hy
    go_wp2_with fail
    refine HCR.mono ?_
    rintro _ w10 ⟨rfl, R10, h10, n10⟩
    have HB10 : Hid (SB w10 R10 q14 s5 t5 ∧ SB w10 R10 q15 s2 t2) := ⟨HZ9.out.2.1.nx n10, HZ9.out.2.2.1.nx n10⟩
    have HLD := fw_tells fsOk h10 HE.out.1
    clear HCR h10 n10 HZ9
    go_wp2_with fail
    refine HLD.mono ?_
    rintro _ w12 ⟨ty, rfl, R12, h12, n12, vy⟩
    obtain ⟨W13, R13, eW13, h13, n13, bY⟩ := Fw.box2 fsOk h12 y vy
    have HB13 : Hid (SB W13 R13 q14 s5 t5 ∧ SB W13 R13 q15 s2 t2 ∧ SB W13 R13 w12.heap.size y ty) := ⟨(HB10.out.1.nx n12).nx n13, (HB10.out.2.nx n12).nx n13, bY⟩
    have HSA := fw_same fsOk h13 HB13.out.2.2.vs.at HB13.out.1.vs.at
    obtain ⟨c0', c1', c2', c3', c4', c5', c6', c7'⟩ := HB13.out.1.box.eight
    obtain ⟨g0', g1', g2', g3', g4', g5', g6', g7'⟩ := HB13.out.2.2.box.eight
    clear HLD h12 n12 vy HB10 h13 n13 bY
    go_upto_region 30 with fail
    rw [← eW13.out]
    clear eW13
    generalize w12.heap.size = qy at HB13 g0' g1' g2' g3' g4' g5' g6' g7' ⊢
    go_wp2_with fail
    refine HSA.mono ?_
    rintro _ w14 ⟨bo, rfl, hbo, R14, h14, n14⟩
    have HB14 : Hid (SB w14 R14 q15 s2 t2 ∧ SB w14 R14 qy y ty ∧ (y.Like s5 → bo = true)) := ⟨HB13.out.2.1.nx n14, HB13.out.2.2.nx n14, hbo⟩
    clear HSA c0' c1' c2' c3' c4' c5' c6' c7' g0' g1' g2' g3' g4' g5' g6' g7' HB13 hbo
    have HSB := fw_same fsOk h14 HB14.out.2.1.vs.at HB14.out.1.vs.at
    obtain ⟨c0', c1', c2', c3', c4', c5', c6', c7'⟩ := HB14.out.1.box.eight
    obtain ⟨g0', g1', g2', g3', g4', g5', g6', g7'⟩ := HB14.out.2.1.box.eight
    clear h14 n14
    go_wp2_with fail
    refine HSB.mono ?_
    rintro _ w15 ⟨bn, rfl, hbn, R15, h15, n15⟩
    have HBN : Hid ((y.Like s5 → bo = true) ∧ (y.Like s2 → bn = true)) := ⟨HB14.out.2.2, hbn⟩
    have HZ : Hid (Below w.heap.size w w15) := HRA.out.2.2.2.2.2.2.1.trans (h15.base.mono HRA.out.2.2.2.2.2.2.1.size)
    clear HSB c0' c1' c2' c3' c4' c5' c6' c7' g0' g1' g2' g3' g4' g5' g6' g7' HB14 hbn h15 n15
    have hbb : bn = true ∨ (bn = false ∧ bo = true ∧ e ≠ 0) := by
     cases bn with
     | true => exact .inl rfl
     | false =>
      rcases HE.out.2 with h | ⟨h1, h2⟩
      · exact absurd (HBN.out.2 (by rw [h]; exact PSt.Like.refl _)) (by decide)
      · exact .inr ⟨rfl, HBN.out.1 (by rw [h2]; exact PSt.Like.refl _), h1⟩
    rcases hbb with rfl | ⟨rfl, rfl, her⟩
    · go_wp2
      try go_ret
      exact ⟨ret1 rfl, HZ.out⟩
    · have hne : ((e : Int) != 0) = true := by simp; omega
      go_wp2
      try go_ret
      exact ⟨ret1 rfl, HZ.out⟩
end Go.Proofs.YtmlfbihlbiikeaaGreatDoor
