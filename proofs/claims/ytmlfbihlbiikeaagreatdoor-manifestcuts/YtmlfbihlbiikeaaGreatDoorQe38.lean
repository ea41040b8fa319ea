/- The contract of the statements' own awake: calls whose answers the document fixes. -/
import Derived.Test.YtmlfbihlbiikeaaGreatDoorQe30
import Derived.Test.YtmlfbihlbiikeaaGreatDoorQe37
import Derived.Test.YtmlfbihlbiikeaaGreatDoorQe21
import Derived.Test.YtmlfbihlbiikeaaGreatDoorQe29
import Derived.Test.YtmlfbihlbiikeaaGreatDoorQe26
import Derived.Test.YtmlfbihlbiikeaaGreatDoorQe42
import Derived.Test.YtmlfbihlbiikeaaGreatDoorQe20
import Derived.Deep.DeepCutAuto
import Derived.Deep.RegionHeld3
import Derived.BigQuiet
set_option linter.unusedVariables false
set_option linter.unusedSimpArgs false
set_option maxRecDepth 100000
namespace Go.Proofs.YtmlfbihlbiikeaaGreatDoor
open Go.RowKit
theorem fw_same {J : Face} {w0 w : World} {p : Nat} {S : PFs} {R : Nat → Prop} (H : FsOk J) (h : Fw J w0 p S R w) {s s' : PSt} {t t' : SV} (hv : VnAt w s.v t) (hv' : VnAt w s'.v t') :
 Calls Tryz.prog 22 #[sV s t, sV s' t'] w fun e w' => ∃ b : Bool, e = .returned (.bool b) ∧ (s.Like s' → b = true) ∧ FR J w0 p S R w w' := by
 refine (ssame_any hv hv').mono ?_
 rintro e w' ⟨⟨b, he, hb⟩, hbe⟩
 exact ⟨b, he, hb, FR.call H h hbe⟩
def s3 : PSt := ⟨3, noV, 2, 4, 9⟩
theorem s3_ok : s3.Ok := ⟨VOk.none, by decide, by decide, by decide⟩
theorem s3_chk : chkS s3 = 0 := chkS_yes s3_ok (by decide) (by decide)
theorem s3_len : s3.bytes.length ≤ 1000 := by
 have h : s3.eds = [s3.numE] := rfl
 have e1 := uvEnc_length s3.numE.log
 have e2 := uvEnc_length s3.numE.next
 have e3 := uvEnc_length s3.numE.last
 have e4 := uvEnc_length s3.numE.dels.length
 have e5 := uvEnc_length s3.numE.adds.length
 have hd : s3.numE.dels = [] := rfl
 have ha : s3.numE.adds = [] := rfl
 have h1 : s3.numE.enc.length ≤ 100 := by
  unfold PE.enc
  simp only [List.length_append]
  rw [hd] at e4 ⊢
  rw [ha] at e5 ⊢
  simp only [List.flatMap_nil, List.length_nil] at *
  omega
 have h2 := put_short 0 s3.numE.enc
 unfold PSt.bytes manOf
 rw [h]
 show (logFrom ([] ++ putP ([] : List UInt8).length true s3.numE.enc) []).length ≤ 1000
 show ([] ++ putP 0 true s3.numE.enc).length ≤ 1000
 rw [List.nil_append]
 omega
theorem new_read (q : Nat) (n : List UInt8) : (PFs.new q).read n = ([], 42) := by simp [PFs.read, PFs.off, PFs.new, findN]
theorem new_load (q : Nat) : loadP (PFs.new q) = (zS, 150) := by
 unfold loadP
 rw [new_read]
 rfl
theorem few_nil (num : Nat) : Few num [] := fun j s h => by
 have h1 : (walRead []).1 = [] := rfl
 rw [h1, List.take_nil] at h
 obtain rfl := Option.some.inj h
 show (PSt.zero 0).v.all.length < 60000
 decide
theorem awake_write : ∃ k, writeP s3 (PFs.new 10000) = (pf (cr1 (nameP 3 3) s3.bytes) k, 0) ∧ k.quiet ∧ k.asked ≤ 12 := by
 obtain ⟨hn, hl⟩ := man_mn (n := 3) (by decide) (by decide)
 obtain ⟨j, e, k', _, _, hj, hq, hqu, hak, he⟩ := run_write (q := 10000) (c := cr0) (k := ⟨10000, false, 0, false, 0, 0⟩) (m := nameP 3 3) (B := s3.bytes) hn rfl rfl (by simp [cr0]) (by have := s3_len; simp [cr0, bulkF5]; omega) rfl
 obtain ⟨h0, hk'⟩ := hq ⟨rfl, rfl⟩
 obtain rfl := hj.1 h0
 subst h0
 refine ⟨k', ?_, hk', by simpa using hak⟩
 unfold writeP
 rw [if_neg (by rw [s3_chk]; decide)]
 rw [← cr1_end _ (by rw [name_3]; exact fresh_3)]
 exact he
theorem name_tab7 : nameP 2 7 = [48, 48, 48, 48, 48, 55, 46, 116, 97, 98] := by
 rw [nameP_tab (by decide) (by decide)]
 unfold numB pad6
 rw [decDigits_small (by decide)]
 rfl
theorem name_log7 : nameP 1 7 = [48, 48, 48, 48, 48, 55, 46, 108, 111, 103] := by
 rw [nameP_log (by decide) (by decide)]
 unfold numB pad6
 rw [decDigits_small (by decide)]
 rfl
theorem tab_back : parseR [48, 48, 48, 48, 48, 55, 46, 116, 97, 98] = (2, 7) := by
 obtain ⟨a, b⟩ := (parseR_names (nameP 2 7)).num 2 7 (.inr (.inl rfl)) (by decide) (by decide) rfl
 rw [name_tab7] at a b
 exact Prod.ext a b
set_option maxHeartbeats 4000000 in
theorem awake_any {J : Face} (H : FsOk J) (w : World) (hg : Gl w) (h8 : 6 ≤ w.heap.size) : Calls Tryz.prog 9 #[] w fun e w' => e = .returned (.bool true) ∧ Below w.heap.size w w' := by
 have HN := fw_new H (w0 := w) 10000 (by decide) hg h8
 have HHH : Hid (FsOk J) := H
 go_enter Tryz.func9, Tryz.ntmps9
 go_wp2_with fail
 refine HN.mono ?_
 rintro _ w1 ⟨p, R1, rfl, h1⟩
 have H1 : Hid (Fw J w p (PFs.new 10000) R1 w1) := h1
 have HL := fw_load0 H h1 (by rw [new_read]; exact ⟨by decide, by rw [new_read]; decide⟩) (by rw [new_read]; dsimp only; rw [new_read]; exact few_nil _)
 rw [new_load] at HL
 dsimp only at HL
 clear h1 HN
 go_wp2_with fail
 refine HL.mono ?_
 rintro _ w2 ⟨t2, rfl, R2, h2, hn2, hv2⟩
 obtain ⟨R3, h3, n3, b3⟩ := Fw.box H h2 zS hv2
 obtain ⟨R4, h4, n4, b4⟩ := Fw.box H h3 s3 (VS.none _ _)
 rw [World.size_alloc] at b4
 obtain ⟨k, ek, hkq, hka⟩ := awake_write
 have HW := fw_write H h4 s3 sv0 (by decide) (VS.none _ R4).at zS_wf (by decide) (by decide)
 rw [ek] at HW
 dsimp only at HW
 have HF : Hid (SB ((w2.alloc (.cells (sA zS t2) TSt)).alloc (.cells (sA s3 sv0) TSt)) R4 (w2.heap.size + 1) s3 sv0) := b4
 clear HL h2 hn2 hv2 h3 n3 b3 h4 n4 b4 ek H1
 go_wp2_with fail
 refine HW.mono ?_
 rintro _ w5 ⟨rfl, R5, h5, n5⟩
 have B5 : Hid (SB w5 R5 (w2.heap.size + 1) s3 sv0) := HF.out.nx n5
 have HL2 := fw_loadW H h5 hkq (num := 3) ⟨by decide, by decide⟩ (L := s3.eds) (cr1_base s3.bytes (man_mn (by decide) (by decide)).1 (by rw [name_3]; exact fresh_3)).holds (Nat.le_trans s3_len (by decide)) s3_ok.errs (by decide) (told_self s3_ok four_no)
 clear HW HF h5 n5
 go_wp2_with fail
 refine HL2.mono ?_
 rintro _ w6 ⟨t6, rfl, R6, h6, n6, v6⟩
 obtain ⟨W7, R7, eW7, h7, n7, b7⟩ := Fw.box2 H h6 s3 v6
 have B7 : Hid (SB W7 R7 (w2.heap.size + 1) s3 sv0 ∧ SB W7 R7 w6.heap.size s3 t6) := ⟨(B5.out.nx n6).nx n7, b7⟩
 have HS := fw_same H h7 B7.out.1.vs.at B7.out.2.vs.at
 obtain ⟨c0, c1, c2, c3, c4, c5, c6, c7⟩ := B7.out.1.box.eight
 obtain ⟨d0, d1, d2, d3, d4, d5, d6, d7⟩ := B7.out.2.box.eight
 clear HL2 h6 n6 v6 B5 h7 n7 b7
 go_upto_region 8 with fail
 rw [← eW7.out]
 clear eW7
 generalize w6.heap.size = b7 at B7 d0 d1 d2 d3 d4 d5 d6 d7 ⊢
 go_wp2_with fail
 refine HS.mono ?_
 rintro _ w8 ⟨b, rfl, hb, R8, h8, n8⟩
 obtain rfl : b = true := hb (PSt.Like.refl _)
 have H8 : Hid (Below w.heap.size w w8 ∧ Gl w8) := ⟨h8.base, h8.gl⟩
 clear HS B7 c0 c1 c2 c3 c4 c5 c6 c7 d0 d1 d2 d3 d4 d5 d6 d7 hb h8 n8
 have HP := parse_any [48, 48, 48, 48, 48, 55, 46, 116, 97, 98] (by decide) w8 H8.out.2
 rw [tab_back] at HP
 dsimp only at HP
 go_wp2_with fail
 refine HP.mono ?_
 rintro _ w9 ⟨rfl, hb9⟩
 have H9 : Hid (Below w.heap.size w w9 ∧ Gl w9) := ⟨H8.out.1.trans (hb9.mono H8.out.1.size), H8.out.2.later hb9⟩
 have HNM := name_any 1 ⟨by decide, by decide⟩ 7 (by decide) w9 H9.out.2
 rw [name_log7, show strOf [48, 48, 48, 48, 48, 55, 46, 108, 111, 103] = ⟨#[48, 48, 48, 48, 48, 55, 46, 108, 111, 103]⟩ from rfl] at HNM
 clear HP hb9 H8
 go_wp2_with fail
 refine HNM.mono ?_
 rintro _ w10 ⟨rfl, hb10⟩
 go_wp2
 try go_ret
 exact ⟨ret1 rfl, H9.out.1.trans (hb10.mono H9.out.1.size)⟩
theorem awake_yes (w : World) (hg : Gl w) (h8 : 6 ≤ w.heap.size) : Calls Tryz.prog 9 #[] w fun e w' => e = .returned (.bool true) ∧ Below w.heap.size w w' := awake_any fsOk w hg h8
end Go.Proofs.YtmlfbihlbiikeaaGreatDoor
namespace Go.Proofs.YtmlfbihlbiikeaaGreatDoor
open Go.RowKit
structure Sg (w : World) (s : PSt) (t : SV) (W : World) : Prop where
 base : Below w.heap.size w W
 r : Box W w.heap.size TSt (sA zS sv0)
 st : Box W (w.heap.size + 1) TSt (sA s t)
 own : OwnV W (w.heap.size + 2) s.v t
 wf : WfV s.v
theorem Sg.new (w : World) (s : PSt) (hs : s.v = noV) : Sg w s sv0 ((w.alloc (.cells (sA zS sv0) TSt)).alloc (.cells (sA s sv0) TSt)) := by
 refine ⟨((Below.refl _ _).alloc (Nat.le_refl _) _).alloc (by simp) _, (Box.new _ _ _).alloc _, ?_, ?_, ?_⟩
 · have := Box.new (w.alloc (.cells (sA zS sv0) TSt)) TSt (sA s sv0)
   rw [World.size_alloc] at this
   exact this
 · rw [hs]; exact OwnV.none _ _
 · rw [hs]; exact zS_wf
theorem Sg.later {w W W' : World} {s : PSt} {t : SV} (h : Sg w s t W) (hb : Below W.heap.size W W') : Sg w s t W' :=
 ⟨h.base.trans (hb.mono h.base.size), h.r.kept (hb.block _ h.r.lt), h.st.kept (hb.block _ h.st.lt), h.own.below hb, h.wf⟩
set_option maxHeartbeats 8000000 in
theorem state_any (num last : Nat) (a : Option Addr) (n c : Nat) (l : List (PE × SE)) (w : World) (h : EsAt w a n c l) (hn : n ≤ 2000000000000) (h1 : num ≤ 1000) (hl : last < 18446744073709551616) :
 Calls Tryz.prog 23 #[.int .u64 (num : Int), .int .u64 (last : Int), .slice a n c] w fun e w' => ∃ t, e = .returned (sV (stateP num last (l.map Prod.fst)) t) ∧ OwnV w' w.heap.size (stateP num last (l.map Prod.fst)).v t ∧ WfV (stateP num last (l.map Prod.fst)).v ∧ Below w.heap.size w w' := by
 have HE : Hid (EsAt w a n c l ∧ (l.map Prod.fst).length = n) := ⟨h, by rw [List.length_map]; exact h.size⟩
 have hln := h.size
 have HFEW : Hid (∀ k, ((((l.map Prod.fst).take 6).take k).foldl stA (st0 num last)).v.all.length ≤ 600) := fun k => by
  have g := fold_ok (((l.map Prod.fst).take 6).take k) (st0_ok num last)
  have h6 : (((l.map Prod.fst).take 6).take k).length ≤ 6 := by simp; omega
  have := g.few
  omega
 have HST : Hid (stateP num last (l.map Prod.fst) = ((l.map Prod.fst).take 6).foldl stA (st0 num last)) := rfl
 generalize stateP num last (l.map Prod.fst) = sp at HST ⊢
 clear h
 have hrem : ∀ W : World, (binOp .rem 23 (.int .u64 (num : Int)) (.int .u64 7)).run Tryz.prog W = .ok (.int .u64 ((num % 7 : Nat) : Int)) W := fun W => by
  simp [go_sem, Tryz.underlying23]
  exact Int.tmod_eq_emod_of_nonneg (by omega)
 have hadd : ∀ W : World, (binOp .add 23 (.int .u64 1) (.int .u64 ((num % 7 : Nat) : Int))).run Tryz.prog W = .ok (.int .u64 ((1 + num % 7 : Nat) : Int)) W := fun W => by
  simp [go_sem, Tryz.underlying23]
  have h70 : (0 : Int) ≤ (num : Int) % 7 := by omega
  have h71 : (num : Int) % 7 < 7 := by omega
  exact IntWalk.u64_in _ (by omega)
 have hadd2 : ∀ W : World, (binOp .add 23 (.int .u64 (num : Int)) (.int .u64 1)).run Tryz.prog W = .ok (.int .u64 ((num + 1 : Nat) : Int)) W := fun W => by
  simp [go_sem, Tryz.underlying23]
  exact IntWalk.u64_in _ (by omega)
 have hrem2 : ∀ W : World, (binOp .rem 23 (.int .u64 (last : Int)) (.int .u64 72057594037927935)).run Tryz.prog W = .ok (.int .u64 ((last % 72057594037927935 : Nat) : Int)) W := fun W => by
  simp [go_sem, Tryz.underlying23]
  exact Int.tmod_eq_emod_of_nonneg (by omega)
 have hw1 : IntKind.u64.wrap ((num : Int) + 1) = (num : Int) + 1 := IntWalk.u64_in _ (by omega)
 have HNW : Hid (num ≤ 1000 ∧ last < 18446744073709551616) := ⟨h1, hl⟩
 clear h1 hl
 go_enter Tryz.func23, Tryz.ntmps23
 obtain ⟨W1, eW1, H1⟩ : ∃ W1, Hid (W1 = (w.alloc (.cells (sA zS sv0) TSt)).alloc (.cells (sA (st0 num last) sv0) TSt)) ∧ Hid (Sg w (st0 num last) sv0 W1) := ⟨_, rfl, Sg.new w _ rfl⟩
 go_wp2_with fail
 rw [show ((w.alloc (.cells #[.int .u64 0, .slice none 0 0, .slice none 0 0, .slice none 0 0, .slice none 0 0, .int .u64 0, .int .u64 0, .int .u64 0] TSt)).alloc (.cells #[.int .u64 (num : Int), .slice none 0 0, .slice none 0 0, .slice none 0 0, .slice none 0 0, .int .u64 (1 + (num : Int) % 7), .int .u64 ((num : Int) + 1), .int .u64 ((last : Int) % 72057594037927935)] TSt)) = W1 from by rw [eW1.out]; unfold sA st0 zS; simp [noV, sv0]]
 clear eW1
 go_loopw [8] (fun x8 wr => ∃ (k : Nat) (s : PSt) (t : SV), k ≤ n ∧ k ≤ 6 ∧ x8 = .int .i64 (k : Int) ∧ Hid (s = ((l.map Prod.fst).take k).foldl stA (st0 num last) ∧ Sg w s t wr)) (fun x8 _ => 6 - (intOf x8).toNat)
 case atStart => exact ⟨0, _, sv0, Nat.zero_le _, Nat.zero_le _, rfl, rfl, H1.out⟩
 case round =>
  obtain ⟨k, s, t, hk, hk6, rfl, HI⟩ := hrel
  by_cases hkn : k < n
  · by_cases hk5 : k < 6
    · have hkI : (k : Int) < (n : Int) := by omega
      have hk6I : (k : Int) < 6 := by omega
      have hkl : k < l.length := by omega
      obtain ⟨be, oe, hixe, hbe, hce⟩ := HE.out.1.at hkl
      have HX : Hid (EdAt w l[k].1 l[k].2 ∧ WfE l[k].1) := ⟨(HE.out.1.each _ (List.getElem_mem _)).1, (HE.out.1.each _ (List.getElem_mem _)).2.1⟩
      have HT : Hid (((l.map Prod.fst).take (k + 1)).foldl stA (st0 num last) = stA s l[k].1) := by
       unfold Hid
       rw [List.take_succ_eq_append_getElem (by rw [List.length_map]; exact hkl), List.foldl_append, ← HI.out.1]
       simp
      have HF6 : Hid (s.v.all.length < 60000) := by
       have h6 := HFEW.out k
       rw [List.take_take, Nat.min_eq_left hk6, ← HI.out.1] at h6
       unfold Hid
       omega
      have HEC : Hid (∀ W : World, Below w.heap.size w W → E5 W be oe l[k].1 l[k].2) := hce
      clear hce
      generalize l[k] = xe at HX HT HEC
      obtain ⟨x, se⟩ := xe
      dsimp only at HX HT HEC
      have hber : be < wr.heap.size := Nat.lt_of_lt_of_le hbe HI.out.2.base.size
      have hpr : w.heap.size + 1 < wr.heap.size := HI.out.2.st.lt
      have hne1 : w.heap.size + 1 ≠ wr.heap.size := by omega
      have hne2 : be ≠ wr.heap.size := by omega
      have hne3 : wr.heap.size ≠ w.heap.size + 1 := by omega
      have hne4 : wr.heap.size ≠ be := by omega
      obtain ⟨r, u0, hru⟩ : ∃ (r : Nat) (u : PV), applyV s.v x = (r, u) := ⟨_, _, rfl⟩
      have HR : Hid (applyV s.v x = (r, u0)) := hru
      have HAP : Hid (∀ V : World, Below wr.heap.size wr V → Calls Tryz.prog 27 #[.agg #[.slice (t.a 0) (s.v 0).length (t.c 0), .slice (t.a 1) (s.v 1).length (t.c 1), .slice (t.a 2) (s.v 2).length (t.c 2), .slice (t.a 3) (s.v 3).length (t.c 3)], .agg #[.int .u64 (x.log : Int), .int .u64 (x.next : Int), .int .u64 (x.last : Int), .slice se.a x.dels.length se.c, .slice se.a' x.adds.length se.c']] V fun e w' => ∃ u : SV, e = .returned (.tuple #[.agg #[.slice (u.a 0) (u0 0).length (u.c 0), .slice (u.a 1) (u0 1).length (u.c 1), .slice (u.a 2) (u0 2).length (u.c 2), .slice (u.a 3) (u0 3).length (u.c 3)], .int .i64 (r : Int)]) ∧ OwnV w' V.heap.size u0 u ∧ Below V.heap.size V w') := fun V hV => by
       have h0 := vapply_any s.v t x se V (HI.out.2.own.at.below hV) (HX.out.1.below (HI.out.2.base.trans (hV.mono HI.out.2.base.size))) HI.out.2.wf HX.out.2 HF6.out
       rw [HR.out] at h0
       exact h0
      clear hru
      have HC : Hid (∀ V : World, Below wr.heap.size wr V → V.cell? ⟨w.heap.size + 1, 1, none⟩ = some (.slice (t.a 0) (s.v 0).length (t.c 0)) ∧ V.cell? ⟨w.heap.size + 1, 2, none⟩ = some (.slice (t.a 1) (s.v 1).length (t.c 1)) ∧ V.cell? ⟨w.heap.size + 1, 3, none⟩ = some (.slice (t.a 2) (s.v 2).length (t.c 2)) ∧ V.cell? ⟨w.heap.size + 1, 4, none⟩ = some (.slice (t.a 3) (s.v 3).length (t.c 3)) ∧ V.cell? ⟨be, oe, none⟩ = some (.int .u64 (x.log : Int)) ∧ V.cell? ⟨be, oe + 1, none⟩ = some (.int .u64 (x.next : Int)) ∧ V.cell? ⟨be, oe + 2, none⟩ = some (.int .u64 (x.last : Int)) ∧ V.cell? ⟨be, oe + 3, none⟩ = some (.slice se.a x.dels.length se.c) ∧ V.cell? ⟨be, oe + 4, none⟩ = some (.slice se.a' x.adds.length se.c')) := fun V hV => by
       have h5 := HEC.out V (HI.out.2.base.trans (hV.mono HI.out.2.base.size))
       obtain ⟨d0, d1, d2, d3, d4, d5, d6, d7⟩ := (HI.out.2.st.kept (hV.block _ HI.out.2.st.lt)).eight
       exact ⟨d1, d2, d3, d4, h5.c0, h5.c1, h5.c2, h5.c3, h5.c4⟩
      go_wp2_with fail
      go_cut [9, 10] (fun s9 s10 wz => ∃ (pv : Nat) (u : SV), s9 = .pointer (some ⟨pv, 0, none⟩) ∧ s10 = .int .i64 (r : Int) ∧ Ow wr pv u0 u wz)
      case first =>
       have HD0 : Hid (Below wr.heap.size wr wr.drew) := (Below.refl _ _).drew
       have HDV : Hid (Below wr.heap.size wr (wr.alloc (.cells #[.slice none 0 0, .slice none 0 0, .slice none 0 0, .slice none 0 0] TVn)).drew) := ((Below.refl _ _).alloc (Nat.le_refl _) _).drew
       obtain ⟨z0, z1, z2, z3, z4, z5, z6, z7, z8⟩ := HC.out _ HD0.out
       obtain ⟨x0, x1, x2, x3, x4, x5, x6, x7, x8⟩ := HC.out _ HDV.out
       go_region_held3 (fun V => V.cell? ⟨w.heap.size + 1, 1, none⟩ = some (.slice (t.a 0) (s.v 0).length (t.c 0)) ∧ V.cell? ⟨w.heap.size + 1, 2, none⟩ = some (.slice (t.a 1) (s.v 1).length (t.c 1)) ∧ V.cell? ⟨w.heap.size + 1, 3, none⟩ = some (.slice (t.a 2) (s.v 2).length (t.c 2)) ∧ V.cell? ⟨w.heap.size + 1, 4, none⟩ = some (.slice (t.a 3) (s.v 3).length (t.c 3)) ∧ V.cell? ⟨be, oe, none⟩ = some (.int .u64 (x.log : Int)) ∧ V.cell? ⟨be, oe + 1, none⟩ = some (.int .u64 (x.next : Int)) ∧ V.cell? ⟨be, oe + 2, none⟩ = some (.int .u64 (x.last : Int)) ∧ V.cell? ⟨be, oe + 3, none⟩ = some (.slice se.a x.dels.length se.c) ∧ V.cell? ⟨be, oe + 4, none⟩ = some (.slice se.a' x.adds.length se.c')) (first | with_reducible exact ⟨z0, z1, z2, z3, z4, z5, z6, z7, z8⟩ | with_reducible exact ⟨x0, x1, x2, x3, x4, x5, x6, x7, x8⟩ | go_keep)
        (first
         | (go_at_call 27; (with_reducible refine (HAP.out _ HD0.out).mono ?_); rintro _ vx ⟨u, rfl, HO, hvx⟩; have HY : Hid (Below wr.heap.size wr vx) := HD0.out.trans (hvx.mono (by simp)); have hge : wr.heap.size ≤ vx.heap.size := HY.out.size; have hn1 : w.heap.size + 1 ≠ vx.heap.size := (by omega); have hn2 : be ≠ vx.heap.size := (by omega); clear hvx z0 z1 z2 z3 z4 z5 z6 z7 z8; obtain ⟨z0, z1, z2, z3, z4, z5, z6, z7, z8⟩ := HC.out _ HY.out)
         | (go_at_call 27; (with_reducible refine (HAP.out _ HDV.out).mono ?_); rintro _ vx ⟨u, rfl, HO, hvx⟩; have HY : Hid (Below wr.heap.size wr vx) := HDV.out.trans (hvx.mono (by simp)); have KB : Hid (Box vx wr.heap.size TVn #[.slice none 0 0, .slice none 0 0, .slice none 0 0, .slice none 0 0]) := (by have h9 : Box (wr.alloc (.cells #[.slice none 0 0, .slice none 0 0, .slice none 0 0, .slice none 0 0] TVn)).drew wr.heap.size TVn #[.slice none 0 0, .slice none 0 0, .slice none 0 0, .slice none 0 0] := Box.new wr TVn #[.slice none 0 0, .slice none 0 0, .slice none 0 0, .slice none 0 0]; exact h9.kept (hvx.block _ h9.lt)); have k0 := KB.out.cell 0; have k1 := KB.out.cell 1; have k2 := KB.out.cell 2; have k3 := KB.out.cell 3; have ks := KB.out.soft; clear hvx z0 z1 z2 z3 z4 z5 z6 z7 z8; obtain ⟨z0, z1, z2, z3, z4, z5, z6, z7, z8⟩ := HC.out _ HY.out))
       all_goals go_wp2_with fail
       all_goals go_meet
       all_goals first
        | exact ⟨_, u, rfl, rfl, Ow.new HY.out HO (Nat.le_refl _)⟩
        | exact ⟨_, u, rfl, rfl, Ow.set HY.out HO (by show _ < (wr.alloc _).heap.size; rw [World.size_alloc]; exact Nat.lt_succ_self _) (Nat.le_refl _) KB.out⟩
      case rest =>
       obtain ⟨pv, u, rfl, rfl, HOW⟩ := hcut
       have HW : Hid (Ow wr pv u0 u wc ∧ Sg w s t wc) := ⟨HOW, HI.out.2.later HOW.below⟩
       clear HOW
       obtain ⟨v0, v1, v2, v3⟩ := HW.out.1.box.fourV
       obtain ⟨d0, d1, d2, d3, d4, d5, d6, d7⟩ := HW.out.2.st.eight
       have rs : ∀ j, wc.frozen? ⟨w.heap.size + 1, j, none⟩ = false := fun j => HW.out.2.st.soft j
       by_cases hr : r = 0
       · subst hr
         have HSN : Hid (stA s x = ⟨s.num, u0, s.log, s.next, s.last⟩) := by
          unfold Hid stA
          rw [HR.out]
          rfl
         have HWU : Hid (WfV u0) := wf_apply HR.out HI.out.2.wf HX.out.2
         obtain ⟨Z, eZ, HZ⟩ := put4_all HW.out.2.st u0 u
         have HNX : Hid (Sg w ⟨s.num, u0, s.log, s.next, s.last⟩ u Z) := by
          have hge := HW.out.1.ge
          refine ⟨HW.out.2.base.trans (HZ.out.2.below (fun k hk => by omega) HW.out.2.base.size), HW.out.2.r.kept (HZ.out.2.block _ HW.out.2.r.lt (by omega)), HZ.out.1, ?_, HWU.out⟩
          exact (HW.out.1.own.kept15 (w' := Z) fun k hk hB => HZ.out.2.block k hk (by omega)).lower (by omega)
         go_wp2_with fail
         rw [← eZ]
         go_roundw
         case rel => exact ⟨k + 1, _, u, hkn, hk5, by go_num, by rw [HT.out, HSN.out], HNX.out⟩
         case measure => simp only [intOf]; omega
       · have hrb : ((r : Int) == 0) = false := beq_eq_false_iff_ne.2 (by omega)
         have HSN : Hid (stA s x = s) := by
          unfold Hid stA
          rw [HR.out]
          simp [hr]
         go_wp2
         go_roundw
         case rel => exact ⟨k + 1, s, t, hkn, hk5, by go_num, by rw [HT.out, HSN.out], HW.out.2⟩
         case measure => simp only [intOf]; omega
    · obtain rfl : k = 6 := by omega
      have hkI : ((6 : Nat) : Int) < (n : Int) := by omega
      have HSP : Hid (sp = s) := by
       unfold Hid
       rw [HST.out, HI.out.1]
      obtain ⟨d0, d1, d2, d3, d4, d5, d6, d7⟩ := HI.out.2.st.eight
      obtain ⟨r0, r1, r2, r3, r4, r5, r6, r7⟩ := HI.out.2.r.eight
      have rsf : ∀ j, wr.frozen? ⟨w.heap.size, j, none⟩ = false := fun j => HI.out.2.r.soft j
      obtain ⟨Z, eZ, z0, z1, z2, z3, z4, z5, z6, z7, HZ⟩ := put8_all HI.out.2.r (.int .u64 (s.num : Int)) (.slice (t.a 0) (s.v 0).length (t.c 0)) (.slice (t.a 1) (s.v 1).length (t.c 1)) (.slice (t.a 2) (s.v 2).length (t.c 2)) (.slice (t.a 3) (s.v 3).length (t.c 3)) (.int .u64 (s.log : Int)) (.int .u64 (s.next : Int)) (.int .u64 (s.last : Int))
      have HOV : Hid (OwnV Z w.heap.size s.v t ∧ Below w.heap.size w Z) := ⟨(HI.out.2.own.kept15 (w' := Z) fun k hk hB => HZ.out.2.block k hk (by omega)).lower (by omega), HI.out.2.base.trans (HZ.out.2.below (fun k hk => by omega) HI.out.2.base.size)⟩
      go_wp2
      rw [← eZ]
      refine bodyPost_ret (v := sV s t) (by simp [results, Tryz.results23, go_sem, z0, z1, z2, z3, z4, z5, z6, z7]) rfl ?_
      rw [HSP.out]
      exact ⟨t, rfl, HOV.out.1, HI.out.2.wf, HOV.out.2⟩
  · obtain rfl : k = n := by omega
    have HSP : Hid (sp = s) := by
     unfold Hid
     rw [HST.out, HI.out.1]
     rw [List.take_of_length_le (by rw [HE.out.2]; omega), List.take_of_length_le (by rw [HE.out.2]; omega)]
    obtain ⟨d0, d1, d2, d3, d4, d5, d6, d7⟩ := HI.out.2.st.eight
    obtain ⟨r0, r1, r2, r3, r4, r5, r6, r7⟩ := HI.out.2.r.eight
    have rsf : ∀ j, wr.frozen? ⟨w.heap.size, j, none⟩ = false := fun j => HI.out.2.r.soft j
    obtain ⟨Z, eZ, z0, z1, z2, z3, z4, z5, z6, z7, HZ⟩ := put8_all HI.out.2.r (.int .u64 (s.num : Int)) (.slice (t.a 0) (s.v 0).length (t.c 0)) (.slice (t.a 1) (s.v 1).length (t.c 1)) (.slice (t.a 2) (s.v 2).length (t.c 2)) (.slice (t.a 3) (s.v 3).length (t.c 3)) (.int .u64 (s.log : Int)) (.int .u64 (s.next : Int)) (.int .u64 (s.last : Int))
    have HOV : Hid (OwnV Z w.heap.size s.v t ∧ Below w.heap.size w Z) := ⟨(HI.out.2.own.kept15 (w' := Z) fun k hk hB => HZ.out.2.block k hk (by omega)).lower (by omega), HI.out.2.base.trans (HZ.out.2.below (fun k hk => by omega) HI.out.2.base.size)⟩
    go_wp2
    rw [← eZ]
    refine bodyPost_ret (v := sV s t) (by simp [results, Tryz.results23, go_sem, z0, z1, z2, z3, z4, z5, z6, z7]) rfl ?_
    rw [HSP.out]
    exact ⟨t, rfl, HOV.out.1, HI.out.2.wf, HOV.out.2⟩
end Go.Proofs.YtmlfbihlbiikeaaGreatDoor
namespace Go.Proofs.YtmlfbihlbiikeaaGreatDoor
open Go.RowKit
section
variable {J : Face} {w0 w w' : World} {p : Nat} {S S' : PFs} {R R' : Nat → Prop} {v : PV} {t : SV}
theorem fw_state (H : FsOk J) (h : Fw J w0 p S R w) (num last : Nat) (a : Option Addr) (n c : Nat) (l : List (PE × SE)) (he : EsAt w a n c l) (hn : n ≤ 2000000000000) (h1 : num ≤ 1000) (hl : last < 18446744073709551616) :
 Calls Tryz.prog 23 #[.int .u64 (num : Int), .int .u64 (last : Int), .slice a n c] w fun e w' => ∃ t, e = .returned (sV (stateP num last (l.map Prod.fst)) t) ∧ ∃ R', Fw J w0 p S R' w' ∧ Nx R R' w w' ∧ VS w' R' (stateP num last (l.map Prod.fst)).v t := by
 refine (state_any num last a n c l w he hn h1 hl).mono ?_
 rintro e w' ⟨t, he, ho, hw, hb⟩
 obtain ⟨R', a, b, c⟩ := h.call H hb
 exact ⟨t, he, R', c, ⟨a, Kp.of hb⟩, VS.new ho hw b⟩
theorem fw_fuse (H : FsOk J) (h : Fw J w0 p S R w) (n : Int) (hn : -9223372036854775808 ≤ n ∧ n ≤ 9223372036854775807) : Calls Tryz.prog 28 #[at_ p, .int .i64 n] w fun e w' => e = .returned (.tuple #[]) ∧ FR J w0 p (S.setFuse n) R w w' :=
 (H.fuse 0 n hn h.j rfl).mono fun e w' ⟨a, b, c⟩ => ⟨a, FR.mk' h b c⟩
theorem fw_crash (H : FsOk J) (h : Fw J w0 p S R w) (a : Option Addr) (n c : Nat) (picks : List Int) (hi : IsAt w0 a n c picks) : Calls Tryz.prog 26 #[at_ p, .slice a n c] w fun e w' => e = .returned (.tuple #[]) ∧ FR J w0 p (S.crash picks) R w w' :=
 (H.crash 0 a n c picks h.j rfl (hi.below (Nat.le_refl _) h.base) (fun hp ad ha => h.low _ (hi.old hp ad ha))).mono fun e w' ⟨a, b, c⟩ => ⟨a, FR.mk' h b c⟩
theorem fw_append (H : FsOk J) (h : Fw J w0 p S R w) (num : Nat) (x : PE) (sx : SE) (hS : S.asked < 900000) (hx : EdAt w x sx) (hw : WfE x) (hnum : num < 18446744073709551616) :
 Calls Tryz.prog 29 #[at_ p, .int .u64 (num : Int), .agg #[.int .u64 (x.log : Int), .int .u64 (x.next : Int), .int .u64 (x.last : Int), .slice sx.a x.dels.length sx.c, .slice sx.a' x.adds.length sx.c']] w fun e w' => e = .returned (.int .i64 ((appendP num x S).2 : Nat)) ∧ FR J w0 p (appendP num x S).1 R w w' :=
 (append_any H (i := 0) num x sx h.j rfl hS h.gl hx hw hnum).mono fun e w' ⟨a, b, c⟩ => ⟨a, FR.mk' h b c⟩
end
end Go.Proofs.YtmlfbihlbiikeaaGreatDoor
namespace Go.Proofs.YtmlfbihlbiikeaaGreatDoor
theorem write_cut {s t : PSt} {k : Kn} {n : Nat} (ht : chkS t = 0) (hsn : 1 ≤ s.num ∧ s.num ≤ 1099511627776) (hne : nameP 3 s.num ≠ nameP 3 t.num) (hm : nmW cr0 (nameP 3 s.num) 5 cr0.names = [⟨curB, 2⟩, ⟨nameP 3 s.num, 1⟩]) (hk : Fine k n) (f : Int) (picks : List Int)
 (hq : 2 * t.bytes.length + 200 + (200 + s.bytes.length) ≤ 1048576) :
 ∃ c4 k4 e, writeP t ((pf (cr1 (nameP 3 s.num) s.bytes) k).setFuse f) = (pf c4 k4, e) ∧ k4.asked ≤ n + 12 ∧ ∃ c5 k5, (pf c4 k4).crash picks = pf c5 k5 ∧ k5.quiet ∧ k5.asked ≤ n + 12 ∧
  (Holds c5 (nameP 3 t.num) t.bytes ∨ (e ≠ 0 ∧ Holds c5 (nameP 3 s.num) s.bytes)) := by
 obtain ⟨_, g1, g2⟩ := chkS_zero ht
 obtain ⟨hn, hl⟩ := man_mn g1 g2
 obtain ⟨hn0, hl0⟩ := man_mn hsn.1 hsn.2
 have hB := cr1_base s.bytes hn0 hm
 have f1 : findN (cr1 (nameP 3 s.num) s.bytes).names (nameP 3 t.num) = none := cr1_find _ (Ne.symm hne) hn.cur
 have hb := cr1_bulk (nameP 3 s.num) s.bytes
 obtain ⟨j, e, k', hj12, _, hj, hq2, hqu, hak, he⟩ := run_write (q := 1048576) (c := cr1 (nameP 3 s.num) s.bytes) (k := ⟨k.quota, decide (0 ≤ f), f, k.fails, k.fail, k.asked⟩) (m := nameP 3 t.num) (B := t.bytes) hn f1 hB.tmp hB.idx (by omega) hk.quota
 have hw : writeP t ((pf (cr1 (nameP 3 s.num) s.bytes) k).setFuse f) = (pf ((cr1 (nameP 3 s.num) s.bytes :: crsW (cr1 (nameP 3 s.num) s.bytes) (nameP 3 t.num) t.bytes).getD j (cr1 (nameP 3 s.num) s.bytes)) k', e) := by
  rw [show (pf (cr1 (nameP 3 s.num) s.bytes) k).setFuse f = pf (cr1 (nameP 3 s.num) s.bytes) ⟨k.quota, decide (0 ≤ f), f, k.fails, k.fail, k.asked⟩ from rfl]
  unfold writeP
  rw [if_neg (by omega)]
  exact he
 have hka := hk.asked
 obtain ⟨c2, k2, e1, e2, e3, e4, e5⟩ := write_crash (B := t.bytes) hB hn hn0 hne hj12 k' picks
 refine ⟨_, k', e, hw, by simp at hak; omega, c2, k2, e1, e2, by simp at hak; omega, ?_⟩
 rcases e5 with h | ⟨h1, h2⟩
 · exact .inl h
 · exact .inr ⟨fun h0 => by have := hj.1 h0; omega, h2⟩
theorem append_cut {s : PSt} {x : PE} {k : Kn} {n : Nat} (hsn : 1 ≤ s.num ∧ s.num ≤ 1099511627776) (hm : nmW cr0 (nameP 3 s.num) 5 cr0.names = [⟨curB, 2⟩, ⟨nameP 3 s.num, 1⟩]) (hx : x.err = 0) (hk : Fine k n) (f : Int) (picks : List Int)
 (hq : 138768 + (200 + s.bytes.length) ≤ 1048576) :
 ∃ c4 k4 e, appendP s.num x ((pf (cr1 (nameP 3 s.num) s.bytes) k).setFuse f) = (pf c4 k4, e) ∧ k4.asked ≤ n + 3 ∧ ∃ c5 k5 cut, (pf c4 k4).crash picks = pf c5 k5 ∧ k5.quiet ∧ k5.asked ≤ n + 3 ∧
  cut ≤ (manOf (s.eds ++ [x])).length ∧ Holds c5 (nameP 3 s.num) ((manOf (s.eds ++ [x])).take cut) ∧ s.bytes.length ≤ cut ∧ (e = 0 → cut = (manOf (s.eds ++ [x])).length) := by
 obtain ⟨hn0, hl0⟩ := man_mn hsn.1 hsn.2
 have hB := cr1_base s.bytes hn0 hm
 have hb := cr1_bulk (nameP 3 s.num) s.bytes
 have hka := hk.asked
 have hmo : manOf (s.eds ++ [x]) = s.bytes ++ putP s.bytes.length true x.enc := manOf_snoc _ _
 have hidle : ∀ (c : Cr) (k' : Kn), c = cr1 (nameP 3 s.num) s.bytes → ∃ c5 k5 cut, (pf c k').crash picks = pf c5 k5 ∧ k5.quiet ∧ k5.asked ≤ k'.asked ∧
  cut ≤ (manOf (s.eds ++ [x])).length ∧ Holds c5 (nameP 3 s.num) ((manOf (s.eds ++ [x])).take cut) ∧ s.bytes.length ≤ cut ∧ cut = s.bytes.length := fun c k' hc => by
  subst hc
  obtain ⟨k2, a, b, d, e⟩ := hB.crash k' picks
  refine ⟨_, k2, s.bytes.length, e, a, by omega, by rw [hmo, List.length_append]; omega, ?_, Nat.le_refl _, rfl⟩
  rw [hmo, List.take_left]
  exact hB.holds
 by_cases hoff : (⟨k.quota, decide (0 ≤ f), f, k.fails, k.fail, k.asked⟩ : Kn).fused = true ∧ f = 0
 · -- the power is off: nothing is read
   have hr : ((pf (cr1 (nameP 3 s.num) s.bytes) k).setFuse f).read (nameP 3 s.num) = ([], 44) := by
    unfold PFs.read
    rw [if_pos (by show (decide (0 ≤ f) && (f == 0)) = true; rw [hoff.2]; rfl)]
   have hap : appendP s.num x ((pf (cr1 (nameP 3 s.num) s.bytes) k).setFuse f) = (pf (cr1 (nameP 3 s.num) s.bytes) ⟨k.quota, decide (0 ≤ f), f, k.fails, k.fail, k.asked⟩, 44) := by
    unfold appendP
    rw [hr, if_neg (by omega), if_pos (by decide)]
    rfl
   obtain ⟨c5, k5, cut, e1, e2, e3, e4, e5, e6, _⟩ := hidle _ ⟨k.quota, decide (0 ≤ f), f, k.fails, k.fail, k.asked⟩ rfl
   exact ⟨_, _, _, hap, by show k.asked ≤ _; omega, c5, k5, cut, e1, e2, by simp at e3; omega, e4, e5, e6, fun h => absurd h (by decide)⟩
 · have hr : ((pf (cr1 (nameP 3 s.num) s.bytes) k).setFuse f).read (nameP 3 s.num) = (s.bytes, 0) := by
    unfold PFs.read
    have ho : ((pf (cr1 (nameP 3 s.num) s.bytes) k).setFuse f).off = false := by
     show (decide (0 ≤ f) && (f == 0)) = false
     by_cases h0 : f = 0
     · exact absurd ⟨by simp [h0], h0⟩ hoff
     · simp [h0]
    rw [if_neg (by rw [ho]; decide)]
    have hf : findN ((pf (cr1 (nameP 3 s.num) s.bytes) k).setFuse f).names (nameP 3 s.num) = some 1 := hB.man
    rw [hf]
    rfl
   by_cases h9 : 131072 < x.enc.length
   · have hap : appendP s.num x ((pf (cr1 (nameP 3 s.num) s.bytes) k).setFuse f) = (pf (cr1 (nameP 3 s.num) s.bytes) ⟨k.quota, decide (0 ≤ f), f, k.fails, k.fail, k.asked⟩, 90) := by
      unfold appendP
      rw [hr, if_neg (by omega), if_neg (fun h => h rfl), if_pos h9]
      rfl
     obtain ⟨c5, k5, cut, e1, e2, e3, e4, e5, e6, _⟩ := hidle _ ⟨k.quota, decide (0 ≤ f), f, k.fails, k.fail, k.asked⟩ rfl
     exact ⟨_, _, _, hap, by show k.asked ≤ _; omega, c5, k5, cut, e1, e2, by simp at e3; omega, e4, e5, e6, fun h => absurd h (by decide)⟩
   · have hps := put_short s.bytes.length x.enc
     obtain ⟨j, e, k', hj3, _, hj, hq2, hqu, hak, he⟩ := run_append (c := cr1 (nameP 3 s.num) s.bytes) (k := ⟨k.quota, decide (0 ≤ f), f, k.fails, k.fail, k.asked⟩) (b := putP s.bytes.length true x.enc) hB (by omega) hk.quota
     have hap : appendP s.num x ((pf (cr1 (nameP 3 s.num) s.bytes) k).setFuse f) = (pf ((cr1 (nameP 3 s.num) s.bytes :: crsA (cr1 (nameP 3 s.num) s.bytes) 1 s.bytes (putP s.bytes.length true x.enc)).getD j (cr1 (nameP 3 s.num) s.bytes)) k', e) := by
      unfold appendP
      rw [hr, if_neg (by omega), if_neg (fun h => h rfl), if_neg h9]
      exact he
     obtain ⟨c2, k2, t, e1, e2, e3, e4, e5, e6, e7⟩ := append_crash hB (putP s.bytes.length true x.enc) hj3 k' picks
     refine ⟨_, k', e, hap, by simp at hak; omega, c2, k2, s.bytes.length + t, e1, e2, by simp at hak; omega, by rw [hmo, List.length_append]; omega, ?_, by omega, fun h0 => ?_⟩
     · rw [hmo, List.take_append]
       rw [List.take_of_length_le (by omega), show s.bytes.length + t - s.bytes.length = t by omega]
       exact e7
     · rw [hmo, List.length_append, e6 (hj.1 h0)]
end Go.Proofs.YtmlfbihlbiikeaaGreatDoor
