/- The contract of the statements' own awake: calls whose answers the document fixes. -/
import Derived.Test.YtmlfbihlbiikeaaGreatDoorQa29
import Derived.Test.YtmlfbihlbiikeaaGreatDoorQa37
import Derived.Test.YtmlfbihlbiikeaaGreatDoorQa21
namespace Go.Proofs.YtmlfbihlbiikeaaGreatDoor
open Go.RowKit
set_option linter.unusedVariables false
set_option linter.unusedSimpArgs false
set_option maxRecDepth 100000
theorem fw_same {J : Face} {w0 w : World} {p : Nat} {S : PFs} {R : Nat → Prop} (H : FsOk J) (h : Fw J w0 p S R w) {s s' : PSt} {t t' : SV} (hv : VnAt w s.v t) (hv' : VnAt w s'.v t') :
    Calls Tryz.prog 22 #[sV s t, sV s' t'] w fun e w' => ∃ b : Bool, e = .returned (.bool b) ∧ (s.Like s' → b = true) ∧ FR J w0 p S R w w' := by
  refine (ssame_any hv hv').mono ?_
  rintro e w' ⟨⟨b, he, hb⟩, hbe⟩
  exact ⟨b, he, hb, FR.call H h hbe⟩
def s3 : PSt := ⟨3, noV, 2, 4, 9⟩
theorem s3_ok : s3.Ok := ⟨VOk.none, by decide, by decide, by decide⟩
theorem s3_chk : chkS s3 = 0 := chkS_yes s3_ok (by decide) (by decide)
theorem s3_len : s3.bytes.length ≤ 1000 := by
  have h : s3.eds = [s3.numE] := rfl
  have e1 := uvEnc_length s3.numE.log
  have e2 := uvEnc_length s3.numE.next
  have e3 := uvEnc_length s3.numE.last
  have e4 := uvEnc_length s3.numE.dels.length
  have e5 := uvEnc_length s3.numE.adds.length
  have hd : s3.numE.dels = [] := rfl
  have ha : s3.numE.adds = [] := rfl
  have h1 : s3.numE.enc.length ≤ 100 := by
    unfold PE.enc
    simp only [List.length_append]
    rw [hd] at e4 ⊢
    rw [ha] at e5 ⊢
    simp only [List.flatMap_nil, List.length_nil] at *
    omega
  have h2 := put_short 0 s3.numE.enc
  unfold PSt.bytes manOf
  rw [h]
  show (logFrom ([] ++ putP ([] : List UInt8).length true s3.numE.enc) []).length ≤ 1000
  show ([] ++ putP 0 true s3.numE.enc).length ≤ 1000
  rw [List.nil_append]
  omega
theorem new_read (q : Nat) (n : List UInt8) : (PFs.new q).read n = ([], 42) := by simp [PFs.read, PFs.off, PFs.new, findN]
theorem new_load (q : Nat) : loadP (PFs.new q) = (zS, 150) := by
  unfold loadP
  rw [new_read]
  rfl
theorem few_nil (num : Nat) : Few num [] := fun j s h => by
  have h1 : (walRead []).1 = [] := rfl
  rw [h1, List.take_nil] at h
  obtain rfl := Option.some.inj h
  show (PSt.zero 0).v.all.length < 60000
  decide
theorem awake_write : ∃ k, writeP s3 (PFs.new 10000) = (pf (cr1 (nameP 3 3) s3.bytes) k, 0) ∧ k.quiet ∧ k.asked ≤ 12 := by
  obtain ⟨hn, hl⟩ := man_mn (n := 3) (by decide) (by decide)
  obtain ⟨j, e, k', _, _, hj, hq, hqu, hak, he⟩ := run_write (q := 10000) (c := cr0) (k := ⟨10000, false, 0, false, 0, 0⟩) (m := nameP 3 3) (B := s3.bytes) hn rfl rfl (by simp [cr0]) (by have := s3_len; simp [cr0, bulkF5]; omega) rfl
  obtain ⟨h0, hk'⟩ := hq ⟨rfl, rfl⟩
  obtain rfl := hj.1 h0
  subst h0
  refine ⟨k', ?_, hk', by simpa using hak⟩
  unfold writeP
  rw [if_neg (by rw [s3_chk]; decide)]
  rw [← cr1_end _ (by rw [name_3]; exact fresh_3)]
  exact he
theorem name_tab7 : nameP 2 7 = [48, 48, 48, 48, 48, 55, 46, 116, 97, 98] := by
  rw [nameP_tab (by decide) (by decide)]
  unfold numB pad6
  rw [decDigits_small (by decide)]
  rfl
theorem name_log7 : nameP 1 7 = [48, 48, 48, 48, 48, 55, 46, 108, 111, 103] := by
  rw [nameP_log (by decide) (by decide)]
  unfold numB pad6
  rw [decDigits_small (by decide)]
  rfl
theorem tab_back : parseR [48, 48, 48, 48, 48, 55, 46, 116, 97, 98] = (2, 7) := by
  obtain ⟨a, b⟩ := (parseR_names (nameP 2 7)).num 2 7 (.inr (.inl rfl)) (by decide) (by decide) rfl
  rw [name_tab7] at a b
  exact Prod.ext a b
set_option maxHeartbeats 4000000 in
theorem awake_any {J : Face} (H : FsOk J) (w : World) (hg : Gl w) (h8 : 6 ≤ w.heap.size) : Calls Tryz.prog 9 #[] w fun e w' => e = .returned (.bool true) ∧ Below w.heap.size w w' := by
  have HN := fw_new H (w0 := w) 10000 (by decide) hg h8
  have HHH : Hid (FsOk J) := H
  go_enter Tryz.func9, Tryz.ntmps9
  go_wp2_with fail
  refine HN.mono ?_
  rintro _ w1 ⟨p, R1, rfl, h1⟩
  have H1 : Hid (Fw J w p (PFs.new 10000) R1 w1) := h1
  have HL := fw_load0 H h1 (by rw [new_read]; exact ⟨by decide, by rw [new_read]; decide⟩) (by rw [new_read]; dsimp only; rw [new_read]; exact few_nil _)
  rw [new_load] at HL
  dsimp only at HL
  clear h1 HN
  go_wp2_with fail
  refine HL.mono ?_
  rintro _ w2 ⟨t2, rfl, R2, h2, hn2, hv2⟩
  obtain ⟨R3, h3, n3, b3⟩ := Fw.box H h2 zS hv2
  obtain ⟨R4, h4, n4, b4⟩ := Fw.box H h3 s3 (VS.none _ _)
  rw [World.size_alloc] at b4
  obtain ⟨k, ek, hkq, hka⟩ := awake_write
  have HW := fw_write H h4 s3 sv0 (by decide) (VS.none _ R4).at zS_wf (by decide) (by decide)
  rw [ek] at HW
  dsimp only at HW
  have HF : Hid (SB ((w2.alloc (.cells (sA zS t2) TSt)).alloc (.cells (sA s3 sv0) TSt)) R4 (w2.heap.size + 1) s3 sv0) := b4
  clear HL h2 hn2 hv2 h3 n3 b3 h4 n4 b4 ek H1
  go_wp2_with fail
  refine HW.mono ?_
  rintro _ w5 ⟨rfl, R5, h5, n5⟩
  have B5 : Hid (SB w5 R5 (w2.heap.size + 1) s3 sv0) := HF.out.nx n5
  have HL2 := fw_loadW H h5 hkq (num := 3) ⟨by decide, by decide⟩ (L := s3.eds) (cr1_base s3.bytes (man_mn (by decide) (by decide)).1 (by rw [name_3]; exact fresh_3)).holds (Nat.le_trans s3_len (by decide)) s3_ok.errs (by decide) (told_self s3_ok four_no)
  clear HW HF h5 n5
  go_wp2_with fail
  refine HL2.mono ?_
  rintro _ w6 ⟨t6, rfl, R6, h6, n6, v6⟩
  obtain ⟨W7, R7, eW7, h7, n7, b7⟩ := Fw.box2 H h6 s3 v6
  have B7 : Hid (SB W7 R7 (w2.heap.size + 1) s3 sv0 ∧ SB W7 R7 w6.heap.size s3 t6) := ⟨(B5.out.nx n6).nx n7, b7⟩
  have HS := fw_same H h7 B7.out.1.vs.at B7.out.2.vs.at
  obtain ⟨c0, c1, c2, c3, c4, c5, c6, c7⟩ := B7.out.1.box.eight
  obtain ⟨d0, d1, d2, d3, d4, d5, d6, d7⟩ := B7.out.2.box.eight
  clear HL2 h6 n6 v6 B5 h7 n7 b7
  go_upto_region 8 with fail
  rw [← eW7.out]
  clear eW7
  generalize w6.heap.size = b7 at B7 d0 d1 d2 d3 d4 d5 d6 d7 ⊢
  go_wp2_with fail
  refine HS.mono ?_
  rintro _ w8 ⟨b, rfl, hb, R8, h8, n8⟩
  obtain rfl : b = true := hb (PSt.Like.refl _)
  have H8 : Hid (Below w.heap.size w w8 ∧ Gl w8) := ⟨h8.base, h8.gl⟩
  clear HS B7 c0 c1 c2 c3 c4 c5 c6 c7 d0 d1 d2 d3 d4 d5 d6 d7 hb h8 n8
  have HP := parse_any [48, 48, 48, 48, 48, 55, 46, 116, 97, 98] (by decide) w8 H8.out.2
  rw [tab_back] at HP
  dsimp only at HP
  go_wp2_with fail
  refine HP.mono ?_
  rintro _ w9 ⟨rfl, hb9⟩
  have H9 : Hid (Below w.heap.size w w9 ∧ Gl w9) := ⟨H8.out.1.trans (hb9.mono H8.out.1.size), H8.out.2.later hb9⟩
  have HNM := name_any 1 ⟨by decide, by decide⟩ 7 (by decide) w9 H9.out.2
  rw [name_log7, show strOf [48, 48, 48, 48, 48, 55, 46, 108, 111, 103] = ⟨#[48, 48, 48, 48, 48, 55, 46, 108, 111, 103]⟩ from rfl] at HNM
  clear HP hb9 H8
  go_wp2_with fail
  refine HNM.mono ?_
  rintro _ w10 ⟨rfl, hb10⟩
  go_wp2
  try go_ret
  exact ⟨ret1 rfl, H9.out.1.trans (hb10.mono H9.out.1.size)⟩
theorem awake_yes (w : World) (hg : Gl w) (h8 : 6 ≤ w.heap.size) : Calls Tryz.prog 9 #[] w fun e w' => e = .returned (.bool true) ∧ Below w.heap.size w w' := awake_any fsOk w hg h8
end Go.Proofs.YtmlfbihlbiikeaaGreatDoor
