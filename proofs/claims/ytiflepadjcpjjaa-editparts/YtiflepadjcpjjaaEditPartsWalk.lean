/- The walk of EditParts. -/
import Derived.Test.YtiflepadjcpjjaaE13Awake
import Derived.Test.YtiflepadjcpjjaaW9Sl
import Derived.BigQuiet
import Derived.Laws.Concat
namespace Go.Proofs.Ytiflepadjcpjjaa
open Go.RowKit
set_option linter.unusedVariables false
set_option linter.unusedSimpArgs false
def PE.hd (x : PE) : PE := ⟨x.log, x.next, x.last, [], []⟩
def PE.dl (x : PE) : PE := ⟨0, 0, 0, x.dels, []⟩
def PE.ad (x : PE) : PE := ⟨0, 0, 0, [], x.adds⟩
theorem PE.err_mk {x : PE} (h1 : x.dels.length ≤ 20000) (h2 : x.adds.length ≤ 100) (h3 : x.log ≤ 1099511627776) (h4 : x.next ≤ 1099511627776) (h5 : x.last ≤ 72057594037927935) (h6 : ∀ g ∈ x.dels, g.err = 0) (h7 : ∀ f ∈ x.adds, f.err = 0) : x.err = 0 := by
  unfold PE.err
  rw [if_neg (by omega), if_neg (by omega), if_neg (by omega), errL_zero.2 h6, errL_zero.2 h7]
  rfl
theorem parts_err {x : PE} : x.err = 0 ↔ x.hd.err = 0 ∧ x.dl.err = 0 ∧ x.ad.err = 0 := by
  constructor
  · intro h
    obtain ⟨h1, h2, h3, h4, h5, h6, h7⟩ := PE.err_zero h
    exact ⟨PE.err_mk (Nat.zero_le _) (Nat.zero_le _) h3 h4 h5 (by simp [PE.hd]) (by simp [PE.hd]), PE.err_mk h1 (Nat.zero_le _) (Nat.zero_le _) (Nat.zero_le _) (Nat.zero_le _) h6 (by simp [PE.dl]), PE.err_mk (Nat.zero_le _) h2 (Nat.zero_le _) (Nat.zero_le _) (Nat.zero_le _) (by simp [PE.ad]) h7⟩
  · rintro ⟨h, k, l⟩
    obtain ⟨_, _, h3, h4, h5, _, _⟩ := PE.err_zero h
    obtain ⟨h1, _, _, _, _, h6, _⟩ := PE.err_zero k
    obtain ⟨_, h2, _, _, _, _, h7⟩ := PE.err_zero l
    exact PE.err_mk h1 h2 h3 h4 h5 h6 h7
theorem uvEnc_zero : uvEnc 0 = [0] := by decide
theorem hd_enc (x : PE) : x.hd.enc = (uvEnc x.log ++ (uvEnc x.next ++ uvEnc x.last)) ++ [0, 0] := by
  unfold PE.enc PE.hd
  simp [uvEnc_zero]
theorem dl_enc (x : PE) : x.dl.enc = [0, 0, 0] ++ ((uvEnc x.dels.length ++ x.dels.flatMap PG.enc) ++ [0]) := by
  unfold PE.enc PE.dl
  simp [uvEnc_zero]
theorem ad_enc (x : PE) : x.ad.enc = [0, 0, 0, 0] ++ (uvEnc x.adds.length ++ x.adds.flatMap PF.enc) := by
  unfold PE.enc PE.ad
  simp [uvEnc_zero]
theorem hd_cut (x : PE) : 5 ≤ x.hd.enc.length ∧ x.hd.enc.take (x.hd.enc.length - 2) = uvEnc x.log ++ (uvEnc x.next ++ uvEnc x.last) := by
  have e1 := uvEnc_length x.log
  have e2 := uvEnc_length x.next
  have e3 := uvEnc_length x.last
  rw [hd_enc]
  refine ⟨by simp; omega, ?_⟩
  rw [List.take_left']
  simp
  omega
theorem dl_cut (x : PE) : 5 ≤ x.dl.enc.length ∧ (x.dl.enc.drop 3).take (x.dl.enc.length - 1 - 3) = uvEnc x.dels.length ++ x.dels.flatMap PG.enc := by
  have e1 := uvEnc_length x.dels.length
  rw [dl_enc]
  refine ⟨by simp; omega, ?_⟩
  rw [List.drop_left' (by simp), List.take_left']
  simp
theorem ad_cut (x : PE) : 5 ≤ x.ad.enc.length ∧ x.ad.enc.drop 4 = uvEnc x.adds.length ++ x.adds.flatMap PF.enc := by
  have e1 := uvEnc_length x.adds.length
  rw [ad_enc]
  refine ⟨by simp; omega, ?_⟩
  rw [List.drop_left' (by simp)]
theorem parts_enc (x : PE) : x.enc = x.hd.enc.take (x.hd.enc.length - 2) ++ (x.dl.enc.drop 3).take (x.dl.enc.length - 1 - 3) ++ x.ad.enc.drop 4 := by
  rw [(hd_cut x).2, (dl_cut x).2, (ad_cut x).2]
  unfold PE.enc
  simp
theorem strOf_app (a b : List UInt8) : strOf a ++ strOf b = strOf (a ++ b) := by
  apply ByteArray.ext
  simp [strOf]
set_option maxRecDepth 100000 in
set_option maxHeartbeats 4000000 in
theorem editParts_walk (x : PE) (s : SE) (w : World) (h : EdAt w x s) (hwf : WfE x) (hdl : x.dels.length * 16 ≤ 140737488351232) (hal : x.adds.length * 88 ≤ 140737488351232) :
    Calls Try.prog 7 #[.agg #[.int .u64 (x.log : Int), .int .u64 (x.next : Int), .int .u64 (x.last : Int), .slice s.a x.dels.length s.c, .slice s.a' x.adds.length s.c']] w fun e w' => e = .returned (.bool true) ∧ Below w.heap.size w w' := by
  have HB0 : Hid (Below w.heap.size w (w.alloc (.cells (eA x s) TE)) ∧ Box (w.alloc (.cells (eA x s) TE)) w.heap.size TE (eA x s)) := ⟨(Below.refl _ _).alloc (Nat.le_refl _) _, Box.new _ _ _⟩
  have HS : Hid (EdAt w x s ∧ WfE x) := ⟨h, hwf⟩
  clear h hwf
  go_enter Try.func7, Try.ntmps7
  go_wp2_with fail
  refine (awake_any _).mono ?_
  rintro _ w1 ⟨rfl, hb1⟩
  have H1 : Hid (Below w.heap.size w w1 ∧ Box w1 w.heap.size TE (eA x s)) := ⟨HB0.out.1.trans (hb1.mono HB0.out.1.size), HB0.out.2.kept (hb1.block _ HB0.out.2.lt)⟩
  obtain ⟨c0, c1, c2, c3, c4⟩ := H1.out.2.five
  clear hb1 HB0
  go_wp2_with fail
  refine (eenc_any x s w1 (HS.out.1.below H1.out.1) HS.out.2).mono ?_
  rintro _ w2 ⟨a2, k2, rfl, ho2, hb2⟩
  have H2 : Hid (Below w.heap.size w w2 ∧ Box w2 w.heap.size TE (eA x s) ∧ BsAt w2 a2 x.lay.length k2 x.lay) := ⟨H1.out.1.trans (hb2.mono H1.out.1.size), H1.out.2.kept (hb2.block _ H1.out.2.lt), ho2.bs⟩
  clear c0 c1 c2 c3 c4
  obtain ⟨c0, c1, c2, c3, c4⟩ := H2.out.2.1.five
  clear ho2 hb2
  go_wp2_with fail
  refine (eenc_any x.hd sz0 w2 ⟨GsAt.nil _, FlAt.nil _⟩ (fun f hf => by cases hf)).mono ?_
  rintro _ w3 ⟨a3, k3, rfl, ho3, hb3⟩
  have H3 : Hid (Below w.heap.size w w3 ∧ Box w3 w.heap.size TE (eA x s) ∧ BsAt w3 a2 x.lay.length k2 x.lay ∧ BsAt w3 a3 x.hd.lay.length k3 x.hd.lay) := ⟨H2.out.1.trans (hb3.mono H2.out.1.size), H2.out.2.1.kept (hb3.block _ H2.out.2.1.lt), H2.out.2.2.below (Nat.le_refl _) hb3, ho3.bs⟩
  clear c0 c1 c2 c3 c4
  obtain ⟨c0, c1, c2, c3, c4⟩ := H3.out.2.1.five
  clear ho3 hb3
  go_wp2_with fail
  refine (eenc_any x.dl ⟨s.a, s.c, none, 0⟩ w3 ⟨(HS.out.1.below H3.out.1).gs, FlAt.nil _⟩ (fun f hf => by cases hf)).mono ?_
  rintro _ w4 ⟨a4, k4, rfl, ho4, hb4⟩
  have H4 : Hid (Below w.heap.size w w4 ∧ Box w4 w.heap.size TE (eA x s) ∧ BsAt w4 a2 x.lay.length k2 x.lay ∧ BsAt w4 a3 x.hd.lay.length k3 x.hd.lay ∧ BsAt w4 a4 x.dl.lay.length k4 x.dl.lay) := ⟨H3.out.1.trans (hb4.mono H3.out.1.size), H3.out.2.1.kept (hb4.block _ H3.out.2.1.lt), H3.out.2.2.1.below (Nat.le_refl _) hb4, H3.out.2.2.2.below (Nat.le_refl _) hb4, ho4.bs⟩
  clear c0 c1 c2 c3 c4
  obtain ⟨c0, c1, c2, c3, c4⟩ := H4.out.2.1.five
  clear ho4 hb4
  go_wp2_with fail
  refine (eenc_any x.ad ⟨none, 0, s.a', s.c'⟩ w4 ⟨GsAt.nil _, (HS.out.1.below H4.out.1).fs⟩ HS.out.2).mono ?_
  rintro _ w5 ⟨a5, k5, rfl, ho5, hb5⟩
  have H5 : Hid (Below w.heap.size w w5 ∧ BsAt w5 a2 x.lay.length k2 x.lay ∧ BsAt w5 a3 x.hd.lay.length k3 x.hd.lay ∧ BsAt w5 a4 x.dl.lay.length k4 x.dl.lay ∧ BsAt w5 a5 x.ad.lay.length k5 x.ad.lay) := ⟨H4.out.1.trans (hb5.mono H4.out.1.size), H4.out.2.2.1.below (Nat.le_refl _) hb5, H4.out.2.2.2.1.below (Nat.le_refl _) hb5, H4.out.2.2.2.2.below (Nat.le_refl _) hb5, ho5.bs⟩
  clear ho5 hb5 c0 c1 c2 c3 c4 H1 H2 H3 H4
  by_cases her : x.err = 0
  · obtain ⟨e1, e2, e3⟩ := parts_err.1 her
    have l0 := PE.lay_yes her
    have l1 := PE.lay_yes e1
    have l2 := PE.lay_yes e2
    have l3 := PE.lay_yes e3
    rw [l0, l1, l2, l3] at H5 ⊢
    rw [her, e1, e2, e3]
    have hc1 := hd_cut x
    have hc2 := dl_cut x
    have hc3 := ad_cut x
    have HP : Hid (x.enc = x.hd.enc.take (x.hd.enc.length - 2) ++ (x.dl.enc.drop 3).take (x.dl.enc.length - 1 - 3) ++ x.ad.enc.drop 4) := parts_enc x
    have b1 := PE.enc_len e1
    have b2 := PE.enc_len e2
    have b3 := PE.enc_len e3
    clear her e1 e2 e3 l0 l1 l2 l3
    have hk1 := hc1.1
    have hk2 := hc2.1
    have hk3 := hc3.1
    clear hc1 hc2 hc3
    generalize x.enc = E0 at H5 HP
    generalize x.hd.enc = E1 at H5 HP hk1 b1
    generalize x.dl.enc = E2 at H5 HP hk2 b2
    generalize x.ad.enc = E3 at H5 HP hk3 b3
    generalize hL0 : E0.length = n0 at *
    generalize hL1 : E1.length = n1 at *
    generalize hL2 : E2.length = n2 at *
    generalize hL3 : E3.length = n3 at *
    clear hL0 hL1 hL2 hL3
    obtain ⟨p1, s1, t1⟩ := slice_to H5.out.2.2.1 (n1 - 2) (by omega)
    obtain ⟨p2, s2, t2⟩ := slice_mid H5.out.2.2.2.1 3 (n2 - 1) (by omega) (by omega)
    obtain ⟨p3, s3, t3⟩ := slice_any H5.out.2.2.2.2 4 (by omega)
    have q0 : ∀ d, (convert 28 9 (.slice a2 n0 k2)).run Try.prog (w5.drewN d) = .ok (.string (strOf E0)) (w5.drewN d) := fun d => conv_of (H5.out.2.1.below (Nat.le_refl _) ⟨rfl, rfl, rfl, Nat.le_refl _, fun _ _ => rfl⟩)
    have q1 : ∀ d, (convert 28 9 (.slice p1 (n1 - 2) k3)).run Try.prog (w5.drewN d) = .ok (.string (strOf (E1.take (n1 - 2)))) (w5.drewN d) := fun d => conv_of ((t1 _ _ H5.out.2.2.1).below (Nat.le_refl _) ⟨rfl, rfl, rfl, Nat.le_refl _, fun _ _ => rfl⟩)
    have q2 : ∀ d, (convert 28 9 (.slice p2 (n2 - 1 - 3) (k4 - 3))).run Try.prog (w5.drewN d) = .ok (.string (strOf ((E2.drop 3).take (n2 - 1 - 3)))) (w5.drewN d) := fun d => conv_of ((t2 _ _ H5.out.2.2.2.1).below (Nat.le_refl _) ⟨rfl, rfl, rfl, Nat.le_refl _, fun _ _ => rfl⟩)
    have q3 : ∀ d, (convert 28 9 (.slice p3 (n3 - 4) (k5 - 4))).run Try.prog (w5.drewN d) = .ok (.string (strOf (E3.drop 4))) (w5.drewN d) := fun d => conv_of ((t3 _ _ H5.out.2.2.2.2).below (Nat.le_refl _) ⟨rfl, rfl, rfl, Nat.le_refl _, fun _ _ => rfl⟩)
    clear t1 t2 t3
    rw [show ((n1 - 2 : Nat) : Int) = IntKind.i64.wrap ((n1 : Int) - 2) by rw [IntKind.wrap_i64]; omega] at s1
    rw [show ((n2 - 1 : Nat) : Int) = IntKind.i64.wrap ((n2 : Int) - 1) by rw [IntKind.wrap_i64]; omega] at s2
    rw [show ((3 : Nat) : Int) = 3 from rfl] at s2
    rw [show ((4 : Nat) : Int) = 4 from rfl] at s3
    have HJ : Hid (strOf E0 = strOf (E1.take (n1 - 2)) ++ strOf ((E2.drop 3).take (n2 - 1 - 3)) ++ strOf (E3.drop 4)) := by
      show _ = _
      rw [HP.out, strOf_app, strOf_app]
    have z1 : (strOf (E1.take (n1 - 2))).size ≤ 420000 := by rw [str_len, List.length_take]; omega
    have z2 : (strOf ((E2.drop 3).take (n2 - 1 - 3))).size ≤ 420000 := by rw [str_len, List.length_take]; omega
    have z3 : (strOf (E3.drop 4)).size ≤ 420000 := by rw [str_len, List.length_drop]; have := H5.out.2.2.2.2.size; omega
    generalize strOf E0 = S0 at q0 HJ
    generalize strOf (E1.take (n1 - 2)) = S1 at q1 HJ z1
    generalize strOf ((E2.drop 3).take (n2 - 1 - 3)) = S2 at q2 HJ z2
    generalize strOf (E3.drop 4) = S3 at q3 HJ z3
    have a1 : ∀ W : World, (Op.stringOp .add S1 S2).run Try.prog W = .ok (.string (S1 ++ S2)) W := fun W => run_string_add (P := Try.prog) W S1 S2 (by omega) (by omega)
    have a2' : ∀ W : World, (Op.stringOp .add (S1 ++ S2) S3).run Try.prog W = .ok (.string (S1 ++ S2 ++ S3)) W := fun W => run_string_add (P := Try.prog) W (S1 ++ S2) S3 (by rw [ByteArray.size_append]; omega) (by omega)
    clear z1 z2 z3
    go_wp2_with fail
    go_quiet (fail)
    go_wp2
    go_ret
    refine ⟨ret1 ?_, H5.out.1.trans ⟨rfl, rfl, rfl, Nat.le_refl _, fun _ _ => rfl⟩⟩
    rw [HJ.out]
    simp
  · have HN : Hid (x.hd.err = 0 → x.dl.err = 0 → x.ad.err = 0 → False) := fun h1 h2 h3 => her (parts_err.2 ⟨h1, h2, h3⟩)
    have hne : (((x.err : Nat) : Int) != 0) = true := by simp; omega
    generalize x.err = er at hne ⊢
    generalize x.hd.err = r1 at HN ⊢
    generalize x.dl.err = r2 at HN ⊢
    generalize x.ad.err = r3 at HN ⊢
    generalize x.lay.length = n0
    generalize x.hd.lay.length = n1
    generalize x.dl.lay.length = n2
    generalize x.ad.lay.length = n3
    by_cases h1 : r1 = 0
    · subst h1
      by_cases h2 : r2 = 0
      · subst h2
        have hn3 : ((r3 : Int) != 0) = true := by
          have := HN.out rfl rfl
          simp
          intro e
          exact this (by omega)
        go_wp2
        go_ret
        exact ⟨ret1 rfl, H5.out.1⟩
      · have hn2 : ((r2 : Int) != 0) = true := by simp; omega
        go_wp2
        go_ret
        exact ⟨ret1 rfl, H5.out.1⟩
    · have hn1 : ((r1 : Int) != 0) = true := by simp; omega
      go_wp2
      go_ret
      exact ⟨ret1 rfl, H5.out.1⟩
end Go.Proofs.Ytiflepadjcpjjaa
