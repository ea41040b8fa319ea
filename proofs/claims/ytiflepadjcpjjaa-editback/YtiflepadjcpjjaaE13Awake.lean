/- The statements' own awake: it answers true. -/
import Derived.Test.YtiflepadjcpjjaaE13Dec
import Derived.Test.YtiflepadjcpjjaaE13Same
namespace Go.Proofs.Ytiflepadjcpjjaa
open Go.RowKit
set_option linter.unusedVariables false
set_option linter.unusedSimpArgs false
def xa : PE := ⟨3, 0, 0, [⟨1, 300⟩], []⟩
def xb : PE := ⟨0, 0, 0, [], [⟨4, 0, 0, ⟨⟨#[]⟩, 0, 0⟩, ⟨⟨#[]⟩, 0, 0⟩⟩]⟩
theorem xa_err : xa.err = 0 := by decide
theorem xa_enc : xa.enc = [3, 0, 0, 1, 1, 172, 2, 0] := by decide
theorem xa_lay : xa.lay = [3, 0, 0, 1, 1, 172, 2, 0] := by rw [PE.lay_yes xa_err, xa_enc]
theorem xa_dec : decE [3, 0, 0, 1, 1, 172, 2, 0] = some xa := decE_iff.2 ⟨xa_err, xa_enc⟩
theorem xb_err : xb.err = 130 := by
  unfold PE.err xb
  simp [errL, PF.err, gErr]
set_option maxRecDepth 100000 in
set_option maxHeartbeats 2000000 in
theorem awake_any (w : World) : Calls Try.prog 8 #[] w fun e w' => e = .returned (.bool true) ∧ Below w.heap.size w w' := by
  obtain ⟨W1, e1, HW⟩ : ∃ W1, W1 = (w.alloc (.cells (gA ⟨1, 300⟩) TG)).alloc (.cells (eA xa ⟨some ⟨w.heap.size, 0, none⟩, 1, none, 0⟩) TE) ∧ Hid (Below w.heap.size w W1 ∧ Box W1 (w.heap.size + 1) TE (eA xa ⟨some ⟨w.heap.size, 0, none⟩, 1, none, 0⟩) ∧ EdAt W1 xa ⟨some ⟨w.heap.size, 0, none⟩, 1, none, 0⟩) := by
    refine ⟨_, rfl, ((Below.refl _ _).alloc (Nat.le_refl _) _).alloc (by simp) _, ?_, (GsAt.one w ⟨1, 300⟩).below ((Below.refl _ _).alloc (Nat.le_refl _) _), FlAt.nil _⟩
    have := Box.new (w.alloc (.cells (gA ⟨1, 300⟩) TG)) TE (eA xa ⟨some ⟨w.heap.size, 0, none⟩, 1, none, 0⟩)
    simpa using this
  have hen : ∀ W, W = (w.alloc (.cells (gA ⟨1, 300⟩) TG)).alloc (.cells (eA xa ⟨some ⟨w.heap.size, 0, none⟩, 1, none, 0⟩) TE) → Calls Try.prog 9 #[.agg #[.int .u64 3, .int .u64 0, .int .u64 0, .slice (some ⟨w.heap.size, 0, none⟩) 1 1, .slice none 0 0]] W fun e w' => ∃ a' c', e = .returned (.tuple #[.slice a' 8 c', .int .i64 0]) ∧ OwnB w' W1.heap.size a' 8 c' [3, 0, 0, 1, 1, 172, 2, 0] ∧ Below W1.heap.size W1 w' := by
    rintro W rfl
    rw [← e1]
    have := eenc_any xa _ W1 HW.out.2.2 (fun f hf => by cases hf)
    rw [xa_lay, xa_err] at this
    exact this
  clear e1
  go_enter Try.func8, Try.ntmps8
  go_wp2_with fail
  refine (hen _ rfl).mono ?_
  rintro _ w2 ⟨a2, k2, rfl, ho2, hb2⟩
  have H2 : Hid (Below w.heap.size w w2 ∧ Box w2 (w.heap.size + 1) TE (eA xa ⟨some ⟨w.heap.size, 0, none⟩, 1, none, 0⟩) ∧ EdAt w2 xa ⟨some ⟨w.heap.size, 0, none⟩, 1, none, 0⟩ ∧ BsAt w2 a2 8 k2 [3, 0, 0, 1, 1, 172, 2, 0]) := ⟨HW.out.1.trans (hb2.mono HW.out.1.size), HW.out.2.1.kept (hb2.block _ HW.out.2.1.lt), HW.out.2.2.below hb2, ho2.bs⟩
  have hde := edec_any a2 8 k2 [3, 0, 0, 1, 1, 172, 2, 0] w2 ho2.bs (by omega)
  clear hen hb2 ho2 HW
  go_wp2_with fail
  refine hde.mono ?_
  rintro _ w3 ⟨hb3, ⟨hno, _⟩ | ⟨x, s, hx, rfl, hog, hof⟩⟩
  · rw [xa_dec] at hno
    cases hno
  obtain rfl : x = xa := by rw [xa_dec] at hx; exact (Option.some.inj hx).symm
  obtain ⟨W3, e3, H3⟩ : ∃ W3, W3 = w3.alloc (.cells (eA xa s) TE) ∧ Hid (Below w.heap.size w W3 ∧ Box W3 (w.heap.size + 1) TE (eA xa ⟨some ⟨w.heap.size, 0, none⟩, 1, none, 0⟩) ∧ EdAt W3 xa ⟨some ⟨w.heap.size, 0, none⟩, 1, none, 0⟩ ∧ BsAt W3 a2 8 k2 [3, 0, 0, 1, 1, 172, 2, 0] ∧ EdAt W3 xa s) := by
    have hb : Below w2.heap.size w2 (w3.alloc (.cells (eA xa s) TE)) := hb3.trans ((Below.refl _ _).alloc hb3.size _)
    exact ⟨_, rfl, H2.out.1.trans (hb.mono H2.out.1.size), H2.out.2.1.kept (hb.block _ H2.out.2.1.lt), H2.out.2.2.1.below hb, H2.out.2.2.2.below (Nat.le_refl _) hb, ⟨(hog.alloc _).gs, (hof.alloc _).fs⟩⟩
  have d0 : w3.cell? ⟨w.heap.size + 1, 0, none⟩ = some (.int .u64 3) := (H2.out.2.1.kept (hb3.block _ H2.out.2.1.lt)).cell 0
  have d1 : w3.cell? ⟨w.heap.size + 1, 1, none⟩ = some (.int .u64 0) := (H2.out.2.1.kept (hb3.block _ H2.out.2.1.lt)).cell 1
  have d2 : w3.cell? ⟨w.heap.size + 1, 2, none⟩ = some (.int .u64 0) := (H2.out.2.1.kept (hb3.block _ H2.out.2.1.lt)).cell 2
  have d3 : w3.cell? ⟨w.heap.size + 1, 3, none⟩ = some (.slice (some ⟨w.heap.size, 0, none⟩) 1 1) := (H2.out.2.1.kept (hb3.block _ H2.out.2.1.lt)).cell 3
  have d4 : w3.cell? ⟨w.heap.size + 1, 4, none⟩ = some (.slice none 0 0) := (H2.out.2.1.kept (hb3.block _ H2.out.2.1.lt)).cell 4
  have hlt : w.heap.size + 1 < w3.heap.size := (H2.out.2.1.kept (hb3.block _ H2.out.2.1.lt)).lt
  have hsm : ∀ W, W = w3.alloc (.cells (eA xa s) TE) → Calls Try.prog 11 #[.agg #[.int .u64 3, .int .u64 0, .int .u64 0, .slice (some ⟨w.heap.size, 0, none⟩) 1 1, .slice none 0 0], .agg #[.int .u64 (xa.log : Int), .int .u64 (xa.next : Int), .int .u64 (xa.last : Int), .slice s.a xa.dels.length s.c, .slice s.a' xa.adds.length s.c']] W fun e w' => e = .returned (.bool true) ∧ Below W3.heap.size W3 w' := by
    rintro W rfl
    rw [← e3]
    have := same_eq (x := xa) (s := ⟨some ⟨w.heap.size, 0, none⟩, 1, none, 0⟩) (t := s) H3.out.2.2.1 H3.out.2.2.2.2
    exact this
  clear hde hb3 hx hog hof e3 H2
  go_wp2_with fail
  refine (hsm _ rfl).mono ?_
  rintro _ w4 ⟨rfl, hb4⟩
  have H4 : Hid (Below w.heap.size w w4) := H3.out.1.trans (hb4.mono H3.out.1.size)
  obtain ⟨b, o, hba, hbc⟩ := (H3.out.2.2.2.1.below (Nat.le_refl _) hb4).here (by omega)
  subst hba
  have g0 : w4.cell? ⟨b, o, none⟩ = some (.int .u8 3) := hbc 0 (by omega)
  have g5 : w4.cell? ⟨b, o + 5, none⟩ = some (.int .u8 172) := hbc 5 (by omega)
  have HC : Hid (∀ W : World, Below w.heap.size w (W.alloc (.cells (fA ⟨4, 0, 0, ⟨⟨#[]⟩, 0, 0⟩, ⟨⟨#[]⟩, 0, 0⟩⟩) TF)) → Calls Try.prog 12 #[.agg #[.int .u64 0, .int .u64 0, .int .u64 0, .slice none 0 0, .slice (some ⟨W.heap.size, 0, none⟩) 1 1]] (W.alloc (.cells (fA ⟨4, 0, 0, ⟨⟨#[]⟩, 0, 0⟩, ⟨⟨#[]⟩, 0, 0⟩⟩) TF)) fun e w' => e = .returned (.int .i64 130) ∧ Below w.heap.size w w') := fun W hW => by
    have := echeck_any xb ⟨none, 0, some ⟨W.heap.size, 0, none⟩, 1⟩ (W.alloc (.cells (fA ⟨4, 0, 0, ⟨⟨#[]⟩, 0, 0⟩, ⟨⟨#[]⟩, 0, 0⟩⟩) TF)) ⟨GsAt.nil _, FlAt.one _ _⟩ (fun f hf => by
      obtain rfl := List.mem_singleton.1 hf
      exact ⟨by show (0 : Nat) ≤ _; omega, by show (0 : Nat) ≤ _; omega⟩)
    rw [xb_err] at this
    refine this.mono ?_
    rintro e w' ⟨rfl, hb⟩
    exact ⟨rfl, hW.trans (hb.mono hW.size)⟩
  clear hsm hb4 hbc d0 d1 d2 d3 d4 H3
  go_wp2_with fail
  refine (HC.out w4 (H4.out.alloc H4.out.size _)).mono ?_
  rintro _ w5 ⟨rfl, hb5⟩
  have H5 : Hid (Below w.heap.size w w5) := hb5
  clear hb5
  go_wp2
  go_ret
  exact ⟨ret1 rfl, H5.out⟩
end Go.Proofs.Ytiflepadjcpjjaa
