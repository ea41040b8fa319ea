/- The contract of the statements' awake. -/
import Derived.Test.YtjlmjgbkeibaiaaC11OpenA
import Derived.Test.YtjlmjgbkeibaiaaC11BuildB
import Derived.Test.YtjlmjgbkeibaiaaC11FindA
import Derived.Deep.RegionHeld3
namespace Go.Proofs.Ytjlmjgbkeibaiaa
open Go.RowKit
set_option linter.unusedVariables false
set_option linter.unusedSimpArgs false
def lw : List KV := [(⟨⟨#[97, 98]⟩, 1, 1⟩, ⟨#[120]⟩), (⟨⟨#[97, 99]⟩, 1, 1⟩, ⟨#[]⟩)]
def lwA : Array Value := #[.string ⟨#[97, 98]⟩, .int .u64 1, .int .i64 1, .string ⟨#[120]⟩, .string ⟨#[97, 99]⟩, .int .u64 1, .int .i64 1, .string ⟨#[]⟩]
theorem lw_chk : chkL lw = 0 := by
  refine chkL_zero.2 ⟨?_, ?_⟩
  · intro e he
    simp only [lw, List.mem_cons, List.not_mem_nil, or_false] at he
    rcases he with rfl | rfl
    · exact ⟨by decide +kernel, by decide +kernel⟩
    · exact ⟨by decide +kernel, by decide +kernel⟩
  · refine List.Pairwise.cons (fun x hx => ?_) (List.Pairwise.cons (fun x hx => absurd hx (by simp)) List.Pairwise.nil)
    simp only [List.mem_cons, List.not_mem_nil, or_false] at hx
    subst hx
    show IK.cmp _ _ < 0
    unfold IK.cmp
    rw [ByteArray.toList_eq, ByteArray.toList_eq]
    decide +kernel
theorem lw_len : (layP 2 lw).length = 35 := by decide +kernel
theorem lw_b0 : ((layP 2 lw).getD 0 0).toNat = 0 := by decide +kernel
theorem lw_b1 : ((layP 2 lw).getD 1 0).toNat = 10 := by decide +kernel
theorem lw_b14 : ((layP 2 lw).getD 14 0).toNat = 1 := by decide +kernel
theorem cmpw (s t : Array UInt8) (q r : Nat) (k l : Int) : IK.cmp ⟨⟨s⟩, q, k⟩ ⟨⟨t⟩, r, l⟩ = kcmp s.toList t.toList (q : Int) (r : Int) k l := by
  unfold IK.cmp
  simp only
  rw [ByteArray.toList_eq, ByteArray.toList_eq]
theorem lw_f9 {n : Nat} (h : FirstAt lw ⟨⟨#[97, 98]⟩, 9, 0⟩ n) : n = 0 := by
  by_cases h0 : n = 0
  · exact h0
  · have := h.no 0 (by decide) (by omega)
    exact absurd this (by show ¬ IK.cmp ⟨⟨#[97, 98]⟩, 1, 1⟩ ⟨⟨#[97, 98]⟩, 9, 0⟩ < 0; rw [cmpw]; decide +kernel)
theorem lw_f0 {n : Nat} (h : FirstAt lw ⟨⟨#[97, 98]⟩, 0, 0⟩ n) : n = 1 := by
  have h1 : ¬ n = 0 := fun e => by
    have := h.yes 0 (by decide) (by omega)
    exact absurd this (by show ¬ 0 ≤ IK.cmp ⟨⟨#[97, 98]⟩, 1, 1⟩ ⟨⟨#[97, 98]⟩, 0, 0⟩; rw [cmpw]; decide +kernel)
  by_cases h2 : n = 1
  · exact h2
  · have := h.no 1 (by decide) (by omega)
    exact absurd this (by show ¬ IK.cmp ⟨⟨#[97, 99]⟩, 1, 1⟩ ⟨⟨#[97, 98]⟩, 0, 0⟩ < 0; rw [cmpw]; decide +kernel)
theorem lw_ks (w : World) : KsAt (w.alloc (.cells lwA TKV)) (some ⟨w.heap.size, 0, none⟩) 2 2 lw := by
  refine ⟨rfl, Nat.le_refl _, by unfold maxLen; omega, fun _ => ⟨w.heap.size, 0, rfl, fun j hj => ?_⟩⟩
  rw [Nat.zero_add, (Box.new w TKV lwA).cell, ← Array.getElem?_toList]
  rfl
theorem lw_wf : WfL lw := by
  intro e he
  simp only [lw, List.mem_cons, List.not_mem_nil, or_false] at he
  rcases he with rfl | rfl
  · exact ⟨by decide, by decide⟩
  · exact ⟨by decide, by decide⟩
set_option maxRecDepth 100000 in
set_option maxHeartbeats 4000000 in
theorem awake_any (w : World) : Calls Try.prog 9 #[] w fun e w' => e = .returned (.bool true) ∧ Below w.heap.size w w' := by
  have H0 : Hid (Below w.heap.size w (w.alloc (.cells lwA TKV)) ∧ Box (w.alloc (.cells lwA TKV)) w.heap.size TKV lwA) := ⟨(Below.refl _ _).alloc (Nat.le_refl _) _, Box.new _ _ _⟩
  have hbd := build_yes (some ⟨w.heap.size, 0, none⟩) 2 2 lw 2 (by omega) (by omega) _ (lw_ks w) (by simp) (by intro x e; cases e; rfl) (by omega) lw_wf lw_chk
  rw [lw_len] at hbd
  go_enter Try.func9, Try.ntmps9
  go_wp2_with fail
  refine hbd.mono ?_
  rintro _ w1 ⟨ab, cb, rfl, hob, hb1⟩
  have H1 : Hid (Below w.heap.size w w1 ∧ Box w1 w.heap.size TKV lwA ∧ BsAt w1 ab 35 cb (layP 2 lw)) := ⟨H0.out.1.trans (hb1.mono H0.out.1.size), H0.out.2.kept (hb1.block _ H0.out.2.lt), hob.bs⟩
  clear hob hb1 hbd H0
  go_wp2_with fail
  refine (open_built H1.out.2.2 (by omega) (by omega) (by omega) lw_chk).mono ?_
  rintro _ w2 ⟨p, rfl, hg, hb2⟩
  have H2 : Hid (Below w.heap.size w w2 ∧ Box w2 w.heap.size TKV lwA ∧ GB w2 w1.heap.size p 2 lw) := ⟨H1.out.1.trans (hb2.mono H1.out.1.size), H1.out.2.1.kept (hb2.block _ H1.out.2.1.lt), hg⟩
  obtain ⟨bb, bo, rfl, hcb⟩ := (H1.out.2.2.below (Nat.le_refl _) hb2).here (by omega)
  have b0 : w2.cell? ⟨bb, bo, none⟩ = some (.int .u8 0) := by have := hcb 0 (by omega); rw [lw_b0] at this; exact this
  have b1 : w2.cell? ⟨bb, bo + 1, none⟩ = some (.int .u8 10) := by have := hcb 1 (by omega); rw [lw_b1] at this; exact this
  have b14 : w2.cell? ⟨bb, bo + 14, none⟩ = some (.int .u8 1) := by have := hcb 14 (by omega); rw [lw_b14] at this; exact this
  have hcp : 35 ≤ cb := H1.out.2.2.le
  clear hb2 hg hcb
  have hat : Calls Try.prog 18 #[at_ p, .int .i64 1] w2 fun r w' => r = .returned (.tuple #[.agg #[.string ⟨#[97, 99]⟩, .int .u64 1, .int .i64 1, .string ⟨#[]⟩], .int .i64 0]) ∧ Below w2.heap.size w2 w' := at_yes H2.out.2.2 (i := 1) (by decide)
  go_wp2_with fail
  refine hat.mono ?_
  rintro _ w3 ⟨rfl, hb3⟩
  have H3 : Hid (Below w.heap.size w w3 ∧ Box w3 w.heap.size TKV lwA ∧ GB w3 w1.heap.size p 2 lw) := ⟨H2.out.1.trans (hb3.mono H2.out.1.size), H2.out.2.1.kept (hb3.block _ H2.out.2.1.lt), H2.out.2.2.below hb3⟩
  clear hb3 hat b0 b1 b14
  go_wp2_with fail
  have H4 : Hid (Below w.heap.size w (w3.alloc (.cells #[.string ⟨#[97, 99]⟩, .int .u64 1, .int .i64 1, .string ⟨#[]⟩] 42)) ∧ Box (w3.alloc (.cells #[.string ⟨#[97, 99]⟩, .int .u64 1, .int .i64 1, .string ⟨#[]⟩] 42)) w.heap.size TKV lwA ∧ GB (w3.alloc (.cells #[.string ⟨#[97, 99]⟩, .int .u64 1, .int .i64 1, .string ⟨#[]⟩] 42)) w1.heap.size p 2 lw ∧ Box (w3.alloc (.cells #[.string ⟨#[97, 99]⟩, .int .u64 1, .int .i64 1, .string ⟨#[]⟩] 42)) w3.heap.size TKV #[.string ⟨#[97, 99]⟩, .int .u64 1, .int .i64 1, .string ⟨#[]⟩]) := ⟨H3.out.1.alloc H3.out.1.size _, H3.out.2.1.alloc _, H3.out.2.2.below ((Below.refl _ _).alloc (Nat.le_refl _) _), Box.new _ _ _⟩
  generalize w3.alloc (.cells #[.string ⟨#[97, 99]⟩, .int .u64 1, .int .i64 1, .string ⟨#[]⟩] 42) = w4 at H4 ⊢
  generalize w3.heap.size = eb at H4 ⊢
  have HL : Hid (∀ V : World, GB V w1.heap.size p 2 lw → Calls Try.prog 15 #[at_ p] V fun r w' => r = .returned (.int .i64 2) ∧ V = w') := fun V hV => len_any hV.bk
  have HF9 : Hid (∀ V : World, GB V w1.heap.size p 2 lw → Calls Try.prog 16 #[at_ p, .agg #[.string ⟨#[97, 98]⟩, .int .u64 9, .int .i64 0]] V fun r w' => r = .returned (.int .i64 0) ∧ Below V.heap.size V w') := fun V hV => (find_any hV ⟨⟨#[97, 98]⟩, 9, 0⟩).mono fun r w' ⟨n, h1, h2, h3⟩ => ⟨by rw [h2, lw_f9 h1]; rfl, h3⟩
  have HF0 : Hid (∀ V : World, GB V w1.heap.size p 2 lw → Calls Try.prog 16 #[at_ p, .agg #[.string ⟨#[97, 98]⟩, .int .u64 0, .int .i64 0]] V fun r w' => r = .returned (.int .i64 1) ∧ Below V.heap.size V w') := fun V hV => (find_any hV ⟨⟨#[97, 98]⟩, 0, 0⟩).mono fun r w' ⟨n, h1, h2, h3⟩ => ⟨by rw [h2, lw_f0 h1]; rfl, h3⟩
  have heq : ∀ V : World, (binOp .eql 42 (.agg #[.string ⟨#[97, 99]⟩, .int .u64 1, .int .i64 1, .string ⟨#[]⟩]) (.agg #[.string ⟨#[97, 99]⟩, .int .u64 1, .int .i64 1, .string ⟨#[]⟩])).run Try.prog V = .ok (.bool true) V := fun V => by
    simp [go_sem, Try.underlying42, Try.underlying32, Try.underlying9, Try.underlying30, Try.underlying3]
  have HC : Hid (∀ V : World, Box V w.heap.size TKV lwA ∧ Box V eb TKV #[.string ⟨#[97, 99]⟩, .int .u64 1, .int .i64 1, .string ⟨#[]⟩] → V.cell? ⟨w.heap.size, 4, none⟩ = some (.string ⟨#[97, 99]⟩) ∧ V.cell? ⟨w.heap.size, 5, none⟩ = some (.int .u64 1) ∧ V.cell? ⟨w.heap.size, 6, none⟩ = some (.int .i64 1) ∧ V.cell? ⟨w.heap.size, 7, none⟩ = some (.string ⟨#[]⟩) ∧ V.cell? ⟨eb, 0, none⟩ = some (.string ⟨#[97, 99]⟩) ∧ V.cell? ⟨eb, 1, none⟩ = some (.int .u64 1) ∧ V.cell? ⟨eb, 2, none⟩ = some (.int .i64 1) ∧ V.cell? ⟨eb, 3, none⟩ = some (.string ⟨#[]⟩)) := fun V ⟨h1, h2⟩ => ⟨h1.cell 4, h1.cell 5, h1.cell 6, h1.cell 7, h2.cell 0, h2.cell 1, h2.cell 2, h2.cell 3⟩
  have H5 : Hid (Below w.heap.size w w4.drew ∧ Box w4.drew w.heap.size TKV lwA ∧ GB w4.drew w1.heap.size p 2 lw ∧ Box w4.drew eb TKV #[.string ⟨#[97, 99]⟩, .int .u64 1, .int .i64 1, .string ⟨#[]⟩]) := ⟨H4.out.1.drew, H4.out.2.1, H4.out.2.2.1.below (Below.refl _ _).drew, H4.out.2.2.2⟩
  obtain ⟨x4, x5, x6, x7, y0, y1, y2, y3⟩ := HC.out _ ⟨H5.out.2.1, H5.out.2.2.2⟩
  go_region_held3 (fun V => V.cell? ⟨w.heap.size, 4, none⟩ = some (.string ⟨#[97, 99]⟩) ∧ V.cell? ⟨w.heap.size, 5, none⟩ = some (.int .u64 1) ∧ V.cell? ⟨w.heap.size, 6, none⟩ = some (.int .i64 1) ∧ V.cell? ⟨w.heap.size, 7, none⟩ = some (.string ⟨#[]⟩) ∧ V.cell? ⟨eb, 0, none⟩ = some (.string ⟨#[97, 99]⟩) ∧ V.cell? ⟨eb, 1, none⟩ = some (.int .u64 1) ∧ V.cell? ⟨eb, 2, none⟩ = some (.int .i64 1) ∧ V.cell? ⟨eb, 3, none⟩ = some (.string ⟨#[]⟩)) (first | exact ⟨x4, x5, x6, x7, y0, y1, y2, y3⟩ | go_keep)
    (first
     | (go_at_call 16; refine (HF0.out _ H6.out.2.2.1).mono ?_; rintro _ vz ⟨rfl, hbz⟩
        have H7 : Hid (Below w.heap.size w vz ∧ Box vz w.heap.size TKV lwA ∧ Box vz eb TKV #[.string ⟨#[97, 99]⟩, .int .u64 1, .int .i64 1, .string ⟨#[]⟩]) := ⟨H6.out.1.trans (hbz.mono H6.out.1.size), H6.out.2.1.kept (hbz.block _ H6.out.2.1.lt), H6.out.2.2.2.kept (hbz.block _ H6.out.2.2.2.lt)⟩
        obtain ⟨x4, x5, x6, x7, y0, y1, y2, y3⟩ := HC.out _ ⟨H7.out.2.1, H7.out.2.2⟩
        clear hbz)
     | (go_at_call 16; refine (HF9.out _ H5.out.2.2.1).mono ?_; rintro _ vy ⟨rfl, hby⟩
        have H6 : Hid (Below w.heap.size w vy ∧ Box vy w.heap.size TKV lwA ∧ GB vy w1.heap.size p 2 lw ∧ Box vy eb TKV #[.string ⟨#[97, 99]⟩, .int .u64 1, .int .i64 1, .string ⟨#[]⟩]) := ⟨H5.out.1.trans (hby.mono H5.out.1.size), H5.out.2.1.kept (hby.block _ H5.out.2.1.lt), H5.out.2.2.1.below hby, H5.out.2.2.2.kept (hby.block _ H5.out.2.2.2.lt)⟩
        obtain ⟨x4, x5, x6, x7, y0, y1, y2, y3⟩ := HC.out _ ⟨H6.out.2.1, H6.out.2.2.2⟩
        clear hby)
     | (go_at_call 15; refine (HL.out _ H5.out.2.2.1).mono ?_; rintro _ vx ⟨rfl, hvx⟩
        obtain rfl : w4.drew = vx := hvx))
  go_wp2
  go_ret
  exact ⟨ret1 rfl, H7.out.1⟩
end Go.Proofs.Ytjlmjgbkeibaiaa
