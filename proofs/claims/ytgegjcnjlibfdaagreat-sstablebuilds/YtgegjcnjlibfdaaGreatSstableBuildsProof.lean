/- staddlelaw12.SstableBuilds, for every argument: its statement is proved here, out of the walk of the text SstableBuildsWalk. Conditions: none. -/
import Derived.Test.YtgegjcnjlibfdaaGreatQa00
import Derived.Test.YtgegjcnjlibfdaaGreatQa21
import Derived.Test.YtgegjcnjlibfdaaGreatRows
import Derived.Test.YtgegjcnjlibfdaaGreatSstableBuildsWalk
import Derived.ProofKit
import Derived.OpenShut
import Derived.ShutString
import Derived.ChangeOld
import Derived.SizedLaws
import Derived.JoinedCond
namespace Go.Proofs.YtgegjcnjlibfdaaGreat
open Go.ChangeShapes Go.WideShapes Go.ChangeAt Go.RowKit
open Go.ChangeMaps (open_string shut_string)
set_option linter.unusedVariables false
theorem sstableBuilds_knob : ownKnob Tryz.prog.godebug = none := by kernel_rfl
theorem sstableBuilds_laid : laidOutB Tryz.prog = true := by kernel_rfl
set_option maxRecDepth 100000 in
theorem sstableBuilds_lifted (os : Os) (started : os.Started) (H : Type) (enc : TypeId × Value → H) :
    ReturnsInHanded {} Tryz.checked os 4 .any (Rows.sstableBuildsSpec.pre6 enc Tryz.prog Tryz.f4 Rows.sstableBuildsRow.domain false) (Rows.sstableBuildsSpec.post enc Tryz.prog Tryz.f4 false true false false) := by
  refine returnsInHanded_of_change_sized (C := Tryz.checked) sstableBuilds_knob started (by kernel_rfl) Tryz.func4
    (ChangeSpec.witness6 (enc := enc) (C := Tryz.checked) false ⟨#[], #[.slice none 0 0, .agg #[.int .i64 0, .int .i64 0, .float .f64 0]], []⟩ 8 (by kernel_rfl) (by kernel_rfl) (by kernel_rfl) (by kernel_rfl)) ?_
  intro W base args ds gs before hval0 hW hcnd hsz _
  have hval : ∀ (j : Nat) t v, Tryz.f4.params[j]? = some t → args[j]? = some v → Value.okWide Tryz.prog W .any base t v := hval0
  have hW' := hW
  obtain ⟨p, q, hA0, hV, rfl, hfz, hnd⟩ := hW
  have hA : DataW.TrodAll enc Tryz.prog W 0 (fun _ => true) true Tryz.f4.params.toList args.toList ds p := hA0
  rw [Tryz.params4] at hA hval
  rw [Tryz.params4] at hsz
  obtain ⟨v0, vs0, d0, ds0, p0, q0, hargs, rfl, rfl, h0, r0⟩ := trodAll_cons hA
  obtain ⟨v1, vs1, d1, ds1, p1, q1, rfl, rfl, rfl, h1, r1⟩ := trodAll_cons r0
  obtain ⟨rfl, rfl, rfl⟩ := trodAll_nil r1
  obtain rfl : args = #[v0, v1] := by cases args; simp_all
  obtain ⟨rfl, rfl⟩ := trodVars_none hV
  obtain ⟨a0, len0, cap0, rfl⟩ := okWide_slice Tryz.underlying23 (hval 0 23 v0 rfl rfl)
  have g0 := slice_spot Tryz.underlying23 (hval 0 23 _ rfl rfl)
  have k0 := h0
  have lt0 : ∀ x ∈ p0, x.block < W.heap.size := by obtain ⟨m, hm⟩ := k0; exact DataW.trod_lt m _ _ _ hm
  obtain ⟨b0, w0, f0, x0⟩ : ∃ l, KsAt W a0 len0 cap0 l ∧ (∀ e ∈ l, RawOk e ∧ e.1.seq < 18446744073709551616) ∧ ∀ e ∈ l, e.1.user.size ≤ 140737488351232 ∧ e.2.size ≤ 140737488351232 := by
    obtain ⟨fuel, hf⟩ := h0
    obtain ⟨a', l', c', cs, hcs, hC, hR, hX⟩ := open_kvs12 hf
    simp [Value.cells] at hcs
    obtain ⟨rfl, rfl, rfl⟩ := hcs
    have hw : ∀ n ∈ d0.weights Tryz.prog 23, n ≤ 140737488351232 := fun n hn => of_decide_eq_true (List.all_eq_true.1 hsz _ (DataW.weights_mem_each (j := 0) (t := 23) (d := d0) rfl rfl n hn))
    exact ⟨cs, hC, hR, kvs_said hX hw⟩
  obtain ⟨bl1, iv1, bits1, rfl, rfl, rfl, w1, x1, y1⟩ := open_opts (hval 1 26 v1 rfl rfl) h1
  clear hA0 hval0
  refine (sstableBuilds_walk a0 len0 cap0 b0 bl1 iv1 bits1 W w0 f0 g0 x0).mono fun e W' ⟨he, bel⟩ => ?_
  subst he
  exact ⟨_, rfl, _, _, _, [], _, [], hW', trodAll_mk1 (shut_bool Tryz.underlying4 _), (trodAll_cons_mk (Below.trod sstableBuilds_laid (by kernel_rfl) (of_decide_eq_true (by kernel_rfl)) k0 bel lt0) (trodAll_cons_mk (shut_opts w1 x1 y1) trodAll_mk0)), rfl, bel.frame _, fun h => by cases h⟩

theorem sstableBuilds_proved : Rows.SstableBuildsSaid :=
  OpenClaim.holds_of_wide 4 Tryz.f4 rfl rfl rfl rfl rfl rfl rfl ⟨rfl, rfl, rfl, rfl, rfl⟩ rfl rfl rfl rfl rfl (by kernel_rfl) Tryz.func4 (by kernel_rfl)
    (of_decide_eq_true (by kernel_rfl)) (by unfold Func.isWrapper; first | (rw [if_pos (by decide +kernel)]; kernel_rfl) | (rw [if_neg (by decide +kernel)]; exact ⟨rfl, rfl⟩))
    (fun os started H enc _ => sstableBuilds_lifted os started H enc)
end Go.Proofs.YtgegjcnjlibfdaaGreat
