/- staddlelaw02.IkeyOrders, for every argument: its statement is proved here, out of the walk of the text IkeyOrdersWalk. Conditions: none. -/
import Derived.Test.YtleojljcidocjaaArgs2
import Derived.Test.YtleojljcidocjaaRows
import Derived.Test.YtleojljcidocjaaIkeyOrdersWalk
import Derived.ProofKit
import Derived.OpenShut
import Derived.ShutString
import Derived.ChangeOld
import Derived.SizedLaws
import Derived.JoinedCond
namespace Go.Proofs.Ytleojljcidocjaa
open Go.ChangeShapes Go.WideShapes Go.ChangeAt Go.RowKit
open Go.ChangeMaps (open_string shut_string)
set_option linter.unusedVariables false
theorem ikeyOrders_knob : ownKnob Try.prog.godebug = none := by kernel_rfl
theorem ikeyOrders_laid : laidOutB Try.prog = true := by kernel_rfl
set_option maxRecDepth 100000 in
theorem ikeyOrders_lifted (os : Os) (started : os.Started) (H : Type) (enc : TypeId × Value → H) :
    ReturnsInHanded {} Try.checked os 5 .any (Rows.ikeyOrdersSpec.pre6 enc Try.prog Try.f5 Rows.ikeyOrdersRow.domain false) (Rows.ikeyOrdersSpec.post enc Try.prog Try.f5 false true false false) := by
  refine returnsInHanded_of_change_sized (C := Try.checked) ikeyOrders_knob started (by kernel_rfl) Try.func5
    (ChangeSpec.witness6 (enc := enc) (C := Try.checked) false ⟨#[], #[.agg #[.string ByteArray.empty, .int .u64 0, .int .i64 0], .agg #[.string ByteArray.empty, .int .u64 0, .int .i64 0]], []⟩ 8 (by kernel_rfl) (by kernel_rfl) (by kernel_rfl) (by kernel_rfl)) ?_
  intro W base args ds gs before hval0 hW hcnd hsz _
  have hval : ∀ (j : Nat) t v, Try.f5.params[j]? = some t → args[j]? = some v → Value.okWide Try.prog W .any base t v := hval0
  have hW' := hW
  obtain ⟨p, q, hA0, hV, rfl, hfz, hnd⟩ := hW
  have hA : DataW.TrodAll enc Try.prog W 0 (fun _ => true) true Try.f5.params.toList args.toList ds p := hA0
  rw [Try.params5] at hA hval
  rw [Try.params5] at hsz
  obtain ⟨v0, vs0, d0, ds0, p0, q0, hargs, rfl, rfl, h0, r0⟩ := trodAll_cons hA
  obtain ⟨v1, vs1, d1, ds1, p1, q1, rfl, rfl, rfl, h1, r1⟩ := trodAll_cons r0
  obtain ⟨rfl, rfl, rfl⟩ := trodAll_nil r1
  obtain rfl : args = #[v0, v1] := by cases args; simp_all
  obtain ⟨rfl, rfl⟩ := trodVars_none hV
  obtain ⟨s0, q0, k0, rfl, rfl, rfl, w0, x0, y0⟩ := open_key (hval 0 25 v0 rfl rfl) h0
  have e0 : s0.size ≤ 140737488351232 := sized_key hsz (j := 0) rfl rfl
  obtain ⟨s1, q1, k1, rfl, rfl, rfl, w1, x1, y1⟩ := open_key (hval 1 25 v1 rfl rfl) h1
  have e1 : s1.size ≤ 140737488351232 := sized_key hsz (j := 1) rfl rfl
  clear hA0 hval0
  refine (ikeyOrders_walk s0 q0 k0 s1 q1 k1 W e0 x0 y0 e1 x1 y1).mono fun e W' ⟨he, bel⟩ => ?_
  subst he
  exact ⟨_, rfl, _, _, _, [], _, [], hW', trodAll_mk1 (shut_bool Try.underlying4 _), (trodAll_cons_mk (shut_key w0 x0 y0) (trodAll_cons_mk (shut_key w1 x1 y1) trodAll_mk0)), rfl, bel.frame _, fun h => by cases h⟩

theorem ikeyOrders_proved : Rows.IkeyOrdersSaid :=
  OpenClaim.holds_of_wide 5 Try.f5 rfl rfl rfl rfl rfl rfl rfl ⟨rfl, rfl, rfl, rfl, rfl⟩ rfl rfl rfl rfl rfl (by kernel_rfl) Try.func5 (by kernel_rfl)
    (of_decide_eq_true (by kernel_rfl)) (by unfold Func.isWrapper; first | (rw [if_pos (by decide +kernel)]; kernel_rfl) | (rw [if_neg (by decide +kernel)]; exact ⟨rfl, rfl⟩))
    (fun os started H enc _ => ikeyOrders_lifted os started H enc)
end Go.Proofs.Ytleojljcidocjaa
