/- The contracts of Before and Last. -/
import Derived.Test.YtnggajconglfcaaDoorS7Seek
import Derived.Test.YtnggajconglfcaaDoorS7LastB
namespace Go.Proofs.YtnggajconglfcaaDoor
open Go.RowKit
set_option linter.unusedVariables false
section
variable {w : World} {p : Nat} {S : PS} {g : SG} {key : ByteArray}
set_option maxRecDepth 100000 in
theorem last_nil (w : World) : Calls Tryd.prog 57 #[.pointer none] w fun e w' => e = .returned (.tuple #[.string ⟨#[]⟩, .bool false]) ∧ w' = w := by
  go_enter Tryd.func57, Tryd.ntmps57
  go_wp2
  go_returns
  exact ⟨rfl, rfl⟩
set_option maxRecDepth 100000 in
theorem last1_at (v : Value) (d : Nat) : Calls Tryd.prog 72 #[v] (w.drewN d) fun e w' => e = .returned (.bool true) ∧ ∃ d', w' = w.drewN d' := by
  go_enter Tryd.func72, Tryd.ntmps72
  go_wp2
  go_returns
  exact ⟨rfl, d, rfl⟩
set_option maxRecDepth 100000 in
theorem keyOf_at (h : SkAt w p S g) {c : Nat} (hc : c ≤ (S.lev 0).length) : Calls Tryd.prog 71 #[at_ p, .pointer (some (plc p g (place (S.lev 0) c)))] w fun e w' => e = .returned (.tuple #[.string (keyBefore S c), .bool (decide (0 < c))]) ∧ w' = w := by
  by_cases h0 : c = 0
  · subst h0
    have hcmp := node_eql w ⟨p, 1, none⟩ ⟨p, 1, none⟩ true (run_sameAddr_same (P := Tryd.prog) (w := w) _)
    show Calls _ _ #[at_ p, .pointer (some ⟨p, 1, none⟩)] w _
    clear h hc
    go_enter Tryd.func71, Tryd.ntmps71
    go_wp2
    go_returns
    exact ⟨rfl, rfl⟩
  · obtain ⟨k, rfl⟩ : ∃ k, c = k + 1 := ⟨c - 1, by omega⟩
    have hk : k < (S.lev 0).length := by omega
    have hmem := List.getElem_mem hk
    have hxl := h.inv.lt (by decide : 0 < 8) hmem
    obtain ⟨arr, hb⟩ := h.nodeBox hxl
    have hc0 := h.keyCell hxl
    have e1 : plc p g (place (S.lev 0) (k + 1)) = ⟨g.n (S.lev 0)[k], 0, none⟩ := by
      rw [show place (S.lev 0) (k + 1) = (S.lev 0)[k] + 1 by simp [place, List.getD, hk]]
      rfl
    have e2 : keyBefore S (k + 1) = S.key (S.lev 0)[k] := by
      unfold keyBefore
      rw [if_neg (by omega), show k + 1 - 1 = k by omega, keyAt_in hk]
    rw [e1, e2, show decide (0 < k + 1) = true by simp]
    have hcmp := node_eql w ⟨g.n (S.lev 0)[k], 0, none⟩ ⟨p, 1, none⟩ false (run_sameAddr_other (P := Tryd.prog) (w := w) (fun e => absurd (congrArg Addr.off e) (by simp)) hb h.head)
    generalize S.key (S.lev 0)[k] = kk at hc0
    generalize g.n (S.lev 0)[k] = b at hc0 hcmp hb
    clear h hc hmem hxl hb e1 e2
    go_enter Tryd.func71, Tryd.ntmps71
    go_wp2
    go_returns
    exact ⟨rfl, rfl⟩
set_option maxRecDepth 100000 in
theorem last_at (h : SkAt w p S g) : Calls Tryd.prog 57 #[at_ p] w fun e w' => e = .returned (.tuple #[.string (keyBefore S (S.lev 0).length), .bool (decide (0 < (S.lev 0).length))]) ∧ Below w.heap.size w w' := by
  have HL := last_all h (all_falls S) (fun d j hj => last1_at _ d)
  have hall : cnt (fun _ => true) (S.lev 0) = (S.lev 0).length := Nat.le_antisymm (cnt_le _ _) (cnt_ge _ _ _ (Nat.le_refl _) (fun _ _ _ => rfl))
  have hat : atp S (fun _ => true) 0 = place (S.lev 0) (S.lev 0).length := by
    unfold atp
    rw [if_neg (by decide), hall]
  rw [hat] at HL
  have HK := fun d => keyOf_at (h.drewN d) (Nat.le_refl (S.lev 0).length)
  generalize plc p g (place (S.lev 0) (S.lev 0).length) = ad at HL HK
  generalize keyBefore S (S.lev 0).length = k1 at HK ⊢
  generalize decide (0 < (S.lev 0).length) = b1 at HK ⊢
  clear h hall hat
  go_enter Tryd.func57, Tryd.ntmps57
  go_wp2_with fail
  refine HL.mono ?_
  rintro _ _ ⟨rfl, d, rfl⟩
  go_wp2_with fail
  refine (HK d).mono ?_
  rintro _ w2 ⟨rfl, hw⟩
  obtain rfl := hw.symm
  clear hw
  go_wp2
  go_returns
  exact ⟨rfl, Below.drewN' (Below.refl _ _) d⟩
end
end Go.Proofs.YtnggajconglfcaaDoor
