/- The contracts of Before and Last. -/
import Derived.Test.YtnjkfmglohcmhaaS7Seek
import Derived.Test.YtnjkfmglohcmhaaS7LastB
namespace Go.Proofs.Ytnjkfmglohcmhaa
open Go.RowKit
set_option linter.unusedVariables false
section
variable {w : World} {p : Nat} {S : PS} {g : SG} {key : ByteArray}
set_option maxRecDepth 100000 in
theorem before_nil (w : World) (key : ByteArray) : Calls Try.prog 20 #[.pointer none, .string key] w fun e w' => e = .returned (.tuple #[.string ⟨#[]⟩, .bool false]) ∧ Below w.heap.size w w' := by
  go_enter Try.func20, Try.ntmps20
  go_wp2
  go_returns
  exact ⟨rfl, (Below.refl _ _).alloc (Nat.le_refl _) _⟩
set_option maxRecDepth 100000 in
theorem last_nil (w : World) : Calls Try.prog 21 #[.pointer none] w fun e w' => e = .returned (.tuple #[.string ⟨#[]⟩, .bool false]) ∧ w' = w := by
  go_enter Try.func21, Try.ntmps21
  go_wp2
  go_returns
  exact ⟨rfl, rfl⟩
set_option maxRecDepth 100000 in
theorem before1_at (h : SkAt w p S g) {kb : Nat} (hk : w.cell? ⟨kb, 0, none⟩ = some (.string key)) (d j : Nat) (hj : j < S.ops.length) : Calls Try.prog 28 #[at_ (g.n j), at_ kb] (w.drewN d) fun e w' => e = .returned (.bool (kl (S.key j) key)) ∧ ∃ d', w' = w.drewN d' := by
  have hc := h.keyCell hj
  clear h
  go_enter Try.func28, Try.ntmps28
  go_wp2
  go_quiet (fail)
  go_wp2
  go_returns
  exact ⟨rfl, d + nq, by simp [World.drewN, Nat.add_assoc]⟩
set_option maxRecDepth 100000 in
theorem last1_at (v : Value) (d : Nat) : Calls Try.prog 29 #[v] (w.drewN d) fun e w' => e = .returned (.bool true) ∧ ∃ d', w' = w.drewN d' := by
  go_enter Try.func29, Try.ntmps29
  go_wp2
  go_returns
  exact ⟨rfl, d, rfl⟩
set_option maxRecDepth 100000 in
theorem keyOf_at (h : SkAt w p S g) {c : Nat} (hc : c ≤ (S.lev 0).length) : Calls Try.prog 27 #[at_ p, .pointer (some (plc p g (place (S.lev 0) c)))] w fun e w' => e = .returned (.tuple #[.string (keyBefore S c), .bool (decide (0 < c))]) ∧ w' = w := by
  by_cases h0 : c = 0
  · subst h0
    have hcmp := node_eql w ⟨p, 1, none⟩ ⟨p, 1, none⟩ true (run_sameAddr_same (P := Try.prog) (w := w) _)
    show Calls _ _ #[at_ p, .pointer (some ⟨p, 1, none⟩)] w _
    clear h hc
    go_enter Try.func27, Try.ntmps27
    go_wp2
    go_returns
    exact ⟨rfl, rfl⟩
  · obtain ⟨k, rfl⟩ : ∃ k, c = k + 1 := ⟨c - 1, by omega⟩
    have hk : k < (S.lev 0).length := by omega
    have hmem := List.getElem_mem hk
    have hxl := h.inv.lt (by decide : 0 < 8) hmem
    obtain ⟨arr, hb⟩ := h.nodeBox hxl
    have hc0 := h.keyCell hxl
    have e1 : plc p g (place (S.lev 0) (k + 1)) = ⟨g.n (S.lev 0)[k], 0, none⟩ := by
      rw [show place (S.lev 0) (k + 1) = (S.lev 0)[k] + 1 by simp [place, List.getD, hk]]
      rfl
    have e2 : keyBefore S (k + 1) = S.key (S.lev 0)[k] := by
      unfold keyBefore
      rw [if_neg (by omega), show k + 1 - 1 = k by omega, keyAt_in hk]
    rw [e1, e2, show decide (0 < k + 1) = true by simp]
    have hcmp := node_eql w ⟨g.n (S.lev 0)[k], 0, none⟩ ⟨p, 1, none⟩ false (run_sameAddr_other (P := Try.prog) (w := w) (fun e => absurd (congrArg Addr.off e) (by simp)) hb h.head)
    generalize S.key (S.lev 0)[k] = kk at hc0
    generalize g.n (S.lev 0)[k] = b at hc0 hcmp hb
    clear h hc hmem hxl hb e1 e2
    go_enter Try.func27, Try.ntmps27
    go_wp2
    go_returns
    exact ⟨rfl, rfl⟩
set_option maxRecDepth 100000 in
theorem before_at (h : SkAt w p S g) (key : ByteArray) : Calls Try.prog 20 #[at_ p, .string key] w fun e w' => e = .returned (.tuple #[.string (keyBefore S (cntK S key)), .bool (decide (0 < cntK S key))]) ∧ Below w.heap.size w w' := by
  have hb : Below w.heap.size w (w.alloc (.cells #[.string key] 9)) := (Below.refl _ _).alloc (Nat.le_refl _) _
  have h1 := h.below hb
  have hkb : (w.alloc (.cells #[.string key] 9)).cell? ⟨w.heap.size, 0, none⟩ = some (.string key) := (Box.new w 9 #[.string key]).cell 0
  have HL := last_before h1 (kl_falls S key) (fun d j hj => before1_at h1 hkb d j hj)
  have hat : atp S (fun j => kl (S.key j) key) 0 = place (S.lev 0) (cntK S key) := rfl
  rw [hat] at HL
  have HK := fun d => keyOf_at (h1.drewN d) (cnt_le (fun j => kl (S.key j) key) (S.lev 0))
  have HB : Hid (Below w.heap.size w (w.alloc (.cells #[.string key] 9))) := hb
  have hmf := mk_func'
  generalize plc p g (place (S.lev 0) (cntK S key)) = ad at HL HK
  generalize keyBefore S (cntK S key) = k1 at HK ⊢
  generalize decide (0 < cntK S key) = b1 at HK ⊢
  clear h h1 hkb hat hb
  go_enter Try.func20, Try.ntmps20
  go_wp2_with fail
  refine HL.mono ?_
  rintro _ _ ⟨rfl, d, rfl⟩
  go_wp2_with fail
  refine (HK d).mono ?_
  rintro _ w2 ⟨rfl, hw⟩
  obtain rfl := hw.symm
  clear hw
  go_wp2
  go_returns
  exact ⟨rfl, Below.drewN' HB.out d⟩
set_option maxRecDepth 100000 in
theorem last_at (h : SkAt w p S g) : Calls Try.prog 21 #[at_ p] w fun e w' => e = .returned (.tuple #[.string (keyBefore S (S.lev 0).length), .bool (decide (0 < (S.lev 0).length))]) ∧ Below w.heap.size w w' := by
  have HL := last_all h (all_falls S) (fun d j hj => last1_at _ d)
  have hall : cnt (fun _ => true) (S.lev 0) = (S.lev 0).length := Nat.le_antisymm (cnt_le _ _) (cnt_ge _ _ _ (Nat.le_refl _) (fun _ _ _ => rfl))
  have hat : atp S (fun _ => true) 0 = place (S.lev 0) (S.lev 0).length := by
    unfold atp
    rw [if_neg (by decide), hall]
  rw [hat] at HL
  have HK := fun d => keyOf_at (h.drewN d) (Nat.le_refl (S.lev 0).length)
  generalize plc p g (place (S.lev 0) (S.lev 0).length) = ad at HL HK
  generalize keyBefore S (S.lev 0).length = k1 at HK ⊢
  generalize decide (0 < (S.lev 0).length) = b1 at HK ⊢
  clear h hall hat
  go_enter Try.func21, Try.ntmps21
  go_wp2_with fail
  refine HL.mono ?_
  rintro _ _ ⟨rfl, d, rfl⟩
  go_wp2_with fail
  refine (HK d).mono ?_
  rintro _ w2 ⟨rfl, hw⟩
  obtain rfl := hw.symm
  clear hw
  go_wp2
  go_returns
  exact ⟨rfl, Below.drewN' (Below.refl _ _) d⟩
end
end Go.Proofs.Ytnjkfmglohcmhaa
