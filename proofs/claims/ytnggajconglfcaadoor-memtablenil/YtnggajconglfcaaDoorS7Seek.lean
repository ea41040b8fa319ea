/- The contracts of Seek. -/
import Derived.Test.YtnggajconglfcaaDoorS7Last
namespace Go.Proofs.YtnggajconglfcaaDoor
open Go.RowKit
set_option linter.unusedVariables false
theorem kl_falls (S : PS) (key : ByteArray) : Falls S (fun j => kl (S.key j) key) := fun x y h1 h2 => kl_trans h1 h2
theorem all_falls (S : PS) : Falls S (fun _ => true) := fun _ _ _ _ => rfl
theorem Below.drewN' {B : Nat} {w w' : World} (h : Below B w w') (d : Nat) : Below B w (w'.drewN d) := ⟨h.os, h.tape, h.output, h.size, h.block⟩
section
variable {w : World} {p : Nat} {S : PS} {g : SG} {key : ByteArray}
theorem SkAt.drewN (h : SkAt w p S g) (d : Nat) : SkAt (w.drewN d) p S g := h.keep fun _ _ => rfl
set_option maxRecDepth 100000 in
theorem seek_nil (w : World) (key : ByteArray) : Calls Tryd.prog 42 #[.pointer none, .string key] w fun e w' => e = .returned (.tuple #[.string ⟨#[]⟩, .bool false]) ∧ Below w.heap.size w w' := by
  go_enter Tryd.func42, Tryd.ntmps42
  go_wp2
  go_returns
  exact ⟨rfl, (Below.refl _ _).alloc (Nat.le_refl _) _⟩
set_option maxRecDepth 100000 in
theorem seek1_at (h : SkAt w p S g) {kb : Nat} (hk : w.cell? ⟨kb, 0, none⟩ = some (.string key)) (d j : Nat) (hj : j < S.ops.length) : Calls Tryd.prog 59 #[at_ (g.n j), at_ kb] (w.drewN d) fun e w' => e = .returned (.bool (kl (S.key j) key)) ∧ ∃ d', w' = w.drewN d' := by
  have hc := h.keyCell hj
  clear h
  go_enter Tryd.func59, Tryd.ntmps59
  go_wp2
  go_quiet (fail)
  go_wp2
  go_returns
  exact ⟨rfl, d + nq, by simp [World.drewN, Nat.add_assoc]⟩
def keyAt (S : PS) (c : Nat) : ByteArray := (S.lk 0).getD c ⟨#[]⟩
theorem keyAt_in {c : Nat} (hc : c < (S.lev 0).length) : keyAt S c = S.key (S.lev 0)[c] := by simp [keyAt, PS.lk, List.getD, hc]
theorem keyAt_out {c : Nat} (hc : ¬ c < (S.lev 0).length) : keyAt S c = ⟨#[]⟩ := by simp [keyAt, PS.lk, List.getD, hc]
def keyBefore (S : PS) (c : Nat) : ByteArray := if c = 0 then ⟨#[]⟩ else keyAt S (c - 1)
abbrev cntK (S : PS) (key : ByteArray) : Nat := cnt (fun j => kl (S.key j) key) (S.lev 0)
set_option maxRecDepth 100000 in
set_option maxHeartbeats 1000000 in
theorem seek_at (h : SkAt w p S g) (key : ByteArray) : Calls Tryd.prog 42 #[at_ p, .string key] w fun e w' => e = .returned (.tuple #[.string (keyAt S (cntK S key)), .bool (decide (cntK S key < (S.lev 0).length))]) ∧ Below w.heap.size w w' := by
  have hb : Below w.heap.size w (w.alloc (.cells #[.string key] 9)) := (Below.refl _ _).alloc (Nat.le_refl _) _
  have h1 := h.below hb
  have hkb : (w.alloc (.cells #[.string key] 9)).cell? ⟨w.heap.size, 0, none⟩ = some (.string key) := (Box.new w 9 #[.string key]).cell 0
  have HL := last_seek h1 (kl_falls S key) (fun d j hj => seek1_at h1 hkb d j hj)
  have hcl := cnt_le (fun j => kl (S.key j) key) (S.lev 0)
  have hat : atp S (fun j => kl (S.key j) key) 0 = place (S.lev 0) (cntK S key) := rfl
  have hlink := h1.link (by decide : 0 < 8) (place_in hcl)
  rw [nxt_place (h1.inv.nodup (by decide)) hcl] at hlink
  obtain ⟨pb, po, hpe⟩ : ∃ pb po, plc p g (place (S.lev 0) (cntK S key)) = ⟨pb, po, none⟩ := ⟨_, _, plc_eta p g _⟩
  rw [hat, hpe] at HL
  rw [hpe] at hlink
  have hlink' : (w.alloc (.cells #[.string key] 9)).cell? ⟨pb, po + 1, none⟩ = some (lnk g (S.lev 0)[cntK S key]?) := hlink
  have HB : Hid (Below w.heap.size w (w.alloc (.cells #[.string key] 9))) := hb
  have hmf := mk_func'
  by_cases hlt : cntK S key < (S.lev 0).length
  · rw [keyAt_in hlt, show decide (cntK S key < (S.lev 0).length) = true by simp [hlt]]
    rw [show (S.lev 0)[cntK S key]? = some (S.lev 0)[cntK S key] by simp [hlt]] at hlink'
    have hck := h1.keyCell (h.inv.lt (by decide : 0 < 8) (List.getElem_mem hlt))
    generalize (S.lev 0)[cntK S key] = x at hlink' hck
    rw [show lnk g (some x) = at_ (g.n x) from rfl] at hlink'
    clear h h1 hkb hcl hat hlink hpe hb hlt
    go_enter Tryd.func42, Tryd.ntmps42
    go_wp2_with fail
    refine HL.mono ?_
    rintro _ _ ⟨rfl, d, rfl⟩
    go_wp2
    go_returns
    exact ⟨rfl, Below.drewN' HB.out d⟩
  · rw [keyAt_out hlt, show decide (cntK S key < (S.lev 0).length) = false by simp [hlt]]
    rw [List.getElem?_eq_none (by omega), show lnk g none = .pointer none from rfl] at hlink'
    clear h h1 hkb hcl hat hlink hpe hb hlt
    go_enter Tryd.func42, Tryd.ntmps42
    go_wp2_with fail
    refine HL.mono ?_
    rintro _ _ ⟨rfl, d, rfl⟩
    go_wp2
    go_returns
    exact ⟨rfl, Below.drewN' HB.out d⟩
end
end Go.Proofs.YtnggajconglfcaaDoor
