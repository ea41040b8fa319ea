/- The contract of Step. -/
import Derived.Test.YtnggajconglfcaaDoorS7Lay
namespace Go.Proofs.YtnggajconglfcaaDoor
open Go.RowKit
set_option linter.unusedVariables false
theorem fn_neq_nil (w : World) : (binOp .neq 1 .nilFunc .nilFunc).run Tryd.prog w = .ok (.bool false) w := by
  have h : ∀ d : Nat, (Op.equalIn (d + 1) 1 .nilFunc .nilFunc).run Tryd.prog w = .ok true w := fun d => by
    simp [Op.equalIn, run_underlying Tryd.underlying1]
  simp only [binOp]
  simp [Op.equal, Op.maxDepth, h 9999]
theorem fn_eql_nil (w : World) : (binOp .eql 1 .nilFunc .nilFunc).run Tryd.prog w = .ok (.bool true) w := by
  have h : ∀ d : Nat, (Op.equalIn (d + 1) 1 .nilFunc .nilFunc).run Tryd.prog w = .ok true w := fun d => by
    simp [Op.equalIn, run_underlying Tryd.underlying1]
  simp only [binOp]
  simp [Op.equal, Op.maxDepth, h 9999]
theorem fn_neq (w : World) (fn : Fn) (a b : Array Value) : (binOp .neq 1 (.func fn a b) .nilFunc).run Tryd.prog w = .ok (.bool true) w := by
  have h : ∀ d : Nat, (Op.equalIn (d + 1) 1 (.func fn a b) .nilFunc).run Tryd.prog w = .ok false w := fun d => by
    simp [Op.equalIn, run_underlying Tryd.underlying1]
  simp only [binOp]
  simp [Op.equal, Op.maxDepth, h 9999]
theorem fn_eql (w : World) (fn : Fn) (a b : Array Value) : (binOp .eql 1 (.func fn a b) .nilFunc).run Tryd.prog w = .ok (.bool false) w := by
  have h : ∀ d : Nat, (Op.equalIn (d + 1) 1 (.func fn a b) .nilFunc).run Tryd.prog w = .ok false w := fun d => by
    simp [Op.equalIn, run_underlying Tryd.underlying1]
  simp only [binOp]
  simp [Op.equal, Op.maxDepth, h 9999]
theorem nextV_some {q ph : Nat} (h : ph ≤ 3) (h3 : ph ≠ 3) : ∃ fn, nextV q ph = .func fn #[at_ q] #[] := by
  have : ph = 0 ∨ ph = 1 ∨ ph = 2 := by omega
  rcases this with rfl | rfl | rfl
  · exact ⟨_, rfl⟩
  · exact ⟨_, rfl⟩
  · exact ⟨_, rfl⟩
theorem nextV_none {q ph : Nat} (h3 : ph = 3) : nextV q ph = .nilFunc := by rw [h3]; rfl
def PS.done (S : PS) (i : Nat) : Bool := decide ((S.op i).ph = 3)
set_option maxRecDepth 100000 in
theorem step_nil (n : Int) (w : World) : Calls Tryd.prog 47 #[.pointer none, .int .i64 n] w fun e w' => e = .returned (.tuple #[.bool false, .int .i64 1]) ∧ w' = w := by
  go_enter Tryd.func47, Tryd.ntmps47
  go_wp2
  go_returns
  exact ⟨rfl, rfl⟩
theorem PS.step_len {S : PS} {i : Nat} : (S.step i).ops.length = S.ops.length := by
  unfold PS.step
  repeat' split
  all_goals simp [PS.put]
section
variable {w : World} {p : Nat} {S : PS} {g : SG} {i : Nat}
theorem SkAt.c11 (h : SkAt w p S g) : w.cell? ⟨p, 11, none⟩ = some (.slice g.a S.ops.length g.c) := by
  rw [h.head.cell]
  rfl
set_option maxRecDepth 100000 in
theorem step_out (h : SkAt w p S g) (n : Int) (hn : n < 0 ∨ (S.ops.length : Int) ≤ n) : Calls Tryd.prog 47 #[at_ p, .int .i64 n] w fun e w' => e = .returned (.tuple #[.bool false, .int .i64 1]) ∧ w' = w := by
  have c11 := h.c11
  have h1 := h.inv.size
  have h2 := h.inv.room
  clear h
  rcases hn with hn | hn
  · go_enter Tryd.func47, Tryd.ntmps47
    go_wp2
    go_returns
    exact ⟨rfl, rfl⟩
  · have h0 : ¬ n < 0 := by omega
    go_enter Tryd.func47, Tryd.ntmps47
    go_wp2
    go_returns
    exact ⟨rfl, rfl⟩
theorem SkAt.opCell (h : SkAt w p S g) (hi : i < S.ops.length) : ∃ b, g.a = some ⟨b, 0, none⟩ ∧ w.cell? ⟨b, i, none⟩ = some (at_ (g.o i)) := by
  obtain ⟨h1, h2, h3, h4⟩ := row_addr h.row
  obtain ⟨b, hb⟩ := h4 (by omega)
  refine ⟨b, hb, ?_⟩
  have hr := h.row
  rw [hb] at hr
  have := hr.cellAt i (by omega)
  rw [this]
  have hi' : i < g.ob.length := by rw [h.olen]; exact hi
  simp [SG.o, List.getD, hi']
theorem SkAt.nextCell (h : SkAt w p S g) (hi : i < S.ops.length) : w.cell? ⟨g.o i, 13, none⟩ = some (nextV (g.o i) (S.op i).ph) := by
  have ho := h.op i hi
  unfold OpIs at ho
  split at ho
  · rename_i e
    rw [ho.cell, e]
    rfl
  · obtain ⟨ah, _, hb⟩ := ho
    rw [hb.cell]
    rfl
set_option maxRecDepth 100000 in
set_option maxHeartbeats 1000000 in
theorem step_at (h : SkAt w p S g) (hi : i < S.ops.length) : Calls Tryd.prog 47 #[at_ p, .int .i64 (i : Int)] w fun e w' => e = .returned (.tuple #[.bool ((S.step i).done i), .int .i64 0]) ∧ SkAt w' p (S.step i) g ∧ Chg (Foot p g) w w' := by
  have c11 := h.c11
  have h1 := h.inv.size
  have h2 := h.inv.room
  obtain ⟨b, ha, co⟩ := h.opCell hi
  rw [ha] at c11
  have cn := h.nextCell hi
  have hcap := (row_addr h.row).2.1
  have hle := (row_addr h.row).1
  unfold maxLen at hcap
  have HS : Hid (SkAt w p S g) := h
  have hph := (h.inv.ok i hi).ph
  clear h ha
  by_cases e3 : (S.op i).ph = 3
  · have e : S.step i = S := by unfold PS.step; rw [if_neg (by omega), if_neg (by omega), if_neg (by omega)]
    rw [e]
    have hd : S.done i = true := by simp [PS.done, e3]
    rw [hd]
    rw [e3] at cn
    simp only [nextV] at cn
    clear e hd e3 hph
    go_enter Tryd.func47, Tryd.ntmps47
    have q1 := fn_neq_nil
    have q2 := fn_eql_nil
    go_wp2
    go_returns
    exact ⟨rfl, HS.out, Chg.refl _ _⟩
  · have hcase : (S.op i).ph = 0 ∨ (S.op i).ph = 1 ∨ (S.op i).ph = 2 := by omega
    have HN : Hid (∀ w1, SkAt w1 p (S.step i) g → ((S.step i).done i = true ∧ w1.cell? ⟨g.o i, 13, none⟩ = some .nilFunc) ∨ ((S.step i).done i = false ∧ ∃ fn, w1.cell? ⟨g.o i, 13, none⟩ = some (.func fn #[at_ (g.o i)] #[]))) := fun w1 h1 => by
      have hlen : i < (S.step i).ops.length := by rw [PS.step_len]; exact hi
      have hc := h1.nextCell hlen
      have hp := (h1.inv.ok i hlen).ph
      by_cases e : ((S.step i).op i).ph = 3
      · left
        rw [nextV_none e] at hc
        exact ⟨by simp [PS.done, e], hc⟩
      · right
        obtain ⟨fn, hfn⟩ := nextV_some (q := g.o i) hp e
        rw [hfn] at hc
        exact ⟨by simp [PS.done, e], fn, hc⟩
    clear hph e3
    rcases hcase with e | e | e
    · have HP := descend_at HS.out hi e
      rw [e] at cn
      simp only [nextV] at cn
      clear e
      have q3 := fn_neq
      go_enter Tryd.func47, Tryd.ntmps47
      go_wp2_with fail
      refine HP.mono ?_
      rintro _ w1 ⟨rfl, h1, h2⟩
      have HS1 : Hid (SkAt w1 p (S.step i) g ∧ Chg (Foot p g) w w1) := ⟨h1, h2⟩
      clear h1 h2 HP c11 co cn q3
      rcases HN.out w1 HS1.out.1 with ⟨hd, hc⟩ | ⟨hd, fn, hc⟩
      · have HD : Hid ((S.step i).done i = true) := hd
        have q2 := fn_eql_nil
        clear hd
        go_wp2
        go_returns
        exact ⟨by rw [HD.out]; rfl, HS1.out⟩
      · have HD : Hid ((S.step i).done i = false) := hd
        have q4 := fn_eql
        clear hd
        go_wp2
        go_returns
        exact ⟨by rw [HD.out]; rfl, HS1.out⟩
    · have HP := lay_at HS.out hi e
      rw [e] at cn
      simp only [nextV] at cn
      clear e
      have q3 := fn_neq
      go_enter Tryd.func47, Tryd.ntmps47
      go_wp2_with fail
      refine HP.mono ?_
      rintro _ w1 ⟨rfl, h1, h2⟩
      have HS1 : Hid (SkAt w1 p (S.step i) g ∧ Chg (Foot p g) w w1) := ⟨h1, h2⟩
      clear h1 h2 HP c11 co cn q3
      rcases HN.out w1 HS1.out.1 with ⟨hd, hc⟩ | ⟨hd, fn, hc⟩
      · have HD : Hid ((S.step i).done i = true) := hd
        have q2 := fn_eql_nil
        clear hd
        go_wp2
        go_returns
        exact ⟨by rw [HD.out]; rfl, HS1.out⟩
      · have HD : Hid ((S.step i).done i = false) := hd
        have q4 := fn_eql
        clear hd
        go_wp2
        go_returns
        exact ⟨by rw [HD.out]; rfl, HS1.out⟩
    · have HP := look_at HS.out hi e
      rw [e] at cn
      simp only [nextV] at cn
      clear e
      have q3 := fn_neq
      go_enter Tryd.func47, Tryd.ntmps47
      go_wp2_with fail
      refine HP.mono ?_
      rintro _ w1 ⟨rfl, h1, h2⟩
      have HS1 : Hid (SkAt w1 p (S.step i) g ∧ Chg (Foot p g) w w1) := ⟨h1, h2⟩
      clear h1 h2 HP c11 co cn q3
      rcases HN.out w1 HS1.out.1 with ⟨hd, hc⟩ | ⟨hd, fn, hc⟩
      · have HD : Hid ((S.step i).done i = true) := hd
        have q2 := fn_eql_nil
        clear hd
        go_wp2
        go_returns
        exact ⟨by rw [HD.out]; rfl, HS1.out⟩
      · have HD : Hid ((S.step i).done i = false) := hd
        have q4 := fn_eql
        clear hd
        go_wp2
        go_returns
        exact ⟨by rw [HD.out]; rfl, HS1.out⟩
end
end Go.Proofs.YtnggajconglfcaaDoor
