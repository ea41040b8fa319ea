/- The contracts of canGo and state. -/
import Derived.Test.YtehkcgjiimfdjaaGo5
namespace Go.Proofs.Ytehkcgjiimfdjaa
open Go.RowKit
section
variable {w0 w w' : World} {p : Nat} {g : Bg} {B : PB}
theorem BdAt.below (h : BdAt w0 w p g B) (hb : Below w.heap.size w w') : BdAt w0 w' p g B :=
  h.same (fun k hk => hb.block k (h.foot_lt hk)) (h.base.trans (hb.mono h.base.size))
theorem Rest.below (hb : Below w.heap.size w w') : Rest w w' := ⟨hb.size, fun k hk => hb.block k (tag_lt hk)⟩
end
theorem sh_of {n : Int} (h : isSh n = true) : ∃ k : Nat, n = (k : Int) ∧ k < 16 := by
  simp [isSh] at h
  exact ⟨n.toNat, by omega, by omega⟩
theorem reg_of {n : Int} (h : isReg n = true) : ∃ k : Nat, n = (k : Int) ∧ k < 4 := by
  simp [isReg] at h
  exact ⟨n.toNat, by omega, by omega⟩
theorem PTask.Ok.insOk {t : PTask} (h : t.Ok) (hp : t.place < t.code.length) : insOk t.ins t.code.length = true := by
  have := h.code
  simp only [codeOk, Bool.and_eq_true, List.all_eq_true] at this
  apply this.2
  simp [PTask.ins, List.getD, hp]
theorem ins_ok10 {x : Ins} {n : Nat} (h : insOk x n = true) (e : x.op = 10) : isSh x.b = true ∧ isSh x.a = true := by simpa [insOk, e] using h
theorem ins_ok8 {x : Ins} {n : Nat} (h : insOk x n = true) (e : x.op = 8) : isSh x.a = true := by simpa [insOk, e] using h
/-- What a task wants is a mutex. -/
theorem PTask.Ok.wantOk {t : PTask} (h : t.Ok) (hp : t.place < t.code.length) : (t.wants = none ∧ t.wantV = (0, false)) ∨ ∃ m, m < 16 ∧ t.wants = some m ∧ t.wantV = ((m : Int), true) := by
  have hi := h.insOk hp
  unfold PTask.wants PTask.wantV
  by_cases h2 : t.ph = 2
  · obtain ⟨m, e, hm⟩ := sh_of (ins_ok10 hi (h.waits (.inr h2))).1
    exact .inr ⟨m, hm, by rw [if_pos h2, e]; rfl, by rw [if_pos h2, e]⟩
  · rw [if_neg h2, if_neg h2]
    by_cases h8 : t.ins.op = 8
    · obtain ⟨m, e, hm⟩ := sh_of (ins_ok8 hi h8)
      exact .inr ⟨m, hm, by rw [if_pos h8, e]; rfl, by rw [if_pos h8, e]⟩
    · exact .inl ⟨by rw [if_neg h8], by rw [if_neg h8]⟩
set_option maxRecDepth 100000 in
set_option maxHeartbeats 1000000 in
theorem canGo_at {w0 w : World} {p : Nat} {g : Bg} {B : PB} (h : BdAt w0 w p g B) (hk : B.Ok) {i : Nat} (hi : i < B.ts.length) : Calls Try.prog 35 #[at_ p, at_ (g.q i)] w fun e w' => e = .returned (.bool (B.canGo (B.t i))) ∧ Below w.heap.size w w' := by
  have hT := hk.tasks i hi
  obtain ⟨c0, c1, c2, c7, cr⟩ := h.tcell hi hT.regs
  obtain ⟨b0, b1, _⟩ := h.bcell hk.cells hk.own
  have hplt := tag_lt h.tagP
  have hph := hT.ph
  clear c0 c1 c2 cr b0
  by_cases h02 : (B.t i).ph = 0 ∨ (B.t i).ph = 2
  · have hpl := hT.place (by omega)
    have HW : Hid (Calls Try.prog 41 #[at_ (g.q i)] w fun e w' => e = .returned (.tuple #[.int .i64 (B.t i).wantV.1, .bool (B.t i).wantV.2]) ∧ Below w.heap.size w w') := wants_at h hi hT hpl
    have hg : B.canGo (B.t i) = B.free (B.t i).wants := by
      unfold PB.canGo
      rcases h02 with e | e <;> simp [e]
    rw [hg]
    have hfa : ((((B.t i).ph : Int) == 0) || (((B.t i).ph : Int) == 2)) = true := by
      rcases h02 with e | e <;> simp [e]
    have key : ∀ k : Int, k = ((B.t i).ph : Int) → (k = 0 ∨ k = 2) → Calls Try.prog 35 #[at_ p, at_ (g.q i)] w fun e w' => e = .returned (.bool (B.free (B.t i).wants)) ∧ Below w.heap.size w w' := by
      intro k hk0 h01
      rw [← hk0] at c7
      clear hfa hk0 hg
      rcases hT.wantOk hpl with ⟨e1, e2⟩ | ⟨m, hm, e1, e2⟩
      · rw [e1]
        rw [e2] at HW
        rcases h01 with rfl | rfl
        all_goals
          go_enter Try.func35, Try.ntmps35
          go_wp2_with fail
          refine (Calls.mono HW.out) ?_
          rintro _ w2 ⟨rfl, hb⟩
          go_wp2
          go_returns
          exact ⟨rfl, hb⟩
      · rw [e1]
        rw [e2] at HW
        have bm := b1 m hm
        have hx1 : (0 : Int) ≤ (m : Int) := by omega
        have hx2 : (m : Int) < 16 := by omega
        cases ho : B.own.getD m none with
        | none =>
          have hF : B.free (some m) = true := by simp only [PB.free, ho, Option.isNone_none]
          rw [hF]
          rw [ho] at bm
          simp only [ownV] at bm
          rcases h01 with rfl | rfl
          all_goals
            go_enter Try.func35, Try.ntmps35
            go_wp2_with fail
            refine (Calls.mono HW.out) ?_
            rintro _ w2 ⟨rfl, hb⟩
            have bm2 := (hb.cell (p := ⟨p, 16 + m, none⟩) hplt).trans bm
            clear bm
            go_wp2
            go_returns
            exact ⟨rfl, hb⟩
        | some o =>
          have hF : B.free (some m) = false := by simp only [PB.free, ho, Option.isNone_some]
          rw [hF]
          rw [ho] at bm
          simp only [ownV] at bm
          rcases h01 with rfl | rfl
          all_goals
            go_enter Try.func35, Try.ntmps35
            go_wp2_with fail
            refine (Calls.mono HW.out) ?_
            rintro _ w2 ⟨rfl, hb⟩
            have bm2 := (hb.cell (p := ⟨p, 16 + m, none⟩) hplt).trans bm
            clear bm
            go_wp2
            go_returns
            exact ⟨rfl, hb⟩
    exact key _ rfl (by omega)
  · have hg : B.canGo (B.t i) = false := by
      unfold PB.canGo
      simp
      omega
    rw [hg]
    clear hg
    have h134 : (B.t i).ph = 1 ∨ (B.t i).ph = 3 ∨ (B.t i).ph = 4 := by omega
    rcases h134 with e | e | e
    all_goals
      rw [e] at c7
      clear h02 e
      go_enter Try.func35, Try.ntmps35
      go_wp2
      go_returns
      exact ⟨rfl, Below.refl _ _⟩
set_option maxRecDepth 100000 in
set_option maxHeartbeats 1000000 in
theorem state_at {w0 w : World} {p : Nat} {g : Bg} {B : PB} (h : BdAt w0 w p g B) (hk : B.Ok) {i : Nat} (hi : i < B.ts.length) : Calls Try.prog 29 #[at_ p, at_ (g.q i)] w fun e w' => e = .returned (.int .i64 (B.state (B.t i))) ∧ Below w.heap.size w w' := by
  have hT := hk.tasks i hi
  obtain ⟨c0, c1, c2, c7, cr⟩ := h.tcell hi hT.regs
  clear c0 c1 c2 cr
  have HC : Hid (Calls Try.prog 35 #[at_ p, at_ (g.q i)] w fun e w' => e = .returned (.bool (B.canGo (B.t i))) ∧ Below w.heap.size w w') := canGo_at h hk hi
  unfold PB.state
  by_cases h4 : (B.t i).ph = 4
  · rw [if_pos h4]
    rw [h4] at c7
    go_enter Try.func29, Try.ntmps29
    go_wp2
    go_returns
    exact ⟨rfl, Below.refl _ _⟩
  rw [if_neg h4]
  by_cases h3 : (B.t i).ph = 3
  · rw [if_pos h3]
    rw [h3] at c7
    go_enter Try.func29, Try.ntmps29
    go_wp2
    go_returns
    exact ⟨rfl, Below.refl _ _⟩
  rw [if_neg h3]
  have hf4 : ((B.t i).ph : Int) ≠ 4 := by omega
  have hf3 : ((B.t i).ph : Int) ≠ 3 := by omega
  generalize ((B.t i).ph : Int) = k at *
  cases hc : B.canGo (B.t i)
  all_goals
    rw [hc] at HC
    go_enter Try.func29, Try.ntmps29
    go_wp2_with fail
    refine (Calls.mono HC.out) ?_
    rintro _ w2 ⟨rfl, hb⟩
    go_wp2
    go_returns
    exact ⟨rfl, hb⟩
end Go.Proofs.Ytehkcgjiimfdjaa
