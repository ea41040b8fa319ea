/- The contracts of release, swap and tell. -/
import Derived.Test.YtehkcgjiimfdjaaCan5
import Derived.LaidEqlPtr
namespace Go.Proofs.Ytehkcgjiimfdjaa
open Go.RowKit
theorem boardL_cell (B : PB) (g : Bg) (hc : B.cells.length = 16) (k : Nat) (hk : k < 16) (v : Int) : (boardL B g).set k (.int .i64 v) = boardL (B.put (k : Int) v) g := by
  unfold boardL PB.put
  rw [List.set_append, if_pos (by simp; omega)]
  simp [List.map_set]
theorem boardL_own (B : PB) (g : Bg) (hc : B.cells.length = 16) (ho : B.own.length = 16) (k : Nat) (hk : k < 16) (o : Option Nat) : (boardL B g).set (16 + k) (ownV g.gs o) = boardL (B.has (k : Int) o) g := by
  unfold boardL PB.has
  rw [List.set_append, if_neg (by simp; omega), List.set_append, if_pos (by simp; omega)]
  simp [List.map_set, hc]
theorem boardL_steps (B : PB) (g : Bg) (hc : B.cells.length = 16) (ho : B.own.length = 16) : (boardL B g).set 34 (.int .i64 ((B.steps + 1 : Nat) : Int)) = boardL B.more g := by
  unfold boardL PB.more
  rw [List.set_append, if_neg (by simp; omega), List.set_append, if_neg (by simp; omega)]
  simp [hc, ho]
theorem infoTask : (Try.prog.info? 67).map (fun i => i.size) = some 8 := by kernel_rfl
theorem ptr_neq_same (w : World) (q : Nat) : (binOp .neq TPT (at_ q) (at_ q)).run Try.prog w = .ok (.bool false) w := by
  cases hj : Try.prog.info? 67 with
  | none => have := infoTask; rw [hj] at this; cases this
  | some j =>
    have h : ∀ d : Nat, (Op.equalIn (d + 1) TPT (at_ q) (at_ q)).run Try.prog w = .ok true w := fun d => by
      simp [Op.equalIn, run_underlying Try.underlying60, sizeOf, typeInfo, hj, run_sameAddr_same]
    simp only [binOp]
    simp [Op.equal, Op.maxDepth, h 9999]
theorem ptr_neq_other (w : World) {p q : Nat} {t u : TypeId} {a b : Array Value} (hp : Box w p t a) (hq : Box w q u b) (hne : p ≠ q) : (binOp .neq TPT (at_ p) (at_ q)).run Try.prog w = .ok (.bool true) w := by
  cases hj : Try.prog.info? 67 with
  | none => have := infoTask; rw [hj] at this; cases this
  | some j =>
    have hsz : j.size ≠ 0 := by
      have := infoTask
      rw [hj] at this
      simp at this
      omega
    have hne' : (⟨p, 0, none⟩ : Addr) ≠ ⟨q, 0, none⟩ := fun e => hne (congrArg Addr.block e)
    have h : ∀ d : Nat, (Op.equalIn (d + 1) TPT (at_ p) (at_ q)).run Try.prog w = .ok false w := fun d => by
      simp [Op.equalIn, run_underlying Try.underlying60, sizeOf, typeInfo, hj, hsz, run_sameAddr_other w (a := ⟨p, 0, none⟩) (b := ⟨q, 0, none⟩) hne' hp hq]
    simp only [binOp]
    simp [Op.equal, Op.maxDepth, h 9999]
theorem ptr_neq_nil (w : World) (q : Nat) : (binOp .neq TPT (.pointer none) (at_ q)).run Try.prog w = .ok (.bool true) w := by
  have h : ∀ d : Nat, (Op.equalIn (d + 1) TPT (.pointer none) (at_ q)).run Try.prog w = .ok false w := fun d => by
    simp [Op.equalIn, run_underlying Try.underlying60]
  simp only [binOp]
  simp [Op.equal, Op.maxDepth, h 9999]
theorem Rest.drew {w w' : World} (h : Rest w w') : Rest w w'.drew := ⟨h.size, h.block⟩
section
variable {w0 w : World} {p : Nat} {g : Bg} {B : PB}
theorem BdAt.put (h : BdAt w0 w p g B) (hk : B.Ok) {k : Nat} (hm : k < 16) (v : Int) : BdAt w0 (w.setCell ⟨p, k, none⟩ (.int .i64 v)) p g (B.put (k : Int) v) := h.setB (boardL_cell B g hk.cells k hm v) rfl rfl
theorem BdAt.has (h : BdAt w0 w p g B) (hk : B.Ok) {k : Nat} (hm : k < 16) (o : Option Nat) : BdAt w0 (w.setCell ⟨p, 16 + k, none⟩ (ownV g.gs o)) p g (B.has (k : Int) o) := h.setB (boardL_own B g hk.cells hk.own k hm o) rfl rfl
theorem BdAt.more (h : BdAt w0 w p g B) (hk : B.Ok) : BdAt w0 (w.setCell ⟨p, 34, none⟩ (.int .i64 ((B.steps + 1 : Nat) : Int))) p g B.more := h.setB (boardL_steps B g hk.cells hk.own) rfl rfl
end
set_option maxRecDepth 100000 in
set_option maxHeartbeats 1000000 in
theorem release_at {w0 w : World} {p : Nat} {g : Bg} {B : PB} (h : BdAt w0 w p g B) (hk : B.Ok) {i : Nat} (hi : i < B.ts.length) (m : Nat) (hm : m < 16) (ph : Nat) : Calls Try.prog 37 #[at_ p, at_ (g.q i), .int .i64 (m : Int), .int .i64 (ph : Int)] w fun e w' => e = .returned (.tuple #[]) ∧ BdAt w0 w' p g (B.release i (m : Int) ph) ∧ Rest w w' := by
  have hT := hk.tasks i hi
  obtain ⟨c0, c1, c2, c7, cr⟩ := h.tcell hi hT.regs
  obtain ⟨b0, b1, _⟩ := h.bcell hk.cells hk.own
  have bm := b1 m hm
  have s7 := h.tsoft hi 7
  have sm := h.bsoft (16 + m)
  have hne := h.ne hi
  have hx1 : (0 : Int) ≤ (m : Int) := by omega
  have hx2 : (m : Int) < 16 := by omega
  clear c0 c1 c2 cr b0 b1
  have e0 : ((m : Int)).toNat = m := rfl
  unfold PB.release
  rw [e0]
  by_cases ho : B.own.getD m none = some i
  · rw [if_pos ho]
    rw [ho] at bm
    have bm' : w.cell? ⟨p, 16 + m, none⟩ = some (at_ (g.q i)) := bm
    have H1 := h.has hk hm none
    have e1 : (B.has (m : Int) none).t i = B.t i := rfl
    have H2 : Hid (BdAt w0 ((w.setCell ⟨p, 16 + m, none⟩ (.pointer none)).setCell ⟨g.q i, 7, none⟩ (.int .i64 (ph : Int))) p g ((B.has (m : Int) none).setT i ((B.t i).at ph))) := by
      have := H1.phase (i := i) hi (by rw [e1]; exact hT.regs) ph
      rw [e1] at this
      exact this
    have R2 : Hid (Rest w ((w.setCell ⟨p, 16 + m, none⟩ (.pointer none)).setCell ⟨g.q i, 7, none⟩ (.int .i64 (ph : Int)))) := (h.restB _ _).trans (H1.restT (i := i) hi 7 _)
    have hcmp := ptr_neq_same w (g.q i)
    clear H1 e1 bm ho
    go_enter Try.func37, Try.ntmps37
    go_wp2
    go_returns
    exact ⟨rfl, H2.out, R2.out⟩
  · rw [if_neg ho]
    have H2 : Hid (BdAt w0 (w.setCell ⟨g.q i, 7, none⟩ (.int .i64 ((4 : Nat) : Int))) p g (B.setT i ((B.t i).at 4))) := h.phase hi hT.regs 4
    have R2 : Hid (Rest w (w.setCell ⟨g.q i, 7, none⟩ (.int .i64 ((4 : Nat) : Int)))) := h.restT hi 7 _
    cases hown : B.own.getD m none with
    | none =>
      rw [hown] at bm
      simp only [ownV] at bm
      have hcmp := ptr_neq_nil w (g.q i)
      go_enter Try.func37, Try.ntmps37
      go_wp2
      go_returns
      exact ⟨rfl, H2.out, R2.out⟩
    | some k =>
      rw [hown] at bm
      have bm' : w.cell? ⟨p, 16 + m, none⟩ = some (at_ (g.q k)) := bm
      have hki : g.q k ≠ g.q i := fun e => ho (by rw [hown, h.apart k i (hk.owns m k hown) hi e])
      clear bm
      have hcmp : (binOp .neq TPT (at_ (g.q k)) (at_ (g.q i))).run Try.prog w = .ok (.bool true) w := ptr_neq_other w (h.tasks k (hk.owns m k hown)).box (h.tasks i hi).box hki
      go_enter Try.func37, Try.ntmps37
      go_wp2
      go_returns
      exact ⟨rfl, H2.out, R2.out⟩
set_option maxRecDepth 100000 in
set_option maxHeartbeats 1000000 in
theorem swap_at {w0 w : World} {p : Nat} {g : Bg} {B : PB} (h : BdAt w0 w p g B) (hk : B.Ok) {i : Nat} (hi : i < B.ts.length) (o : Int) (a b c : Nat) (ha : a < 16) (hb : b < 4) (hc : c < 4) : Calls Try.prog 36 #[at_ p, at_ (g.q i), .agg #[.int .i64 o, .int .i64 (a : Int), .int .i64 (b : Int), .int .i64 (c : Int)]] w fun e w' => e = .returned (.tuple #[]) ∧ BdAt w0 w' p g (B.swap i ⟨o, a, b, c⟩) ∧ Rest w w' := by
  have hT := hk.tasks i hi
  obtain ⟨c0, c1, c2, c7, cr⟩ := h.tcell hi hT.regs
  obtain ⟨b0, b1, _⟩ := h.bcell hk.cells hk.own
  have q1 := b0 a ha
  have q2 := cr b hb
  have q3 := cr c hc
  have q4 : w.cell? ⟨g.q i, 6, none⟩ = some (.int .i64 ((B.t i).r.getD 3 0)) := cr 3 (by omega)
  have sa := h.bsoft a
  have s6 := h.tsoft hi 6
  have hne := h.ne hi
  have hplt := tag_lt h.tagP
  have hqlt := tag_lt (h.tagQ hi)
  have hx1 : (0 : Int) ≤ (a : Int) := by omega
  have hx2 : (a : Int) < 16 := by omega
  have hx3 : (0 : Int) ≤ (b : Int) := by omega
  have hx4 : (b : Int) < 4 := by omega
  have hx5 : (0 : Int) ≤ (c : Int) := by omega
  have hx6 : (c : Int) < 4 := by omega
  clear c0 c1 c2 cr b0 b1 c7
  have e1 : B.get (a : Int) = B.cells.getD a 0 := rfl
  have e2 : ∀ k : Nat, (B.t i).get (k : Int) = (B.t i).r.getD k 0 := fun k => rfl
  unfold PB.swap
  simp only [e1, e2]
  generalize B.cells.getD a 0 = x at *
  generalize (B.t i).r.getD b 0 = y at *
  generalize (B.t i).r.getD c 0 = z at *
  by_cases hxy : x = y
  · rw [if_pos hxy]
    subst hxy
    go_enter Try.func36, Try.ntmps36
    go_wp2
    go_region
    go_wp2
    go_region
    go_wp2
    go_returns
    have h1 := h.put hk ha z
    have h2 := h1.reg (i := i) hi hT.regs 3 (by omega) 1
    exact ⟨rfl, (h2.alloc _).drew.drew, (((h.restB _ _).trans (h1.restT (i := i) hi _ _)).trans (Rest.alloc _ _)).drew.drew⟩
  · rw [if_neg hxy]
    have hxy' : (x == y) = false := by simp [hxy]
    go_enter Try.func36, Try.ntmps36
    go_wp2
    go_region
    go_wp2
    go_returns
    have h2 := h.reg hi hT.regs 3 (by omega) 0
    exact ⟨rfl, (h2.alloc _).drew, ((h.restT hi _ _).trans (Rest.alloc _ _)).drew⟩
end Go.Proofs.Ytehkcgjiimfdjaa
