/- The contract of the document's own Rises; keys of a row, read for a call. -/
import Derived.Test.YtfijibengmgegaaQa05
import Derived.Test.YtfijibengmgegaaC11MemA
import Derived.Deep.RegionLaw
import Derived.Deep.RegionHeld3
import Derived.BigQuiet
namespace Go.Proofs.Ytfijibengmgegaa
open Go.RowKit
set_option linter.unusedVariables false
set_option linter.unusedSimpArgs false
/-- A row that rises. -/
def RiseK (l : List KV) : Prop := l.Pairwise fun a b => a.1.cmp b.1 < 0
instance (l : List KV) : Decidable (RiseK l) := inferInstanceAs (Decidable (List.Pairwise _ _))
theorem rise_of {l : List KV} (h : ∀ j (hj : j + 1 < l.length), l[j].1.cmp l[j + 1].1 < 0) : RiseK l := by
  refine List.pairwise_iff_getElem.2 fun i j hi hj hij => ?_
  induction j with
  | zero => omega
  | succ j ih =>
    by_cases e : i = j
    · subst e; exact h i hj
    · exact IK.cmp_trans (ih (by omega) (by omega)) (h j hj)
theorem rise_at {l : List KV} (h : RiseK l) (j : Nat) (hj : j + 1 < l.length) : l[j].1.cmp l[j + 1].1 < 0 := List.pairwise_iff_getElem.1 h j (j + 1) (by omega) hj (by omega)
/-- Where the entries of a row lie, in every world that has the row. -/
theorem KsAt.spots {w : World} {a : Option Addr} {n c : Nat} {l : List KV} (h : KsAt w a n c l) (hp : 0 < n) : ∃ b off, (∀ i, i < n → ∀ W : World, (Instr.indexAt 26 (.slice a n c) (.int .i64 (i : Int))).run Try.prog W = .ok (.pointer (some ⟨b, off + i * 4, none⟩)) W) ∧ b < w.heap.size ∧
    ∀ W, Below w.heap.size w W → ∀ k (hk : k < l.length), W.cell? ⟨b, off + k * 4, none⟩ = some (.string l[k].1.user) ∧ W.cell? ⟨b, off + k * 4 + 1, none⟩ = some (.int .u64 (l[k].1.seq : Int)) ∧ W.cell? ⟨b, off + k * 4 + 2, none⟩ = some (.int .i64 l[k].1.kind) ∧ W.cell? ⟨b, off + k * 4 + 3, none⟩ = some (.string l[k].2) := by
  obtain ⟨b, off, ha, hc⟩ := h.cells4 hp
  have hs := h.size
  have hb : b < w.heap.size := World.block_lt_of_cell? w _ (hc 0 (by omega)).1
  refine ⟨b, off, fun i hi W => idxKV W ha hi, hb, fun W hW k hk => ?_⟩
  obtain ⟨h0, h1, h2, h3⟩ := hc k hk
  exact ⟨by rw [hW.cell hb]; exact h0, by rw [hW.cell hb]; exact h1, by rw [hW.cell hb]; exact h2, by rw [hW.cell hb]; exact h3⟩
set_option maxRecDepth 100000 in
set_option maxHeartbeats 4000000 in
theorem rises_any (a : Option Addr) (n c : Nat) (l : List KV) (w : World) (h : KsAt w a n c l) (hn : n ≤ 1000000) :
    Calls Try.prog 25 #[.slice a n c] w fun e w' => e = .returned (.bool (decide (RiseK l))) ∧ Below w.heap.size w w' := by
  have HS : Hid (l.length = n) := h.size
  have HK : Hid (KsAt w a n c l) := h
  clear h
  go_enter Try.func25, Try.ntmps25
  go_wp2_with fail
  go_loopw [3] (fun s3 wr => ∃ (i : Nat), i ≤ n ∧ s3 = .int .i64 (i : Int) ∧ Hid (Below w.heap.size w wr ∧ ∀ j (hj : j + 1 < l.length), j < i → l[j].1.cmp l[j + 1].1 < 0)) (fun s3 _ => n - (intOf s3).toNat)
  case atStart => exact ⟨0, Nat.zero_le _, rfl, Below.refl _ _, fun j hj h => absurd h (Nat.not_lt_zero _)⟩
  case round =>
    obtain ⟨i, hin, rfl, HI⟩ := hrel
    have hw1 : IntKind.i64.wrap ((i : Int) + 1) = (i : Int) + 1 := by rw [IntKind.wrap_i64]; omega
    by_cases hi : i + 1 < n
    · have hiI : ((i : Int) + 1) < (n : Int) := by omega
      obtain ⟨b, off, hix, hb, hcs⟩ := HK.out.spots (by omega)
      have HC : Hid (∀ W, Below w.heap.size w W → _) := hcs
      have hx0 := hix i (by omega)
      have hx1 := hix (i + 1) hi
      rw [show ((i + 1 : Nat) : Int) = (i : Int) + 1 by omega] at hx1
      clear hix
      have HA : Hid (∀ W, Below w.heap.size w W → W.cell? ⟨b, off + i * 4, none⟩ = some (.string (l[i]'(by rw [HS.out]; omega)).1.user) ∧ W.cell? ⟨b, off + i * 4 + 1, none⟩ = some (.int .u64 ((l[i]'(by rw [HS.out]; omega)).1.seq : Int)) ∧ W.cell? ⟨b, off + i * 4 + 2, none⟩ = some (.int .i64 (l[i]'(by rw [HS.out]; omega)).1.kind) ∧ W.cell? ⟨b, off + (i + 1) * 4, none⟩ = some (.string (l[i + 1]'(by rw [HS.out]; omega)).1.user) ∧ W.cell? ⟨b, off + (i + 1) * 4 + 1, none⟩ = some (.int .u64 ((l[i + 1]'(by rw [HS.out]; omega)).1.seq : Int)) ∧ W.cell? ⟨b, off + (i + 1) * 4 + 2, none⟩ = some (.int .i64 (l[i + 1]'(by rw [HS.out]; omega)).1.kind)) := fun W hW => by
        obtain ⟨z0, z1, z2, _⟩ := hcs W hW i (by rw [HS.out]; omega)
        obtain ⟨y0, y1, y2, _⟩ := hcs W hW (i + 1) (by rw [HS.out]; omega)
        exact ⟨z0, z1, z2, y0, y1, y2⟩
      have HY : Hid ((l[i]'(by rw [HS.out]; omega)).1.cmp (l[i + 1]'(by rw [HS.out]; omega)).1 < 0 → ∀ j (hj : j + 1 < l.length), j < i + 1 → l[j].1.cmp l[j + 1].1 < 0) := fun hlt j hj hji => by
        by_cases e : j = i
        · subst e; exact hlt
        · exact HI.out.2 j hj (by omega)
      have HN : Hid (¬ (l[i]'(by rw [HS.out]; omega)).1.cmp (l[i + 1]'(by rw [HS.out]; omega)).1 < 0 → ¬ RiseK l) := fun hno hr => hno (rise_at hr i (by rw [HS.out]; omega))
      have HCP : Hid (∀ W : World, Calls Try.prog 20 #[.agg #[.string (l[i]'(by rw [HS.out]; omega)).1.user, .int .u64 ((l[i]'(by rw [HS.out]; omega)).1.seq : Int), .int .i64 (l[i]'(by rw [HS.out]; omega)).1.kind], .agg #[.string (l[i + 1]'(by rw [HS.out]; omega)).1.user, .int .u64 ((l[i + 1]'(by rw [HS.out]; omega)).1.seq : Int), .int .i64 (l[i + 1]'(by rw [HS.out]; omega)).1.kind]] W fun r w' => r = .returned (.int .i64 ((l[i]'(by rw [HS.out]; omega)).1.cmp (l[i + 1]'(by rw [HS.out]; omega)).1)) ∧ Below W.heap.size W w') := fun W => rcompare_any _ _ _ _ _ _ W
      generalize (l[i]'(by rw [HS.out]; omega)).1 = eA at HA HY HN HCP
      generalize (l[i + 1]'(by rw [HS.out]; omega)).1 = eB at HA HY HN HCP
      generalize eA.cmp eB = cv at HY HN HCP
      generalize off + i * 4 = oA at HA hx0
      generalize off + (i + 1) * 4 = oB at HA hx1
      clear HC hcs
      have HB : Hid (Below w.heap.size w wr) := HI.out.1
      clear HI
      go_wp2_with fail
      have HB1 : Hid (Below w.heap.size w wr.drew) := HB.out.drew
      obtain ⟨x0, x1, x2, y0, y1, y2⟩ := HA.out _ HB1.out
      go_region_held3 (fun V => V.cell? ⟨b, oA, none⟩ = some (.string eA.user) ∧ V.cell? ⟨b, oA + 1, none⟩ = some (.int .u64 (eA.seq : Int)) ∧ V.cell? ⟨b, oA + 2, none⟩ = some (.int .i64 eA.kind) ∧ V.cell? ⟨b, oB, none⟩ = some (.string eB.user) ∧ V.cell? ⟨b, oB + 1, none⟩ = some (.int .u64 (eB.seq : Int)) ∧ V.cell? ⟨b, oB + 2, none⟩ = some (.int .i64 eB.kind)) (first | exact ⟨x0, x1, x2, y0, y1, y2⟩ | go_keep)
        (first
         | (go_at_call 20; refine (HCP.out _).mono ?_; rintro _ vx ⟨rfl, hbx⟩
            have HB1 : Hid (Below w.heap.size w vx) := HB1.out.trans (hbx.mono HB1.out.size)
            obtain ⟨x0, x1, x2, y0, y1, y2⟩ := HA.out _ HB1.out
            clear hbx))
      by_cases hcv : cv < 0
      · go_wp2
        go_roundw
        case rel => exact ⟨i + 1, by omega, by go_num, HB1.out, HY.out hcv⟩
        case measure => simp only [intOf]; omega
      · go_wp2
        go_ret
        rw [decide_eq_false (HN.out hcv)]
        exact ⟨ret1 rfl, HB1.out⟩
    · have HR : Hid (RiseK l) := rise_of fun j hj => HI.out.2 j hj (by have := HS.out; omega)
      have hiI : ¬ ((i : Int) + 1) < (n : Int) := by omega
      go_wp2
      go_ret
      rw [decide_eq_true HR.out]
      exact ⟨ret1 rfl, HI.out.1⟩
end Go.Proofs.Ytfijibengmgegaa
