/- The contract of bloom.May: whether a key may be there is what the plain function mayN tells. -/
import Derived.Test.YtbmimlplicdheaaB10Seq
namespace Go.Proofs.Ytbmimlplicdheaa
open Go.RowKit Go.Shelf
attribute [local go_sem] Oper.semAt_some

theorem and_bitF : ∀ c : Fin 256, ∀ k : Fin 8, (bits .and .u8 ((c.val : Nat) : Int) (2 ^ k.val % 256) == 0) = !(c.val.testBit k.val) := by decide +kernel
theorem and_bit (c k : Nat) (hc : c < 256) (hk : k < 8) : (bits .and .u8 (c : Int) (2 ^ k % 256) == 0) = !(c.testBit k) := and_bitF ⟨c, hc⟩ ⟨k, hk⟩
/-- Between two rounds. -/
def MyI (w : World) (a : Option Addr) (len cap : Nat) (bs : List UInt8) {count : Nat} (pre : List (PlX count)) (W : World) : Prop :=
  Below w.heap.size w W ∧ Boxed W w.heap.size 25 (.slice a len cap) ∧ Boxed W (w.heap.size + 1) 4 (.bool false) ∧ ∀ p ∈ PlX.nums pre, bitAt bs p = true
/-- A round has found a bit that is not set. -/
def MyX (w : World) (bs : List UInt8) {count : Nat} (c : Code) (pre : List (PlX count)) (W : World) : Prop :=
  c = .ret ∧ Below w.heap.size w W ∧ Boxed W (w.heap.size + 1) 4 (.bool false) ∧ ∃ p ∈ PlX.nums pre, bitAt bs p = false
theorem boxed_ownF {B₀ : Nat} {W W' : World} {row : Option Nat} {B : Nat} {t : TypeId} {v : Value} (h : Boxed W B t v) (hg : W.grownBy W' row) (hr : ∀ r, row = some r → B₀ ≤ r ∧ ∃ o : Obj, W.heap[r]? = some o ∧ o.isCells = false) : Boxed W' B t v := by
  refine h.kept hg (fun e => ?_)
  obtain ⟨_, o, ho, hcl⟩ := hr _ e.symm
  rw [show W.heap[B]? = _ from h] at ho
  cases ho
  cases hcl
theorem myI_own (w : World) (a : Option Addr) (len cap : Nat) (bs : List UInt8) {count B : Nat} (hB : w.heap.size ≤ B) : OwnFrom B (MyI w a len cap bs (count := count)) := by
  rintro pre W W' row ⟨h1, h2, h3, h4⟩ hg hr
  exact ⟨h1.grown hg h1.size (fun k e => by have := (hr k e).1; omega), boxed_ownF h2 hg hr, boxed_ownF h3 hg hr, h4⟩
theorem myX_own (w : World) (bs : List UInt8) {count B : Nat} (hB : w.heap.size ≤ B) (c : Code) : OwnFrom B (MyX w bs (count := count) c) := by
  rintro pre W W' row ⟨h0, h1, h3, h4⟩ hg hr
  exact ⟨h0, h1.grown hg h1.size (fun k e => by have := (hr k e).1; omega), boxed_ownF h3 hg hr, h4⟩

set_option maxRecDepth 100000 in
set_option maxHeartbeats 2000000 in
theorem may_range (a : Option Addr) (m cap : Nat) (bs : List UInt8) (s : ByteArray) (w : World) (h : BsAt w a (m + 1) cap bs) (hl : m + 1 ≤ 140737488355328) (hs : s.size ≤ 140737488351232) (h1 : 1 ≤ m) (pr : Nat) (hpr : (bs.getD m 0).toNat = pr) (hp1 : 1 ≤ pr) (hp2 : pr ≤ 30) :
    Calls Try.prog 13 #[.slice a ((m + 1 : Nat)) cap, .string s] w fun e w' => e = .returned (.bool ((plc s.data.toList (8 * m) pr).all fun p => bitAt bs p)) ∧ Below w.heap.size w w' := by
  obtain ⟨b, off, rfl, hc⟩ := h.here (by omega)
  have HBS : Hid (BsAt w (some ⟨b, off, none⟩) (m + 1) cap bs) := h
  have HC : Hid (∀ j, j < m + 1 → w.cell? ⟨b, off + j, none⟩ = some (.int .u8 ((bs.getD j 0).toNat : Int))) := hc
  have hlast := hc m (by omega)
  rw [hpr] at hlast
  have hbl : b < w.heap.size := World.block_lt_of_cell? w _ hlast
  have hbl1 : b < w.heap.size + 1 := by omega
  have hcap := h.le
  have hmax := h.max
  unfold maxLen at hmax
  clear h hc hpr
  have hmix : Try.prog.follows Departure.mixedOrders = true := by kernel_rfl
  refine (callsIn_wide (n := 6)).1 ?_
  refine callsIn_of_wp_marks Try.func13 rfl trivial ?_ rfl
  simp only [Try.ntmps13, List.size_toArray, List.length_cons, List.length_nil, Nat.reduceAdd, Nat.reduceSub, Array.replicate_succ, Array.replicate_zero, List.push_toArray, List.append_toArray, List.nil_append, List.cons_append]
  gi_wp2_with (refine ⟨trivial, ?_⟩; gi_at_call 17; refine (callsIn_wide.2 (places_any _ _ _ (by omega) _)).mono ?_; rintro e w1 ⟨rfl, hb1, hz1, x0, x1, x2⟩)
  simp only [Nat.add_assoc, Nat.reduceAdd] at *
  simp only [World.size_alloc, Nat.add_assoc, Nat.reduceAdd] at hb1 hz1 x0 x1 x2
  have hb2 : Below w.heap.size w w1 := (((Below.refl _ w).alloc (Nat.le_refl _) _).alloc (by simp) _).trans (hb1.mono (by simp))
  have y0 : Boxed w1 w.heap.size 25 (.slice (some ⟨b, off, none⟩) (m + 1) cap) := (hb1.block _ (by omega)).trans ((Boxed.new w 25 (.slice (some ⟨b, off, none⟩) (m + 1) cap)).alloc (.cells #[.bool false] 4))
  have y1 : Boxed w1 (w.heap.size + 1) 4 (.bool false) := (hb1.block _ (by omega)).trans (by have := Boxed.new (w.alloc (.cells #[.slice (some ⟨b, off, none⟩) (m + 1) cap] 25)) 4 (.bool false); rwa [World.size_alloc] at this)
  refine wpIn_rangeFunc_ownG (F := Fence.wide) rfl (by omega) (gf := 21) (lb := #[.pointer (some ⟨w.heap.size + 2, 0, none⟩), .pointer (some ⟨w.heap.size + 3, 0, none⟩), .pointer (some ⟨w.heap.size + 4, 0, none⟩)]) rfl trivial (enters_of Try.func21 (by kernel_rfl) rfl)
    (places_stops 5 (by omega) w.heap.size s hs pr (8 * m) (by omega) (by omega) (by omega) (w.heap.size + 2) w1 x0 x1 x2) Kp2.trans (Kp2.put (by omega) (by omega)) (Below.refl _ _) (fun _ => rfl)
    (MyI w (some ⟨b, off, none⟩) (m + 1) cap bs) (MyX w bs) (myI_own _ _ _ _ _ (by omega)) (myX_own _ _ (by omega)) ⟨hb2, y0, y1, by simp [PlX.nums]⟩
    (fun x => { tmps := #[.slice (some ⟨b, off, none⟩) (m + 1) cap, .string s, .pointer (some ⟨w.heap.size, 0, none⟩), undef, .pointer (some ⟨w.heap.size + 1, 0, none⟩), .int .i64 (m : Int), .int .i64 (pr : Int), .int .u64 ((x.1 : Nat) : Int), .slice (some ⟨b, off, none⟩) (m + 1) cap, .int .i64 ((m : Int) + 1), .int .i64 (m : Int), .int .i64 (m : Int),
        .bool (decide ((m : Int) < 1)), .slice (some ⟨b, off, none⟩) (m + 1) cap, .int .i64 (m : Int), .pointer (some ⟨b, off + m, none⟩), .int .u8 (pr : Int), .int .i64 (pr : Int), .int .i64 (pr : Int), .bool (decide ((pr : Int) < 1)), .bool (decide ((pr : Int) < 1)), .int .i64 (pr : Int), .bool (decide (30 < (pr : Int))), .bool (decide ((pr : Int) < 1) || decide (30 < (pr : Int))), .string s, .int .i64 (pr : Int),
        .int .i64 (m : Int), .func (.func 21) #[] #[.pointer (some ⟨w.heap.size + 2, 0, none⟩), .pointer (some ⟨w.heap.size + 3, 0, none⟩), .pointer (some ⟨w.heap.size + 4, 0, none⟩)], .int .u64 ((x.1 : Nat) : Int), undef, undef, undef, undef, undef, undef, undef, undef, undef, undef], defers := [] }) ?assign ?body ?done ?stop
  case assign =>
    intro l x W K hK
    simp only [PlX.vals]
    gi_wp2
    exact hK
  case body =>
    rintro l pre ⟨p, hp⟩ W ⟨g1, g2, g3, g4⟩ _
    have hq : p / 8 < m := by omega
    have hcell : W.cell? ⟨b, off + p / 8, none⟩ = some (.int .u8 ((bs.getD (p / 8) 0).toNat : Int)) := by rw [g1.cell hbl]; exact HC.out _ (by omega)
    have hc8 : (bs.getD (p / 8) 0).toNat < 256 := UInt8.toNat_lt _
    have HBT : Hid (bitAt bs p = (bs.getD (p / 8) 0).toNat.testBit (p % 8)) := rfl
    generalize (bs.getD (p / 8) 0).toNat = c at *
    have z2 := g2.cell
    have z3 := g3.cell
    have zf := g3.frozen
    have hbit := and_bit c (p % 8) hc8 (Nat.mod_lt _ (by omega))
    rw [← HBT.out] at hbit
    cases ht : bitAt bs p with
    | true =>
      rw [ht, Bool.not_true] at hbit
      have HT : Hid (bitAt bs p = true) := ht
      clear ht HBT
      gi_wp2
      refine ⟨(KeepsOthers.refl _).from _, ⟨Below.refl _ _, rfl⟩, g1, g2, g3, fun q hqm => ?_⟩
      rw [nums_snoc] at hqm
      rcases List.mem_append.1 hqm with hqm | hqm
      · exact g4 q hqm
      · rw [List.mem_singleton.1 hqm]
        exact HT.out
    | false =>
      rw [ht, Bool.not_false] at hbit
      have HT : Hid (bitAt bs p = false) := ht
      clear ht HBT
      gi_wp2
      refine ⟨(KeepsOthers.setCell _ _ _).from _, rfl, g1.setCell (p := ⟨w.heap.size + 1, 0, none⟩) (by simp) _, g3.set _, p, ?_, HT.out⟩
      rw [nums_snoc]
      exact List.mem_append_right _ (List.mem_singleton.2 rfl)
  case done =>
    rintro D xs W hD hS ⟨g1, g2, g3, g4⟩ hK
    have HR : Hid (((plc s.data.toList (8 * m) pr).all fun p => bitAt bs p) = true) := by
      unfold Hid
      rw [← hS, List.all_eq_true]
      exact g4
    have z3 := g3.cell
    have zf := g3.frozen
    clear g4 hS
    gi_wp2
    have HK := (KeepsOthers.setCell W ⟨w.heap.size + 1, 0, none⟩ (.bool true)).same D _ hK rfl
    refine ⟨by simp, .inl ⟨_, _, rfl, run_takeDeferred HK, ?_⟩⟩
    have hx := boxed_ownF (B₀ := w.heap.size) (g3.set (.bool true)) (grownBy_putObj' _ D (.deferred none)) (fun r e => by cases e; exact ⟨by omega, _, HK, rfl⟩)
    have hc := hx.cell
    refine ⟨.bool true, ?_, by rw [HR.out], ?_⟩
    · simp [results, Try.results13, go_sem, hc]
    · exact (g1.setCell (p := ⟨w.heap.size + 1, 0, none⟩) (by simp) (.bool true)).trans (belowK_b (w := w) (Nat.le_refl _) _ D _ _ (by omega) HK rfl rfl)
  case stop =>
    rintro D c pre W hD ⟨t, hS⟩ ⟨rfl, g1, g3, p, hpm, hpf⟩ hK
    have HR : Hid (((plc s.data.toList (8 * m) pr).all fun p => bitAt bs p) = false) := by
      unfold Hid
      rw [← hS, List.all_eq_false]
      exact ⟨p, List.mem_append_left _ hpm, by rw [hpf]; simp⟩
    clear hS hpm hpf
    gi_wp2
    refine ⟨by simp, .inl ⟨_, _, rfl, run_takeDeferred hK, ?_⟩⟩
    have hx := boxed_ownF (B₀ := w.heap.size) g3 (grownBy_putObj' _ D (.deferred none)) (fun r e => by cases e; exact ⟨by omega, _, hK, rfl⟩)
    have hc := hx.cell
    refine ⟨.bool false, ?_, by rw [HR.out], ?_⟩
    · simp [results, Try.results13, go_sem, hc]
    · exact g1.trans (belowK_b (w := w) (Nat.le_refl _) _ D _ _ (by omega) hK rfl rfl)
set_option maxRecDepth 100000 in
set_option maxHeartbeats 400000 in
theorem may_short (a : Option Addr) (len cap : Nat) (s : ByteArray) (w : World) (hl : len < 2) :
    Calls Try.prog 13 #[.slice a len cap, .string s] w fun e w' => e = .returned (.bool true) ∧ Below w.heap.size w w' := by
  go_enter Try.func13, Try.ntmps13
  go_wp2
  exact bodyPost_ret (v := .bool true) (by simp [results, Try.results13, go_sem]) rfl ⟨rfl, ((Below.refl _ w).alloc (Nat.le_refl _) _).alloc (by simp) _⟩
set_option maxRecDepth 100000 in
set_option maxHeartbeats 400000 in
theorem may_odd (a : Option Addr) (m cap : Nat) (bs : List UInt8) (s : ByteArray) (w : World) (h : BsAt w a (m + 1) cap bs) (hl : m + 1 ≤ 140737488355328) (h1 : 1 ≤ m) (pr : Nat) (hpr : (bs.getD m 0).toNat = pr) (hp : pr < 1 ∨ 30 < pr) :
    Calls Try.prog 13 #[.slice a ((m + 1 : Nat)) cap, .string s] w fun e w' => e = .returned (.bool true) ∧ Below w.heap.size w w' := by
  obtain ⟨b, off, rfl, hc⟩ := h.here (by omega)
  have hlast := hc m (by omega)
  rw [hpr] at hlast
  have h256 : pr < 256 := by rw [← hpr]; exact UInt8.toNat_lt _
  have hbl : b < w.heap.size := World.block_lt_of_cell? w _ hlast
  have hbl1 : b < w.heap.size + 1 := by omega
  have hcap := h.le
  have hmax := h.max
  unfold maxLen at hmax
  clear h hc hpr
  have hB : Below w.heap.size w ((w.alloc (.cells #[.slice (some ⟨b, off, none⟩) (m + 1) cap] 25)).alloc (.cells #[.bool true] 4)) := ((Below.refl _ w).alloc (Nat.le_refl _) _).alloc (by simp) _
  by_cases h1 : pr < 1
  · clear hp
    go_enter Try.func13, Try.ntmps13
    go_wp2
    exact bodyPost_ret (v := .bool true) (by simp [results, Try.results13, go_sem]) rfl ⟨rfl, hB⟩
  · have h2 : 30 < pr := by omega
    clear hp
    go_enter Try.func13, Try.ntmps13
    go_wp2
    exact bodyPost_ret (v := .bool true) (by simp [results, Try.results13, go_sem]) rfl ⟨rfl, hB⟩

/-- Whether a key may be there. -/
theorem may_any (a : Option Addr) (len cap : Nat) (bs : List UInt8) (s : ByteArray) (w : World) (h : BsAt w a len cap bs) (hl : len ≤ 140737488355328) (hs : s.size ≤ 140737488351232) :
    Calls Try.prog 13 #[.slice a len cap, .string s] w fun e w' => e = .returned (.bool (mayN bs s.data.toList)) ∧ Below w.heap.size w w' := by
  have hz := h.size
  by_cases h2 : len < 2
  · have e : mayN bs s.data.toList = true := by unfold mayN; rw [decide_eq_true (by omega)]; simp
    rw [e]
    exact may_short a len cap s w h2
  · obtain ⟨m, rfl⟩ : ∃ m, len = m + 1 := ⟨len - 1, by omega⟩
    have e : mayN bs s.data.toList = (decide ((bs.getD m 0).toNat < 1) || decide (30 < (bs.getD m 0).toNat) || (plc s.data.toList (8 * m) (bs.getD m 0).toNat).all fun p => bitAt bs p) := by
      unfold mayN
      rw [hz, decide_eq_false (by omega), Bool.false_or, Nat.add_sub_cancel]
    rw [e]
    by_cases hp : (bs.getD m 0).toNat < 1 ∨ 30 < (bs.getD m 0).toNat
    · have e2 : (decide ((bs.getD m 0).toNat < 1) || decide (30 < (bs.getD m 0).toNat)) = true := by simpa using hp
      rw [e2, Bool.true_or]
      exact may_odd a m cap bs s w h hl (by omega) _ rfl hp
    · rw [decide_eq_false (by omega), decide_eq_false (by omega), Bool.false_or, Bool.false_or]
      exact may_range a m cap bs s w h hl hs (by omega) _ rfl (by omega) (by omega)
end Go.Proofs.Ytbmimlplicdheaa
