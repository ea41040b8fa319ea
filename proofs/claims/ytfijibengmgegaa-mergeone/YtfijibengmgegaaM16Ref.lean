/- The contracts of the document's own New, Go and Told. -/
import Derived.Test.YtfijibengmgegaaM16All
namespace Go.Proofs.Ytfijibengmgegaa
open Go.RowKit
set_option linter.unusedVariables false
set_option linter.unusedSimpArgs false
def normO (l : List KV) (i : Nat) : Option Nat := if i < l.length then some i else none
def seekI (l : List KV) (k : IK) : Nat := (l.takeWhile fun e => decide (e.1.cmp k < 0)).length
/-- Where one is behind a way to go. -/
def goP (l : List KV) (g : Nat) (k : IK) (at_ : Option Nat) : Option Nat :=
  match g with
  | 1 => normO l 0
  | 2 => if l.length = 0 then none else some (l.length - 1)
  | 3 => normO l (seekI l k)
  | 4 => at_.bind fun i => normO l (i + 1)
  | 5 => at_.bind fun i => if i = 0 then none else some (i - 1)
  | _ => at_
def told16 (l : List KV) : Option Nat → KV × Bool
  | none => (kvZ, false)
  | some i => (l.getD i kvZ, true)
abbrev TRI : TypeId := 61
/-- The document's own iterator in memory. -/
structure Rf (W : World) (B M p : Nat) (l : List KV) (at_ : Option Nat) : Prop where
  ge : B ≤ p
  lt : p < M
  top : M ≤ W.heap.size
  here : ∃ a c, Box W p TRI #[.slice a l.length c, .int .i64 (encI at_)] ∧ OwnK W B a l.length c l ∧ ∀ k, blkOf a = some k → k < M
  fit : ∀ i, at_ = some i → i < l.length
theorem Rf.kept {W W' : World} {B M p : Nat} {l : List KV} {o : Option Nat} (h : Rf W B M p l o) (hs : W.heap.size ≤ W'.heap.size) (hk : ∀ k, B ≤ k → k < M → W'.heap[k]? = W.heap[k]?) : Rf W' B M p l o := by
  obtain ⟨a, c, h1, h2, h3⟩ := h.here
  exact ⟨h.ge, h.lt, Nat.le_trans h.top hs, ⟨a, c, h1.kept (hk p h.ge h.lt), h2.kept fun k e => hk k (h2.ge e) (h3 k e), h3⟩, h.fit⟩
theorem Rf.below {W W' : World} {B M p : Nat} {l : List KV} {o : Option Nat} (h : Rf W B M p l o) (hb : Below W.heap.size W W') : Rf W' B M p l o := h.kept hb.size fun k _ hk => hb.block k (Nat.lt_of_lt_of_le hk h.top)
theorem Rf.at {W : World} {B M p : Nat} {l : List KV} {o o' : Option Nat} (h : Rf W B M p l o) (e : o = o') : Rf W B M p l o' := e ▸ h
set_option maxRecDepth 100000 in
set_option maxHeartbeats 4000000 in
theorem rnew_any (a : Option Addr) (n c : Nat) (L : List (List KV)) (w : World) (h : LsAt w a n c L) (hn : n ≤ 1000000) (hr : ∀ i, lenL L i ≤ 1000000) (hall : (allL L).length ≤ 1000000) :
    Calls Try.prog 12 #[.slice a n c] w fun e w' => Below w.heap.size w w' ∧ ((RiseL L ∧ ∃ p, e = .returned (.tuple #[at_ p, .int .i64 0]) ∧ Rf w' w.heap.size w'.heap.size p (allL L) none) ∨ (¬ RiseL L ∧ e = .returned (.tuple #[.pointer none, .int .i64 160]))) := by
  have HS : Hid (L.length = n ∧ (allL L).length ≤ 1000000 ∧ ∀ i, lenL L i ≤ 1000000) := ⟨h.size, hall, hr⟩
  have HK : Hid (LsAt w a n c L) := h
  clear h hall hr
  go_enter Try.func12, Try.ntmps12
  go_wp2_with fail
  go_loopw [4] (fun s4 wr => ∃ (i : Nat), i ≤ n ∧ s4 = .int .i64 (i : Int) ∧ Hid (Below w.heap.size w wr ∧ ∀ j, j < i → RiseK (rowL L j))) (fun s4 _ => n - (intOf s4).toNat)
  case atStart => exact ⟨0, Nat.zero_le _, rfl, Below.refl _ _, fun j hj => absurd hj (Nat.not_lt_zero _)⟩
  case round =>
    obtain ⟨i, hin, rfl, HI⟩ := hrel
    by_cases hi : i < n
    · have hiI : (i : Int) < (n : Int) := by omega
      obtain ⟨b, off, hx, _, hc⟩ := HK.out.spots (by omega)
      obtain ⟨ai, ci, h1, h2, _⟩ := hc i hi
      have hx0 := hx i hi
      have hc0 := h1 wr HI.out.1
      have HRI := rises_any ai (rowL L i).length ci (rowL L i) wr (h2.below HI.out.1) (HS.out.2.2 i)
      have HRI2 : Hid (Calls Try.prog 25 #[.slice ai (rowL L i).length ci] wr fun e w' => e = .returned (.bool (decide (RiseK (rowL L i)))) ∧ Below wr.heap.size wr w') := HRI
      clear HRI hx h1 h2 hc
      generalize off + i = o at hx0 hc0
      have HY : Hid (RiseK (rowL L i) → ∀ j, j < i + 1 → RiseK (rowL L j)) := fun hr j hj => by
        by_cases e : j = i
        · subst e; exact hr
        · exact HI.out.2 j (by omega)
      have HN : Hid (¬ RiseK (rowL L i) → ¬ RiseL L) := fun hno hl => hno (by
        have hil : i < L.length := by have := HS.out.1; omega
        have e : rowL L i = L[i] := by simp [rowL, List.getD, hil]
        rw [e]
        exact hl _ (List.getElem_mem hil))
      generalize rowL L i = ri at hc0 HRI2 HY HN
      go_wp2_with fail
      refine HRI2.out.mono ?_
      rintro _ w2 ⟨rfl, hb2⟩
      have H2 : Hid (Below w.heap.size w w2) := HI.out.1.trans (hb2.mono HI.out.1.size)
      clear hb2
      by_cases hr : RiseK ri
      · rw [decide_eq_true hr]
        have HR := HY.out hr
        go_wp2
        go_roundw
        case rel => exact ⟨i + 1, by omega, by go_num, H2.out, HR⟩
        case measure => simp only [intOf]; omega
      · rw [decide_eq_false hr]
        have HR : Hid (¬ RiseL L) := HN.out hr
        go_wp2
        go_ret2
        exact ⟨H2.out, .inr ⟨HR.out, ret2 rfl rfl⟩⟩
    · have HR : Hid (RiseL L) := fun l hl => by
        obtain ⟨k, hk, rfl⟩ := List.mem_iff_getElem.1 hl
        have := HI.out.2 k (by have := HS.out.1; omega)
        have e : rowL L k = L[k] := by simp [rowL, List.getD, hk]
        rw [e] at this
        exact this
      have hiI : ¬ (i : Int) < (n : Int) := by omega
      have HAL : Hid (Calls Try.prog 26 #[.slice a n c] wr fun e w' => ∃ a' c', e = .returned (.slice a' (allL L).length c') ∧ OwnK w' wr.heap.size a' (allL L).length c' (allL L) ∧ Below wr.heap.size wr w') := all_any a n c L wr (HK.out.below HI.out.1) HR.out hn HS.out.2.1
      go_wp2_with fail
      refine HAL.out.mono ?_
      rintro _ w2 ⟨a', c', rfl, ho2, hb2⟩
      have H2 : Hid (Below w.heap.size w w2 ∧ OwnK w2 w.heap.size a' (allL L).length c' (allL L)) := ⟨HI.out.1.trans (hb2.mono HI.out.1.size), ho2.less HI.out.1.size⟩
      clear hb2 ho2
      go_wp2
      go_ret2
      exact ⟨H2.out.1.alloc H2.out.1.size _, .inl ⟨HR.out, w2.heap.size, ret2 rfl rfl, H2.out.1.size, by simp, Nat.le_refl _, ⟨a', c', Box.new _ _ _, H2.out.2.alloc _, fun k e => tag_lt ((H2.out.2.alloc _).tag e)⟩, fun i hi => by cases hi⟩⟩
end Go.Proofs.Ytfijibengmgegaa
