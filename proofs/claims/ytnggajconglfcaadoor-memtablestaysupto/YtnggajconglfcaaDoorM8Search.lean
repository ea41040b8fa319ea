/- The contract of sort.Search, at memtable's closure. -/
import Derived.Test.YtnggajconglfcaaDoorChecked
import Derived.Test.YtnggajconglfcaaDoorPdMem
import Derived.Deep.LoopGhost
import Derived.WalkKit
namespace Go.Proofs.YtnggajconglfcaaDoor
open Go.RowKit
set_option linter.unusedVariables false
set_option linter.unusedSimpArgs false
set_option maxRecDepth 100000 in
set_option maxHeartbeats 1000000 in
theorem search_at (n : Nat) (hn : n < 4611686018427387904) (pr : Nat → Bool) (c1 c2 : Value) (w : World)
    (hf : ∀ W : World, Below w.heap.size w W → ∀ i : Nat, i < n → Calls Tryd.prog 56 #[.int .i64 (i : Int), c1, c2] W fun e w' => e = .returned (.bool (pr i)) ∧ Below W.heap.size W w')
    (hm : ∀ a b, a ≤ b → b < n → pr a = true → pr b = true) :
    Calls Tryd.prog 55 #[.int .i64 (n : Int), .func (.func 56) #[] #[c1, c2]] w fun e w' => ∃ r : Nat, e = .returned (.int .i64 (r : Int)) ∧ r ≤ n ∧ (∀ i, i < r → pr i = false) ∧ (∀ i, r ≤ i → i < n → pr i = true) ∧ Below w.heap.size w w' := by
  have HF : Hid (∀ W : World, Below w.heap.size w W → ∀ i : Nat, i < n → Calls Tryd.prog 56 #[.int .i64 (i : Int), c1, c2] W fun e w' => e = .returned (.bool (pr i)) ∧ Below W.heap.size W w') := hf
  have HM : Hid (∀ a b, a ≤ b → b < n → pr a = true → pr b = true) := hm
  clear hf hm
  go_enter Tryd.func55, Tryd.ntmps55
  go_wp2
  go_loopg [5, 6] n (fun kx s5 s6 wr => ∃ (lo hi : Nat), s5 = .int .i64 (lo : Int) ∧ s6 = .int .i64 (hi : Int) ∧ lo ≤ hi ∧ hi ≤ n ∧ hi - lo ≤ kx ∧ Hid (Below w.heap.size w wr ∧ (∀ t, t < lo → pr t = false) ∧ (∀ t, hi ≤ t → t < n → pr t = true)))
  case atStart => exact ⟨0, n, rfl, rfl, Nat.zero_le _, Nat.le_refl _, by omega, Below.refl _ _, fun t ht => absurd ht (Nat.not_lt_zero _), fun t h1 h2 => by omega⟩
  case round =>
    obtain ⟨lo, hi, rfl, rfl, hlh, hin, hg, HI⟩ := hrel
    by_cases hlt : lo < hi
    · have hc := HF.out _ HI.out.1 ((lo + hi) / 2) (by omega)
      rw [show (((lo + hi) / 2 : Nat) : Int) = ((lo : Int) + (hi : Int)) / 2 by omega] at hc
      cases hp : pr ((lo + hi) / 2) <;> rw [hp] at hc
      · have HP : Hid (pr ((lo + hi) / 2) = false) := hp
        clear hp
        go_wp2_with fail
        refine hc.mono ?_
        rintro _ w2 ⟨rfl, hb⟩
        have HB : Hid (Below w.heap.size w w2) := HI.out.1.trans (hb.mono HI.out.1.size)
        clear hb hc
        go_wp2
        go_roundg (hi - ((lo + hi) / 2 + 1))
        case measure => omega
        case rel =>
          refine ⟨(lo + hi) / 2 + 1, hi, by congr 1, rfl, by omega, hin, Nat.le_refl _, HB.out, fun t ht => ?_, HI.out.2.2⟩
          cases h : pr t with
          | false => rfl
          | true =>
            have := HM.out t ((lo + hi) / 2) (by omega) (by omega) h
            rw [HP.out] at this
            cases this
      · have HP : Hid (pr ((lo + hi) / 2) = true) := hp
        clear hp
        go_wp2_with fail
        refine hc.mono ?_
        rintro _ w2 ⟨rfl, hb⟩
        have HB : Hid (Below w.heap.size w w2) := HI.out.1.trans (hb.mono HI.out.1.size)
        clear hb hc
        go_wp2
        go_roundg ((lo + hi) / 2 - lo)
        case measure => omega
        case rel => exact ⟨lo, (lo + hi) / 2, rfl, by congr 1, by omega, by omega, Nat.le_refl _, HB.out, HI.out.2.1, fun t h1 h2 => HM.out _ t h1 h2 HP.out⟩
    · obtain rfl : hi = lo := by omega
      go_wp2
      go_ret
      exact ⟨hi, ret1 rfl, hin, HI.out.2.1, HI.out.2.2, HI.out.1⟩
end Go.Proofs.YtnggajconglfcaaDoor
