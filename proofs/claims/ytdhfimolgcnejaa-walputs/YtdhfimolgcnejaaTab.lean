/- The contract of codec's sumTable, and of the function within it. -/
import Derived.Test.YtdhfimolgcnejaaChecked
import Derived.Test.YtdhfimolgcnejaaBits
import Derived.Test.YtdhfimolgcnejaaPlainCrc
namespace Go.Proofs.Ytdhfimolgcnejaa
open Go.RowKit
theorem and1_32 (x : Nat) (h : x < 4294967296) : bits .and .u32 (x : Int) 1 = ((x % 2 : Nat) : Int) := by
  have := nbits_and32 x 1 h (by omega)
  rw [Nat.and_one_is_mod] at this
  exact this
set_option maxRecDepth 100000 in
set_option maxHeartbeats 400000 in
theorem fill_any (k g : Nat) (w : World) (hk : k < 16) (v : Value) (hc : w.cell? ⟨g, k, none⟩ = some v) (hf : w.frozen? ⟨g, k, none⟩ = false) :
    Calls Try.prog 38 #[.int .i64 (k : Int), .pointer (some ⟨g, 0, none⟩)] w fun e w' => e = .returned (.tuple #[]) ∧ w' = w.setCell ⟨g, k, none⟩ (.int .u32 (nib k : Nat)) := by
  go_enter Try.func38, Try.ntmps38
  go_wp2
  go_loop [3, 7] (fun s i => ∃ j x : Nat, j ≤ 4 ∧ x < 4294967296 ∧ i = .int .i64 j ∧ s = .int .u32 x ∧ Hid (x = s1it j k)) (fun _ i => 4 - (intOf i).toNat)
  case atStart => exact ⟨0, k, by omega, by omega, rfl, by go_num, rfl⟩
  case round =>
    obtain ⟨j, x, hj, hx, rfl, rfl, HR⟩ := hrel
    have hb := and1_32 x hx
    by_cases hlt : j < 4
    · have hb := and1_32 x hx
      by_cases hodd : x % 2 = 1
      · have hb1 : bits .and .u32 (x : Int) 1 = 1 := by rw [hb, hodd]; rfl
        have HX : Hid (bits .xor .u32 ((x : Int) / 2) 2197175160 = ((s1 x : Nat) : Int)) := by
          have := nbits_xor32 (x / 2) 2197175160 (by omega) (by omega)
          unfold Hid s1
          rw [if_pos hodd, ← this]
          rfl
        have HX2 : Hid (s1 x < 4294967296) := s1_lt hx
        clear hb hodd
        go_wp2
        go_round
        case rel => exact ⟨j + 1, s1 x, by omega, HX2.out, by go_num, congrArg (Value.int .u32) HX.out, by rw [HR.out]; rfl⟩
        case measure => simp [intOf]; omega
      · have hb1 : bits .and .u32 (x : Int) 1 = 0 := by rw [hb, show x % 2 = 0 by omega]; rfl
        have HX : Hid (((x : Int) / 2) = ((s1 x : Nat) : Int)) := by
          unfold Hid s1
          rw [if_neg hodd]
          rfl
        have HX2 : Hid (s1 x < 4294967296) := s1_lt hx
        clear hb hodd
        go_wp2
        go_round
        case rel => exact ⟨j + 1, s1 x, by omega, HX2.out, by go_num, congrArg (Value.int .u32) HX.out, by rw [HR.out]; rfl⟩
        case measure => simp [intOf]; omega
    · obtain rfl : j = 4 := by omega
      clear hb
      go_wp2
      go_end0
      exact ⟨rfl, by rw [HR.out]; rfl⟩

def tabZ : Array Value := #[Value.int .u32 0, Value.int .u32 0, Value.int .u32 0, Value.int .u32 0, Value.int .u32 0, Value.int .u32 0, Value.int .u32 0, Value.int .u32 0, Value.int .u32 0, Value.int .u32 0, Value.int .u32 0, Value.int .u32 0, Value.int .u32 0, Value.int .u32 0, Value.int .u32 0, Value.int .u32 0]
def tabA : Nat → Array Value
  | 0 => tabZ
  | k + 1 => (tabA k).setIfInBounds k (.int .u32 (nib k : Nat))
def tabN : Array Value := #[Value.int .u32 (nib 0 : Nat), Value.int .u32 (nib 1 : Nat), Value.int .u32 (nib 2 : Nat), Value.int .u32 (nib 3 : Nat), Value.int .u32 (nib 4 : Nat), Value.int .u32 (nib 5 : Nat), Value.int .u32 (nib 6 : Nat), Value.int .u32 (nib 7 : Nat), Value.int .u32 (nib 8 : Nat), Value.int .u32 (nib 9 : Nat), Value.int .u32 (nib 10 : Nat), Value.int .u32 (nib 11 : Nat), Value.int .u32 (nib 12 : Nat), Value.int .u32 (nib 13 : Nat), Value.int .u32 (nib 14 : Nat), Value.int .u32 (nib 15 : Nat)]
theorem tabA_16 : tabA 16 = tabN := rfl
theorem tabA_size : ∀ k, (tabA k).size = 16
  | 0 => rfl
  | k + 1 => by simp [tabA, tabA_size k]

theorem tab_cell (w : World) (k : Nat) (hk : k < 16) : ∃ v, ((w.alloc (.cells tabZ 61)).alloc (.cells (tabA k) 61)).cell? ⟨w.heap.size + 1, k, none⟩ = some v :=
  ⟨(tabA k)[k]'(by rw [tabA_size]; exact hk), by simp [tabA_size, hk]⟩

set_option maxRecDepth 100000 in
set_option maxHeartbeats 400000 in
theorem sumTable_any (w : World) :
    Calls Try.prog 37 #[] w fun e w' => e = .returned (.agg tabN) ∧ Below w.heap.size w w' := by
  go_enter Try.func37, Try.ntmps37
  go_wp2
  go_loopw [5] (fun i wr => ∃ k : Nat, k ≤ 16 ∧ i = .int .i64 k ∧ Hid (wr = (w.alloc (.cells tabZ 61)).alloc (.cells (tabA k) 61))) (fun i _ => 16 - (intOf i).toNat)
  case atStart => exact ⟨0, by omega, rfl, rfl⟩
  case round =>
    obtain ⟨k, hk, rfl, HW⟩ := hrel
    have hw := HW.out
    subst hw
    clear HW
    by_cases hlt : k < 16
    · obtain ⟨v, hv⟩ := tab_cell w k hlt
      have HV : Hid _ := hv
      clear hv
      go_wp2_with (go_at_call 38; refine (fill_any k (w.heap.size + 1) _ hlt v HV.out (by simp [go_sem])).mono ?_; rintro e w1 ⟨rfl, rfl⟩)
      go_roundw
      case rel => exact ⟨k + 1, by omega, by go_num, rfl⟩
      case measure => simp [intOf]; omega
    · obtain rfl : k = 16 := by omega
      rw [tabA_16]
      unfold tabN tabZ
      go_wp2
      exact bodyPost_ret (v := .agg tabN) (by simp [results, Try.results37, go_sem, tabN]) rfl ⟨rfl, ((Below.refl _ _).alloc (Nat.le_refl _) _).alloc (by simp) _⟩
end Go.Proofs.Ytdhfimolgcnejaa
