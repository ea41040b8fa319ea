/- The contracts of the laws' own helpers: has, height. -/
import Derived.Test.YtnjkfmglohcmhabS7Rows
import Derived.Test.YtnjkfmglohcmhabS7Ops
import Derived.BigQuiet
namespace Go.Proofs.Ytnjkfmglohcmhab
open Go.RowKit
set_option linter.unusedVariables false
theorem str_eq {a b : ByteArray} : (a.toList == b.toList) = true ↔ a = b := by
  rw [beq_iff_eq, ByteArray.toList_eq, ByteArray.toList_eq]
  constructor
  · intro h
    cases a; cases b
    simp only [ByteArray.mk.injEq]
    exact Array.ext' h
  · rintro rfl
    rfl
theorem str_ne {a b : ByteArray} (h : a ≠ b) : (a.toList == b.toList) = false := by
  cases e : a.toList == b.toList with
  | false => rfl
  | true => exact absurd (str_eq.1 e) h
/-- Is a key among others? -/
def hasB (l : List ByteArray) (k : ByteArray) : Bool := l.any (fun x => x.toList == k.toList)
theorem hasB_true {l : List ByteArray} {k : ByteArray} : hasB l k = true ↔ k ∈ l := by
  unfold hasB
  rw [List.any_eq_true]
  constructor
  · rintro ⟨x, hx, e⟩
    rw [← str_eq.1 e]
    exact hx
  · intro h
    exact ⟨k, h, str_eq.2 rfl⟩
theorem hasB_false {l : List ByteArray} {k : ByteArray} : hasB l k = false ↔ k ∉ l := by
  rw [← hasB_true]
  cases hasB l k <;> simp
section
variable {w : World} {a b : Option Addr} {n c m d : Nat} {l k : List ByteArray}
set_option maxRecDepth 100000 in
theorem has_at (h : StAt w a n c l) (key : ByteArray) : Calls Try.prog 10 #[.slice a n c, .string key] w fun e w' => e = .returned (.bool (hasB l key)) ∧ w' = w := by
  have hmax := h.max
  have hle := h.le
  have hsz := h.size
  have HS : Hid (l.length = n) := hsz
  unfold maxLen at hmax
  have HH : Hid (StAt w a n c l) := h
  clear h hsz
  go_enter Try.func10, Try.ntmps10
  go_wp2_with fail
  go_loop [5] (fun x => ∃ i : Nat, i ≤ n ∧ x = .int .i64 (i : Int) ∧ Hid (∀ j, j < i → l.getD j ⟨#[]⟩ ≠ key)) (fun x => n - (intOf x).toNat)
  case atStart => exact ⟨0, Nat.zero_le _, rfl, fun j hj => absurd hj (Nat.not_lt_zero _)⟩
  case round =>
    obtain ⟨i, hi, rfl, HN⟩ := hrel
    by_cases hlt : i < n
    · obtain ⟨bk, off, ha, hc⟩ := HH.out.here (by omega)
      have hci := hc i hlt
      rw [ha]
      obtain ⟨x, HX⟩ : ∃ x, Hid (x = l.getD i ⟨#[]⟩) := ⟨_, rfl⟩
      rw [← HX.out] at hci
      clear ha hc
      by_cases e : x = key
      · have hq : (x.toList == key.toList) = true := str_eq.2 e
        have HE : Hid (hasB l key = true) := by
          unfold Hid
          rw [hasB_true, ← e, HX.out]
          have : i < l.length := by rw [HS.out]; exact hlt
          simp [List.getD, this]
        clear e
        go_wp2
        go_returns
        exact ⟨by rw [HE.out]; rfl, rfl⟩
      · have hq : (x.toList == key.toList) = false := str_ne e
        have HE : Hid (x ≠ key) := e
        clear e
        go_wp2
        go_round
        case rel => exact ⟨i + 1, by omega, by go_num, fun j hj => by
          by_cases e2 : j = i
          · rw [e2, ← HX.out]; exact HE.out
          · exact HN.out j (by omega)⟩
        case measure => simp only [intOf]; omega
    · have HE : Hid (hasB l key = false) := by
        unfold Hid
        rw [hasB_false]
        intro hm
        obtain ⟨j, hj, e⟩ := List.getElem_of_mem hm
        refine HN.out j (by rw [HS.out] at hj; omega) ?_
        simp [List.getD, hj, e]
      go_wp2
      go_returns
      exact ⟨by rw [HE.out]; rfl, rfl⟩
/-- As heights are folded. -/
def hgt (n : Int) : Nat := 1 + (if n < 0 then -(n + 1) else n).toNat % 8
theorem hgt_in (n : Int) : 1 ≤ hgt n ∧ hgt n ≤ 8 := by unfold hgt; omega
set_option maxRecDepth 100000 in
theorem height_at (n : Int) (hn : in64 n) : Calls Try.prog 13 #[.int .i64 n] w fun e w' => e = .returned (.int .i64 (hgt n : Int)) ∧ w' = w := by
  unfold in64 at hn
  obtain ⟨h1, h2⟩ := hn
  by_cases h0 : n < 0
  · have HE : Hid ((hgt n : Int) = 1 + (-(n + 1)) % 8) := by unfold Hid hgt; rw [if_pos h0]; omega
    go_enter Try.func13, Try.ntmps13
    go_wp2
    go_returns
    refine ⟨?_, rfl⟩
    rw [HE.out]
    have e : wrap64 (1 + -((n + 1).tmod 8)) = 1 + (-(n + 1)) % 8 := by
      rw [← Int.neg_tmod, Int.tmod_eq_emod_of_nonneg (by omega)]
      unfold wrap64
      omega
    rw [← e]
    rfl
  · have HE : Hid ((hgt n : Int) = 1 + n % 8) := by unfold Hid hgt; rw [if_neg h0]; omega
    have h3 : 0 ≤ n := by omega
    go_enter Try.func13, Try.ntmps13
    go_wp2
    go_returns
    exact ⟨by rw [HE.out]; first | rfl | (apply ret1; simp [Value.int.injEq]; omega), rfl⟩
end
end Go.Proofs.Ytnjkfmglohcmhab
