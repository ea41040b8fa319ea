/- The contracts of bump's smaller functions. -/
import Derived.Test.YtedddgkdpeielaaB6Ar
import Derived.Handy
import Derived.BigRegion
namespace Go.Proofs.Ytedddgkdpeielaa
open Go.RowKit
set_option maxRecDepth 100000 in
theorem used_at {w : World} {p : Nat} {A : PA} (h : ArAt w p A) : Calls Try.prog 12 #[at_ p] w fun e w' => e = .returned (.int .i64 (A.used : Int)) ∧ w' = w := by
  have c1 := h.c1
  go_enter Try.func12, Try.ntmps12
  go_wp2
  go_returns
  exact ⟨rfl, rfl⟩
set_option maxRecDepth 100000 in
theorem used_nil {w : World} : Calls Try.prog 12 #[.pointer none] w fun e w' => e = .returned (.int .i64 0) ∧ w' = w := by
  go_enter Try.func12, Try.ntmps12
  go_wp2
  go_returns
  exact ⟨rfl, rfl⟩
set_option maxRecDepth 100000 in
theorem has_nil {w : World} (c : Int) : Calls Try.prog 29 #[.pointer none, .int .i64 c] w fun e w' => e = .returned (.bool false) ∧ w' = w := by
  go_enter Try.func29, Try.ntmps29
  go_wp2
  go_returns
  exact ⟨rfl, rfl⟩
set_option maxRecDepth 100000 in
theorem has_at {w : World} {p : Nat} {A : PA} (h : ArAt w p A) (c : Int) : Calls Try.prog 29 #[at_ p, .int .i64 c] w fun e w' => e = .returned (.bool (A.has c)) ∧ w' = w := by
  have cn := h.cn
  obtain ⟨n, hn⟩ : ∃ n, n = A.cells.length := ⟨_, rfl⟩
  have e : A.has c = (decide (0 ≤ c) && decide (c < (n : Int))) := by rw [hn]; rfl
  rw [← hn] at cn
  rw [e]
  clear e hn h
  by_cases h1 : 0 ≤ c
  · by_cases h2 : c < (n : Int)
    · go_enter Try.func29, Try.ntmps29
      go_wp2
      go_returns
      exact ⟨by simp; omega, rfl⟩
    · go_enter Try.func29, Try.ntmps29
      go_wp2
      go_returns
      exact ⟨by simp; omega, rfl⟩
  · go_enter Try.func29, Try.ntmps29
    go_wp2
    go_returns
    exact ⟨by simp; omega, rfl⟩
theorem ArAt.drew {w : World} {p : Nat} {A : PA} (h : ArAt w p A) : ArAt w.drew p A := h.kept rfl
abbrev On (p : Nat) : Nat → Prop := fun k => k = p
set_option maxRecDepth 100000 in
theorem give_at {w : World} {p : Nat} {A : PA} (h : ArAt w p A) (n : Nat) (hn : (n : Int) ≤ 9223372036854775807) : Calls Try.prog 28 #[at_ p, .int .i64 (n : Int)] w fun e w' => ((A.bytes.length - A.used < n ∧ e = .returned (.int .i64 60) ∧ ArAt w' p A) ∨ (n ≤ A.bytes.length - A.used ∧ e = .returned (.int .i64 0) ∧ ArAt w' p { A with used := A.used + n })) ∧ Chg (On p) w w' := by
  have c0 := h.c0
  have c1 := h.c1
  have s1 := h.soft 1
  have i1 := h.inv.used
  have i2 := h.inv.size
  have HA : Hid (ArAt w p A) := h
  obtain ⟨s, hs⟩ : ∃ s, s = A.bytes.length := ⟨_, rfl⟩
  obtain ⟨u, hu⟩ : ∃ u, u = A.used := ⟨_, rfl⟩
  rw [← hs] at c0 i1 i2 ⊢
  rw [← hu] at c1 i1 ⊢
  have HH : Hid (s = A.bytes.length ∧ u = A.used) := ⟨hs, hu⟩
  clear h hs hu
  by_cases h1 : s - u < n
  · have t : ((s : Int) - (u : Int) < (n : Int)) := by omega
    go_enter Try.func28, Try.ntmps28
    go_wp2
    go_region
    go_wp2
    go_returns
    exact ⟨.inl ⟨h1, rfl, HA.out.drew⟩, (Chg.refl _ _).drew⟩
  · have t : ¬ ((s : Int) - (u : Int) < (n : Int)) := by omega
    go_enter Try.func28, Try.ntmps28
    go_wp2
    go_region
    go_wp2
    go_returns
    have hz := HH.out
    have hi := HA.out.inv
    have := HA.out.setUsed (u + n) ⟨by simp; omega, hi.size, by have := hi.cells; simp; omega, hi.wf⟩
    exact ⟨.inr ⟨by omega, rfl, by rw [← Int.natCast_add]; exact this.drew⟩, ((Chg.refl (On p) w).set (fun _ => rfl) 1 _).drew⟩
set_option maxRecDepth 100000 in
theorem piece_nil {w : World} (k n : Int) : Calls Try.prog 27 #[.pointer none, .int .i64 k, .int .i64 n] w fun e w' => e = .returned (.tuple #[.slice none 0 0, .bool false]) ∧ w' = w := by
  go_enter Try.func27, Try.ntmps27
  go_wp2
  go_returns
  exact ⟨rfl, rfl⟩
set_option maxRecDepth 100000 in
theorem piece_no {w : World} {p : Nat} {A : PA} (h : ArAt w p A) (k n : Int) (hk : in64 k) (hf : A.fits k n = false) : Calls Try.prog 27 #[at_ p, .int .i64 k, .int .i64 n] w fun e w' => e = .returned (.tuple #[.slice none 0 0, .bool false]) ∧ w' = w := by
  have c1 := h.c1
  have i1 := h.inv.used
  have i2 := h.inv.size
  have hu : A.used ≤ 65536 := by omega
  have hf' : 0 ≤ k → 0 ≤ n → (A.used : Int) < k + n := by simpa [PA.fits] using hf
  generalize A.used = u at c1 hu hf'
  obtain ⟨hk1, hk2⟩ := hk
  clear h i1 i2 hf
  by_cases h1 : k < 0
  · clear hf' hk1
    go_enter Try.func27, Try.ntmps27
    go_wp2
    go_returns
    exact ⟨rfl, rfl⟩
  · by_cases h2 : n < 0
    · clear hf' hk1
      go_enter Try.func27, Try.ntmps27
      go_wp2
      go_returns
      exact ⟨rfl, rfl⟩
    · have h3 : (u : Int) - k < n := by have := hf' (by omega) (by omega); omega
      clear hf'
      go_enter Try.func27, Try.ntmps27
      go_wp2
      go_returns
      exact ⟨rfl, rfl⟩
theorem slice_arr (p k n : Nat) (h : k + n ≤ 65536) : ∃ a : Addr, (0 < n → a = ⟨p, 2 + k, none⟩) ∧ ∀ W : World, (Instr.sliceAt 52 (.pointer (some ⟨p, 2, none⟩)) (some (.int .i64 (k : Int))) (some (.int .i64 ((k : Int) + (n : Int)))) (some (.int .i64 ((k : Int) + (n : Int))))).run Try.prog W = .ok (.slice (some a) n n) W := by
  have hl : Try.prog.arrayLen 52 = 65536 := by simp only [Program.arrayLen, Try.underlying52]
  have he : Try.prog.elem 52 = 5 := by simp only [Program.elem, Try.underlying52]
  refine ⟨if n = 0 then ⟨p, 2, none⟩ else ⟨p, 2 + k, none⟩, fun h0 => by rw [if_neg (by omega)], fun W => ?_⟩
  have hs : (sizeOf 5).run Try.prog W = .ok 1 W := by
    obtain ⟨i, hi, _, h1, _⟩ := info_parts infoU8
    simp [sizeOf, typeInfo, hi, h1]
  have e : ((k : Int) + (n : Int)).toNat = k + n := by omega
  rw [run_sliceAt_array_lhm W 52 ⟨p, 2, none⟩ (by rw [hl, he]; exact Try.underlying52) .i64 .i64 .i64 (k : Int) _ _ (by omega) (by omega) (by omega) (by rw [hl]; omega), he, hs]
  simp only [Result.andThen, slicedAt, e, Int.toNat_natCast]
  by_cases h0 : n = 0
  · subst h0
    simp
  · rw [if_neg (by omega), if_neg h0, Addr.add_lit]
    simp
set_option maxRecDepth 100000 in
theorem piece_yes {w : World} {p : Nat} {A : PA} (h : ArAt w p A) (k n : Nat) (hf : k + n ≤ A.used) : Calls Try.prog 27 #[at_ p, .int .i64 (k : Int), .int .i64 (n : Int)] w fun e w' => (∃ a, e = .returned (.tuple #[.slice (some a) n n, .bool true]) ∧ (0 < n → a = ⟨p, 2 + k, none⟩)) ∧ w' = w := by
  have c1 := h.c1
  have i1 := h.inv.used
  have i2 := h.inv.size
  have hu : A.used ≤ 65536 := by omega
  generalize A.used = u at c1 hu hf
  clear h i1 i2
  have h1 : ¬ ((k : Int) < 0) := by omega
  have h2 : ¬ ((n : Int) < 0) := by omega
  have h3 : ¬ ((u : Int) - (k : Int) < (n : Int)) := by omega
  obtain ⟨a, ha, hsl⟩ := slice_arr p k n (by omega)
  have HA : Hid (0 < n → a = ⟨p, 2 + k, none⟩) := ha
  clear ha
  go_enter Try.func27, Try.ntmps27
  go_wp2
  go_returns
  exact ⟨⟨_, rfl, HA.out⟩, rfl⟩
end Go.Proofs.Ytedddgkdpeielaa
