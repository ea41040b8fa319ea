/- The contracts of bump's methods. -/
import Derived.Test.YtedddgkdpeielaaB6Fn
namespace Go.Proofs.Ytedddgkdpeielaa
open Go.RowKit
theorem PA.has_iff {A : PA} {c : Int} : A.has c = true ↔ 0 ≤ c ∧ c < A.cells.length := by simp [PA.has]
theorem PA.has_nat {A : PA} {c : Int} (h : A.has c = true) : ∃ k : Nat, c = k ∧ k < A.cells.length := by
  have := PA.has_iff.1 h
  exact ⟨c.toNat, by omega, by omega⟩
set_option maxRecDepth 100000 in
theorem alloc_nil {w : World} (n : Int) : Calls Try.prog 14 #[.pointer none, .int .i64 n] w fun e w' => e = .returned (.tuple #[.int .i64 0, .int .i64 1]) ∧ w' = w := by
  go_enter Try.func14, Try.ntmps14
  go_wp2
  go_returns
  exact ⟨rfl, rfl⟩
set_option maxRecDepth 100000 in
theorem alloc_at {w : World} {p : Nat} {A : PA} (h : ArAt w p A) (n : Int) (hn : in64 n) : Calls Try.prog 14 #[at_ p, .int .i64 n] w fun e w' => e = .returned (.tuple #[.int .i64 (A.alloc n).1, .int .i64 (A.alloc n).2.1]) ∧ ArAt w' p (A.alloc n).2.2 ∧ Chg (On p) w w' := by
  have HA : Hid (ArAt w p A) := h
  by_cases h1 : n < 1
  · have e : A.alloc n = (0, 1, A) := by simp [PA.alloc, h1]
    rw [e]
    clear e h
    go_enter Try.func14, Try.ntmps14
    go_wp2
    go_returns
    exact ⟨rfl, HA.out, Chg.refl _ _⟩
  · obtain ⟨m, rfl⟩ : ∃ m : Nat, n = m := ⟨n.toNat, by omega⟩
    have c1 := h.c1
    have i1 := h.inv.used
    have HN : Hid (in64 (m : Int)) := hn
    have HI : Hid (A.used ≤ A.bytes.length) := i1
    clear h i1 hn
    go_enter Try.func14, Try.ntmps14
    go_wp2_with fail
    refine (give_at HA.out m HN.out.2).mono ?_
    rintro _ w2 ⟨⟨hm, rfl, h2⟩ | ⟨hm, rfl, h2⟩, hc⟩
    · have HE : Hid (A.alloc (m : Int) = (0, 60, A)) := by have := HI.out; unfold Hid PA.alloc; rw [if_neg (by omega), if_pos (by omega)]
      go_wp2
      go_returns
      rw [HE.out]
      exact ⟨rfl, h2, hc⟩
    · have HE : Hid (A.alloc (m : Int) = ((A.used : Int), 0, { A with used := A.used + m })) := by have := HI.out; unfold Hid PA.alloc; rw [if_neg (by omega), if_neg (by omega)]; rfl
      go_wp2
      go_returns
      rw [HE.out]
      exact ⟨rfl, h2, hc⟩
set_option maxRecDepth 100000 in
theorem cell_nil {w : World} : Calls Try.prog 15 #[.pointer none] w fun e w' => e = .returned (.tuple #[.int .i64 0, .int .i64 1]) ∧ w' = w := by
  go_enter Try.func15, Try.ntmps15
  go_wp2
  go_returns
  exact ⟨rfl, rfl⟩
set_option maxRecDepth 100000 in
theorem cell_at {w : World} {p : Nat} {A : PA} (h : ArAt w p A) : Calls Try.prog 15 #[at_ p] w fun e w' => e = .returned (.tuple #[.int .i64 A.cell.1, .int .i64 A.cell.2.1]) ∧ ArAt w' p A.cell.2.2 ∧ Chg (On p) w w' := by
  have HA : Hid (ArAt w p A) := h
  clear h
  go_enter Try.func15, Try.ntmps15
  go_wp2_with fail
  refine (give_at HA.out 8 (by omega)).mono ?_
  rintro _ w2 ⟨⟨hm, rfl, h2⟩ | ⟨hm, rfl, h2⟩, hc⟩
  · have HE : Hid (A.cell = (0, 60, A)) := by have := HA.out.inv.used; unfold Hid PA.cell; rw [if_pos (by omega)]
    go_wp2
    go_returns
    rw [HE.out]
    exact ⟨rfl, h2, hc⟩
  · have HE : Hid (A.cell = ((A.cells.length : Int), 0, { A with used := A.used + 8, cells := A.cells ++ [0] })) := by have := HA.out.inv.used; unfold Hid PA.cell; rw [if_neg (by omega)]
    have hi := PA.cell_inv HA.out.inv
    rw [HE.out] at hi
    have cn := h2.cn
    have sn := h2.soft 65538
    have i1 := HA.out.inv.cells
    have i2 := HA.out.inv.used
    have i3 := HA.out.inv.size
    have hlt : A.cells.length < 8192 := by omega
    have H9 : Hid (ArAt (w2.setCell ⟨p, 65538, none⟩ (.int .i64 ((A.cells.length : Int) + 1))) p { A with used := A.used + 8, cells := A.cells ++ [0] }) := h2.addCell hlt hi
    have HC : Hid (Chg (On p) w w2) := hc
    simp only at cn
    clear hi h2 hc i1 i2 i3 hm
    go_wp2
    go_returns
    rw [HE.out]
    exact ⟨rfl, H9.out, HC.out.set (fun _ => rfl) _ _⟩
set_option maxRecDepth 100000 in
theorem load_nil {w : World} (c : Int) : Calls Try.prog 18 #[.pointer none, .int .i64 c] w fun e w' => e = .returned (.tuple #[.int .i64 0, .int .i64 1]) ∧ w' = w := by
  go_enter Try.func18, Try.ntmps18
  go_wp2_with fail
  refine (has_nil c).mono ?_
  rintro _ _ ⟨rfl, rfl⟩
  go_wp2
  go_returns
  exact ⟨rfl, rfl⟩
set_option maxRecDepth 100000 in
theorem load_at {w : World} {p : Nat} {A : PA} (h : ArAt w p A) (c : Int) : Calls Try.prog 18 #[at_ p, .int .i64 c] w fun e w' => e = .returned (.tuple #[.int .i64 (A.load c).1, .int .i64 (A.load c).2]) ∧ w' = w := by
  have HA : Hid (ArAt w p A) := h
  clear h
  cases hh : A.has c with
  | false =>
    have e : A.load c = (0, 1) := by simp [PA.load, hh]
    rw [e]
    clear e
    go_enter Try.func18, Try.ntmps18
    go_wp2_with fail
    refine (has_at HA.out c).mono ?_
    rintro _ _ ⟨rfl, rfl⟩
    rw [hh]
    go_wp2
    go_returns
    exact ⟨rfl, rfl⟩
  | true =>
    obtain ⟨k, rfl, hk⟩ := PA.has_nat hh
    have e : A.load (k : Int) = (A.cells.getD k 0, 0) := by simp [PA.load, hh]
    rw [e]
    clear e
    have ck := HA.out.ck hk
    have i1 := HA.out.inv.cells
    have i2 := HA.out.inv.used
    have i3 := HA.out.inv.size
    have x1 : (0 : Int) ≤ (k : Int) := by omega
    have x2 : (k : Int) < 8192 := by omega
    generalize A.cells.getD k 0 = v at ck ⊢
    clear i1 i2 i3
    go_enter Try.func18, Try.ntmps18
    go_wp2_with fail
    refine (has_at HA.out k).mono ?_
    rintro _ _ ⟨rfl, rfl⟩
    rw [hh]
    clear hh hk
    go_wp2
    go_returns
    exact ⟨rfl, rfl⟩
set_option maxRecDepth 100000 in
theorem store_nil {w : World} (c n : Int) : Calls Try.prog 16 #[.pointer none, .int .i64 c, .int .i64 n] w fun e w' => e = .returned (.int .i64 1) ∧ w' = w := by
  go_enter Try.func16, Try.ntmps16
  go_wp2_with fail
  refine (has_nil c).mono ?_
  rintro _ _ ⟨rfl, rfl⟩
  go_wp2
  go_returns
  exact ⟨rfl, rfl⟩
set_option maxRecDepth 100000 in
theorem store_at {w : World} {p : Nat} {A : PA} (h : ArAt w p A) (c n : Int) (hn : in64 n) : Calls Try.prog 16 #[at_ p, .int .i64 c, .int .i64 n] w fun e w' => e = .returned (.int .i64 (A.store c n).1) ∧ ArAt w' p (A.store c n).2 ∧ Chg (On p) w w' := by
  have HA : Hid (ArAt w p A) := h
  clear h
  cases hh : A.has c with
  | false =>
    have e : A.store c n = (1, A) := by simp [PA.store, hh]
    rw [e]
    clear e
    go_enter Try.func16, Try.ntmps16
    go_wp2_with fail
    refine (has_at HA.out c).mono ?_
    rintro _ _ ⟨rfl, rfl⟩
    rw [hh]
    go_wp2
    go_returns
    exact ⟨rfl, HA.out, Chg.refl _ _⟩
  | true =>
    obtain ⟨k, rfl, hk⟩ := PA.has_nat hh
    have e : A.store (k : Int) n = (0, { A with cells := A.cells.set k n }) := by simp [PA.store, hh]
    rw [e]
    clear e
    have ck := HA.out.ck hk
    have sk := HA.out.soft (65539 + k)
    have i1 := HA.out.inv.cells
    have i2 := HA.out.inv.used
    have i3 := HA.out.inv.size
    have x1 : (0 : Int) ≤ (k : Int) := by omega
    have x2 : (k : Int) < 8192 := by omega
    have H9 : Hid (ArAt (w.setCell ⟨p, 65539 + k, none⟩ (.int .i64 n)) p { A with cells := A.cells.set k n }) := HA.out.setK hk n hn
    generalize A.cells.getD k 0 = v at ck
    clear i1 i2 i3
    go_enter Try.func16, Try.ntmps16
    go_wp2_with fail
    refine (has_at HA.out k).mono ?_
    rintro _ _ ⟨rfl, rfl⟩
    rw [hh]
    clear hh hk hn
    go_wp2
    go_returns
    exact ⟨rfl, H9.out, (Chg.refl (On p) _).set (fun _ => rfl) _ _⟩
set_option maxRecDepth 100000 in
theorem cas_nil {w : World} (c o n : Int) : Calls Try.prog 19 #[.pointer none, .int .i64 c, .int .i64 o, .int .i64 n] w fun e w' => e = .returned (.tuple #[.bool false, .int .i64 1]) ∧ w' = w := by
  go_enter Try.func19, Try.ntmps19
  go_wp2_with fail
  refine (has_nil c).mono ?_
  rintro _ _ ⟨rfl, rfl⟩
  go_wp2
  go_returns
  exact ⟨rfl, rfl⟩
set_option maxRecDepth 100000 in
theorem cas_at {w : World} {p : Nat} {A : PA} (h : ArAt w p A) (c o n : Int) (hn : in64 n) : Calls Try.prog 19 #[at_ p, .int .i64 c, .int .i64 o, .int .i64 n] w fun e w' => e = .returned (.tuple #[.bool (A.cas c o n).1, .int .i64 (A.cas c o n).2.1]) ∧ ArAt w' p (A.cas c o n).2.2 ∧ Chg (On p) w w' := by
  have HA : Hid (ArAt w p A) := h
  clear h
  cases hh : A.has c with
  | false =>
    have e : A.cas c o n = (false, 1, A) := by simp [PA.cas, hh]
    rw [e]
    clear e
    go_enter Try.func19, Try.ntmps19
    go_wp2_with fail
    refine (has_at HA.out c).mono ?_
    rintro _ _ ⟨rfl, rfl⟩
    rw [hh]
    go_wp2
    go_returns
    exact ⟨rfl, HA.out, Chg.refl _ _⟩
  | true =>
    obtain ⟨k, rfl, hk⟩ := PA.has_nat hh
    have ck := HA.out.ck hk
    have sk := HA.out.soft (65539 + k)
    have i1 := HA.out.inv.cells
    have i2 := HA.out.inv.used
    have i3 := HA.out.inv.size
    have x1 : (0 : Int) ≤ (k : Int) := by omega
    have x2 : (k : Int) < 8192 := by omega
    have H9 : Hid (ArAt (w.setCell ⟨p, 65539 + k, none⟩ (.int .i64 n)) p { A with cells := A.cells.set k n }) := HA.out.setK hk n hn
    obtain ⟨v, hv⟩ : ∃ v, v = A.cells.getD k 0 := ⟨_, rfl⟩
    rw [← hv] at ck
    clear i1 i2 i3
    by_cases ho : v = o
    · have e : A.cas (k : Int) o n = (true, 0, { A with cells := A.cells.set k n }) := by
        unfold PA.cas
        rw [if_pos hh, if_pos (by rw [Int.toNat_natCast, ← hv]; exact ho)]
        rfl
      rw [e]
      clear e hv
      subst ho
      go_enter Try.func19, Try.ntmps19
      go_wp2_with fail
      refine (has_at HA.out k).mono ?_
      rintro _ _ ⟨rfl, rfl⟩
      rw [hh]
      clear hh hk hn
      go_wp2
      go_returns
      exact ⟨rfl, H9.out, (Chg.refl (On p) _).set (fun _ => rfl) _ _⟩
    · have e : A.cas (k : Int) o n = (false, 0, A) := by
        unfold PA.cas
        rw [if_pos hh, if_neg (by rw [Int.toNat_natCast, ← hv]; exact ho)]
      rw [e]
      clear e hv
      go_enter Try.func19, Try.ntmps19
      go_wp2_with fail
      refine (has_at HA.out k).mono ?_
      rintro _ _ ⟨rfl, rfl⟩
      rw [hh]
      clear hh hk hn
      go_wp2
      go_returns
      exact ⟨rfl, HA.out, Chg.refl _ _⟩
end Go.Proofs.Ytedddgkdpeielaa
