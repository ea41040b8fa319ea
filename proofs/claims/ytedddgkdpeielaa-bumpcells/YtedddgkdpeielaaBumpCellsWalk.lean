/- BumpCells: the walk. -/
import Derived.Test.YtedddgkdpeielaaB6Awake
import Derived.Test.YtedddgkdpeielaaB6Args
namespace Go.Proofs.Ytedddgkdpeielaa
open Go.RowKit
abbrev b100 : List UInt8 := List.replicate 100 0
abbrev cA (n : Int) : PA := ⟨16, b100, [n, 77]⟩
theorem ce1 : (PA.new 100).cell = (0, 0, ⟨8, b100, [0]⟩) := rfl
theorem ce2 : (⟨8, b100, [0]⟩ : PA).cell = (1, 0, ⟨16, b100, [0, 0]⟩) := rfl
theorem ce3 : (⟨16, b100, [0, 0]⟩ : PA).store 1 77 = (0, cA 0) := rfl
theorem ce4 (n : Int) : (cA n).load 0 = (n, 0) := rfl
theorem ce5 (n : Int) : (cA n).load 1 = (77, 0) := rfl
theorem ce6 (n m : Int) : (cA n).cas 0 n m = (true, 0, cA m) := by
  have h : (cA n).has 0 = true := rfl
  have e : (cA n).cells.getD (Int.toNat 0) 0 = n := rfl
  unfold PA.cas
  rw [if_pos h, if_pos e]
  rfl
theorem ce7 {n v : Int} (m : Int) (hv : v ≠ n) : (cA n).cas 0 v m = (false, 0, cA n) := by
  have h : (cA n).has 0 = true := rfl
  unfold PA.cas
  rw [if_pos h, if_neg (fun e => hv e.symm)]
set_option maxRecDepth 100000 in
set_option maxHeartbeats 1000000 in
theorem bumpCells_walk (a : Option Addr) (len cap : Nat) (l : List Int) (w : World) (hl : IsAt w a len cap l) : Calls Try.prog 7 #[.slice a len cap] w fun e w' => e = .returned (.bool true) ∧ Below w.heap.size w w' := by
  have HL : Hid (IsAt w a len cap l) := hl
  have h1 := hl.le
  have h2 := hl.max
  unfold maxLen at h2
  clear hl
  go_enter Try.func7, Try.ntmps7
  go_wp2_with fail
  refine (awake_any _).mono ?_
  rintro _ w1 ⟨rfl, hb1⟩
  have HB1 : Hid (Below w.heap.size w w1) := hb1
  clear hb1
  go_wp2_with fail
  refine (new_at 100 (by omega)).mono ?_
  rintro _ w2 ⟨rfl, a2, hb2, hz2⟩
  obtain ⟨p, hp⟩ : ∃ p, Hid (p = w1.heap.size) := ⟨_, rfl⟩
  rw [← hp.out] at a2 ⊢
  have HB2 : Hid (Below w.heap.size w w2 ∧ w.heap.size ≤ p ∧ p < w2.heap.size) := by
    have h3 := HB1.out.size
    have h4 := hp.out
    exact ⟨HB1.out.trans (hb2.mono h3), by omega, by omega⟩
  clear hb2 hz2 hp HB1
  go_wp2_with fail
  refine (cell_at a2).mono ?_
  rintro _ w3 ⟨rfl, a3, c3⟩
  rw [ce1] at a3 ⊢
  go_wp2_with fail
  refine (cell_at a3).mono ?_
  rintro _ w4 ⟨rfl, a4, c4⟩
  rw [ce2] at a4 ⊢
  go_wp2_with fail
  refine (store_at a4 1 77 (in64_lit (by omega))).mono ?_
  rintro _ w5 ⟨rfl, a5, c5⟩
  rw [ce3] at a5 ⊢
  have HA : Hid (ArAt w5 p (cA 0)) := a5
  have HB5 : Hid (Below w.heap.size w w5) := by
    have hc := (c3.andThen c4 (fun _ _ h => h)).andThen c5 (fun _ _ h => h)
    obtain ⟨hb, hp1, hp2⟩ := HB2.out
    exact hb.trans (hc.below (fun k hk => by rw [hk]; exact hp1) hb.size)
  have hpw : w.heap.size ≤ p := HB2.out.2.1
  have HPW : Hid (w.heap.size ≤ p) := hpw
  clear a2 a3 a4 a5 c3 c4 c5 HB2 hpw
  go_wp2_with fail
  go_loopw [10, 11] (fun v i wr => ∃ (k n : Nat), k ≤ len ∧ n ≤ k ∧ i = .int .i64 (k : Int) ∧ v = .int .i64 (n : Int) ∧ Hid (ArAt wr p (cA (n : Int))) ∧ Hid (Below w.heap.size w wr)) (fun _ i _ => len - (intOf i).toNat)
  case atStart => exact ⟨0, 0, Nat.zero_le _, Nat.le_refl _, rfl, rfl, HA, HB5⟩
  case round =>
    obtain ⟨k, n, hkl, hnk, rfl, rfl, HR, HBR⟩ := hrel
    clear HA HB5
    by_cases hlt : k < len
    · obtain ⟨b, off, hla, hlc⟩ := HL.out.here (by omega)
      have x9 := hlc k hlt
      obtain ⟨v, hv⟩ : ∃ v, v = l.getD k 0 := ⟨_, rfl⟩
      rw [← hv] at x9
      have HX : Hid (∀ w', Below w.heap.size w w' → w'.cell? ⟨b, off + k, none⟩ = some (.int .i64 v)) := fun w' hb => by rw [hb.cell (World.block_lt_of_cell? w _ x9)]; exact x9
      have x0 := HX.out _ HBR.out
      clear hlc hv x9
      rw [hla]
      have hx1 : (0 : Int) ≤ (k : Int) := by omega
      have hx2 : (k : Int) < (len : Int) := by omega
      go_wp2_with fail
      refine (cas_at HR.out 0 v ((n : Int) + 1) (in64_lit (by omega))).mono ?_
      rintro _ w6 ⟨rfl, a6, c6⟩
      have HB6 : Hid (Below w.heap.size w w6) := by
        have hb := HBR.out
        exact hb.trans (c6.below (fun k hk => by rw [hk]; exact HPW.out) hb.size)
      have x6 : w6.cell? ⟨b, off + k, none⟩ = some (.int .i64 v) := HX.out _ HB6.out
      by_cases hvn : v = (n : Int)
      · subst hvn
        rw [ce6] at a6 ⊢
        have HA6 : Hid (ArAt w6 p (cA ((n : Int) + 1))) := a6
        clear a6 c6
        go_wp2_with fail
        go_roundw
        case rel => exact ⟨k + 1, n + 1, by omega, by omega, by go_num, by go_num, by simpa using HA6, HB6⟩
        case measure => simp [intOf]; omega
      · rw [ce7 _ hvn] at a6 ⊢
        have HA6 : Hid (ArAt w6 p (cA (n : Int))) := a6
        clear a6 c6
        go_wp2_with fail
        go_roundw
        case rel => exact ⟨k + 1, n, by omega, by omega, by go_num, rfl, HA6, HB6⟩
        case measure => simp [intOf]; omega
    · obtain rfl : k = len := by omega
      go_wp2_with fail
      refine (load_at HR.out 0).mono ?_
      rintro _ w7 ⟨rfl, hw⟩
      obtain rfl := hw.symm
      clear hw
      rw [ce4]
      go_wp2_with fail
      refine (load_at HR.out 1).mono ?_
      rintro _ w7 ⟨rfl, hw⟩
      obtain rfl := hw.symm
      clear hw
      rw [ce5]
      go_wp2
      go_returns
      exact ⟨rfl, HBR.out⟩
end Go.Proofs.Ytedddgkdpeielaa
