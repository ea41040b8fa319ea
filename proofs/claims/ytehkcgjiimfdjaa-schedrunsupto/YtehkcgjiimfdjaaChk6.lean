/- The contracts of sched's checks of tasks. -/
import Derived.Test.YtehkcgjiimfdjaaChk5
namespace Go.Proofs.Ytehkcgjiimfdjaa
open Go.RowKit
theorem insOks {l : List Ins} {n : Nat} (h : ∀ j, j < l.length → insOk (l.getD j ins0) n = true) : l.all (fun x => insOk x n) = true := by
  rw [List.all_eq_true]
  intro x hx
  obtain ⟨j, hj, e⟩ := List.getElem_of_mem hx
  have := h j hj
  simp only [List.getD, List.getElem?_eq_getElem hj, Option.getD_some] at this
  rw [← e]
  exact this
theorem insBad {l : List Ins} {n k : Nat} (hk : k < l.length) (h : insOk (l.getD k ins0) n = false) : l.all (fun x => insOk x n) = false := by
  rw [List.all_eq_false]
  refine ⟨l.getD k ins0, ?_, by rw [h]; simp⟩
  simp [List.getD, hk]
set_option maxRecDepth 100000 in
set_option maxHeartbeats 1000000 in
theorem taskOk_any (a : Option Addr) (len cap : Nat) (l : List Ins) (w : World) (h : IcAt w a len cap l) : Calls Try.prog 24 #[.slice a len cap] w fun e w' => e = .returned (.bool (codeOk l)) ∧ Below w.heap.size w w' := by
  have hs := h.size
  have hle := h.le
  have hmx := h.max
  unfold maxLen at hmx
  have HI : Hid (IcAt w a len cap l) := h
  clear h
  by_cases hbig : 64 < len
  · go_enter Try.func24, Try.ntmps24
    go_wp2
    go_ret
    exact ⟨ret1 (by simp [codeOk, hs]; omega), Below.refl _ _⟩
  · have HS : Hid (l.length = len) := hs
    have HC : Hid (codeOk l = l.all fun x => insOk x len) := by
      unfold Hid codeOk
      rw [hs]
      simp
      omega
    clear hs
    go_enter Try.func24, Try.ntmps24
    go_wp2_with fail
    go_loopw [10] (fun i wr => ∃ k : Nat, k ≤ len ∧ i = .int .i64 (k : Int) ∧ Hid (Below w.heap.size w wr) ∧ Hid (∀ j, j < k → insOk (l.getD j ins0) len = true)) (fun i _ => len - (intOf i).toNat)
    case atStart => exact ⟨0, Nat.zero_le _, rfl, Below.refl _ _, fun j hj => absurd hj (Nat.not_lt_zero _)⟩
    case round =>
      obtain ⟨k, hk, rfl, HB, HD⟩ := hrel
      have hsz := HB.out.size
      by_cases hlt : k < len
      · obtain ⟨b, off, rfl, hc⟩ := (HI.out.below (Nat.le_refl _) HB.out).here (by omega)
        obtain ⟨c0, c1, c2, c3⟩ := hc k hlt
        obtain ⟨x, HX⟩ : ∃ x, Hid (x = l.getD k ins0) := ⟨_, rfl⟩
        rw [← HX.out] at c0 c1 c2 c3
        clear hc
        have hx1 : (0 : Int) ≤ (k : Int) := by omega
        have hx2 : (k : Int) < (len : Int) := by omega
        cases hok : insOk x len
        · go_wp2_with fail
          refine (ins_any x len _).mono ?_
          rintro _ _ ⟨rfl, rfl⟩
          rw [hok]
          go_wp2
          go_returns
          rw [HC.out]
          exact ⟨ret1 (congrArg Value.bool (insBad (k := k) (by rw [HS.out]; exact hlt) (by rw [← HX.out]; exact hok)).symm), (HB.out.alloc hsz _).alloc (by simp; omega) _⟩
        · go_wp2_with fail
          refine (ins_any x len _).mono ?_
          rintro _ _ ⟨rfl, rfl⟩
          rw [hok]
          go_wp2_with fail
          go_roundw
          case rel =>
            refine ⟨k + 1, by omega, by go_num, (HB.out.alloc hsz _).alloc (by simp; omega) _, fun j hj => ?_⟩
            by_cases hjk : j = k
            · rw [hjk, ← HX.out]
              exact hok
            · exact HD.out j (by omega)
          case measure => simp [intOf]; omega
      · obtain rfl : k = len := by omega
        go_wp2
        go_returns
        refine ⟨ret1 ?_, HB.out⟩
        rw [HC.out, insOks (fun j hj => HD.out j (by rw [← HS.out]; exact hj))]
        rfl
theorem codeOks {l : List (List Ins)} (h : ∀ j, j < l.length → codeOk (l.getD j []) = true) : l.all codeOk = true := by
  rw [List.all_eq_true]
  intro x hx
  obtain ⟨j, hj, e⟩ := List.getElem_of_mem hx
  have := h j hj
  simp only [List.getD, List.getElem?_eq_getElem hj, Option.getD_some] at this
  rw [← e]
  exact this
theorem codeBad {l : List (List Ins)} {k : Nat} (hk : k < l.length) (h : codeOk (l.getD k []) = false) : l.all codeOk = false := by
  rw [List.all_eq_false]
  refine ⟨l.getD k [], ?_, by rw [h]; simp⟩
  simp [List.getD, hk]
set_option maxRecDepth 100000 in
set_option maxHeartbeats 1000000 in
theorem allowed_any (a : Option Addr) (len cap : Nat) (l : List (List Ins)) (ca : Option Addr) (cl cc : Nat) (cs : List Int) (w : World) (h : CdAt w a len cap l) (hc : cs.length = cl) : Calls Try.prog 14 #[.slice a len cap, .slice ca cl cc] w fun e w' => e = .returned (.bool (allOk l cs)) ∧ Below w.heap.size w w' := by
  have hs := h.size
  have hle := h.le
  have hmx := h.max
  unfold maxLen at hmx
  have HI : Hid (CdAt w a len cap l) := h
  clear h
  by_cases hbig : 8 < len
  · go_enter Try.func14, Try.ntmps14
    go_wp2
    go_ret
    exact ⟨ret1 (by simp [allOk, hs]; omega), Below.refl _ _⟩
  by_cases hbig2 : 16 < cl
  · go_enter Try.func14, Try.ntmps14
    go_wp2
    go_ret
    exact ⟨ret1 (by simp [allOk, hs]; omega), Below.refl _ _⟩
  · have HS : Hid (l.length = len) := hs
    have HC : Hid (allOk l cs = l.all codeOk) := by
      unfold Hid allOk
      rw [hs, hc]
      simp
      omega
    clear hs hc
    go_enter Try.func14, Try.ntmps14
    go_wp2_with fail
    go_loopw [17] (fun i wr => ∃ k : Nat, k ≤ len ∧ i = .int .i64 (k : Int) ∧ Hid (Below w.heap.size w wr) ∧ Hid (∀ j, j < k → codeOk (l.getD j []) = true)) (fun i _ => len - (intOf i).toNat)
    case atStart => exact ⟨0, Nat.zero_le _, rfl, Below.refl _ _, fun j hj => absurd hj (Nat.not_lt_zero _)⟩
    case round =>
      obtain ⟨k, hk, rfl, HB, HD⟩ := hrel
      have hsz := HB.out.size
      by_cases hlt : k < len
      · obtain ⟨b, off, rfl, hc⟩ := (HI.out.below (Nat.le_refl _) HB.out).here (by omega)
        obtain ⟨aj, cj, c0, hI⟩ := hc k hlt
        have HJ : Hid (IcAt wr aj (l.getD k []).length cj (l.getD k [])) := hI
        obtain ⟨x, HX⟩ : ∃ x, Hid (x = l.getD k []) := ⟨_, rfl⟩
        rw [← HX.out] at c0 HJ
        clear hc hI
        have hx1 : (0 : Int) ≤ (k : Int) := by omega
        have hx2 : (k : Int) < (len : Int) := by omega
        cases hok : codeOk x
        · go_wp2_with fail
          refine (taskOk_any _ _ _ x _ HJ.out).mono ?_
          rintro _ w2 ⟨rfl, hb2⟩
          rw [hok]
          have HB2 : Hid (Below w.heap.size w w2) := HB.out.trans (hb2.mono hsz)
          clear hb2
          go_wp2
          go_returns
          rw [HC.out]
          exact ⟨ret1 (congrArg Value.bool (codeBad (k := k) (by rw [HS.out]; exact hlt) (by rw [← HX.out]; exact hok)).symm), HB2.out⟩
        · go_wp2_with fail
          refine (taskOk_any _ _ _ x _ HJ.out).mono ?_
          rintro _ w2 ⟨rfl, hb2⟩
          rw [hok]
          have HB2 : Hid (Below w.heap.size w w2) := HB.out.trans (hb2.mono hsz)
          clear hb2
          go_wp2_with fail
          go_roundw
          case rel =>
            refine ⟨k + 1, by omega, by go_num, HB2.out, fun j hj => ?_⟩
            by_cases hjk : j = k
            · rw [hjk, ← HX.out]
              exact hok
            · exact HD.out j (by omega)
          case measure => simp [intOf]; omega
      · obtain rfl : k = len := by omega
        go_wp2
        go_returns
        refine ⟨ret1 ?_, HB.out⟩
        rw [HC.out, codeOks (fun j hj => HD.out j (by rw [← HS.out]; exact hj))]
        rfl
end Go.Proofs.Ytehkcgjiimfdjaa
