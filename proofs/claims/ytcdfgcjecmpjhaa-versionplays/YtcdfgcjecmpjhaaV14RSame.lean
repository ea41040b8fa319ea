/- The contract of the document's own Same, at versions that are the same; the statements' own many. -/
import Derived.Test.YtcdfgcjecmpjhaaV14Ask
namespace Go.Proofs.Ytcdfgcjecmpjhaa
open Go.RowKit
set_option linter.unusedVariables false
set_option linter.unusedSimpArgs false
theorem same_rows {v v' : PV} {w : World} {s t : SV} (h : VnAt w v s) (h' : VnAt w v' t) (he : ∀ n, n < 4 → v n = v' n) {n : Nat} (hn : n < 4) :
    Calls Try.prog 20 #[.slice (s.a n) (v n).length (s.c n), .slice (t.a n) (v' n).length (t.c n)] w fun e w' => e = .returned (.bool true) ∧ Below w.heap.size w w' := by
  have h1 := h' n hn
  rw [← he n hn] at h1 ⊢
  exact sameFiles_eq (h n hn) h1
set_option maxRecDepth 100000 in
set_option maxHeartbeats 4000000 in
theorem vsame_eq {v v' : PV} {w : World} {s t : SV} (h : VnAt w v s) (h' : VnAt w v' t) (he : ∀ n, n < 4 → v n = v' n) :
    Calls Try.prog 13 #[.agg #[.slice (s.a 0) (v 0).length (s.c 0), .slice (s.a 1) (v 1).length (s.c 1), .slice (s.a 2) (v 2).length (s.c 2), .slice (s.a 3) (v 3).length (s.c 3)], .agg #[.slice (t.a 0) (v' 0).length (t.c 0), .slice (t.a 1) (v' 1).length (t.c 1), .slice (t.a 2) (v' 2).length (t.c 2), .slice (t.a 3) (v' 3).length (t.c 3)]] w fun e w' => e = .returned (.bool true) ∧ Below w.heap.size w w' := by
  have HB0 : Hid (Below w.heap.size w ((w.alloc (.cells (vA v s) TVn)).alloc (.cells (vA v' t) TVn)) ∧ Box ((w.alloc (.cells (vA v s) TVn)).alloc (.cells (vA v' t) TVn)) w.heap.size TVn (vA v s) ∧ Box ((w.alloc (.cells (vA v s) TVn)).alloc (.cells (vA v' t) TVn)) (w.heap.size + 1) TVn (vA v' t)) := by
    refine ⟨((Below.refl _ _).alloc (Nat.le_refl _) _).alloc (by simp) _, (Box.new _ _ _).alloc _, ?_⟩
    have := Box.new (w.alloc (.cells (vA v s) TVn)) TVn (vA v' t)
    rw [World.size_alloc] at this
    exact this
  have HS : Hid (∀ (n : Nat) (hn : n < 4) (W : World), Below w.heap.size w W → Calls Try.prog 20 #[.slice (s.a n) (v n).length (s.c n), .slice (t.a n) (v' n).length (t.c n)] W fun e w' => e = .returned (.bool true) ∧ Below W.heap.size W w') := fun n hn W hW => same_rows (h.below hW) (h'.below hW) he hn
  clear h h' he
  go_enter Try.func13, Try.ntmps13
  go_wp2_with fail
  go_loopw [5] (fun s5 wr => ∃ k : Nat, k ≤ 4 ∧ s5 = .int .i64 (k : Int) ∧ Hid (Below w.heap.size w wr ∧ Box wr w.heap.size TVn (vA v s) ∧ Box wr (w.heap.size + 1) TVn (vA v' t))) (fun s5 _ => 4 - (intOf s5).toNat)
  case atStart => exact ⟨0, by omega, rfl, HB0.out⟩
  case round =>
    obtain ⟨k, hk4, rfl, HI⟩ := hrel
    by_cases hk : k < 4
    · have hkI : (k : Int) < 4 := by omega
      have hx := idxL_arr w.heap.size k hk
      have hy := idxL_arr (w.heap.size + 1) k hk
      have c0 := fun p : Bel wr => (HI.out.2.1.kept (p.h.block _ HI.out.2.1.lt)).level hk
      have c1 := fun p : Bel wr => (HI.out.2.2.kept (p.h.block _ HI.out.2.2.lt)).level hk
      have hne : Nonempty (Bel wr) := ⟨⟨wr, Below.refl _ _⟩⟩
      have HC : Hid (∀ p : Bel wr, Calls Try.prog 20 #[.slice (s.a k) (v k).length (s.c k), .slice (t.a k) (v' k).length (t.c k)] p.now fun e w' => e = .returned (.bool true) ∧ Below p.now.heap.size p.now w') := fun p => HS.out k hk p.now (HI.out.1.trans (p.h.mono HI.out.1.size))
      go_wp2_with fail
      refine wp_region_bel (by kernel_rfl) (by kernel_rfl) ?_
      repeat (quiet_step (first | (refine bel_call (HC.out _))))
      refine wpQuiet_nil ?_
      rintro _ ⟨p, rfl⟩
      have H3 : Hid (Below w.heap.size w p.now ∧ Box p.now w.heap.size TVn (vA v s) ∧ Box p.now (w.heap.size + 1) TVn (vA v' t)) := ⟨HI.out.1.trans (p.h.mono HI.out.1.size), HI.out.2.1.kept (p.h.block _ HI.out.2.1.lt), HI.out.2.2.kept (p.h.block _ HI.out.2.2.lt)⟩
      clear c0 c1 hx hy
      generalize p.now = w3 at H3 ⊢
      go_wp2
      go_roundw
      case rel => exact ⟨k + 1, hk, by go_num, H3.out⟩
      case measure => simp only [intOf]; omega
    · obtain rfl : k = 4 := by omega
      go_wp2
      go_ret
      exact ⟨ret1 rfl, HI.out.1⟩
set_option maxRecDepth 100000 in
set_option maxHeartbeats 4000000 in
theorem many_any {v : PV} {s : SV} {w : World} (h : VnAt w v s) (hl : ∀ n, n < 4 → (v n).length ≤ 2000000000000) :
    Calls Try.prog 9 #[.agg #[.slice (s.a 0) (v 0).length (s.c 0), .slice (s.a 1) (v 1).length (s.c 1), .slice (s.a 2) (v 2).length (s.c 2), .slice (s.a 3) (v 3).length (s.c 3)]] w fun e w' => e = .returned (.bool (decide (1000 < v.all.length))) ∧ Below w.heap.size w w' := by
  have HB0 : Hid (Below w.heap.size w (w.alloc (.cells (vA v s) TVn)) ∧ Box (w.alloc (.cells (vA v s) TVn)) w.heap.size TVn (vA v s)) := ⟨(Below.refl _ _).alloc (Nat.le_refl _) _, Box.new _ _ _⟩
  have HL : Hid (∀ n, n < 4 → (v n).length ≤ 2000000000000) := hl
  have HA : Hid ((accF v 4).length = v.all.length) := by unfold Hid; rw [accF_four]
  clear h hl
  generalize v.all.length = N at HA ⊢
  go_enter Try.func9, Try.ntmps9
  go_wp2_with fail
  go_loopw [3, 4] (fun s3 s4 wr => ∃ k m : Nat, k ≤ 4 ∧ m ≤ k * 2000000000000 ∧ s4 = .int .i64 (k : Int) ∧ s3 = .int .i64 (m : Int) ∧ Hid (m = (accF v k).length ∧ Below w.heap.size w wr ∧ Box wr w.heap.size TVn (vA v s))) (fun _ s4 _ => 4 - (intOf s4).toNat)
  case atStart => exact ⟨0, 0, by omega, by omega, rfl, rfl, rfl, HB0.out⟩
  case round =>
    obtain ⟨k, m, hk4, hm, rfl, rfl, HI⟩ := hrel
    by_cases hk : k < 4
    · have hkI : (k : Int) < 4 := by omega
      have hx := idxL_arr w.heap.size k hk
      have c0 := HI.out.2.2.level hk
      have hlk := HL.out k hk
      have HS : Hid ((accF v (k + 1)).length = (accF v k).length + (v k).length) := by unfold Hid; rw [accF_succ, List.length_append]
      generalize (v k).length = z at c0 hlk HS
      go_wp2
      go_roundw
      case rel => exact ⟨k + 1, m + z, hk, by omega, by go_num, by go_num, by rw [HS.out, HI.out.1], HI.out.2⟩
      case measure => simp only [intOf]; omega
    · obtain rfl : k = 4 := by omega
      have HN : Hid (m = N) := by unfold Hid; rw [HI.out.1, HA.out]
      go_wp2
      go_ret
      rw [← HN.out]
      exact ⟨ret1 (by simp; omega), HI.out.2.1⟩
end Go.Proofs.Ytcdfgcjecmpjhaa
