/- The contracts of the document's own Same, at any two states: whether their files and numbers are the same. -/
import Derived.Test.YtmlfbihlbiikeaaGreatDoorQc28
import Derived.Test.YtmlfbihlbiikeaaGreatDoorQc03
import Derived.Test.YtmlfbihlbiikeaaGreatDoorQc20
import Derived.Test.YtmlfbihlbiikeaaGreatDoorQc13
namespace Go.Proofs.YtmlfbihlbiikeaaGreatDoor
open Go.RowKit
set_option linter.unusedVariables false
set_option linter.unusedSimpArgs false
set_option maxRecDepth 100000
open Classical in
noncomputable def sameB (l l' : List PF) : Bool := decide (l = l')
theorem sameB_true {l l' : List PF} : sameB l l' = true ↔ l = l' := by unfold sameB; simp
theorem sameB_yes {l l' : List PF} (h : l = l') : sameB l l' = true := sameB_true.2 h
theorem sameB_no {l l' : List PF} (h : l ≠ l') : sameB l l' = false := by unfold sameB; simp [h]
theorem toList_one {a b : ByteArray} (e : a.toList = b.toList) : a = b := by
  have h1 : a.data.toList = b.data.toList := by rw [ByteArray.toList_eq, ByteArray.toList_eq] at e; exact e
  cases a
  cases b
  simpa using h1
theorem neq_files (f f' : PF) (h : f ≠ f') (W : World) : (binOp .neq 59 (.agg #[.int .i64 f.level, .int .u64 (f.num : Int), .int .i64 f.size, .string f.small.user, .int .u64 (f.small.seq : Int), .int .i64 f.small.kind, .string f.large.user, .int .u64 (f.large.seq : Int), .int .i64 f.large.kind]) (.agg #[.int .i64 f'.level, .int .u64 (f'.num : Int), .int .i64 f'.size, .string f'.small.user, .int .u64 (f'.small.seq : Int), .int .i64 f'.small.kind, .string f'.large.user, .int .u64 (f'.large.seq : Int), .int .i64 f'.large.kind])).run Tryz.prog W = .ok (.bool true) W := by
  simp [go_sem, Tryz.underlying59, Tryz.underlying57, Tryz.underlying23, Tryz.underlying3, Tryz.underlying9]
  intro e1 e2 e3 e4 e5 e6 e7 e8 e9
  refine h ?_
  obtain ⟨l, n, z, ⟨u, q, k⟩, ⟨u', q', k'⟩⟩ := f
  obtain ⟨l2, n2, z2, ⟨v, r, m⟩, ⟨v', r', m'⟩⟩ := f'
  dsimp only at *
  obtain rfl := e1
  obtain rfl : n = n2 := by omega
  obtain rfl := e3
  obtain rfl : u = v := toList_one e4
  obtain rfl : q = r := by omega
  obtain rfl := e6
  obtain rfl : u' = v' := toList_one e7
  obtain rfl : q' = r' := by omega
  obtain rfl := e9
  rfl
set_option maxHeartbeats 1000000 in
theorem sameFiles_any {l l' : List PF} {a a' : Option Addr} {n n' c c' : Nat} {w : World} (h : FlAt w a n c l) (h' : FlAt w a' n' c' l') :
    Calls Tryz.prog 95 #[.slice a n c, .slice a' n' c'] w fun e w' => e = .returned (.bool (sameB l l')) ∧ Below w.heap.size w w' := by
  have HS : Hid (FlAt w a n c l ∧ FlAt w a' n' c' l' ∧ l.length = n ∧ l'.length = n') := ⟨h, h', h.size, h'.size⟩
  have hm := h.row.max
  have hl := h.row.le
  unfold maxLen at hm
  clear h h'
  by_cases hn : n = n'
  · subst hn
    go_enter Tryz.func95, Tryz.ntmps95
    go_wp2_with fail
    go_loopw [5] (fun i wr => ∃ k : Nat, k ≤ n ∧ i = .int .i64 (k : Int) ∧ Hid (Below w.heap.size w wr ∧ l.take k = l'.take k)) (fun i _ => n - (intOf i).toNat)
    case atStart => exact ⟨0, Nat.zero_le _, rfl, Below.refl _ _, by simp⟩
    case round =>
      obtain ⟨k, hk, rfl, HR⟩ := hrel
      by_cases hkn : k < n
      · have hkl : k < l.length := by rw [HS.out.2.2.1]; exact hkn
        have hkl' : k < l'.length := by rw [HS.out.2.2.2]; exact hkn
        obtain ⟨b, o, hidx, _, hcs⟩ := HS.out.1.at hkl
        obtain ⟨b', o', hidx', _, hcs'⟩ := HS.out.2.1.at hkl'
        obtain ⟨c0, c1, c2, c3, c4, c5, c6, c7, c8⟩ := hcs wr HR.out.1
        obtain ⟨d0, d1, d2, d3, d4, d5, d6, d7, d8⟩ := hcs' wr HR.out.1
        have HT : Hid ((l[k] = l'[k] → l.take (k + 1) = l'.take (k + 1)) ∧ (l[k] ≠ l'[k] → l ≠ l')) := by
          refine ⟨fun e => ?_, fun e g => ?_⟩
          · rw [List.take_succ_eq_append_getElem hkl, List.take_succ_eq_append_getElem hkl', HR.out.2, e]
          · subst g
            exact e rfl
        clear hcs hcs'
        generalize l[k] = f at c0 c1 c2 c3 c4 c5 c6 c7 c8 HT
        generalize l'[k] = f' at d0 d1 d2 d3 d4 d5 d6 d7 d8 HT
        by_cases hff : f = f'
        · subst hff
          have hne := fun W => run_neq_file f.level f.num f.size f.small.user f.small.seq f.small.kind f.large.user f.large.seq f.large.kind W
          go_wp2_with fail
          go_quiet (fail)
          go_wp2
          go_roundw
          case rel => exact ⟨k + 1, hkn, by go_num, HR.out.1.trans ⟨rfl, rfl, rfl, Nat.le_refl _, fun _ _ => rfl⟩, HT.out.1 trivial⟩
          case measure => simp only [intOf]; omega
        · have hne := fun W => neq_files f f' hff W
          go_wp2_with fail
          go_quiet (fail)
          go_wp2
          try go_ret
          exact ⟨by rw [sameB_no (HT.out.2 hff)]; exact ret1 rfl, HR.out.1.trans ⟨rfl, rfl, rfl, Nat.le_refl _, fun _ _ => rfl⟩⟩
      · go_wp2
        go_ret
        refine ⟨?_, HR.out.1⟩
        rw [sameB_yes]
        · exact ret1 rfl
        · have h1 := HR.out.2
          rw [List.take_of_length_le (by rw [HS.out.2.2.1]; omega), List.take_of_length_le (by rw [HS.out.2.2.2]; omega)] at h1
          exact h1
  · have hd : ((n : Int) != (n' : Int)) = true := by simp; omega
    have hB : sameB l l' = false := sameB_no (fun e => hn (by rw [← HS.out.2.2.1, ← HS.out.2.2.2, e]))
    rw [hB]
    go_enter Tryz.func95, Tryz.ntmps95
    go_wp2
    try go_ret
    exact ⟨ret1 rfl, Below.refl _ _⟩
noncomputable def sameN (v v' : PV) : Nat → Bool
  | 0 => true
  | n + 1 => sameN v v' n && sameB (v n) (v' n)
theorem sameN_yes {v v' : PV} : ∀ n, (∀ k, k < n → v k = v' k) → sameN v v' n = true
  | 0, _ => rfl
  | n + 1, h => by
    unfold sameN
    rw [sameN_yes n (fun k hk => h k (by omega)), sameB_yes (h n (by omega))]
    rfl
theorem sameN_no {v v' : PV} {n : Nat} (h : sameB (v n) (v' n) = false) : ∀ m, n < m → sameN v v' m = false
  | 0, hm => by omega
  | m + 1, hm => by
    unfold sameN
    by_cases e : n = m
    · subst e
      rw [h]
      simp
    · rw [sameN_no h m (by omega)]
      rfl
set_option maxHeartbeats 4000000 in
theorem vsame_any {v v' : PV} {w : World} {s t : SV} (h : VnAt w v s) (h' : VnAt w v' t) :
    Calls Tryz.prog 52 #[.agg #[.slice (s.a 0) (v 0).length (s.c 0), .slice (s.a 1) (v 1).length (s.c 1), .slice (s.a 2) (v 2).length (s.c 2), .slice (s.a 3) (v 3).length (s.c 3)], .agg #[.slice (t.a 0) (v' 0).length (t.c 0), .slice (t.a 1) (v' 1).length (t.c 1), .slice (t.a 2) (v' 2).length (t.c 2), .slice (t.a 3) (v' 3).length (t.c 3)]] w fun e w' => e = .returned (.bool (sameN v v' 4)) ∧ Below w.heap.size w w' := by
  have HB0 : Hid (Below w.heap.size w ((w.alloc (.cells (vA v s) TVn)).alloc (.cells (vA v' t) TVn)) ∧ Box ((w.alloc (.cells (vA v s) TVn)).alloc (.cells (vA v' t) TVn)) w.heap.size TVn (vA v s) ∧ Box ((w.alloc (.cells (vA v s) TVn)).alloc (.cells (vA v' t) TVn)) (w.heap.size + 1) TVn (vA v' t)) := by
    refine ⟨((Below.refl _ _).alloc (Nat.le_refl _) _).alloc (by simp) _, (Box.new _ _ _).alloc _, ?_⟩
    have := Box.new (w.alloc (.cells (vA v s) TVn)) TVn (vA v' t)
    rw [World.size_alloc] at this
    exact this
  have HS : Hid (∀ (n : Nat) (hn : n < 4) (W : World), Below w.heap.size w W → Calls Tryz.prog 95 #[.slice (s.a n) (v n).length (s.c n), .slice (t.a n) (v' n).length (t.c n)] W fun e w' => e = .returned (.bool (sameB (v n) (v' n))) ∧ Below W.heap.size W w') := fun n hn W hW => sameFiles_any ((h.below hW) n hn) ((h'.below hW) n hn)
  clear h h'
  have HN : Hid ((∀ n, n < 4 → sameB (v n) (v' n) = false → sameN v v' 4 = false) ∧ ((∀ n, n < 4 → sameB (v n) (v' n) = true) → sameN v v' 4 = true)) := ⟨fun n hn e => sameN_no e 4 hn, fun h => sameN_yes 4 fun n hn => sameB_true.1 (h n hn)⟩
  generalize sameN v v' 4 = o at HN ⊢
  go_enter Tryz.func52, Tryz.ntmps52
  go_wp2_with fail
  go_loopw [5] (fun s5 wr => ∃ k : Nat, k ≤ 4 ∧ s5 = .int .i64 (k : Int) ∧ Hid (Below w.heap.size w wr ∧ Box wr w.heap.size TVn (vA v s) ∧ Box wr (w.heap.size + 1) TVn (vA v' t) ∧ ∀ n, n < k → sameB (v n) (v' n) = true)) (fun s5 _ => 4 - (intOf s5).toNat)
  case atStart => exact ⟨0, by omega, rfl, HB0.out.1, HB0.out.2.1, HB0.out.2.2, fun n h => absurd h (by omega)⟩
  case round =>
    obtain ⟨k, hk4, rfl, HI⟩ := hrel
    by_cases hk : k < 4
    · have hkI : (k : Int) < 4 := by omega
      have hx := idxL_arr w.heap.size k hk
      have hy := idxL_arr (w.heap.size + 1) k hk
      have c0 := fun p : Bel wr => (HI.out.2.1.kept (p.h.block _ HI.out.2.1.lt)).level hk
      have c1 := fun p : Bel wr => (HI.out.2.2.1.kept (p.h.block _ HI.out.2.2.1.lt)).level hk
      have hne : Nonempty (Bel wr) := ⟨⟨wr, Below.refl _ _⟩⟩
      have HC : Hid (∀ p : Bel wr, Calls Tryz.prog 95 #[.slice (s.a k) (v k).length (s.c k), .slice (t.a k) (v' k).length (t.c k)] p.now fun e w' => e = .returned (.bool (sameB (v k) (v' k))) ∧ Below p.now.heap.size p.now w') := fun p => HS.out k hk p.now (HI.out.1.trans (p.h.mono HI.out.1.size))
      have HK : Hid (∀ b, sameB (v k) (v' k) = b → (b = false → o = false) ∧ (b = true → ∀ n, n < k + 1 → sameB (v n) (v' n) = true)) := fun b hb => ⟨fun e => HN.out.1 k hk (hb.trans e), fun e n hn => by
        by_cases h2 : n = k
        · subst h2; exact hb.trans e
        · exact HI.out.2.2.2 n (by omega)⟩
      obtain ⟨bb, hbb⟩ : ∃ bb, sameB (v k) (v' k) = bb := ⟨_, rfl⟩
      have HK2 := HK.out bb hbb
      rw [hbb] at HC
      have HK3 : Hid ((bb = false → o = false) ∧ (bb = true → ∀ n, n < k + 1 → sameB (v n) (v' n) = true)) := HK2
      clear HK HK2 hbb
      cases bb with
      | true =>
        go_wp2_with fail
        refine wp_region_bel (by kernel_rfl) (by kernel_rfl) ?_
        repeat (quiet_step (first | (refine bel_call (HC.out _))))
        refine wpQuiet_nil ?_
        rintro _ ⟨p, rfl⟩
        have H3 : Hid (Below w.heap.size w p.now ∧ Box p.now w.heap.size TVn (vA v s) ∧ Box p.now (w.heap.size + 1) TVn (vA v' t) ∧ ∀ n, n < k + 1 → sameB (v n) (v' n) = true) := ⟨HI.out.1.trans (p.h.mono HI.out.1.size), HI.out.2.1.kept (p.h.block _ HI.out.2.1.lt), HI.out.2.2.1.kept (p.h.block _ HI.out.2.2.1.lt), HK3.out.2 trivial⟩
        clear c0 c1 hx hy
        generalize p.now = w3 at H3 ⊢
        go_wp2
        go_roundw
        case rel => exact ⟨k + 1, hk, by go_num, H3.out⟩
        case measure => simp only [intOf]; omega
      | false =>
        go_wp2_with fail
        refine wp_region_bel (by kernel_rfl) (by kernel_rfl) ?_
        repeat (quiet_step (first | (refine bel_call (HC.out _))))
        refine wpQuiet_nil ?_
        rintro _ ⟨p, rfl⟩
        have H3 : Hid (Below w.heap.size w p.now) := HI.out.1.trans (p.h.mono HI.out.1.size)
        have HO : Hid (o = false) := HK3.out.1 trivial
        clear c0 c1 hx hy
        generalize p.now = w3 at H3 ⊢
        go_wp2
        try go_ret
        exact ⟨by rw [HO.out]; exact ret1 rfl, H3.out⟩
    · obtain rfl : k = 4 := by omega
      go_wp2
      go_ret
      exact ⟨by rw [HN.out.2 HI.out.2.2.2]; exact ret1 rfl, HI.out.1⟩
set_option maxHeartbeats 4000000 in
theorem ssame_any {s s' : PSt} {t t' : SV} {w : World} (h : VnAt w s.v t) (h' : VnAt w s'.v t') :
    Calls Tryz.prog 22 #[sV s t, sV s' t'] w fun e w' => (∃ b : Bool, e = .returned (.bool b) ∧ (s.Like s' → b = true)) ∧ Below w.heap.size w w' := by
  obtain ⟨W1, hW1, HW⟩ : ∃ W1, W1 = (w.alloc (.cells (sA s t) TSt)).alloc (.cells (sA s' t') TSt) ∧ Hid (Below w.heap.size w W1 ∧ Box W1 w.heap.size TSt (sA s t) ∧ Box W1 (w.heap.size + 1) TSt (sA s' t')) := by
    refine ⟨_, rfl, ((Below.refl _ _).alloc (Nat.le_refl _) _).alloc (by simp) _, (Box.new _ _ _).alloc _, ?_⟩
    have := Box.new (w.alloc (.cells (sA s t) TSt)) TSt (sA s' t')
    rw [World.size_alloc] at this
    exact this
  have hd : ∀ W, W = (w.alloc (.cells (sA s t) TSt)).alloc (.cells (sA s' t') TSt) → Calls Tryz.prog 52 #[.agg #[.slice (t.a 0) (s.v 0).length (t.c 0), .slice (t.a 1) (s.v 1).length (t.c 1), .slice (t.a 2) (s.v 2).length (t.c 2), .slice (t.a 3) (s.v 3).length (t.c 3)], .agg #[.slice (t'.a 0) (s'.v 0).length (t'.c 0), .slice (t'.a 1) (s'.v 1).length (t'.c 1), .slice (t'.a 2) (s'.v 2).length (t'.c 2), .slice (t'.a 3) (s'.v 3).length (t'.c 3)]] W fun e w' => e = .returned (.bool (sameN s.v s'.v 4)) ∧ Below W1.heap.size W1 w' := by
    rintro W rfl
    rw [← hW1]
    exact vsame_any (h.below HW.out.1) (h'.below HW.out.1)
  obtain ⟨q, hq⟩ : ∃ q, q = sameN s.v s'.v 4 := ⟨_, rfl⟩
  rw [← hq] at hd
  have HQ : Hid (s.Like s' → q = true) := fun e => by rw [hq]; exact sameN_yes 4 e.v
  clear h h' hW1 hq
  obtain ⟨b0, e0, g0⟩ : ∃ b, ((s.num : Int) == (s'.num : Int)) = b ∧ Hid (s.Like s' → b = true) := ⟨_, rfl, fun e => by rw [e.num]; simp⟩
  obtain ⟨b1, e1, g1⟩ : ∃ b, ((s.log : Int) == (s'.log : Int)) = b ∧ Hid (s.Like s' → b = true) := ⟨_, rfl, fun e => by rw [e.log]; simp⟩
  obtain ⟨b2, e2, g2⟩ : ∃ b, ((s.next : Int) == (s'.next : Int)) = b ∧ Hid (s.Like s' → b = true) := ⟨_, rfl, fun e => by rw [e.next]; simp⟩
  obtain ⟨b3, e3, g3⟩ : ∃ b, ((s.last : Int) == (s'.last : Int)) = b ∧ Hid (s.Like s' → b = true) := ⟨_, rfl, fun e => by rw [e.last]; simp⟩
  go_enter Tryz.func22, Tryz.ntmps22
  go_wp2_with fail
  refine (hd _ rfl).mono ?_
  rintro _ w2 ⟨rfl, hb2⟩
  have H2 : Hid (Below w.heap.size w w2 ∧ Box w2 w.heap.size TSt (sA s t) ∧ Box w2 (w.heap.size + 1) TSt (sA s' t')) := ⟨HW.out.1.trans (hb2.mono HW.out.1.size), HW.out.2.1.kept (hb2.block _ HW.out.2.1.lt), HW.out.2.2.kept (hb2.block _ HW.out.2.2.lt)⟩
  obtain ⟨c0, c1, c2, c3, c4, c5, c6, c7⟩ := H2.out.2.1.eight
  obtain ⟨d0, d1, d2, d3, d4, d5, d6, d7⟩ := H2.out.2.2.eight
  clear hb2 hd HW
  cases q with
  | false =>
    go_wp2
    try go_ret
    exact ⟨⟨false, ret1 rfl, HQ.out⟩, H2.out.1⟩
  | true =>
    cases b0 with
    | false =>
      go_wp2
      try go_ret
      exact ⟨⟨false, ret1 rfl, g0.out⟩, H2.out.1⟩
    | true =>
      cases b1 with
      | false =>
        go_wp2
        try go_ret
        exact ⟨⟨false, ret1 rfl, g1.out⟩, H2.out.1⟩
      | true =>
        cases b2 with
        | false =>
          go_wp2
          try go_ret
          exact ⟨⟨false, ret1 rfl, g2.out⟩, H2.out.1⟩
        | true =>
          cases b3 with
          | false =>
            go_wp2
            try go_ret
            exact ⟨⟨false, ret1 rfl, g3.out⟩, H2.out.1⟩
          | true =>
            go_wp2
            try go_ret
            exact ⟨⟨true, ret1 rfl, fun _ => rfl⟩, H2.out.1⟩
end Go.Proofs.YtmlfbihlbiikeaaGreatDoor
