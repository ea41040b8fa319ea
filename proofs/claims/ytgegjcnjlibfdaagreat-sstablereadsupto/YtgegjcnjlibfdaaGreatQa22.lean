/- The contract of sstable's Build where it refuses what it is given. -/
import Derived.Test.YtgegjcnjlibfdaaGreatQa16
import Derived.Test.YtgegjcnjlibfdaaGreatQa07
import Derived.Test.YtgegjcnjlibfdaaGreatC11MemA
import Derived.Test.YtgegjcnjlibfdaaGreatQa19
namespace Go.Proofs.YtgegjcnjlibfdaaGreat
set_option maxRecDepth 100000
open Go.RowKit
set_option linter.unusedVariables false
set_option linter.unusedSimpArgs false
set_option maxHeartbeats 4000000 in
/-- A block's size or an interval that may not be. -/
theorem build12_arg (a : Option Addr) (n c : Nat) (bl iv : Int) (bits : Nat) (w : World) (hbad : ¬ ((1 ≤ bl ∧ bl ≤ 65536) ∧ 1 ≤ iv ∧ iv ≤ 16)) :
    Calls Tryz.prog 10 #[.slice a n c, .agg (opA bl iv bits)] w fun r w' => r = .returned (.tuple #[.slice none 0 0, .int .i64 1]) ∧ Below w.heap.size w w' := by
  have hw1 := within_any bl 65536
  have hw2 := within_any iv 16
  have H0 : Hid (Below w.heap.size w (w.alloc (.cells (opA bl iv bits) TOp))) := (Below.refl _ _).alloc (Nat.le_refl _) _
  by_cases h1 : 1 ≤ bl ∧ bl ≤ 65536
  · have d1 : decide (1 ≤ bl ∧ bl ≤ 65536) = true := decide_eq_true h1
    have d2 : decide (1 ≤ iv ∧ iv ≤ 16) = false := decide_eq_false (fun h => hbad ⟨h1, h⟩)
    rw [d1] at hw1
    rw [d2] at hw2
    clear d1 d2 h1 hbad
    unfold opA
    unfold opA at H0
    go_enter Tryz.func10, Tryz.ntmps10
    go_wp2_with fail
    refine (hw1 _).mono ?_
    rintro _ w1 ⟨rfl, hw⟩
    subst hw
    go_wp2_with fail
    refine (hw2 _).mono ?_
    rintro _ w1 ⟨rfl, hw⟩
    subst hw
    go_wp2
    go_ret2
    exact ⟨ret2 rfl rfl, H0.out⟩
  · have d1 : decide (1 ≤ bl ∧ bl ≤ 65536) = false := decide_eq_false h1
    rw [d1] at hw1
    clear d1 h1 hbad hw2
    unfold opA
    unfold opA at H0
    go_enter Tryz.func10, Tryz.ntmps10
    go_wp2_with fail
    refine (hw1 _).mono ?_
    rintro _ w1 ⟨rfl, hw⟩
    subst hw
    go_wp2
    go_ret2
    exact ⟨ret2 rfl rfl, H0.out⟩
set_option maxHeartbeats 4000000 in
/-- Bits that bloom.Build refuses. -/
theorem build12_bits {a : Option Addr} {n c iv bl bits : Nat} {l : List KV} {w : World} (h : KsAt w a n c l) (hi1 : 1 ≤ iv) (hi2 : iv ≤ 16) (hb1 : 1 ≤ bl) (hb2 : bl ≤ 65536) (hok : okB bits = false) (hn : n ≤ 1000000) :
    Calls Tryz.prog 10 #[.slice a n c, .agg (opA (bl : Int) (iv : Int) bits)] w fun r w' => r = .returned (.tuple #[.slice none 0 0, .int .i64 100]) ∧ Below w.heap.size w w' := by
  have HH : Hid (KsAt w a n c l ∧ okB bits = false) := ⟨h, hok⟩
  have d1 : decide (1 ≤ (bl : Int) ∧ (bl : Int) ≤ 65536) = true := decide_eq_true (by omega)
  have d2 : decide (1 ≤ (iv : Int) ∧ (iv : Int) ≤ 16) = true := decide_eq_true (by omega)
  have hw1 := within_any (bl : Int) 65536
  have hw2 := within_any (iv : Int) 16
  rw [d1] at hw1
  rw [d2] at hw2
  have H0 : Hid (Below w.heap.size w (w.alloc (.cells (opA (bl : Int) (iv : Int) bits) TOp)) ∧ Box (w.alloc (.cells (opA (bl : Int) (iv : Int) bits) TOp)) w.heap.size TOp (opA (bl : Int) (iv : Int) bits)) := ⟨(Below.refl _ _).alloc (Nat.le_refl _) _, Box.new _ _ _⟩
  clear h hok d1 d2
  unfold opA
  unfold opA at H0
  go_enter Tryz.func10, Tryz.ntmps10
  go_wp2_with fail
  refine (hw1 _).mono ?_
  rintro _ w1 ⟨rfl, hw⟩
  subst hw
  go_wp2_with fail
  refine (hw2 _).mono ?_
  rintro _ w1 ⟨rfl, hw⟩
  subst hw
  go_wp2_with fail
  generalize w.alloc (.cells #[.int .i64 (bl : Int), .int .i64 (iv : Int), .float .f64 bits] TOp) = W0 at *
  have x2 : W0.drew.cell? ⟨w.heap.size, 2, none⟩ = some (.float .f64 bits) := H0.out.2.cell 2
  have HUA : Hid (∀ V, Below w.heap.size w V → Calls Tryz.prog 23 #[.slice a n c] V fun e w' => ∃ a' c', e = .returned (.slice a' n c') ∧ StAt w' a' n c' (usersL l) ∧ Below V.heap.size V w') := fun V hV => users_any a n c l V (HH.out.1.below hV) (by omega)
  go_region_held3 (fun V => V.cell? ⟨w.heap.size, 2, none⟩ = some (.float .f64 bits)) (first | with_reducible exact x2 | go_keep)
    (first
     | (go_at_call 23; refine (HUA.out _ H0.out.1.drew).mono ?_; rintro _ w1 ⟨a1, c1, rfl, hst, hb1'⟩
        have H1 : Hid (Below w.heap.size w w1 ∧ Box w1 w.heap.size TOp #[.int .i64 (bl : Int), .int .i64 (iv : Int), .float .f64 bits]) := ⟨H0.out.1.drew.trans (hb1'.mono H0.out.1.size), H0.out.2.kept (hb1'.block _ H0.out.2.lt)⟩
        have x2 : w1.cell? ⟨w.heap.size, 2, none⟩ = some (.float .f64 bits) := H1.out.2.cell 2
        clear hst hb1')
     | (go_at_call 22; refine (bloom_no a1 n c1 bits _ HH.out.2).mono ?_; rintro _ w2 ⟨rfl, hww⟩
        have H2 : Hid (Below w.heap.size w w2 ∧ Box w2 w.heap.size TOp #[.int .i64 (bl : Int), .int .i64 (iv : Int), .float .f64 bits]) := by rw [hww]; exact H1.out
        have x2 : w2.cell? ⟨w.heap.size, 2, none⟩ = some (.float .f64 bits) := H2.out.2.cell 2
        clear hww))
  go_wp2
  go_ret2
  exact ⟨ret2 rfl rfl, H2.out.1⟩
set_option maxHeartbeats 4000000 in
theorem build12_empty {a : Option Addr} {n c iv bl bits : Nat} {l : List KV} {w : World} (h : KsAt w a n c l) (hi1 : 1 ≤ iv) (hi2 : iv ≤ 16) (hb1 : 1 ≤ bl) (hb2 : bl ≤ 65536) (hok : okB bits = true) (hn0 : n = 0) :
    Calls Tryz.prog 10 #[.slice a n c, .agg (opA (bl : Int) (iv : Int) bits)] w fun r w' => r = .returned (.tuple #[.slice none 0 0, .int .i64 120]) ∧ Below w.heap.size w w' := by
  have HH : Hid (KsAt w a n c l ∧ True ∧ okB bits = true ∧ l.length = n) := ⟨h, trivial, hok, h.size⟩
  have hn : n ≤ 1000 := by omega
  have hsz := szN_le hok hn
  have hl0 : l = [] := by
    apply List.eq_nil_of_length_eq_zero
    rw [h.size]
    exact hn0
  have hus : ∀ s ∈ usersL l, s.size ≤ 140737488351232 := by
    rw [hl0]
    intro s hs
    cases hs
  have HUS : Hid (∀ s ∈ usersL l, s.size ≤ 140737488351232) := hus
  have d1 : decide (1 ≤ (bl : Int) ∧ (bl : Int) ≤ 65536) = true := decide_eq_true (by omega)
  have d2 : decide (1 ≤ (iv : Int) ∧ (iv : Int) ≤ 16) = true := decide_eq_true (by omega)
  have hw1 := within_any (bl : Int) 65536
  have hw2 := within_any (iv : Int) 16
  rw [d1] at hw1
  rw [d2] at hw2
  have H0 : Hid (Below w.heap.size w (w.alloc (.cells (opA (bl : Int) (iv : Int) bits) TOp)) ∧ Box (w.alloc (.cells (opA (bl : Int) (iv : Int) bits) TOp)) w.heap.size TOp (opA (bl : Int) (iv : Int) bits)) := ⟨(Below.refl _ _).alloc (Nat.le_refl _) _, Box.new _ _ _⟩
  have hnz : ((n : Int) == 0) = true := by rw [beq_iff_eq]; omega
  clear h hok hus d1 d2 hl0 hn0
  unfold opA
  unfold opA at H0
  go_enter Tryz.func10, Tryz.ntmps10
  go_wp2_with fail
  refine (hw1 _).mono ?_
  rintro _ w1 ⟨rfl, hw⟩
  subst hw
  go_wp2_with fail
  refine (hw2 _).mono ?_
  rintro _ w1 ⟨rfl, hw⟩
  subst hw
  go_wp2_with fail
  generalize w.alloc (.cells #[.int .i64 (bl : Int), .int .i64 (iv : Int), .float .f64 bits] TOp) = W0 at *
  have x2 : W0.drew.cell? ⟨w.heap.size, 2, none⟩ = some (.float .f64 bits) := H0.out.2.cell 2
  have HUA : Hid (∀ V, Below w.heap.size w V → Calls Tryz.prog 23 #[.slice a n c] V fun e w' => ∃ a' c', e = .returned (.slice a' n c') ∧ StAt w' a' n c' (usersL l) ∧ Below V.heap.size V w') := fun V hV => users_any a n c l V (HH.out.1.below hV) (by omega)
  go_region_held3 (fun V => V.cell? ⟨w.heap.size, 2, none⟩ = some (.float .f64 bits)) (first | with_reducible exact x2 | go_keep)
    (first
     | (go_at_call 23; refine (HUA.out _ H0.out.1.drew).mono ?_; rintro _ w1 ⟨a1, c1, rfl, hst, hb1'⟩
        have H1 : Hid (StAt w1 a1 n c1 (usersL l) ∧ Below w.heap.size w w1 ∧ Box w1 w.heap.size TOp #[.int .i64 (bl : Int), .int .i64 (iv : Int), .float .f64 bits]) := ⟨hst, H0.out.1.drew.trans (hb1'.mono H0.out.1.size), H0.out.2.kept (hb1'.block _ H0.out.2.lt)⟩
        have x2 : w1.cell? ⟨w.heap.size, 2, none⟩ = some (.float .f64 bits) := H1.out.2.2.cell 2
        clear hst hb1')
     | (go_at_call 22; refine (bloom_yes a1 n c1 bits (usersL l) _ H1.out.1 HUS.out (by omega) HH.out.2.2.1).mono ?_; rintro _ w2 ⟨a2, c2, rfl, ho2, hb2'⟩
        have H2 : Hid (BsAt w2 a2 (szN bits n + 1) c2 (fltN bits l) ∧ Below w.heap.size w w2 ∧ Box w2 w.heap.size TOp #[.int .i64 (bl : Int), .int .i64 (iv : Int), .float .f64 bits]) := ⟨by unfold fltN; rw [HH.out.2.2.2]; exact ho2.bs, H1.out.2.1.trans (hb2'.mono H1.out.2.1.size), H1.out.2.2.kept (hb2'.block _ H1.out.2.2.lt)⟩
        have x2 : w2.cell? ⟨w.heap.size, 2, none⟩ = some (.float .f64 bits) := H2.out.2.2.cell 2
        clear ho2 hb2'))
  go_wp2
  go_ret2
  exact ⟨ret2 rfl rfl, H2.out.2.1⟩
set_option maxHeartbeats 4000000 in
theorem build12_bad {a : Option Addr} {n c iv bl bits : Nat} {l : List KV} {w : World} (h : KsAt w a n c l) (hwf : WfL l) (hi1 : 1 ≤ iv) (hi2 : iv ≤ 16) (hb1 : 1 ≤ bl) (hb2 : bl ≤ 65536) (hok : okB bits = true) (hn0 : 1 ≤ n) (hn : n ≤ 1000) (hus : ∀ s ∈ usersL l, s.size ≤ 140737488351232) (he : chkL l ≠ 0) :
    Calls Tryz.prog 10 #[.slice a n c, .agg (opA (bl : Int) (iv : Int) bits)] w fun r w' => r = .returned (.tuple #[.slice none 0 0, .int .i64 ((chkL l : Nat) : Int)]) ∧ Below w.heap.size w w' := by
  have HH : Hid (KsAt w a n c l ∧ (WfL l ∧ chkL l ≠ 0) ∧ okB bits = true ∧ l.length = n) := ⟨h, ⟨hwf, he⟩, hok, h.size⟩
  have hsz := szN_le hok hn
  have HUS : Hid (∀ s ∈ usersL l, s.size ≤ 140737488351232) := hus
  have d1 : decide (1 ≤ (bl : Int) ∧ (bl : Int) ≤ 65536) = true := decide_eq_true (by omega)
  have d2 : decide (1 ≤ (iv : Int) ∧ (iv : Int) ≤ 16) = true := decide_eq_true (by omega)
  have hw1 := within_any (bl : Int) 65536
  have hw2 := within_any (iv : Int) 16
  rw [d1] at hw1
  rw [d2] at hw2
  have H0 : Hid (Below w.heap.size w (w.alloc (.cells (opA (bl : Int) (iv : Int) bits) TOp)) ∧ Box (w.alloc (.cells (opA (bl : Int) (iv : Int) bits) TOp)) w.heap.size TOp (opA (bl : Int) (iv : Int) bits)) := ⟨(Below.refl _ _).alloc (Nat.le_refl _) _, Box.new _ _ _⟩
  have hnz : ((n : Int) == 0) = false := by rw [beq_eq_false_iff_ne]; omega
  clear h hok hus d1 d2 hwf he
  unfold opA
  unfold opA at H0
  go_enter Tryz.func10, Tryz.ntmps10
  go_wp2_with fail
  refine (hw1 _).mono ?_
  rintro _ w1 ⟨rfl, hw⟩
  subst hw
  go_wp2_with fail
  refine (hw2 _).mono ?_
  rintro _ w1 ⟨rfl, hw⟩
  subst hw
  go_wp2_with fail
  generalize w.alloc (.cells #[.int .i64 (bl : Int), .int .i64 (iv : Int), .float .f64 bits] TOp) = W0 at *
  have x2 : W0.drew.cell? ⟨w.heap.size, 2, none⟩ = some (.float .f64 bits) := H0.out.2.cell 2
  have HUA : Hid (∀ V, Below w.heap.size w V → Calls Tryz.prog 23 #[.slice a n c] V fun e w' => ∃ a' c', e = .returned (.slice a' n c') ∧ StAt w' a' n c' (usersL l) ∧ Below V.heap.size V w') := fun V hV => users_any a n c l V (HH.out.1.below hV) (by omega)
  go_region_held3 (fun V => V.cell? ⟨w.heap.size, 2, none⟩ = some (.float .f64 bits)) (first | with_reducible exact x2 | go_keep)
    (first
     | (go_at_call 23; refine (HUA.out _ H0.out.1.drew).mono ?_; rintro _ w1 ⟨a1, c1, rfl, hst, hb1'⟩
        have H1 : Hid (StAt w1 a1 n c1 (usersL l) ∧ Below w.heap.size w w1 ∧ Box w1 w.heap.size TOp #[.int .i64 (bl : Int), .int .i64 (iv : Int), .float .f64 bits]) := ⟨hst, H0.out.1.drew.trans (hb1'.mono H0.out.1.size), H0.out.2.kept (hb1'.block _ H0.out.2.lt)⟩
        have x2 : w1.cell? ⟨w.heap.size, 2, none⟩ = some (.float .f64 bits) := H1.out.2.2.cell 2
        clear hst hb1')
     | (go_at_call 22; refine (bloom_yes a1 n c1 bits (usersL l) _ H1.out.1 HUS.out (by omega) HH.out.2.2.1).mono ?_; rintro _ w2 ⟨a2, c2, rfl, ho2, hb2'⟩
        have H2 : Hid (BsAt w2 a2 (szN bits n + 1) c2 (fltN bits l) ∧ Below w.heap.size w w2 ∧ Box w2 w.heap.size TOp #[.int .i64 (bl : Int), .int .i64 (iv : Int), .float .f64 bits]) := ⟨by unfold fltN; rw [HH.out.2.2.2]; exact ho2.bs, H1.out.2.1.trans (hb2'.mono H1.out.2.1.size), H1.out.2.2.kept (hb2'.block _ H1.out.2.2.lt)⟩
        have x2 : w2.cell? ⟨w.heap.size, 2, none⟩ = some (.float .f64 bits) := H2.out.2.2.cell 2
        clear ho2 hb2'))
  have x1 : w2.cell? ⟨w.heap.size, 1, none⟩ = some (.int .i64 (iv : Int)) := H2.out.2.2.cell 1
  have hbu := build_bad a n c l (iv : Int) (by omega) w2 (HH.out.1.below H2.out.2.1) HH.out.2.1.1 HH.out.2.1.2
  have hz : (((chkL l : Nat) : Int) == 0) = false := by
    have := HH.out.2.1.2
    rw [beq_eq_false_iff_ne]
    omega
  go_wp2_with fail
  refine hbu.mono ?_
  rintro _ w3 ⟨rfl, hb3⟩
  have H3 : Hid (Below w.heap.size w w3) := H2.out.2.1.trans (hb3.mono H2.out.2.1.size)
  clear hb3 hbu x1
  go_wp2
  go_ret2
  exact ⟨ret2 rfl rfl, H3.out⟩
end Go.Proofs.YtgegjcnjlibfdaaGreat
/- What is known of a user's key among entries that rise: what the table tells is what the document's own Get tells. Same and Get of the document's own. -/
namespace Go.Proofs.YtgegjcnjlibfdaaGreat
set_option maxRecDepth 100000
open Go.RowKit
set_option linter.unusedVariables false
set_option linter.unusedSimpArgs false
def lgetK (l : List KV) (u : ByteArray) (s : Nat) : Option KV := l.find? fun e => decide (e.1.user = u ∧ e.1.seq ≤ s)
def toldK : Option KV → Ans
  | none => noA
  | some e => if e.1.kind = 0 then ⟨⟨#[]⟩, 1, 0⟩ else ⟨e.2, 2, 0⟩
theorem ba_eq {s t : ByteArray} (h : s.toList = t.toList) : s = t := by
  apply ByteArray.ext
  have h3 := congrArg List.toArray h
  simpa [ByteArray.toList_eq] using h3
theorem notless {e : IK} (he : e.err = 0) (u : ByteArray) (s : Nat) : 0 ≤ e.cmp (theK u s) ↔ (e.user = u ∧ e.seq ≤ s) ∨ scmp e.user.toList u.toList = 1 := by
  obtain ⟨_, h2, h3⟩ := chk_zero he
  have hm : min s 72057594037927935 = s ∨ min s 72057594037927935 = 72057594037927935 := by omega
  unfold IK.cmp theK
  dsimp only
  rcases scmp_spec e.user.toList u.toList with ⟨e1, _⟩ | ⟨e1, e2⟩ | ⟨e1, _⟩
  · rw [kcmp_text _ _ _ _ _ _ (by omega)]
    constructor
    · intro h
      omega
    · rintro (⟨h, _⟩ | h)
      · rw [h, scmp_self] at e1
        omega
      · omega
  · obtain ⟨_, h5⟩ := kcmp_num e.user.toList u.toList (e.seq : Int) ((min s 72057594037927935 : Nat) : Int) e.kind 1 e1
    have hu := ba_eq e2
    constructor
    · intro h
      refine .inl ⟨hu, ?_⟩
      have h6 : ¬ _ := fun h7 => absurd (h5.2 h7) (by omega)
      omega
    · rintro (⟨_, h⟩ | h)
      · have h6 : ¬ kcmp e.user.toList u.toList (e.seq : Int) ((min s 72057594037927935 : Nat) : Int) e.kind 1 < 0 := fun h7 => by
          have := h5.1 h7
          omega
        omega
      · omega
  · rw [kcmp_text _ _ _ _ _ _ (by omega)]
    exact ⟨fun _ => .inr e1, fun _ => by omega⟩
theorem known_go (u : ByteArray) (s : Nat) : ∀ (l : List KV), (∀ e ∈ l, EOk e) → Rises l →
    lgetK l u s = match l.find? (fun e => decide (0 ≤ e.1.cmp (theK u s))) with
      | none => none
      | some e => if e.1.user = u then some e else none
  | [], _, _ => rfl
  | x :: r, ho, hs => by
    obtain ⟨hs1, hs2⟩ := List.pairwise_cons.1 hs
    have ih := known_go u s r (fun e he => ho e (List.mem_cons_of_mem _ he)) hs2
    have hn := notless (ho x (by simp)).1 u s
    unfold lgetK at ih ⊢
    rw [List.find?_cons, List.find?_cons]
    by_cases hk : 0 ≤ x.1.cmp (theK u s)
    · rw [decide_eq_true hk]
      rcases hn.1 hk with h | h
      · rw [decide_eq_true h]
        dsimp only
        rw [if_pos h.1]
      · have hne : x.1.user ≠ u := by
          intro e
          rw [e, scmp_self] at h
          omega
        rw [decide_eq_false (fun hc => hne hc.1)]
        dsimp only
        rw [if_neg hne, List.find?_eq_none]
        intro y hy hd
        have hyu := (of_decide_eq_true hd).1
        have hxy := hs1 y hy
        unfold IK.cmp at hxy
        rw [hyu] at hxy
        rw [kcmp_text _ _ _ _ _ _ (by omega)] at hxy
        omega
    · rw [decide_eq_false hk]
      have hd : ¬ (x.1.user = u ∧ x.1.seq ≤ s) := fun h => hk (hn.2 (.inl h))
      rw [decide_eq_false hd]
      exact ih
/-- What a table tells is what is known. -/
theorem ans_known {l : List KV} (h : chkL l = 0) (u : ByteArray) (s : Nat) : ansOf u (theK u s) l = toldK (lgetK l u s) := by
  obtain ⟨h1, h2⟩ := chkL_zero.1 h
  rw [known_go u s l h1 h2]
  unfold ansOf
  cases l.find? (fun e => decide (0 ≤ e.1.cmp (theK u s))) with
  | none => rfl
  | some e =>
    dsimp only
    split
    · rfl
    · rfl
/-- A user who has no entry is not known. -/
theorem known_none {l : List KV} {u : ByteArray} (h : ∀ e ∈ l, e.1.user ≠ u) (s : Nat) : toldK (lgetK l u s) = noA := by
  unfold lgetK
  rw [List.find?_eq_none.2 fun y hy hd => h y hy (of_decide_eq_true hd).1]
  rfl
theorem told_err (x : Option KV) : (toldK x).err = 0 := by
  unfold toldK
  split
  · rfl
  · split <;> rfl
theorem run_neq_kv12 (e : KV) (W : World) : (binOp .neq 54 (.agg #[.string e.1.user, .int .u64 (e.1.seq : Int), .int .i64 e.1.kind, .string e.2]) (.agg #[.string e.1.user, .int .u64 (e.1.seq : Int), .int .i64 e.1.kind, .string e.2])).run Tryz.prog W = .ok (.bool false) W := by
  simp [go_sem, Tryz.underlying54, Tryz.underlying52, Tryz.underlying9, Tryz.underlying33, Tryz.underlying3]
set_option maxHeartbeats 1000000 in
theorem same12 {w : World} {a a' : Option Addr} {n c c' : Nat} {l : List KV} (h : KsAt w a n c l) (h' : KsAt w a' n c' l) : Calls Tryz.prog 12 #[.slice a n c, .slice a' n c'] w fun e w' => e = .returned (.bool true) ∧ ∃ d, w' = w.drewN d := by
  have HS : Hid (KsAt w a n c l ∧ KsAt w a' n c' l) := ⟨h, h'⟩
  have hm := h.max
  have hl := h.le
  have hlen := h.size
  unfold maxLen at hm
  have HLn : Hid (l.length = n) := hlen
  clear h h' hlen
  go_enter Tryz.func12, Tryz.ntmps12
  go_wp2_with fail
  go_loopw [5] (fun x wr => ∃ k d : Nat, k ≤ n ∧ x = .int .i64 (k : Int) ∧ wr = w.drewN d) (fun x _ => n - (intOf x).toNat)
  case atStart => exact ⟨0, 0, Nat.zero_le _, rfl, rfl⟩
  case round =>
    obtain ⟨k, d, hk, rfl, rfl⟩ := hrel
    by_cases hkn : k < n
    · obtain ⟨b, off, hb, hc⟩ := HS.out.1.cells4 (by omega)
      obtain ⟨b', off', hb', hc'⟩ := HS.out.2.cells4 (by omega)
      have hkl : k < l.length := by rw [HLn.out]; exact hkn
      obtain ⟨c0, c1, c2, c3⟩ := hc k hkl
      obtain ⟨d0, d1, d2, d3⟩ := hc' k hkl
      have hidx := fun W => idxKV W (a := a) (b := b) (off := off) (n := n) (c := c) hb hkn
      have hidx' := fun W => idxKV W (a := a') (b := b') (off := off') (n := n) (c := c') hb' hkn
      have hne := fun W => run_neq_kv12 l[k] W
      generalize l[k] = e at c0 c1 c2 c3 d0 d1 d2 d3 hne
      clear hc hc' hb hb'
      go_wp2_with fail
      go_quiet (fail)
      go_wp2
      go_roundw
      case rel => exact ⟨k + 1, d + nq, hkn, by go_num, by simp [World.drewN, Nat.add_assoc]⟩
      case measure => simp only [intOf]; omega
    · go_wp2
      go_ret
      exact ⟨ret1 rfl, d, rfl⟩
set_option maxHeartbeats 1000000 in
theorem rget12 {w : World} {a : Option Addr} {n c : Nat} {l : List KV} (h : KsAt w a n c l) (u : ByteArray) (s : Nat) : Calls Tryz.prog 20 #[.slice a n c, .string u, .int .u64 (s : Int)] w fun e w' => e = .returned (.tuple #[.string (toldK (lgetK l u s)).value, .int .i64 (((toldK (lgetK l u s)).what : Nat) : Int)]) ∧ w = w' := by
  have HS : Hid (KsAt w a n c l ∧ l.length = n) := ⟨h, h.size⟩
  have hm := h.max
  have hl := h.le
  unfold maxLen at hm
  clear h
  go_enter Tryz.func20, Tryz.ntmps20
  go_wp2_with fail
  go_loopw [8] (fun x wr => ∃ k : Nat, k ≤ n ∧ x = .int .i64 (k : Int) ∧ wr = w ∧ Hid (lgetK l u s = lgetK (l.drop k) u s)) (fun x _ => n - (intOf x).toNat)
  case atStart => exact ⟨0, Nat.zero_le _, rfl, rfl, rfl⟩
  case round =>
    obtain ⟨k, hk, rfl, rfl, HI⟩ := hrel
    by_cases hkn : k < n
    · obtain ⟨b, off, hab, hc⟩ := HS.out.1.cells4 (by omega)
      have hkl : k < l.length := by rw [HS.out.2]; exact hkn
      obtain ⟨c0, c1, c2, c3⟩ := hc k hkl
      have hidx := fun W => idxKV W (a := a) (b := b) (off := off) (n := n) (c := c) hab hkn
      have HD : Hid (l.drop k = l[k] :: l.drop (k + 1)) := List.drop_eq_getElem_cons hkl
      generalize l[k] = e at c0 c1 c2 c3 HD
      clear hc hab
      have HNX : Hid (¬ (e.1.user = u ∧ e.1.seq ≤ s) → lgetK l u s = lgetK (l.drop (k + 1)) u s) := by
        intro hno
        rw [HI.out, HD.out]
        unfold lgetK
        rw [List.find?_cons, decide_eq_false hno]
      by_cases hus : e.1.user = u
      · have hbq : (e.1.user.toList == u.toList) = true := by rw [hus]; simp
        by_cases hsq : e.1.seq ≤ s
        · have HE : Hid (lgetK l u s = some e) := by
            unfold Hid
            rw [HI.out, HD.out]
            unfold lgetK
            rw [List.find?_cons, decide_eq_true ⟨hus, hsq⟩]
          have hsq' : ((e.1.seq : Nat) : Int) ≤ (s : Int) := by omega
          clear hus
          by_cases hkd : e.1.kind = 0
          · have hkq : (e.1.kind == 0) = true := by rw [hkd]; rfl
            have HKD : Hid (e.1.kind = 0) := hkd
            clear hkd
            go_wp2
            go_ret2
            rw [HE.out]
            unfold toldK
            simp only [HKD.out, if_pos]
            exact ⟨ret2 rfl rfl, by trivial⟩
          · have hkq : (e.1.kind == 0) = false := by simpa using hkd
            have HKD : Hid (¬ e.1.kind = 0) := hkd
            clear hkd
            go_wp2
            go_ret2
            rw [HE.out]
            unfold toldK
            simp only [HKD.out, if_neg, not_false_eq_true, if_false]
            exact ⟨ret2 rfl rfl, by trivial⟩
        · have HN : Hid (¬ (e.1.user = u ∧ e.1.seq ≤ s)) := fun h => hsq h.2
          have hsq' : ¬ ((e.1.seq : Nat) : Int) ≤ (s : Int) := by omega
          clear hus
          go_wp2
          go_roundw
          case rel => exact ⟨k + 1, hkn, by go_num, by trivial, HNX.out HN.out⟩
          case measure => simp only [intOf]; omega
      · have HN : Hid (¬ (e.1.user = u ∧ e.1.seq ≤ s)) := fun h => hus h.1
        have hbq : (e.1.user.toList == u.toList) = false := by
          rw [beq_eq_false_iff_ne]
          exact fun hh => hus (ba_eq hh)
        clear hus
        go_wp2
        go_roundw
        case rel => exact ⟨k + 1, hkn, by go_num, by trivial, HNX.out HN.out⟩
        case measure => simp only [intOf]; omega
    · go_wp2
      go_ret2
      have : l.drop k = [] := List.drop_eq_nil_of_le (by rw [HS.out.2]; omega)
      rw [HI.out, this]
      exact ⟨ret2 rfl rfl, by trivial⟩
end Go.Proofs.YtgegjcnjlibfdaaGreat
/- What sstable's Build answers; what a table tells that it made. -/
namespace Go.Proofs.YtgegjcnjlibfdaaGreat
set_option maxRecDepth 100000
open Go.RowKit
set_option linter.unusedVariables false
set_option linter.unusedSimpArgs false
/-- What is told of entries that were laid. -/
structure Tells (T : TD) (l : List KV) : Prop where
  all : allGo [] T.blocks = .ok l
  told : T.told = l.length
  get : ∀ u s, getT T u s = toldK (lgetK l u s)
  one : 1 ≤ T.blocks.length
  most : T.blocks.length ≤ l.length
theorem Tells.allT {T : TD} {l : List KV} (h : Tells T l) : allT T = .ok l := by
  unfold Go.Proofs.YtgegjcnjlibfdaaGreat.allT
  rw [h.all]
  simp only [h.told, if_pos]
theorem flt_may {bits : Nat} {l : List KV} (hok : okB bits = true) (hn : l.length ≤ 1000) {u : ByteArray} (h : mayN (fltN bits l) u.data.toList = false) : ∀ e ∈ l, e.1.user ≠ u := by
  rintro e he rfl
  obtain ⟨x, y, _, _, _, _, h5, _⟩ := ok_facts hok l.length (by omega)
  have hp : prN bits < 256 := by unfold prN; omega
  have hz : 0 < szN bits l.length := by unfold szN; omega
  have hm : e.1.user.data.toList ∈ (usersL l).map fun s => s.data.toList := List.mem_map.2 ⟨e.1.user, List.mem_map.2 ⟨e, he, rfl⟩, rfl⟩
  unfold fltN at h
  rw [may_build _ _ _ hz hp hm] at h
  cases h
theorem tells_built {iv bl bits : Nat} (h1 : 1 ≤ iv) (h2 : iv ≤ 16) {l : List KV} (hc : chkL l = 0) (hne : l ≠ []) (hn : l.length ≤ 1000) (hok : okB bits = true) : Tells ⟨fltN bits l, tdOf iv (grps iv bl l), l.length⟩ l := by
  have hg := gs_ok h1 h2 bl hc hn
  refine ⟨?_, rfl, fun u s => ?_, ?_, ?_⟩
  · have := all_laid (grps iv bl l) [] hg (by simp)
    rw [List.nil_append, grps_flat] at this
    exact this
  · rw [get_tbl h1 h2 hc hn]
    split
    · rename_i hm
      exact (known_none (flt_may hok hn hm) s).symm
    · exact ans_known hc u s
  · show 1 ≤ (tdOf iv (grps iv bl l)).length
    rw [grps_cons iv bl hne]
    simp [tdOf]
  · show (tdOf iv (grps iv bl l)).length ≤ _
    unfold tdOf
    rw [List.length_map]
    exact grps_len iv bl l
theorem build12_any (a : Option Addr) (n c : Nat) (l : List KV) (bl iv : Int) (bits : Nat) (hw : WfL l) (hus : ∀ s ∈ usersL l, s.size ≤ 140737488351232) (hn : n ≤ 1000) (hln : l.length = n) :
    (∃ er : Int, er ≠ 0 ∧ ∀ w, KsAt w a n c l → Calls Tryz.prog 10 #[.slice a n c, .agg #[.int .i64 bl, .int .i64 iv, .float .f64 bits]] w fun r w' => r = .returned (.tuple #[.slice none 0 0, .int .i64 er]) ∧ Below w.heap.size w w') ∨
    (∃ v vb : Nat, iv = (v : Int) ∧ bl = (vb : Int) ∧ 1 ≤ v ∧ v ≤ 16 ∧ 1 ≤ vb ∧ vb ≤ 65536 ∧ okB bits = true ∧ chkL l = 0 ∧ 1 ≤ n ∧ ∀ w, KsAt w a n c l → (a = none → c = 0) → (∀ x, a = some x → x.spot = none) → Calls Tryz.prog 10 #[.slice a n c, .agg #[.int .i64 bl, .int .i64 iv, .float .f64 bits]] w fun r w' => ∃ a' c', r = .returned (.tuple #[.slice a' (tblB v vb bits l).length c', .int .i64 0]) ∧ OwnB w' w.heap.size a' (tblB v vb bits l).length c' (tblB v vb bits l) ∧ Below w.heap.size w w') := by
  by_cases h1 : (1 ≤ bl ∧ bl ≤ 65536) ∧ 1 ≤ iv ∧ iv ≤ 16
  · obtain ⟨v, rfl⟩ : ∃ v : Nat, iv = (v : Int) := ⟨iv.toNat, by omega⟩
    obtain ⟨vb, rfl⟩ : ∃ v : Nat, bl = (v : Int) := ⟨bl.toNat, by omega⟩
    cases hok : okB bits with
    | false => exact .inl ⟨100, by decide, fun w h => build12_bits h (by omega) (by omega) (by omega) (by omega) hok (by omega)⟩
    | true =>
      by_cases hn0 : n = 0
      · exact .inl ⟨120, by decide, fun w h => build12_empty h (by omega) (by omega) (by omega) (by omega) hok hn0⟩
      · by_cases h2 : chkL l = 0
        · exact .inr ⟨v, vb, rfl, rfl, by omega, by omega, by omega, by omega, rfl, h2, by omega, fun w h hb hs => build12_yes h ⟨hb, hs, by omega, by omega, h2, hln, by omega⟩ (by omega) (by omega) hok (by omega) hn⟩
        · exact .inl ⟨((chkL l : Nat) : Int), by omega, fun w h => build12_bad h hw (by omega) (by omega) (by omega) (by omega) hok (by omega) hn hus h2⟩
  · exact .inl ⟨1, by decide, fun w _ => build12_arg a n c bl iv bits w h1⟩
end Go.Proofs.YtgegjcnjlibfdaaGreat
