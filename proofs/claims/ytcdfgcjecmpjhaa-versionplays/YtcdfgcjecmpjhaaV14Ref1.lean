/- The contracts of the document's own apart, Has, without, with. -/
import Derived.Test.YtcdfgcjecmpjhaaV14Ask
import Derived.Test.YtcdfgcjecmpjhaaV14Insert
import Derived.Deep.DeepCutAuto
import Derived.Deep.CutBlock
namespace Go.Proofs.Ytcdfgcjecmpjhaa
open Go.RowKit
set_option linter.unusedVariables false
set_option linter.unusedSimpArgs false
set_option maxRecDepth 100000 in
set_option maxHeartbeats 1000000 in
theorem rapart_any (f g : PF) (w : World) : Calls Try.prog 36 #[.agg #[.int .i64 f.level, .int .u64 (f.num : Int), .int .i64 f.size, .string f.small.user, .int .u64 (f.small.seq : Int), .int .i64 f.small.kind, .string f.large.user, .int .u64 (f.large.seq : Int), .int .i64 f.large.kind], .agg #[.int .i64 g.level, .int .u64 (g.num : Int), .int .i64 g.size, .string g.small.user, .int .u64 (g.small.seq : Int), .int .i64 g.small.kind, .string g.large.user, .int .u64 (g.large.seq : Int), .int .i64 g.large.kind]] w fun e w' => e = .returned (.bool (decide (apartF f g))) ∧ Below w.heap.size w w' := by
  have HW : Hid (Below w.heap.size w ((w.alloc (.cells (fA f) TF)).alloc (.cells (fA g) TF))) := ((Below.refl _ _).alloc (Nat.le_refl _) _).alloc (by simp) _
  go_enter Try.func36, Try.ntmps36
  go_wp2
  go_ret
  exact ⟨by simp [apartF, ul], HW.out⟩
theorem ge_iff (a b : ByteArray) : (Op.bytesLess b.toList a.toList = true ∨ a.toList = b.toList) ↔ ¬ ul a b := by
  rw [← le_iff b a]
  constructor
  · rintro (h | h)
    · exact .inl h
    · exact .inr h.symm
  · rintro (h | h)
    · exact .inl h
    · exact .inr h.symm
theorem geB_eq (a b : ByteArray) : (Op.bytesLess b.toList a.toList || a.toList == b.toList) = decide (¬ ul a b) := by
  rw [Bool.eq_iff_iff, Bool.or_eq_true, beq_iff_eq, ge_iff, decide_eq_true_iff]
set_option maxRecDepth 100000 in
set_option maxHeartbeats 2000000 in
theorem rhas_any (f : PF) (s t : ByteArray) (w : World) : Calls Try.prog 32 #[.agg #[.int .i64 f.level, .int .u64 (f.num : Int), .int .i64 f.size, .string f.small.user, .int .u64 (f.small.seq : Int), .int .i64 f.small.kind, .string f.large.user, .int .u64 (f.large.seq : Int), .int .i64 f.large.kind], .string s, .string t] w fun e w' => e = .returned (.bool (hasU f s t)) ∧ Below w.heap.size w w' := by
  have HW : Hid (Below w.heap.size w (w.alloc (.cells (fA f) TF))) := (Below.refl _ _).alloc (Nat.le_refl _) _
  go_enter Try.func32, Try.ntmps32
  go_wp2_with fail
  all_goals simp only [leB_eq, le_iff, geB_eq, ge_iff] at *
  all_goals go_ret
  all_goals refine ⟨ret1 ?_, HW.out⟩
  all_goals simp [hasU, *]
theorem dropF_snoc (num : Nat) (l : List PF) (f : PF) : dropF num (l ++ [f]) = dropF num l ++ (if f.num ≠ num then [f] else []) := by
  unfold dropF
  rw [List.filter_append]
  simp [List.filter_cons]
set_option maxRecDepth 100000 in
set_option maxHeartbeats 4000000 in
theorem without_any (num : Nat) (l : List PF) (a : Option Addr) (n c : Nat) (w : World) (h : FlAt w a n c l) (hn : n < 65536) :
    Calls Try.prog 31 #[.slice a n c, .int .u64 (num : Int)] w fun e w' => ∃ (a' : Option Addr) (c' : Nat), e = .returned (.tuple #[.slice a' (dropF num l).length c', .bool (decide ((dropF num l).length < n))]) ∧ OwnF w' w.heap.size a' (dropF num l).length c' (dropF num l) ∧ Below w.heap.size w w' := by
  have HV : Hid (FlAt w a n c l ∧ l.length = n) := ⟨h, h.size⟩
  have hmx := h.row.max
  have hlc := h.row.le
  unfold maxLen at hmx
  clear h
  go_enter Try.func31, Try.ntmps31
  go_wp2_with fail
  go_loopw [6, 7] (fun s6 s7 wr => ∃ (i k : Nat) (a' : Option Addr) (c' : Nat), i ≤ n ∧ k ≤ i ∧ s7 = .int .i64 (i : Int) ∧ s6 = .slice a' k c' ∧ Hid (OwnF wr w.heap.size a' k c' (dropF num (l.take i)) ∧ Below w.heap.size w wr)) (fun _ s7 _ => n - (intOf s7).toNat)
  case atStart => exact ⟨0, 0, none, 0, Nat.zero_le _, Nat.le_refl _, rfl, rfl, OwnF.nil _ _, Below.refl _ _⟩
  case round =>
    obtain ⟨i, k, a', c', hin, hki, rfl, rfl, HI⟩ := hrel
    by_cases hi : i < n
    · have hil : i < l.length := by rw [HV.out.2]; exact hi
      obtain ⟨b', o, hix, hblt, hcs⟩ := HV.out.1.at hil
      obtain ⟨c0, c1, c2, c3, c4, c5, c6, c7, c8⟩ := hcs wr HI.out.2
      have HTK : Hid (l.take (i + 1) = l.take i ++ [l[i]]) := List.take_succ_eq_append_getElem hil
      clear hcs
      generalize l[i] = f at c0 c1 c2 c3 c4 c5 c6 c7 c8 HTK
      by_cases hq : f.num = num
      · have hqb : (((f.num : Nat) : Int) != ((num : Nat) : Int)) = false := by simp [hq]
        have H2 : Hid (OwnF wr w.heap.size a' k c' (dropF num (l.take (i + 1))) ∧ Below w.heap.size w wr) := by
          rw [HTK.out, dropF_snoc, if_neg (by simpa using hq), List.append_nil]
          exact HI.out
        have HQ : Hid (f.num = num) := hq
        clear hq
        go_wp2
        go_roundw
        case rel => exact ⟨i + 1, k, a', c', hi, by omega, by go_num, rfl, H2.out⟩
        case measure => simp only [intOf]; omega
      · have hqb : (((f.num : Nat) : Int) != ((num : Nat) : Int)) = true := by simp; omega
        have HQ : Hid (f.num ≠ num) := hq
        clear hq
        have HW2 : Hid (OwnF (wr.alloc (.cells (fA f) TF)) w.heap.size a' k c' (dropF num (l.take i)) ∧ Below w.heap.size w (wr.alloc (.cells (fA f) TF)) ∧ FlAt (wr.alloc (.cells (fA f) TF)) (some ⟨wr.heap.size, 0, none⟩) 1 1 [f] ∧ w.heap.size ≤ (wr.alloc (.cells (fA f) TF)).heap.size) := by
          have hB := HI.out.2.alloc HI.out.2.size (.cells (fA f) TF)
          exact ⟨HI.out.1.alloc _, hB, FlAt.one wr f, hB.size⟩
        go_wp2_with (at_builtin; refine wpList_appFl (wr.alloc (.cells (fA f) TF)) rfl _ _ rfl w.heap.size a' k c' (dropF num (l.take i)) rfl HW2.out.1 (some ⟨wr.heap.size, 0, none⟩) 1 1 [f] rfl HW2.out.2.2.1 (by omega) HW2.out.2.2.2 ?_; intro a2 c2' w2 ho2 hb2 hg2)
        have H2 : Hid (OwnF w2 w.heap.size a2 (k + 1) c2' (dropF num (l.take (i + 1))) ∧ Below w.heap.size w w2) := by
          rw [HTK.out, dropF_snoc, if_pos HQ.out]
          exact ⟨ho2, HW2.out.2.1.trans hb2⟩
        clear ho2 hb2 hg2
        go_wp2
        go_roundw
        case rel => exact ⟨i + 1, k + 1, a2, c2', hi, by omega, by go_num, rfl, H2.out⟩
        case measure => simp only [intOf]; omega
    · have H2 : Hid (OwnF wr w.heap.size a' k c' (dropF num l) ∧ Below w.heap.size w wr) := by
        have := HI.out
        rw [List.take_of_length_le (by rw [HV.out.2]; omega)] at this
        exact this
      go_wp2
      go_ret2
      have hsz := H2.out.1.size
      rw [hsz]
      exact ⟨a', c', ret2 rfl (by simp), H2.out⟩
theorem insF_no {n : Nat} {f : PF} : ∀ {l : List PF}, (∀ g ∈ l, ¬ ahead n f g) → insF n f l = l ++ [f]
  | [], _ => rfl
  | g :: r, h => by
    unfold insF
    rw [if_neg (h g (by simp)), insF_no (fun x hx => h x (by simp [hx]))]
    rfl
theorem insF_snoc_yes {n : Nat} {f x : PF} : ∀ {l : List PF}, (∃ g ∈ l, ahead n f g) → insF n f (l ++ [x]) = insF n f l ++ [x]
  | [], h => by obtain ⟨g, hg, _⟩ := h; cases hg
  | g :: r, h => by
    rw [List.cons_append]
    unfold insF
    by_cases hg : ahead n f g
    · rw [if_pos hg, if_pos hg]
      rfl
    · rw [if_neg hg, if_neg hg, insF_snoc_yes]
      · rfl
      · obtain ⟨y, hy, hy2⟩ := h
        rcases List.mem_cons.1 hy with rfl | hy
        · exact absurd hy2 hg
        · exact ⟨y, hy, hy2⟩
theorem insF_snoc_no {n : Nat} {f x : PF} : ∀ {l : List PF}, (∀ g ∈ l, ¬ ahead n f g) → ahead n f x → insF n f (l ++ [x]) = l ++ [f] ++ [x]
  | [], _, hx => by
    show insF n f [x] = _
    unfold insF
    rw [if_pos hx]
    rfl
  | g :: r, h, hx => by
    rw [List.cons_append]
    unfold insF
    rw [if_neg (h g (by simp)), insF_snoc_no (fun y hy => h y (by simp [hy])) hx]
    rfl
/-- How far the document's own with has come. -/
structure Wi (n : Nat) (f : PF) (l : List PF) (i : Nat) (dn : Bool) (o : List PF) : Prop where
  yes : dn = true → (∃ g ∈ l.take i, ahead n f g) ∧ o = insF n f (l.take i)
  no : dn = false → (∀ g ∈ l.take i, ¬ ahead n f g) ∧ o = l.take i
theorem Wi.step {n : Nat} {f : PF} {l : List PF} {i : Nat} {dn : Bool} {o : List PF} (h : Wi n f l i dn o) (hi : i < l.length) : (dn = true ∨ ¬ ahead n f l[i] → Wi n f l (i + 1) dn (o ++ [l[i]])) ∧ (dn = false → ahead n f l[i] → Wi n f l (i + 1) true (o ++ [f] ++ [l[i]])) := by
  have e := List.take_succ_eq_append_getElem hi
  refine ⟨fun hc => ⟨fun hd => ?_, fun hd => ?_⟩, fun hd ha => ⟨fun _ => ?_, fun hx => by cases hx⟩⟩
  · obtain ⟨⟨g, hg, hg2⟩, rfl⟩ := h.yes hd
    rw [e]
    exact ⟨⟨g, List.mem_append_left _ hg, hg2⟩, (insF_snoc_yes ⟨g, hg, hg2⟩).symm⟩
  · obtain ⟨h1, rfl⟩ := h.no hd
    rw [e]
    refine ⟨fun g hg => ?_, rfl⟩
    rcases List.mem_append.1 hg with hg | hg
    · exact h1 g hg
    · obtain rfl := List.mem_singleton.1 hg
      rcases hc with hc | hc
      · rw [hd] at hc; cases hc
      · exact hc
  · obtain ⟨h1, rfl⟩ := h.no hd
    rw [e]
    exact ⟨⟨l[i], List.mem_append_right _ (List.mem_singleton.2 rfl), ha⟩, (insF_snoc_no h1 ha).symm⟩
set_option maxRecDepth 100000 in
set_option maxHeartbeats 8000000 in
theorem with_any (n : Nat) (f : PF) (l : List PF) (a : Option Addr) (m c : Nat) (w : World) (h : FlAt w a m c l) (hf : f.level = (n : Int)) (hm : m < 65536) :
    Calls Try.prog 33 #[.slice a m c, .agg #[.int .i64 f.level, .int .u64 (f.num : Int), .int .i64 f.size, .string f.small.user, .int .u64 (f.small.seq : Int), .int .i64 f.small.kind, .string f.large.user, .int .u64 (f.large.seq : Int), .int .i64 f.large.kind]] w fun e w' => ∃ (a' : Option Addr) (c' : Nat), e = .returned (.slice a' (insF n f l).length c') ∧ OwnF w' w.heap.size a' (insF n f l).length c' (insF n f l) ∧ Below w.heap.size w w' := by
  have HV : Hid (FlAt w a m c l ∧ l.length = m) := ⟨h, h.size⟩
  have hmx := h.row.max
  have hlc := h.row.le
  unfold maxLen at hmx
  have HB0 : Hid (Below w.heap.size w (w.alloc (.cells (fA f) TF)) ∧ Box (w.alloc (.cells (fA f) TF)) w.heap.size TF (fA f)) := ⟨(Below.refl _ _).alloc (Nat.le_refl _) _, Box.new _ _ _⟩
  have HFL : Hid (f.level = (n : Int)) := hf
  have HC : Hid (∀ (g : PF) (W : World), Calls Try.prog 36 #[.agg #[.int .i64 f.level, .int .u64 (f.num : Int), .int .i64 f.size, .string f.small.user, .int .u64 (f.small.seq : Int), .int .i64 f.small.kind, .string f.large.user, .int .u64 (f.large.seq : Int), .int .i64 f.large.kind], .agg #[.int .i64 g.level, .int .u64 (g.num : Int), .int .i64 g.size, .string g.small.user, .int .u64 (g.small.seq : Int), .int .i64 g.small.kind, .string g.large.user, .int .u64 (g.large.seq : Int), .int .i64 g.large.kind]] W fun e w' => e = .returned (.bool (decide (apartF f g))) ∧ Below W.heap.size W w') := fun g W => rapart_any f g W
  clear h hf
  go_enter Try.func33, Try.ntmps33
  go_wp2_with fail
  go_loopw [5, 6, 7] (fun s5 s6 s7 wr => ∃ (i k : Nat) (dn : Bool) (a' : Option Addr) (c' : Nat) (o : List PF), i ≤ m ∧ k ≤ i + 1 ∧ s7 = .int .i64 (i : Int) ∧ s6 = .bool dn ∧ s5 = .slice a' k c' ∧ Hid (OwnF wr (w.heap.size + 1) a' k c' o ∧ Wi n f l i dn o ∧ Below w.heap.size w wr ∧ Box wr w.heap.size TF (fA f))) (fun _ _ s7 _ => m - (intOf s7).toNat)
  case atStart => exact ⟨0, 0, false, none, 0, [], Nat.zero_le _, by omega, rfl, rfl, rfl, OwnF.nil _ _, ⟨fun h => (by cases h), fun _ => ⟨by simp, by simp⟩⟩, HB0.out⟩
  case round =>
    obtain ⟨i, k, dn, a', c', o, hin, hki, rfl, rfl, rfl, HI⟩ := hrel
    by_cases hi : i < m
    · have hil : i < l.length := by rw [HV.out.2]; exact hi
      obtain ⟨b', o', hix, hblt, hcs⟩ := HV.out.1.at hil
      have HST := HI.out.2.1.step hil
      have HS2 : Hid ((dn = true ∨ ¬ ahead n f l[i] → Wi n f l (i + 1) dn (o ++ [l[i]])) ∧ (dn = false → ahead n f l[i] → Wi n f l (i + 1) true (o ++ [f] ++ [l[i]]))) := HST
      clear HST
      have x := fun p : Bel wr => (HI.out.2.2.2.kept (p.h.block _ HI.out.2.2.2.lt)).nine
      have y := fun p : Bel wr => hcs p.now (HI.out.2.2.1.trans (p.h.mono HI.out.2.2.1.size))
      have HCS : Hid (∀ W : World, Below w.heap.size w W → F9 W b' o' l[i]) := hcs
      generalize l[i] = g at y HS2 HCS
      clear hcs
      have x0 := fun p => (x p).c0
      have x1 := fun p => (x p).c1
      have x2 := fun p => (x p).c2
      have x3 := fun p => (x p).c3
      have x4 := fun p => (x p).c4
      have x5 := fun p => (x p).c5
      have x6 := fun p => (x p).c6
      have x7 := fun p => (x p).c7
      have x8 := fun p => (x p).c8
      have y0 := fun p => (y p).c0
      have y1 := fun p => (y p).c1
      have y2 := fun p => (y p).c2
      have y3 := fun p => (y p).c3
      have y4 := fun p => (y p).c4
      have y5 := fun p => (y p).c5
      have y6 := fun p => (y p).c6
      have y7 := fun p => (y p).c7
      have y8 := fun p => (y p).c8
      simp only [Nat.zero_add] at x1 x2 x3 x4 x5 x6 x7 x8
      clear x y
      have hne : Nonempty (Bel wr) := ⟨⟨wr, Below.refl _ _⟩⟩
      obtain ⟨ap, HAP⟩ : ∃ ap : Bool, Hid (ap = decide (apartF f g)) := ⟨_, rfl⟩
      have HC2 : Hid (∀ W : World, Calls Try.prog 36 #[.agg #[.int .i64 f.level, .int .u64 (f.num : Int), .int .i64 f.size, .string f.small.user, .int .u64 (f.small.seq : Int), .int .i64 f.small.kind, .string f.large.user, .int .u64 (f.large.seq : Int), .int .i64 f.large.kind], .agg #[.int .i64 g.level, .int .u64 (g.num : Int), .int .i64 g.size, .string g.small.user, .int .u64 (g.small.seq : Int), .int .i64 g.small.kind, .string g.large.user, .int .u64 (g.large.seq : Int), .int .i64 g.large.kind]] W fun e w' => e = .returned (.bool ap) ∧ Below W.heap.size W w') := fun W => by rw [HAP.out]; exact HC.out g W
      obtain ⟨ah, HAH⟩ : ∃ ah : Bool, Hid (ah = decide (ahead n f g)) := ⟨_, rfl⟩
      go_upto_region 6 with fail
      refine wp_region_bel (by kernel_rfl) (by kernel_rfl) ?_
      repeat (quiet_step (first | (refine bel_call (HC2.out _))))
      refine wpQuiet_nil ?_
      rintro _ ⟨p, rfl⟩
      have H3 : Hid (OwnF p.now (w.heap.size + 1) a' k c' o ∧ Below w.heap.size w p.now ∧ Box p.now w.heap.size TF (fA f)) := ⟨HI.out.1.below p.h, HI.out.2.2.1.trans (p.h.mono HI.out.2.2.1.size), HI.out.2.2.2.kept (p.h.block _ HI.out.2.2.2.lt)⟩
      clear x0 x1 x2 x3 x4 x5 x6 x7 x8 y0 y1 y2 y3 y4 y5 y6 y7 y8
      generalize p.now = w3 at H3 ⊢
      obtain ⟨x0, x1, x2, x3, x4, x5, x6, x7, x8⟩ := H3.out.2.2.nine
      obtain ⟨y0, y1, y2, y3, y4, y5, y6, y7, y8⟩ := HCS.out w3 H3.out.2.1
      simp only [Nat.zero_add] at x1 x2 x3 x4 x5 x6 x7 x8
      have HIX : Hid (∀ W : World, (Instr.indexAt 23 (.slice a m c) (.int .i64 (i : Int))).run Try.prog W = .ok (.pointer (some ⟨b', o', none⟩)) W) := hix
      go_upto_if 23 with fail
      go_cut [8] (fun s8 wz => s8 = .bool ah ∧ Hid (OwnF wz (w.heap.size + 1) a' k c' o ∧ Below w.heap.size w wz ∧ Box wz w.heap.size TF (fA f)))
      case first =>
        by_cases hn0 : n = 0
        · have hfb : (f.level == 0) = true := by rw [HFL.out, hn0]; rfl
          have HAH2 : Hid (ah = decide (g.num < f.num)) := by unfold Hid; rw [HAH.out]; simp [ahead, hn0]
          go_wp2_with fail
          go_quiet (fail)
          go_wp2_with fail
          go_meet
          refine ⟨by rw [HAH2.out], ?_⟩
          have hb : Below w3.heap.size w3 (w3.drewN nq) := ⟨rfl, rfl, rfl, Nat.le_refl _, fun _ _ => rfl⟩
          exact ⟨H3.out.1.below hb, H3.out.2.1.trans (hb.mono H3.out.2.1.size), H3.out.2.2⟩
        · have hfb : (f.level == 0) = false := by rw [HFL.out]; exact beq_eq_false_iff_ne.2 (by omega)
          have HAH2 : Hid (ah = ap) := by unfold Hid; rw [HAH.out, HAP.out]; simp [ahead, hn0]
          go_wp2_with fail
          go_meet
          exact ⟨by rw [HAH2.out], H3.out⟩
      case rest =>
        obtain ⟨rfl, H4⟩ := hcut
        clear x0 x1 x2 x3 x4 x5 x6 x7 x8 y0 y1 y2 y3 y4 y5 y6 y7 y8 H3
        obtain ⟨x0, x1, x2, x3, x4, x5, x6, x7, x8⟩ := H4.out.2.2.nine
        obtain ⟨y0, y1, y2, y3, y4, y5, y6, y7, y8⟩ := HCS.out wc H4.out.2.1
        simp only [Nat.zero_add] at x1 x2 x3 x4 x5 x6 x7 x8
        by_cases hcase : dn = false ∧ ah = true
        · obtain ⟨rfl, rfl⟩ := hcase
          have hk2 : k ≤ i := by have := HI.out.1.size; rw [(HI.out.2.1.no rfl).2, List.length_take] at this; omega
          have HW2 : Hid (OwnF (wc.alloc (.cells (fA f) TF)) (w.heap.size + 1) a' k c' o ∧ Below w.heap.size w (wc.alloc (.cells (fA f) TF)) ∧ FlAt (wc.alloc (.cells (fA f) TF)) (some ⟨wc.heap.size, 0, none⟩) 1 1 [f] ∧ w.heap.size + 1 ≤ (wc.alloc (.cells (fA f) TF)).heap.size ∧ Box (wc.alloc (.cells (fA f) TF)) w.heap.size TF (fA f)) := by
            have hB := H4.out.2.1.alloc H4.out.2.1.size (.cells (fA f) TF)
            exact ⟨H4.out.1.alloc _, hB, FlAt.one wc f, Nat.succ_le_of_lt (H4.out.2.2.alloc _).lt, H4.out.2.2.alloc _⟩
          go_upto_region 12 with (at_builtin; refine wpList_appFl (wc.alloc (.cells (fA f) TF)) rfl _ _ rfl (w.heap.size + 1) a' k c' o rfl HW2.out.1 (some ⟨wc.heap.size, 0, none⟩) 1 1 [f] rfl HW2.out.2.2.1 (by omega) HW2.out.2.2.2.1 ?_; intro a2 c2 w4 ho2 hb2 hg2)
          have H5 : Hid (OwnF w4 (w.heap.size + 1) a2 (k + 1) c2 (o ++ [f]) ∧ Below w.heap.size w w4 ∧ Box w4 w.heap.size TF (fA f) ∧ Wi n f l (i + 1) true (o ++ [f] ++ [g])) := by
            refine ⟨ho2, HW2.out.2.1.trans (hb2.mono (Nat.le_succ _)), HW2.out.2.2.2.2.kept (hb2.block _ (Nat.lt_succ_self _)), HS2.out.2 rfl (of_decide_eq_true HAH.out.symm)⟩
          clear ho2 hb2 hg2
          obtain ⟨z0, z1, z2, z3, z4, z5, z6, z7, z8⟩ := HCS.out w4 H5.out.2.1
          have HW5 : Hid (OwnF (w4.alloc (.cells (fA g) TF)) (w.heap.size + 1) a2 (k + 1) c2 (o ++ [f]) ∧ Below w.heap.size w (w4.alloc (.cells (fA g) TF)) ∧ FlAt (w4.alloc (.cells (fA g) TF)) (some ⟨w4.heap.size, 0, none⟩) 1 1 [g] ∧ w.heap.size + 1 ≤ (w4.alloc (.cells (fA g) TF)).heap.size ∧ Box (w4.alloc (.cells (fA g) TF)) w.heap.size TF (fA f)) := by
            have hB := H5.out.2.1.alloc H5.out.2.1.size (.cells (fA g) TF)
            exact ⟨H5.out.1.alloc _, hB, FlAt.one w4 g, Nat.succ_le_of_lt (H5.out.2.2.1.alloc _).lt, H5.out.2.2.1.alloc _⟩
          go_wp2_with (at_builtin; refine wpList_appFl (w4.alloc (.cells (fA g) TF)) rfl _ _ rfl (w.heap.size + 1) a2 (k + 1) c2 (o ++ [f]) rfl HW5.out.1 (some ⟨w4.heap.size, 0, none⟩) 1 1 [g] rfl HW5.out.2.2.1 (by omega) HW5.out.2.2.2.1 ?_; intro a7 c7 w7 ho7 hb7 hg7)
          have H7 : Hid (OwnF w7 (w.heap.size + 1) a7 (k + 1 + 1) c7 (o ++ [f] ++ [g]) ∧ Wi n f l (i + 1) true (o ++ [f] ++ [g]) ∧ Below w.heap.size w w7 ∧ Box w7 w.heap.size TF (fA f)) := ⟨ho7, H5.out.2.2.2, HW5.out.2.1.trans (hb7.mono (Nat.le_succ _)), HW5.out.2.2.2.2.kept (hb7.block _ (Nat.lt_succ_self _))⟩
          clear ho7 hb7 hg7
          go_wp2
          go_roundw
          case rel => exact ⟨i + 1, k + 1 + 1, true, a7, c7, o ++ [f] ++ [g], hi, by omega, by go_num, rfl, rfl, H7.out⟩
          case measure => simp only [intOf]; omega
        · rcases (show dn = true ∨ (dn = false ∧ ah = false) by cases dn <;> cases ah <;> simp at hcase ⊢) with rfl | ⟨rfl, rfl⟩
          · have H5 : Hid (OwnF wc (w.heap.size + 1) a' k c' o ∧ Below w.heap.size w wc ∧ Box wc w.heap.size TF (fA f) ∧ Wi n f l (i + 1) true (o ++ [g])) := ⟨H4.out.1, H4.out.2.1, H4.out.2.2, HS2.out.1 (.inl rfl)⟩
            clear hcase
            obtain ⟨z0, z1, z2, z3, z4, z5, z6, z7, z8⟩ := HCS.out wc H5.out.2.1
            have HW5 : Hid (OwnF (wc.alloc (.cells (fA g) TF)) (w.heap.size + 1) a' (k) c' (o) ∧ Below w.heap.size w (wc.alloc (.cells (fA g) TF)) ∧ FlAt (wc.alloc (.cells (fA g) TF)) (some ⟨wc.heap.size, 0, none⟩) 1 1 [g] ∧ w.heap.size + 1 ≤ (wc.alloc (.cells (fA g) TF)).heap.size ∧ Box (wc.alloc (.cells (fA g) TF)) w.heap.size TF (fA f)) := by
              have hB := H5.out.2.1.alloc H5.out.2.1.size (.cells (fA g) TF)
              exact ⟨H5.out.1.alloc _, hB, FlAt.one wc g, Nat.succ_le_of_lt (H5.out.2.2.1.alloc _).lt, H5.out.2.2.1.alloc _⟩
            go_wp2_with (at_builtin; refine wpList_appFl (wc.alloc (.cells (fA g) TF)) rfl _ _ rfl (w.heap.size + 1) a' (k) c' (o) rfl HW5.out.1 (some ⟨wc.heap.size, 0, none⟩) 1 1 [g] rfl HW5.out.2.2.1 (by omega) HW5.out.2.2.2.1 ?_; intro a7 c7 w7 ho7 hb7 hg7)
            have H7 : Hid (OwnF w7 (w.heap.size + 1) a7 (k + 1) c7 (o ++ [g]) ∧ Wi n f l (i + 1) true (o ++ [g]) ∧ Below w.heap.size w w7 ∧ Box w7 w.heap.size TF (fA f)) := ⟨ho7, H5.out.2.2.2, HW5.out.2.1.trans (hb7.mono (Nat.le_succ _)), HW5.out.2.2.2.2.kept (hb7.block _ (Nat.lt_succ_self _))⟩
            clear ho7 hb7 hg7
            go_wp2
            go_roundw
            case rel => exact ⟨i + 1, k + 1, true, a7, c7, o ++ [g], hi, by omega, by go_num, rfl, rfl, H7.out⟩
            case measure => simp only [intOf]; omega
          · have H5 : Hid (OwnF wc (w.heap.size + 1) a' k c' o ∧ Below w.heap.size w wc ∧ Box wc w.heap.size TF (fA f) ∧ Wi n f l (i + 1) false (o ++ [g])) := ⟨H4.out.1, H4.out.2.1, H4.out.2.2, HS2.out.1 (.inr (of_decide_eq_false HAH.out.symm))⟩
            clear hcase
            obtain ⟨z0, z1, z2, z3, z4, z5, z6, z7, z8⟩ := HCS.out wc H5.out.2.1
            have HW5 : Hid (OwnF (wc.alloc (.cells (fA g) TF)) (w.heap.size + 1) a' (k) c' (o) ∧ Below w.heap.size w (wc.alloc (.cells (fA g) TF)) ∧ FlAt (wc.alloc (.cells (fA g) TF)) (some ⟨wc.heap.size, 0, none⟩) 1 1 [g] ∧ w.heap.size + 1 ≤ (wc.alloc (.cells (fA g) TF)).heap.size ∧ Box (wc.alloc (.cells (fA g) TF)) w.heap.size TF (fA f)) := by
              have hB := H5.out.2.1.alloc H5.out.2.1.size (.cells (fA g) TF)
              exact ⟨H5.out.1.alloc _, hB, FlAt.one wc g, Nat.succ_le_of_lt (H5.out.2.2.1.alloc _).lt, H5.out.2.2.1.alloc _⟩
            go_wp2_with (at_builtin; refine wpList_appFl (wc.alloc (.cells (fA g) TF)) rfl _ _ rfl (w.heap.size + 1) a' (k) c' (o) rfl HW5.out.1 (some ⟨wc.heap.size, 0, none⟩) 1 1 [g] rfl HW5.out.2.2.1 (by omega) HW5.out.2.2.2.1 ?_; intro a7 c7 w7 ho7 hb7 hg7)
            have H7 : Hid (OwnF w7 (w.heap.size + 1) a7 (k + 1) c7 (o ++ [g]) ∧ Wi n f l (i + 1) false (o ++ [g]) ∧ Below w.heap.size w w7 ∧ Box w7 w.heap.size TF (fA f)) := ⟨ho7, H5.out.2.2.2, HW5.out.2.1.trans (hb7.mono (Nat.le_succ _)), HW5.out.2.2.2.2.kept (hb7.block _ (Nat.lt_succ_self _))⟩
            clear ho7 hb7 hg7
            go_wp2
            go_roundw
            case rel => exact ⟨i + 1, k + 1, false, a7, c7, o ++ [g], hi, by omega, by go_num, rfl, rfl, H7.out⟩
            case measure => simp only [intOf]; omega
    · have H2 : Hid (OwnF wr (w.heap.size + 1) a' k c' o ∧ Wi n f l i dn o ∧ Below w.heap.size w wr ∧ Box wr w.heap.size TF (fA f) ∧ l.take i = l) := ⟨HI.out.1, HI.out.2.1, HI.out.2.2.1, HI.out.2.2.2, List.take_of_length_le (by rw [HV.out.2]; omega)⟩
      cases dn
      · have ho : insF n f l = o ++ [f] := by
          have := H2.out.2.1.no rfl
          rw [H2.out.2.2.2.2] at this
          rw [this.2]
          exact insF_no this.1
        have HO : Hid (insF n f l = o ++ [f]) := ho
        clear ho
        obtain ⟨x0, x1, x2, x3, x4, x5, x6, x7, x8⟩ := H2.out.2.2.2.1.nine
        simp only [Nat.zero_add] at x1 x2 x3 x4 x5 x6 x7 x8
        have HW2 : Hid (OwnF (wr.alloc (.cells (fA f) TF)) (w.heap.size + 1) a' k c' o ∧ Below w.heap.size w (wr.alloc (.cells (fA f) TF)) ∧ FlAt (wr.alloc (.cells (fA f) TF)) (some ⟨wr.heap.size, 0, none⟩) 1 1 [f] ∧ w.heap.size + 1 ≤ (wr.alloc (.cells (fA f) TF)).heap.size) := by
          have hB := H2.out.2.2.1.alloc H2.out.2.2.1.size (.cells (fA f) TF)
          exact ⟨H2.out.1.alloc _, hB, FlAt.one wr f, Nat.succ_le_of_lt (H2.out.2.2.2.1.alloc _).lt⟩
        go_wp2_with (at_builtin; refine wpList_appFl (wr.alloc (.cells (fA f) TF)) rfl _ _ rfl (w.heap.size + 1) a' k c' o rfl HW2.out.1 (some ⟨wr.heap.size, 0, none⟩) 1 1 [f] rfl HW2.out.2.2.1 (by omega) HW2.out.2.2.2 ?_; intro a2 c2 w4 ho2 hb2 hg2)
        have H5 : Hid (OwnF w4 (w.heap.size + 1) a2 (k + 1) c2 (o ++ [f]) ∧ Below w.heap.size w w4) := ⟨ho2, HW2.out.2.1.trans (hb2.mono (Nat.le_succ _))⟩
        clear ho2 hb2 hg2
        go_wp2
        go_ret
        have hsz := H5.out.1.size
        rw [HO.out, hsz]
        exact ⟨a2, c2, rfl, H5.out.1.less (Nat.le_succ _), H5.out.2⟩
      · have ho : o = insF n f l := by rw [(H2.out.2.1.yes rfl).2, H2.out.2.2.2.2]
        go_wp2
        go_ret
        have hsz := H2.out.1.size
        rw [← ho, hsz]
        exact ⟨a', c', rfl, H2.out.1.less (Nat.le_succ _), H2.out.2.2.1⟩
end Go.Proofs.Ytcdfgcjecmpjhaa
