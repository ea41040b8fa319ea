/- The contracts of version's laid, and of the search in it. -/
import Derived.Test.YtmlfbihlbiikeaaGreatDoorQa38
import Derived.Test.YtmlfbihlbiikeaaGreatDoorQa13
import Derived.Deep.LoopGhost
namespace Go.Proofs.YtmlfbihlbiikeaaGreatDoor
open Go.RowKit
set_option linter.unusedVariables false
set_option linter.unusedSimpArgs false
theorem insAt_row {n r : Nat} {l : List PF} {f : PF} (h : LvOk n l) (hf : f.err = 0) (hr : r ≤ l.length) (h1 : ∀ i (hi : i < l.length), i < r → ahead n l[i] f) (h2 : ∀ (hi : r < l.length), ahead n f l[r]) : insAt l r f = insF n f l ∧ ∀ g ∈ l, ahead n f g ∨ ahead n g f := by
  have hcmp : ∀ g ∈ l, ahead n f g ∨ ahead n g f := fun g hg => by
    obtain ⟨i, hi, rfl⟩ := List.getElem_of_mem hg
    rcases Nat.lt_or_ge i r with hlt | hge
    · exact .inr (h1 i hi hlt)
    · left
      have h3 := h2 (by omega)
      rcases Nat.eq_or_lt_of_le hge with e | e
      · subst e
        exact h3
      · exact ahead_trans (h.each _ (List.getElem_mem _)).1 h3 (List.pairwise_iff_getElem.1 h.row r i (by omega) hi e)
  refine ⟨?_, hcmp⟩
  have herr : ∀ g ∈ l, g.err = 0 := fun g hg => (h.each g hg).1
  refine row_ext (R := ahead n) ?_ (insF_row hf herr hcmp h.row) ?_ ?_
  · unfold insAt
    rw [List.pairwise_append]
    refine ⟨h.row.sublist (List.take_sublist _ _), ?_, fun a ha b hb => ?_⟩
    · rw [List.pairwise_cons]
      refine ⟨fun g hg => ?_, h.row.sublist (List.drop_sublist _ _)⟩
      obtain ⟨i, hi, rfl⟩ := List.getElem_of_mem hg
      rw [List.length_drop] at hi
      rw [List.getElem_drop]
      have h3 := h2 (by omega)
      rcases Nat.eq_zero_or_pos i with e | e
      · subst e
        simpa using h3
      · exact ahead_trans (herr _ (List.getElem_mem _)) h3 (List.pairwise_iff_getElem.1 h.row r (r + i) (by omega) (by omega) (by omega))
    · obtain ⟨i, hi, rfl⟩ := List.getElem_of_mem ha
      rw [List.length_take] at hi
      rw [List.getElem_take]
      rcases List.mem_cons.1 hb with rfl | hb
      · exact h1 i (by omega) (by omega)
      · obtain ⟨j, hj, rfl⟩ := List.getElem_of_mem hb
        rw [List.length_drop] at hj
        rw [List.getElem_drop]
        exact List.pairwise_iff_getElem.1 h.row i (r + j) (by omega) (by omega) (by omega)
  · intro x hx y hy hxy
    have e : ∀ z ∈ insAt l r f, z.err = 0 := fun z hz => by
      unfold insAt at hz
      rcases List.mem_append.1 hz with hz | hz
      · exact herr z (List.mem_of_mem_take hz)
      · rcases List.mem_cons.1 hz with rfl | hz
        · exact hf
        · exact herr z (List.mem_of_mem_drop hz)
    exact ahead_asym (e x hx) (e y hy) hxy
  · intro x
    rw [mem_insF]
    unfold insAt
    rw [List.mem_append, List.mem_cons]
    constructor
    · rintro (h | h | h)
      · exact .inr (List.mem_of_mem_take h)
      · exact .inl h
      · exact .inr (List.mem_of_mem_drop h)
    · rintro (h | h)
      · exact .inr (.inl h)
      · have h4 : x ∈ l.take r ++ l.drop r := by rw [List.take_append_drop]; exact h
        rcases List.mem_append.1 h4 with h4 | h4
        · exact .inl h4
        · exact .inr (.inr h4)
set_option maxRecDepth 100000 in
set_option maxHeartbeats 1000000 in
theorem search_at (n : Nat) (hn : n < 4611686018427387904) (pr : Nat → Bool) (c1 c2 c3 : Value) (w : World)
    (hf : ∀ W : World, Below w.heap.size w W → ∀ i : Nat, i < n → Calls Tryz.prog 115 #[.int .i64 (i : Int), c1, c2, c3] W fun e w' => e = .returned (.bool (pr i)) ∧ Below W.heap.size W w')
    (hm : ∀ a b, a ≤ b → b < n → pr a = true → pr b = true) :
    Calls Tryz.prog 114 #[.int .i64 (n : Int), .func (.func 115) #[] #[c1, c2, c3]] w fun e w' => ∃ r : Nat, e = .returned (.int .i64 (r : Int)) ∧ r ≤ n ∧ (∀ i, i < r → pr i = false) ∧ (∀ i, r ≤ i → i < n → pr i = true) ∧ Below w.heap.size w w' := by
  have HF : Hid (∀ W : World, Below w.heap.size w W → ∀ i : Nat, i < n → Calls Tryz.prog 115 #[.int .i64 (i : Int), c1, c2, c3] W fun e w' => e = .returned (.bool (pr i)) ∧ Below W.heap.size W w') := hf
  have HM : Hid (∀ a b, a ≤ b → b < n → pr a = true → pr b = true) := hm
  clear hf hm
  go_enter Tryz.func114, Tryz.ntmps114
  go_wp2
  go_loopg [5, 6] n (fun kx s5 s6 wr => ∃ (lo hi : Nat), s5 = .int .i64 (lo : Int) ∧ s6 = .int .i64 (hi : Int) ∧ lo ≤ hi ∧ hi ≤ n ∧ hi - lo ≤ kx ∧ Hid (Below w.heap.size w wr ∧ (∀ t, t < lo → pr t = false) ∧ (∀ t, hi ≤ t → t < n → pr t = true)))
  case atStart => exact ⟨0, n, rfl, rfl, Nat.zero_le _, Nat.le_refl _, by omega, Below.refl _ _, fun t ht => absurd ht (Nat.not_lt_zero _), fun t h1 h2 => by omega⟩
  case round =>
    obtain ⟨lo, hi, rfl, rfl, hlh, hin, hg, HI⟩ := hrel
    by_cases hlt : lo < hi
    · have hc := HF.out _ HI.out.1 ((lo + hi) / 2) (by omega)
      rw [show (((lo + hi) / 2 : Nat) : Int) = ((lo : Int) + (hi : Int)) / 2 by omega] at hc
      cases hp : pr ((lo + hi) / 2) <;> rw [hp] at hc
      · have HP : Hid (pr ((lo + hi) / 2) = false) := hp
        clear hp
        go_wp2_with fail
        refine hc.mono ?_
        rintro _ w2 ⟨rfl, hb⟩
        have HB : Hid (Below w.heap.size w w2) := HI.out.1.trans (hb.mono HI.out.1.size)
        clear hb hc
        go_wp2
        go_roundg (hi - ((lo + hi) / 2 + 1))
        case measure => omega
        case rel =>
          refine ⟨(lo + hi) / 2 + 1, hi, by congr 1, rfl, by omega, hin, Nat.le_refl _, HB.out, fun t ht => ?_, HI.out.2.2⟩
          cases h : pr t with
          | false => rfl
          | true =>
            have := HM.out t ((lo + hi) / 2) (by omega) (by omega) h
            rw [HP.out] at this
            cases this
      · have HP : Hid (pr ((lo + hi) / 2) = true) := hp
        clear hp
        go_wp2_with fail
        refine hc.mono ?_
        rintro _ w2 ⟨rfl, hb⟩
        have HB : Hid (Below w.heap.size w w2) := HI.out.1.trans (hb.mono HI.out.1.size)
        clear hb hc
        go_wp2
        go_roundg ((lo + hi) / 2 - lo)
        case measure => omega
        case rel => exact ⟨lo, (lo + hi) / 2, rfl, by congr 1, by omega, by omega, Nat.le_refl _, HB.out, HI.out.2.1, fun t h1 h2 => HM.out _ t h1 h2 HP.out⟩
    · obtain rfl : hi = lo := by omega
      go_wp2
      go_ret
      exact ⟨hi, ret1 rfl, hin, HI.out.2.1, HI.out.2.2, HI.out.1⟩
structure See (w : World) (n : Nat) (p6 p2 p3 : Nat) (a : Option Addr) (m c : Nat) (l : List PF) (f : PF) : Prop where
  fn : w.cell? ⟨p6, 0, none⟩ = some (ordV n)
  sl : w.cell? ⟨p2, 0, none⟩ = some (.slice a m c)
  nine : F9 w p3 0 f
  row : FlAt w a m c l
theorem See.below {w W : World} {n p6 p2 p3 : Nat} {a : Option Addr} {m c : Nat} {l : List PF} {f : PF} (h : See w n p6 p2 p3 a m c l f) (hb : Below w.heap.size w W) : See W n p6 p2 p3 a m c l f :=
  ⟨by rw [hb.cell (World.block_lt_of_cell? w _ h.fn)]; exact h.fn, by rw [hb.cell (World.block_lt_of_cell? w _ h.sl)]; exact h.sl, h.nine.below hb, h.row.below hb⟩
set_option maxRecDepth 100000 in
set_option maxHeartbeats 4000000 in
theorem look_at {w : World} {n p6 p2 p3 : Nat} {a : Option Addr} {m c : Nat} {l : List PF} {f : PF} (h : See w n p6 p2 p3 a m c l f) (i : Nat) (hi : i < l.length) :
    Calls Tryz.prog 115 #[.int .i64 (i : Int), at_ p6, at_ p2, at_ p3] w fun e w' => e = .returned (.bool (!decide (ahead n l[i] f))) ∧ Below w.heap.size w w' := by
  obtain ⟨b, o, hidx, hblt, hcs⟩ := h.row.at hi
  have x := fun p : Bel w => (h.below p.h).nine
  have y := fun p : Bel w => hcs p.now p.h
  have hfn := fun p : Bel w => (h.below p.h).fn
  have hsl := fun p : Bel w => (h.below p.h).sl
  obtain ⟨od, HOD, HK⟩ : ∃ od : PF → PF → Bool, Hid (∀ f g, od f g = decide (ahead n f g)) ∧ Hid (∀ (f g : PF) (W : World), Calls Tryz.prog (if n = 0 then 166 else 167) #[.agg #[.int .i64 f.level, .int .u64 (f.num : Int), .int .i64 f.size, .string f.small.user, .int .u64 (f.small.seq : Int), .int .i64 f.small.kind, .string f.large.user, .int .u64 (f.large.seq : Int), .int .i64 f.large.kind], .agg #[.int .i64 g.level, .int .u64 (g.num : Int), .int .i64 g.size, .string g.small.user, .int .u64 (g.small.seq : Int), .int .i64 g.small.kind, .string g.large.user, .int .u64 (g.large.seq : Int), .int .i64 g.large.kind]] W fun e w' => e = .returned (.bool (od f g)) ∧ Below W.heap.size W w') := ⟨fun f g => decide (ahead n f g), fun _ _ => rfl, fun f g W => ord_call n f g W⟩
  have hcf := ord_enter n
  unfold ordV at hfn
  rw [← HOD.out]
  generalize (if n = 0 then 166 else 167) = fn at HK hcf hfn
  generalize l[i] = g at y ⊢
  have x0 := fun p => (x p).c0
  have x1 := fun p => (x p).c1
  have x2 := fun p => (x p).c2
  have x3 := fun p => (x p).c3
  have x4 := fun p => (x p).c4
  have x5 := fun p => (x p).c5
  have x6 := fun p => (x p).c6
  have x7 := fun p => (x p).c7
  have x8 := fun p => (x p).c8
  have y0 := fun p => (y p).c0
  have y1 := fun p => (y p).c1
  have y2 := fun p => (y p).c2
  have y3 := fun p => (y p).c3
  have y4 := fun p => (y p).c4
  have y5 := fun p => (y p).c5
  have y6 := fun p => (y p).c6
  have y7 := fun p => (y p).c7
  have y8 := fun p => (y p).c8
  simp only [Nat.zero_add] at x1 x2 x3 x4 x5 x6 x7 x8
  clear x y hcs h
  have hne : Nonempty (Bel w) := ⟨⟨w, Below.refl _ _⟩⟩
  go_enter Tryz.func115, Tryz.ntmps115
  go_wp2_with fail
  refine wp_region_bel (by kernel_rfl) (by kernel_rfl) ?_
  repeat (quiet_step (first | (refine bel_call (HK.out _ _ _))))
  refine wpQuiet_nil ?_
  rintro _ ⟨p, rfl⟩
  have H3 : Hid (Below w.heap.size w p.now) := p.h
  go_wp2
  go_ret
  exact ⟨ret1 rfl, H3.out⟩
theorem store_fn (W : World) (t : TypeId) (u : Value) (n fn : Nat) (hn : n = W.heap.size) : (store ⟨n, 0, none⟩ (.func (.func fn) #[] #[])).run Tryz.prog (W.alloc (.cells #[u] t)) = .ok () (W.alloc (.cells #[.func (.func fn) #[] #[]] t)) := by
  subst hn
  rw [run_store Tryz.prog _ _ _ _ rfl, (Box.new W t #[u]).cell 0]
  simp [(Box.new W t #[u]).soft 0, World.setCell_alloc_new]
set_option maxRecDepth 100000 in
set_option maxHeartbeats 8000000 in
theorem laid_any {w : World} {B : Nat} {a : Option Addr} {m c n : Nat} {l : List PF} {f : PF} (h : OwnF w B a m c l) (hL : LvOk n l) (hf : f.err = 0) (hfl : f.level = (n : Int)) (hB : B ≤ w.heap.size) (hm : m < 65536) :
    Calls Tryz.prog 68 #[.slice a m c, .agg #[.int .i64 f.level, .int .u64 (f.num : Int), .int .i64 f.size, .string f.small.user, .int .u64 (f.small.seq : Int), .int .i64 f.small.kind, .string f.large.user, .int .u64 (f.large.seq : Int), .int .i64 f.large.kind]] w fun e w' => Chg (fun k => blkOf a = some k) w w' ∧ ((∃ a' c', e = .returned (.tuple #[.slice a' (m + 1) c', .bool true]) ∧ OwnF w' B a' (m + 1) c' (insF n f l) ∧ ∀ g ∈ l, ahead n f g ∨ ahead n g f) ∨ (e = .returned (.tuple #[.slice none 0 0, .bool false]) ∧ ¬ ∀ g ∈ l, ahead n f g ∨ ahead n g f)) := by
  have hls := h.size
  have hmx := h.fs.row.max
  have hmc := h.fs.row.le
  unfold maxLen at hmx
  obtain ⟨W1, e1, HW1⟩ : ∃ W1, W1 = ((w.alloc (.cells #[.slice a m c] 41)).alloc (.cells (fA f) TF)).alloc (.cells #[ordV n] 179) ∧ Hid (Below w.heap.size w W1 ∧ OwnF W1 B a m c l ∧ See W1 n (w.heap.size + 2) w.heap.size (w.heap.size + 1) a m c l f) := by
    have hb : Below w.heap.size w (((w.alloc (.cells #[.slice a m c] 41)).alloc (.cells (fA f) TF)).alloc (.cells #[ordV n] 179)) := (((Below.refl _ _).alloc (Nat.le_refl _) _).alloc (by simp) _).alloc (by simp; omega) _
    have b2 : Box (((w.alloc (.cells #[.slice a m c] 41)).alloc (.cells (fA f) TF)).alloc (.cells #[ordV n] 179)) w.heap.size 41 #[.slice a m c] := ((Box.new w _ _).alloc _).alloc _
    have b3 : Box (((w.alloc (.cells #[.slice a m c] 41)).alloc (.cells (fA f) TF)).alloc (.cells #[ordV n] 179)) (w.heap.size + 1) TF (fA f) := by
      have := Box.new (w.alloc (.cells #[.slice a m c] 41)) TF (fA f)
      rw [World.size_alloc] at this
      exact this.alloc _
    have b6 : Box (((w.alloc (.cells #[.slice a m c] 41)).alloc (.cells (fA f) TF)).alloc (.cells #[ordV n] 179)) (w.heap.size + 2) 179 #[ordV n] := by
      have := Box.new ((w.alloc (.cells #[.slice a m c] 41)).alloc (.cells (fA f) TF)) 179 #[ordV n]
      rw [World.size_alloc, World.size_alloc] at this
      exact this
    exact ⟨_, rfl, hb, h.below hb, b6.cell 0, b2.cell 0, b3.nine, (h.below hb).fs⟩
  obtain ⟨od, HOD, HK⟩ : ∃ od : PF → PF → Bool, Hid (∀ f g, od f g = decide (ahead n f g)) ∧ Hid (∀ (f g : PF) (W : World), Calls Tryz.prog (if n = 0 then 166 else 167) #[.agg #[.int .i64 f.level, .int .u64 (f.num : Int), .int .i64 f.size, .string f.small.user, .int .u64 (f.small.seq : Int), .int .i64 f.small.kind, .string f.large.user, .int .u64 (f.large.seq : Int), .int .i64 f.large.kind], .agg #[.int .i64 g.level, .int .u64 (g.num : Int), .int .i64 g.size, .string g.small.user, .int .u64 (g.small.seq : Int), .int .i64 g.small.kind, .string g.large.user, .int .u64 (g.large.seq : Int), .int .i64 g.large.kind]] W fun e w' => e = .returned (.bool (od f g)) ∧ Below W.heap.size W w') := ⟨fun f g => decide (ahead n f g), fun _ _ => rfl, fun f g W => ord_call n f g W⟩
  have HSR : Hid (Calls Tryz.prog 114 #[.int .i64 (m : Int), .func (.func 115) #[] #[at_ (w.heap.size + 2), at_ w.heap.size, at_ (w.heap.size + 1)]] W1 fun e w' => ∃ r : Nat, e = .returned (.int .i64 (r : Int)) ∧ r ≤ m ∧ (∀ i (hi : i < l.length), i < r → ahead n l[i] f) ∧ (∀ i (hi : i < l.length), r ≤ i → ¬ ahead n l[i] f) ∧ Below W1.heap.size W1 w') := by
    have := search_at m (by omega) (fun i => if h : i < l.length then !decide (ahead n l[i] f) else true) (at_ (w.heap.size + 2)) (at_ w.heap.size) (at_ (w.heap.size + 1)) W1 (fun W hW i hi => by
      have hil : i < l.length := by omega
      simp only [dif_pos hil]
      exact look_at (HW1.out.2.2.below hW) i hil) (fun x y hxy hy hx => by
      have hyl : y < l.length := by omega
      have hxl : x < l.length := by omega
      simp only [dif_pos hyl, dif_pos hxl, Bool.not_eq_true', decide_eq_false_iff_not] at hx ⊢
      intro hc
      rcases Nat.eq_or_lt_of_le hxy with e | e
      · subst e
        exact hx hc
      · exact hx (ahead_trans (hL.each _ (List.getElem_mem _)).1 (List.pairwise_iff_getElem.1 hL.row x y hxl hyl e) hc))
    refine this.mono ?_
    rintro e w' ⟨r, rfl, hr, h1, h2, hb⟩
    refine ⟨r, rfl, hr, fun i hi hir => ?_, fun i hi hir => ?_, hb⟩
    · have h3 := h1 i hir
      simp only [dif_pos hi, Bool.not_eq_false', decide_eq_true_eq] at h3
      exact h3
    · have h3 := h2 i hir (by omega)
      simp only [dif_pos hi, Bool.not_eq_true', decide_eq_false_iff_not] at h3
      exact h3
  have HH : Hid (LvOk n l ∧ f.err = 0 ∧ l.length = m ∧ B ≤ w.heap.size ∧ ∀ k, blkOf a = some k → k < w.heap.size) := ⟨hL, hf, hls, hB, fun k hk => tag_lt (h.tag hk)⟩
  have HO := fun W => orderOf_any n W
  have HO2 : Hid (∀ W, Calls Tryz.prog 113 #[.int .i64 f.level] W fun e w' => e = .returned (ordV n) ∧ W = w') := by rw [hfl]; exact HO
  have hcf := ord_enter n
  have HSF : Hid (∀ W, See W n (w.heap.size + 2) w.heap.size (w.heap.size + 1) a m c l f → W.cell? ⟨w.heap.size + 1 + 1, 0, none⟩ = some (ordV n)) := fun W h => h.fn
  unfold ordV at HO2 e1 HSF
  generalize (if n = 0 then 166 else 167) = fn at HK hcf HO2 e1 HSF
  have HST : Hid (((w.alloc (.cells #[.slice a m c] 41)).alloc (.cells (fA f) TF)).heap.size = w.heap.size + 2) := by unfold Hid; simp
  have hst := store_fn ((w.alloc (.cells #[.slice a m c] 41)).alloc (.cells #[.int .i64 f.level, .int .u64 (f.num : Int), .int .i64 f.size, .string f.small.user, .int .u64 (f.small.seq : Int), .int .i64 f.small.kind, .string f.large.user, .int .u64 (f.large.seq : Int), .int .i64 f.large.kind] TF)) 179 .nilFunc (w.heap.size + 1 + 1) fn HST.out.symm
  have e2 : ((w.alloc (.cells #[.slice a m c] 41)).alloc (.cells #[.int .i64 f.level, .int .u64 (f.num : Int), .int .i64 f.size, .string f.small.user, .int .u64 (f.small.seq : Int), .int .i64 f.small.kind, .string f.large.user, .int .u64 (f.large.seq : Int), .int .i64 f.large.kind] TF)).alloc (.cells #[.func (.func fn) #[] #[]] 179) = W1 := e1.symm
  rw [e2] at hst
  clear h hL hf hfl HO hls hB e1 e2
  have hsl1 : W1.cell? ⟨w.heap.size, 0, none⟩ = some (.slice a m c) := HW1.out.2.2.sl
  go_enter Tryz.func68, Tryz.ntmps68
  go_wp2_with fail
  refine (HO2.out _).mono ?_
  rintro _ w1 ⟨rfl, rfl⟩
  go_wp2_with fail
  refine Calls.mono HSR.out ?_
  rintro _ w2 ⟨r, rfl, hrm, hr1, hr2, hb2⟩
  have H2 : Hid (Below w.heap.size w w2 ∧ OwnF w2 B a m c l ∧ See w2 n (w.heap.size + 2) w.heap.size (w.heap.size + 1) a m c l f ∧ (∀ i (hi : i < l.length), i < r → ahead n l[i] f) ∧ (∀ i (hi : i < l.length), r ≤ i → ¬ ahead n l[i] f)) := ⟨HW1.out.1.trans (hb2.mono HW1.out.1.size), HW1.out.2.1.below hb2, HW1.out.2.2.below hb2, hr1, hr2⟩
  clear hst hsl1 hr1 hr2 hb2 HSR HO2
  by_cases hr : r < m
  · have hrl : r < l.length := by rw [HH.out.2.2.1]; exact hr
    obtain ⟨b, o, hidx, hblt, hcs⟩ := H2.out.2.2.1.row.at hrl
    have x := fun p : Bel w2 => (H2.out.2.2.1.below p.h).nine
    have y := fun p : Bel w2 => hcs p.now p.h
    have hfn := fun p : Bel w2 => HSF.out p.now (H2.out.2.2.1.below p.h)
    have hsl := fun p : Bel w2 => (H2.out.2.2.1.below p.h).sl
    have HG : Hid ((ahead n f l[r] → ∀ (hi : r < l.length), ahead n f l[r]) ∧ (¬ ahead n f l[r] → ¬ ∀ g ∈ l, ahead n f g ∨ ahead n g f)) := by
      refine ⟨fun h _ => h, fun h hc => ?_⟩
      rcases hc l[r] (List.getElem_mem _) with h1 | h1
      · exact h h1
      · exact H2.out.2.2.2.2 r hrl (Nat.le_refl _) h1
    have HGG : Hid (∀ (hi : r < l.length), ahead n f l[r] ↔ ahead n f l[r]) := fun _ => Iff.rfl
    generalize hgl : l[r] = g at y HG
    have x0 := fun p => (x p).c0
    have x1 := fun p => (x p).c1
    have x2 := fun p => (x p).c2
    have x3 := fun p => (x p).c3
    have x4 := fun p => (x p).c4
    have x5 := fun p => (x p).c5
    have x6 := fun p => (x p).c6
    have x7 := fun p => (x p).c7
    have x8 := fun p => (x p).c8
    have y0 := fun p => (y p).c0
    have y1 := fun p => (y p).c1
    have y2 := fun p => (y p).c2
    have y3 := fun p => (y p).c3
    have y4 := fun p => (y p).c4
    have y5 := fun p => (y p).c5
    have y6 := fun p => (y p).c6
    have y7 := fun p => (y p).c7
    have y8 := fun p => (y p).c8
    simp only [Nat.zero_add] at x1 x2 x3 x4 x5 x6 x7 x8
    have HGL : Hid (∀ (hi : r < l.length), l[r] = g) := fun _ => hgl
    clear x y hcs hgl HGG
    have hne : Nonempty (Bel w2) := ⟨⟨w2, Below.refl _ _⟩⟩
    go_wp2_with fail
    refine wp_region_bel (by kernel_rfl) (by kernel_rfl) ?_
    repeat (quiet_step (first | (refine bel_call (HK.out _ _ _))))
    refine wpQuiet_nil ?_
    rintro _ ⟨p, rfl⟩
    have H3 : Hid (Below w.heap.size w p.now ∧ OwnF p.now B a m c l ∧ See p.now n (w.heap.size + 2) w.heap.size (w.heap.size + 1) a m c l f) := ⟨H2.out.1.trans (p.h.mono H2.out.1.size), H2.out.2.1.below p.h, H2.out.2.2.1.below p.h⟩
    clear x0 x1 x2 x3 x4 x5 x6 x7 x8 y0 y1 y2 y3 y4 y5 y6 y7 y8 hfn hsl
    generalize p.now = w3 at H3 ⊢
    cases hq : od f g
    · have HA : Hid (¬ ahead n f g) := by
        have := HOD.out f g
        rw [hq] at this
        exact of_decide_eq_false this.symm
      go_wp2
      go_ret2
      exact ⟨Chg.of H3.out.1, .inr ⟨ret2 rfl rfl, HG.out.2 HA.out⟩⟩
    · have HA : Hid (ahead n f g) := by
        have := HOD.out f g
        rw [hq] at this
        exact (of_decide_eq_true this.symm : ahead n f g)
      have hsl3 : w3.cell? ⟨w.heap.size, 0, none⟩ = some (.slice a m c) := H3.out.2.2.sl
      obtain ⟨z0, z1, z2, z3, z4, z5, z6, z7, z8⟩ := H3.out.2.2.nine
      simp only [Nat.zero_add] at z1 z2 z3 z4 z5 z6 z7 z8
      have hin := insert_any (w := w3.alloc (.cells (fA f) TF)) (B := B) (i := r) (vb := w3.heap.size) (f := f) (H3.out.2.1.alloc _) hrm (Box.new _ _ _) (fun g hg => by
        have h1 := HH.out.2.2.2.2 g hg
        have h2 := H3.out.1.size
        omega) (Nat.le_trans HH.out.2.2.2.1 (Nat.le_trans H3.out.1.size (by simp))) hm
      have HCH : Hid (Chg (fun k => blkOf a = some k) w (w3.alloc (.cells (fA f) TF))) := Chg.of (H3.out.1.alloc H3.out.1.size _)
      go_wp2_with fail
      refine hin.mono ?_
      rintro _ w4 ⟨a', c', rfl, ho4, hc4⟩
      have H4 : Hid (Chg (fun k => blkOf a = some k) w w4 ∧ OwnF w4 B a' (m + 1) c' (insF n f l) ∧ ∀ g ∈ l, ahead n f g ∨ ahead n g f) := by
        have hx := insAt_row (n := n) (r := r) (l := l) (f := f) HH.out.1 HH.out.2.1 (by rw [HH.out.2.2.1]; exact hrm) H2.out.2.2.2.1 (fun hi => by rw [HGL.out hi]; exact HA.out)
        rw [← hx.1]
        exact ⟨HCH.out.andThen hc4 (fun k _ e => e), ho4, hx.2⟩
      clear ho4 hc4 hin
      go_wp2
      go_ret2
      exact ⟨H4.out.1, .inl ⟨a', c', ret2 rfl rfl, H4.out.2⟩⟩
  · have hsl2 : w2.cell? ⟨w.heap.size, 0, none⟩ = some (.slice a m c) := H2.out.2.2.1.sl
    have hrb : decide ((r : Int) < (m : Int)) = false := decide_eq_false (by omega)
    have hrN : decide (r < m) = false := decide_eq_false hr
    go_wp2_with fail
    go_quiet (fail)
    have H3 : Hid (Below w.heap.size w (w2.drewN nq) ∧ OwnF (w2.drewN nq) B a m c l ∧ See (w2.drewN nq) n (w.heap.size + 2) w.heap.size (w.heap.size + 1) a m c l f) := by
      have hb : Below w2.heap.size w2 (w2.drewN nq) := ⟨rfl, rfl, rfl, Nat.le_refl _, fun _ _ => rfl⟩
      exact ⟨H2.out.1.trans (hb.mono H2.out.1.size), H2.out.2.1.below hb, H2.out.2.2.1.below hb⟩
    generalize w2.drewN nq = w3 at H3 ⊢
    have hsl3 : w3.cell? ⟨w.heap.size, 0, none⟩ = some (.slice a m c) := H3.out.2.2.sl
    obtain ⟨z0, z1, z2, z3, z4, z5, z6, z7, z8⟩ := H3.out.2.2.nine
    simp only [Nat.zero_add] at z1 z2 z3 z4 z5 z6 z7 z8
    have hin := insert_any (w := w3.alloc (.cells (fA f) TF)) (B := B) (i := r) (vb := w3.heap.size) (f := f) (H3.out.2.1.alloc _) hrm (Box.new _ _ _) (fun g hg => by
      have h1 := HH.out.2.2.2.2 g hg
      have h2 := H3.out.1.size
      omega) (Nat.le_trans HH.out.2.2.2.1 (Nat.le_trans H3.out.1.size (by simp))) hm
    have HCH : Hid (Chg (fun k => blkOf a = some k) w (w3.alloc (.cells (fA f) TF))) := Chg.of (H3.out.1.alloc H3.out.1.size _)
    go_wp2_with fail
    refine hin.mono ?_
    rintro _ w4 ⟨a', c', rfl, ho4, hc4⟩
    have H4 : Hid (Chg (fun k => blkOf a = some k) w w4 ∧ OwnF w4 B a' (m + 1) c' (insF n f l) ∧ ∀ g ∈ l, ahead n f g ∨ ahead n g f) := by
      have hx := insAt_row (n := n) (r := r) (l := l) (f := f) HH.out.1 HH.out.2.1 (by rw [HH.out.2.2.1]; exact hrm) H2.out.2.2.2.1 (fun hi => by have := HH.out.2.2.1; omega)
      rw [← hx.1]
      exact ⟨HCH.out.andThen hc4 (fun k _ e => e), ho4, hx.2⟩
    clear ho4 hc4 hin
    go_wp2
    go_ret2
    exact ⟨H4.out.1, .inl ⟨a', c', ret2 rfl rfl, H4.out.2⟩⟩
end Go.Proofs.YtmlfbihlbiikeaaGreatDoor
