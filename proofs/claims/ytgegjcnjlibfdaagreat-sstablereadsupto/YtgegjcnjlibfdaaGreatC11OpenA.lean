/- A block in memory; the contract of block's parted. -/
import Derived.Test.YtgegjcnjlibfdaaGreatC11MemA
import Derived.Test.YtgegjcnjlibfdaaGreatC11TakeA
import Derived.Test.YtgegjcnjlibfdaaGreatC11PlainA
import Derived.RegionDies
import Derived.Test.YtgegjcnjlibfdaaGreatC11FnA
import Derived.Defers
import Derived.Recover
import Derived.Laws.Pointers
namespace Go.Proofs.YtgegjcnjlibfdaaGreat
set_option maxRecDepth 100000
open Go.RowKit
set_option linter.unusedVariables false
set_option linter.unusedSimpArgs false
abbrev TBk : TypeId := 147
/-- A block that a call made: all of it lies in blocks from B on. -/
structure BkAt (W : World) (B p : Nat) (iv sz : Nat) (ss : List (List UInt8)) : Prop where
  ge : B ≤ p
  here : ∃ g arr ab nb cb body, B ≤ g ∧ (∀ s ∈ ss, s.length ≤ 35184372088832) ∧ ss.length ≤ 1000000000000 ∧ Box W p TBk #[.slice (some ⟨g, 0, none⟩) ss.length ss.length, .int .i64 (iv : Int), .int .i64 (sz : Int)] ∧ Box W g TBs arr ∧ StrAt ab nb cb body arr 0 ss ∧ OwnB W B ab nb cb body
theorem BkAt.keep {W W' : World} {B p iv sz : Nat} {ss : List (List UInt8)} (h : BkAt W B p iv sz ss) (hk : ∀ k, B ≤ k → k < W.heap.size → W'.heap[k]? = W.heap[k]?) : BkAt W' B p iv sz ss := by
  obtain ⟨g, arr, ab, nb, cb, body, h1, h2, h2', h3, h4, h5, h6⟩ := h.here
  exact ⟨h.ge, g, arr, ab, nb, cb, body, h1, h2, h2', h3.kept (hk p h.ge h3.lt), h4.kept (hk g h1 h4.lt), h5, h6.kept fun k e => hk k (h6.ge e) (tag_lt (h6.tag e))⟩
theorem BkAt.below {W W' : World} {B p iv sz : Nat} {ss : List (List UInt8)} (h : BkAt W B p iv sz ss) (hb : Below W.heap.size W W') : BkAt W' B p iv sz ss := h.keep fun k _ hk => hb.block k hk
/-- What a block's cells are. -/
theorem BkAt.cells {W : World} {B p iv sz : Nat} {ss : List (List UInt8)} (h : BkAt W B p iv sz ss) : ∃ g, W.cell? ⟨p, 0, none⟩ = some (.slice (some ⟨g, 0, none⟩) ss.length ss.length) ∧ W.cell? ⟨p, 1, none⟩ = some (.int .i64 (iv : Int)) ∧ W.cell? ⟨p, 2, none⟩ = some (.int .i64 (sz : Int)) ∧ ss.length ≤ 1000000000000 ∧ ∀ j, ∀ hj : j < ss.length, ∃ aj cj, W.cell? ⟨g, j, none⟩ = some (.slice aj ss[j].length cj) ∧ BsAt W aj ss[j].length cj ss[j] ∧ ss[j].length ≤ 35184372088832 := by
  obtain ⟨g, arr, ab, nb, cb, body, h1, h2, h2', h3, h4, h5, h6⟩ := h.here
  refine ⟨g, h3.cell 0, h3.cell 1, h3.cell 2, h2', fun j hj => ?_⟩
  obtain ⟨aj, cj, e1, e2⟩ := h5.each j hj
  rw [Nat.zero_add] at e1
  exact ⟨aj, cj, by rw [h4.cell]; exact e1, e2 _ h6.bs, h2 _ (List.getElem_mem hj)⟩
theorem part_no {b : List UInt8} (h : ¬ (5 ≤ b.length ∧ 1 ≤ ivOf b ∧ ivOf b ≤ 16 ∧ countOf b ≤ (rest5 b).length / 4)) : partP b = none := by
  unfold partP
  rw [if_neg h]
theorem part_yes {b : List UInt8} (h : 5 ≤ b.length ∧ 1 ≤ ivOf b ∧ ivOf b ≤ 16 ∧ countOf b ≤ (rest5 b).length / 4) : partP b = cutsF (countOf b) ((rest5 b).take ((rest5 b).length - countOf b * 4)) ((rest5 b).drop ((rest5 b).length - countOf b * 4)) := by
  unfold partP
  rw [if_pos h]
theorem mem_flat_len {ss : List (List UInt8)} {s : List UInt8} (h : s ∈ ss) : s.length ≤ ss.flatten.length := by
  induction ss with
  | nil => cases h
  | cons x r ih =>
    rw [List.flatten_cons, List.length_append]
    rcases List.mem_cons.1 h with rfl | h
    · omega
    · have := ih h
      omega
set_option maxRecDepth 100000 in
set_option maxHeartbeats 2000000 in
theorem parted_any (a : Option Addr) (n c : Nat) (b : List UInt8) (w : World) (h : BsAt w a n c b) (hn : n ≤ 4000000000000) :
    Calls Tryz.prog 110 #[.slice a n c] w fun r w' => Below w.heap.size w w' ∧ ((partP b = none ∧ r = gaveUp) ∨ ∃ ss p, partP b = some ss ∧ r = .returned (at_ p) ∧ BkAt w' w.heap.size p (ivOf b) 0 ss) := by
  have HB : Hid (BsAt w a n c b) := h
  have HL : Hid (b.length = n) := h.size
  have h4 := cut_any a n c b 4 4 rfl (by omega) (by omega) w h
  clear h
  go_enter Tryz.func110, Tryz.ntmps110
  go_wp2_with fail
  refine h4.mono ?_
  rintro _ w1 ⟨hw, ⟨hno, rfl⟩ | ⟨hn4, a1, rfl, hp1⟩⟩
  · obtain rfl : w = w1 := hw
    exact ⟨rfl, Below.refl _ _, .inl ⟨part_no (by have := HL.out; omega), rfl⟩⟩
  obtain rfl : w = w1 := hw
  have H1 : Hid (BsAt w a1 (n - 4) c (b.take (n - 4))) := hp1 _ _ HB.out
  have HC : Hid (leNat (b.drop (n - 4)) = countOf b ∧ countOf b < 18446744073709551616) := by
    have e : leNat (b.drop (n - 4)) = countOf b := by unfold countOf; rw [HL.out]
    refine ⟨e, ?_⟩
    rw [← e]
    exact leNat_lt64 _ (by rw [List.length_drop]; have := HL.out; omega)
  rw [HC.out.1]
  generalize hcq : countOf b = cq at HC ⊢
  have HCQ : Hid (countOf b = cq) := hcq
  have hclt : cq < 18446744073709551616 := HC.out.2
  clear hp1 h4 hcq
  have h1 := cut_any a1 (n - 4) c (b.take (n - 4)) 1 1 rfl (by omega) (by omega) w H1.out
  go_wp2_with fail
  refine h1.mono ?_
  rintro _ w1 ⟨hw, ⟨hno, rfl⟩ | ⟨hn5, a2, rfl, hp2⟩⟩
  · obtain rfl : w = w1 := hw
    exact ⟨rfl, Below.refl _ _, .inl ⟨part_no (by have := HL.out; omega), rfl⟩⟩
  obtain rfl : w = w1 := hw
  have HR5 : Hid (rest5 b = (b.take (n - 4)).take (n - 4 - 1) ∧ ivOf b = leNat ((b.take (n - 4)).drop (n - 4 - 1)) ∧ (rest5 b).length = n - 5) := by
    refine ⟨?_, ?_, ?_⟩
    · unfold rest5
      rw [HL.out, List.take_take, Nat.min_eq_left (by omega)]
      rfl
    · unfold ivOf
      rw [HL.out]
      rfl
    · unfold rest5
      rw [HL.out, List.length_take, HL.out]
      omega
  have H2 : Hid (BsAt w a2 (n - 5) c (rest5 b)) := by
    have := hp2 _ _ H1.out
    rw [← HR5.out.1] at this
    exact this
  rw [← HR5.out.2.1, show n - 4 - 1 = n - 5 by omega]
  have hiv : ivOf b < 256 := by
    rw [HR5.out.2.1]
    refine Nat.lt_of_lt_of_le (leNat_lt _) ?_
    have : ((b.take (n - 4)).drop (n - 4 - 1)).length = 1 := by rw [List.length_drop, List.length_take, HL.out]; omega
    rw [this]
    omega
  have HIV : Hid (ivOf b = ivOf b) := rfl
  generalize hivq : ivOf b = iv at hiv ⊢
  have HIV2 : Hid (ivOf b = iv) := hivq
  clear hp2 h1 hivq
  have hcv := conv_u64_int iv (by omega)
  go_wp2_with fail
  by_cases hi16 : 1 ≤ iv ∧ iv ≤ 16
  case neg =>
    refine (mayBe_no _ (by omega) _).mono ?_
    rintro _ _ ⟨rfl, rfl⟩
    go_wp2_with fail
    refine (must_no _).mono ?_
    rintro _ _ ⟨rfl, rfl⟩
    exact ⟨rfl, Below.refl _ _, .inl ⟨part_no (by rw [HIV2.out]; omega), rfl⟩⟩
  refine (mayBe_yes _ (by omega) _).mono ?_
  rintro _ _ ⟨rfl, rfl⟩
  go_wp2_with fail
  refine (must_yes _).mono ?_
  rintro _ _ ⟨rfl, rfl⟩
  generalize hnr : n - 5 = nr at H2 HR5
  have hnr2 : nr ≤ 4000000000000 := by omega
  have HRL : Hid ((rest5 b).length = nr) := HR5.out.2.2
  have hcv2 := conv_int_u64 (nr / 4) (by omega)
  rw [show ((nr / 4 : Nat) : Int) = (nr : Int) / 4 by omega] at hcv2
  clear hnr hcv HR5 H1
  go_wp2_with fail
  by_cases hcl : cq ≤ nr / 4
  case neg =>
    rw [show decide ((cq : Int) ≤ (nr : Int) / 4) = false from decide_eq_false (by omega)]
    refine (must_no _).mono ?_
    rintro _ _ ⟨rfl, rfl⟩
    exact ⟨rfl, Below.refl _ _, .inl ⟨part_no (by rw [HCQ.out, HRL.out]; omega), rfl⟩⟩
  rw [show decide ((cq : Int) ≤ (nr : Int) / 4) = true from decide_eq_true (by omega)]
  refine (must_yes _).mono ?_
  rintro _ _ ⟨rfl, rfl⟩
  have HPY : Hid (partP b = cutsF cq ((rest5 b).take (nr - cq * 4)) ((rest5 b).drop (nr - cq * 4))) := by
    have := part_yes (b := b) ⟨by have := HL.out; omega, by rw [HIV2.out]; omega, by rw [HIV2.out]; omega, by rw [HCQ.out, HRL.out]; exact hcl⟩
    rw [HCQ.out, HRL.out] at this
    exact this
  have hcq4 : cq * 4 ≤ nr := by omega
  have hcv3 := conv_u64_int cq (by omega)
  have hcv4 := conv_u64_int iv (by omega)
  obtain ⟨p1, q1, r1⟩ := slice_to H2.out (nr - cq * 4) (by omega)
  obtain ⟨p2, q2, r2⟩ := slice_any H2.out (nr - cq * 4) (by omega)
  rw [show ((nr - cq * 4 : Nat) : Int) = (nr : Int) - (cq : Int) * 4 by omega] at q1 q2
  rw [show nr - (nr - cq * 4) = cq * 4 by omega] at q2
  have H3 : Hid (BsAt w p1 (nr - cq * 4) c ((rest5 b).take (nr - cq * 4)) ∧ BsAt w p2 (cq * 4) (c - (nr - cq * 4)) ((rest5 b).drop (nr - cq * 4))) := by
    refine ⟨r1 _ _ H2.out, ?_⟩
    have := r2 _ _ H2.out
    rw [show nr - (nr - cq * 4) = cq * 4 by omega] at this
    exact this
  clear r1 r2 hcv2
  go_wp2_with fail
  refine (clone_any _ _ _ _ _ H3.out.1 (by omega)).mono ?_
  rintro _ w1 ⟨a3, c3, rfl, ho3, hb3⟩
  have H4 : Hid (OwnB w1 w.heap.size a3 (nr - cq * 4) c3 ((rest5 b).take (nr - cq * 4)) ∧ Below w.heap.size w w1) := ⟨ho3, hb3⟩
  clear ho3 hb3
  have hcu := cuts_any a3 (nr - cq * 4) c3 _ p2 (cq * 4) (c - (nr - cq * 4)) _ cq w1 H4.out.1.bs (H3.out.2.below (Nat.le_refl _) H4.out.2) rfl (by omega) (by omega)
  go_wp2_with fail
  refine hcu.mono ?_
  rintro _ w2 ⟨hb2, ⟨hno, rfl⟩ | ⟨ss, arr, g, hss, rfl, hg, hbx, hst⟩⟩
  · exact ⟨rfl, H4.out.2.trans (hb2.mono H4.out.2.size), .inl ⟨by rw [HPY.out]; exact hno, rfl⟩⟩
  have hsl := cuts_some _ _ _ _ (by rw [List.length_drop, HRL.out]; omega) hss
  have HF : Hid (Below w.heap.size w w2 ∧ w.heap.size ≤ g ∧ Box w2 g TBs arr ∧ StrAt a3 (nr - cq * 4) c3 ((rest5 b).take (nr - cq * 4)) arr 0 ss ∧ OwnB w2 w.heap.size a3 (nr - cq * 4) c3 ((rest5 b).take (nr - cq * 4)) ∧ partP b = some ss ∧ ss.length = cq ∧ ∀ s ∈ ss, s.length ≤ 35184372088832) := by
    refine ⟨H4.out.2.trans (hb2.mono H4.out.2.size), by have := H4.out.2.size; omega, hbx, hst, H4.out.1.below hb2, by rw [HPY.out]; exact hss, hsl.1, fun s hs => ?_⟩
    have h1 := mem_flat_len hs
    rw [hsl.2.1, List.length_take] at h1
    omega
  clear hb2 hss hg hbx hst hsl hcu
  go_wp2
  go_ret
  refine ⟨HF.out.1.alloc HF.out.1.size _, .inr ⟨ss, w2.heap.size, HF.out.2.2.2.2.2.1, ret1 rfl, HF.out.1.size, g, arr, a3, nr - cq * 4, c3, _, HF.out.2.1, HF.out.2.2.2.2.2.2.2, ?_, ?_, HF.out.2.2.1.alloc _, HF.out.2.2.2.1, HF.out.2.2.2.2.1.alloc _⟩⟩
  · rw [HF.out.2.2.2.2.2.2.1]
    omega
  · rw [HF.out.2.2.2.2.2.2.1, HIV2.out]
    exact Box.new _ _ _
end Go.Proofs.YtgegjcnjlibfdaaGreat
/- The contracts of a block's entries and of its first. -/
namespace Go.Proofs.YtgegjcnjlibfdaaGreat
open Go.RowKit
set_option linter.unusedVariables false
set_option linter.unusedSimpArgs false
section
variable {W : World} {B p iv sz : Nat} {ss : List (List UInt8)}
theorem entries_some {a : Option Addr} {n c : Nat} {b : List UInt8} {most : Nat} {w : World} (h : BsAt w a n c b) (hn : n ≤ 35184372088832) (hmo : most ≤ 1000000) {l : List KV} (he : entsF most [] b = some l) :
    Calls Tryz.prog 116 #[.slice a n c, .int .i64 (most : Int)] w fun r w' => ∃ a' c', r = .returned (.slice a' l.length c') ∧ OwnK w' w.heap.size a' l.length c' l ∧ Below w.heap.size w w' := by
  refine (entries_any a n c b most w h hn hmo).mono ?_
  rintro r w' ⟨hb, ⟨h1, _⟩ | ⟨l', a', c', h1, h2, h3⟩⟩
  · rw [he] at h1; cases h1
  · rw [he] at h1
    obtain rfl := Option.some.inj h1
    exact ⟨a', c', h2, h3, hb⟩
theorem entries_none {a : Option Addr} {n c : Nat} {b : List UInt8} {most : Nat} {w : World} (h : BsAt w a n c b) (hn : n ≤ 35184372088832) (hmo : most ≤ 1000000) (he : entsF most [] b = none) :
    Calls Tryz.prog 116 #[.slice a n c, .int .i64 (most : Int)] w fun r w' => r = gaveUp ∧ Below w.heap.size w w' := by
  refine (entries_any a n c b most w h hn hmo).mono ?_
  rintro r w' ⟨hb, ⟨_, h1⟩ | ⟨l', a', c', h1, h2, h3⟩⟩
  · exact ⟨h1, hb⟩
  · rw [he] at h1; cases h1
set_option maxRecDepth 100000 in
set_option maxHeartbeats 2000000 in
theorem entM_some (h : BkAt W B p iv sz ss) (hiv : iv ≤ 16) {j : Nat} (hj : j < ss.length) {l : List KV} (he : entsF iv [] ss[j] = some l) :
    Calls Tryz.prog 87 #[at_ p, .int .i64 (j : Int)] W fun r w' => ∃ a' c', r = .returned (.slice a' l.length c') ∧ OwnK w' W.heap.size a' l.length c' l ∧ Below W.heap.size W w' := by
  obtain ⟨g, c0, c1, _, hmx, hall⟩ := h.cells
  obtain ⟨aj, cj, c2, hbs, hln⟩ := hall j hj
  have hc := entries_some (w := W.drew) (hbs.below (Nat.le_refl _) (Below.refl _ _).drew) hln (by omega) he
  have hix := fun V => idxBs g (n := ss.length) (c := ss.length) hj V
  generalize ss[j].length = nj at c2 hc
  generalize ss.length = m at c0 hix hmx
  clear hall hbs he hln hj
  have d0 : W.drew.cell? ⟨p, 0, none⟩ = some (.slice (some ⟨g, 0, none⟩) m m) := c0
  have d1 : W.drew.cell? ⟨p, 1, none⟩ = some (.int .i64 (iv : Int)) := c1
  have d2 : W.drew.cell? ⟨g, j, none⟩ = some (.slice aj nj cj) := c2
  go_enter Tryz.func87, Tryz.ntmps87
  go_wp2_with fail
  go_region_held3 (fun V => V.cell? ⟨p, 0, none⟩ = some (.slice (some ⟨g, 0, none⟩) m m) ∧ V.cell? ⟨p, 1, none⟩ = some (.int .i64 (iv : Int)) ∧ V.cell? ⟨g, j, none⟩ = some (.slice aj nj cj)) (first | exact ⟨d0, d1, d2⟩ | go_keep)
    (first | (go_at_call 116; refine hc.mono ?_; rintro _ vx ⟨a', c', rfl, ho, hb⟩
              have d0 : vx.cell? ⟨p, 0, none⟩ = some (.slice (some ⟨g, 0, none⟩) m m) := by rw [hb.cell (World.block_lt_of_cell? W _ c0)]; exact c0
              have d1 : vx.cell? ⟨p, 1, none⟩ = some (.int .i64 (iv : Int)) := by rw [hb.cell (World.block_lt_of_cell? W _ c1)]; exact c1
              have d2 : vx.cell? ⟨g, j, none⟩ = some (.slice aj nj cj) := by rw [hb.cell (World.block_lt_of_cell? W _ c2)]; exact c2))
  go_wp2
  go_ret
  exact ⟨a', c', ret1 rfl, ho, ((Below.refl _ _).drew).trans hb⟩
set_option maxRecDepth 100000 in
set_option maxHeartbeats 2000000 in
theorem entM_none (h : BkAt W B p iv sz ss) (hiv : iv ≤ 16) {j : Nat} (hj : j < ss.length) (he : entsF iv [] ss[j] = none) :
    Calls Tryz.prog 87 #[at_ p, .int .i64 (j : Int)] W fun r w' => r = gaveUp ∧ Below W.heap.size W w' := by
  obtain ⟨g, c0, c1, _, hmx, hall⟩ := h.cells
  obtain ⟨aj, cj, c2, hbs, hln⟩ := hall j hj
  have hc := entries_none (w := W.drew) (hbs.below (Nat.le_refl _) (Below.refl _ _).drew) hln (by omega) he
  have hix := fun V => idxBs g (n := ss.length) (c := ss.length) hj V
  generalize ss[j].length = nj at c2 hc
  generalize ss.length = m at c0 hix hmx
  clear hall hbs he hln hj
  have d0 : W.drew.cell? ⟨p, 0, none⟩ = some (.slice (some ⟨g, 0, none⟩) m m) := c0
  have d1 : W.drew.cell? ⟨p, 1, none⟩ = some (.int .i64 (iv : Int)) := c1
  have d2 : W.drew.cell? ⟨g, j, none⟩ = some (.slice aj nj cj) := c2
  go_enter Tryz.func87, Tryz.ntmps87
  go_wp2_with fail
  go_region_dies
  all_goals (refine hc.mono ?_; rintro _ vx ⟨rfl, hb⟩; exact ⟨rfl, rfl, ((Below.refl _ _).drew).trans hb⟩)
set_option maxRecDepth 100000 in
set_option maxHeartbeats 2000000 in
theorem first_any (h : BkAt W B p iv sz ss) {j : Nat} (hj : j < ss.length) {e : KV} {key rest : List UInt8} (he : takeB ss[j] [] = some (e, key, rest)) :
    Calls Tryz.prog 90 #[at_ p, .int .i64 (j : Int)] W fun r w' => r = .returned (.agg #[.string e.1.user, .int .u64 (e.1.seq : Int), .int .i64 e.1.kind, .string e.2]) ∧ Below W.heap.size W w' := by
  obtain ⟨g, c0, c1, _, hmx, hall⟩ := h.cells
  obtain ⟨aj, cj, c2, hbs, hln⟩ := hall j hj
  have HT : Hid (∀ V : World, Below W.heap.size W V → Calls Tryz.prog 117 #[.slice aj ss[j].length cj, .slice none 0 0] V fun r w' => ∃ ka kn kc ra rn rc, r = .returned (.tuple #[.agg #[.string e.1.user, .int .u64 (e.1.seq : Int), .int .i64 e.1.kind, .string e.2], .slice ka kn kc, .slice ra rn rc]) ∧ Below V.heap.size V w') := by
    intro V hV
    refine (take_any aj ss[j].length cj ss[j] none 0 0 [] W V hV hbs (BsAt.nil _) hln (by omega)).mono ?_
    rintro r w' ⟨hb, ⟨h1, _⟩ | ⟨e', key', rest', ka, kc, ra, rc, h1, h2, h3, h4⟩⟩
    · rw [he] at h1; cases h1
    · rw [he] at h1
      simp only [Option.some.injEq, Prod.mk.injEq] at h1
      obtain ⟨rfl, rfl, rfl⟩ := h1
      exact ⟨ka, _, kc, ra, _, rc, h2, hb⟩
  have hix := fun V => idxBs g (n := ss.length) (c := ss.length) hj V
  generalize ss[j].length = nj at c2 HT
  generalize ss.length = m at c0 hix hmx
  clear hall hbs he hln hj
  have HW1 : Hid (Below W.heap.size W (W.alloc (.cells kv0 TKV)) ∧ Box (W.alloc (.cells kv0 TKV)) W.heap.size TKV kv0) := ⟨(Below.refl _ _).alloc (Nat.le_refl _) _, Box.new _ _ _⟩
  have hpl : p < W.heap.size := World.block_lt_of_cell? W _ c0
  have hgl : g < W.heap.size := World.block_lt_of_cell? W _ c2
  have hpn : p ≠ W.heap.size := by omega
  have hgn : g ≠ W.heap.size := by omega
  go_enter Tryz.func90, Tryz.ntmps90
  go_wp2_with fail
  refine (HT.out _ HW1.out.1).mono ?_
  rintro _ w2 ⟨ka, kn, kc, ra, rn, rc, rfl, hb2⟩
  have HW2 : Hid (Below W.heap.size W w2 ∧ Box w2 W.heap.size TKV kv0) := ⟨HW1.out.1.trans (hb2.mono HW1.out.1.size), HW1.out.2.kept (hb2.block _ HW1.out.2.lt)⟩
  have x0 : w2.cell? ⟨W.heap.size, 0, none⟩ = some (.string ⟨#[]⟩) := HW2.out.2.cell 0
  have x1 : w2.cell? ⟨W.heap.size, 1, none⟩ = some (.int .u64 0) := HW2.out.2.cell 1
  have x2 : w2.cell? ⟨W.heap.size, 2, none⟩ = some (.int .i64 0) := HW2.out.2.cell 2
  have x3 : w2.cell? ⟨W.heap.size, 3, none⟩ = some (.string ⟨#[]⟩) := HW2.out.2.cell 3
  have y0 := HW2.out.2.soft 0
  have y1 := HW2.out.2.soft 1
  have y2 := HW2.out.2.soft 2
  have y3 := HW2.out.2.soft 3
  have hsz : W.heap.size < w2.heap.size := HW2.out.2.lt
  clear hb2
  go_wp2
  have HF : Hid (Box (((((w2.setCell ⟨W.heap.size, 0, none⟩ (.string e.1.user)).setCell ⟨W.heap.size, 1, none⟩ (.int .u64 (e.1.seq : Int))).setCell ⟨W.heap.size, 2, none⟩ (.int .i64 e.1.kind)).setCell ⟨W.heap.size, 3, none⟩ (.string e.2)).alloc (.cells #[.string e.1.user, .int .u64 (e.1.seq : Int), .int .i64 e.1.kind, .string e.2] TKV)) W.heap.size TKV #[.string e.1.user, .int .u64 (e.1.seq : Int), .int .i64 e.1.kind, .string e.2] ∧ Below W.heap.size W (((((w2.setCell ⟨W.heap.size, 0, none⟩ (.string e.1.user)).setCell ⟨W.heap.size, 1, none⟩ (.int .u64 (e.1.seq : Int))).setCell ⟨W.heap.size, 2, none⟩ (.int .i64 e.1.kind)).setCell ⟨W.heap.size, 3, none⟩ (.string e.2)).alloc (.cells #[.string e.1.user, .int .u64 (e.1.seq : Int), .int .i64 e.1.kind, .string e.2] TKV))) :=
    ⟨(((((HW2.out.2.set 0 _).set 1 _).set 2 _).set 3 _).eq (by simp [kv0])).alloc _, ((((HW2.out.1.setCell (by simp) _).setCell (by simp) _).setCell (by simp) _).setCell (by simp) _).alloc (by simp; omega) _⟩
  generalize ((((w2.setCell ⟨W.heap.size, 0, none⟩ (.string e.1.user)).setCell ⟨W.heap.size, 1, none⟩ (.int .u64 (e.1.seq : Int))).setCell ⟨W.heap.size, 2, none⟩ (.int .i64 e.1.kind)).setCell ⟨W.heap.size, 3, none⟩ (.string e.2)).alloc (.cells #[.string e.1.user, .int .u64 (e.1.seq : Int), .int .i64 e.1.kind, .string e.2] TKV) = wf at HF ⊢
  have r0 : wf.cell? ⟨W.heap.size, 0, none⟩ = some (.string e.1.user) := HF.out.1.cell 0
  have r1 : wf.cell? ⟨W.heap.size, 1, none⟩ = some (.int .u64 (e.1.seq : Int)) := HF.out.1.cell 1
  have r2 : wf.cell? ⟨W.heap.size, 2, none⟩ = some (.int .i64 e.1.kind) := HF.out.1.cell 2
  have r3 : wf.cell? ⟨W.heap.size, 3, none⟩ = some (.string e.2) := HF.out.1.cell 3
  exact bodyPost_ret (v := .agg #[.string e.1.user, .int .u64 (e.1.seq : Int), .int .i64 e.1.kind, .string e.2]) (by simp [results, Tryz.results90, go_sem, r0, r1, r2, r3]) rfl ⟨rfl, HF.out.2⟩
end
end Go.Proofs.YtgegjcnjlibfdaaGreat
/- The contract of a block's counted. -/
namespace Go.Proofs.YtgegjcnjlibfdaaGreat
open Go.RowKit
set_option linter.unusedVariables false
set_option linter.unusedSimpArgs false
theorem ents_ok : ∀ (f : Nat) (ah b : List UInt8) (l : List KV), entsF f ah b = some l → l.length ≤ f ∧ ∀ e ∈ l, e.1.err = 0 ∧ e.2.size ≤ b.length := by
  intro f
  induction f with
  | zero =>
    intro ah b l h
    unfold entsF at h
    split at h
    · obtain rfl := Option.some.inj h; simp
    · cases h
  | succ f ih =>
    intro ah b l h
    by_cases hb : b = []
    · subst hb; rw [entsF_nil] at h; obtain rfl := Option.some.inj h; simp
    · cases ht : takeB b ah with
      | none => rw [entsF_no hb ht] at h; cases h
      | some x =>
        obtain ⟨e, key, rest⟩ := x
        rw [entsF_yes hb ht] at h
        obtain ⟨l1, h1, rfl⟩ := Option.map_eq_some_iff.1 h
        have hi := ih _ _ _ h1
        obtain ⟨t1, t2, t3, t4, t5⟩ := takeB_some ht
        refine ⟨by simp; omega, fun x hx => ?_⟩
        rcases List.mem_cons.1 hx with rfl | hx
        · exact ⟨t1, t4⟩
        · have := hi.2 x hx
          exact ⟨this.1, by omega⟩
theorem chk_ahead (ah : Option KV) (h : ∀ x, ah = some x → EOk x) (l : List KV) : chkL (ah.toList ++ l) = chkGo (ah.map (·.1)) l := by
  cases ah with
  | none => rfl
  | some x =>
    have hx := h x rfl
    show chkGo none (x :: l) = chkGo (some x.1) l
    rw [chkGo, if_neg (by rw [hx.1]; simp), if_neg (by have := hx.2; omega), if_neg (by simp)]
theorem cnt_step {iv : Nat} {ah : Option IK} {ss : List (List UInt8)} {k : Nat} (hk : k < ss.length) : cntF iv ah (ss.drop k) = match entsF iv [] ss[k] with
    | none => none
    | some l => if (l.length = iv ∨ (0 < l.length ∧ ss.drop (k + 1) = [])) ∧ chkGo ah l = 0 ∧ strB [] l = ss[k] then (cntF iv (l.getLast?.map (·.1)) (ss.drop (k + 1))).map (l :: ·) else none := by
  rw [List.drop_eq_getElem_cons hk, cntF]
  rfl
theorem last_drop {l : List KV} {n : Nat} (h : l.length = n + 1) : l.drop n = l.getLast?.toList := by
  have hne : l ≠ [] := fun e => by rw [e] at h; simp at h
  conv => lhs; rw [← List.dropLast_concat_getLast hne]
  rw [List.drop_left' (by rw [List.length_dropLast]; omega), List.getLast?_eq_some_getLast hne]
  rfl
/-- Where counted is. -/
structure CT (w wr : World) (iv : Nat) (ss : List (List UInt8)) (k N : Nat) (ha : Option Addr) (hn hc : Nat) : Prop where
  base : Below w.heap.size w wr
  rest : ∃ (ah : Option KV) (done : List (List KV)), KsAt wr ha hn hc ah.toList ∧ (ha = none → hc = 0) ∧ (∀ x, ah = some x → EOk x) ∧ N = done.flatten.length ∧ cntF iv none ss = (cntF iv (ah.map (·.1)) (ss.drop k)).map (done ++ ·)
set_option maxRecDepth 100000 in
set_option maxHeartbeats 4000000 in
theorem counted_any {W : World} {B p iv sz : Nat} {ss : List (List UInt8)} (h : BkAt W B p iv sz ss) (h1 : 1 ≤ iv) (h16 : iv ≤ 16) :
    Calls Tryz.prog 111 #[at_ p] W fun r w' => Below W.heap.size W w' ∧ ((cntF iv none ss = none ∧ r = gaveUp) ∨ ∃ ls, cntF iv none ss = some ls ∧ r = .returned (.int .i64 ((ls.flatten.length : Nat) : Int))) := by
  have HB : Hid (BkAt W B p iv sz ss) := h
  obtain ⟨g, c0, c1, _, hmx, hall⟩ := h.cells
  have HA : Hid (∀ j, ∀ hj : j < ss.length, ∃ aj cj, W.cell? ⟨g, j, none⟩ = some (.slice aj ss[j].length cj) ∧ BsAt W aj ss[j].length cj ss[j] ∧ ss[j].length ≤ 35184372088832) := hall
  have hpl : p < W.heap.size := World.block_lt_of_cell? W _ c0
  generalize hm : ss.length = m at c0 hmx
  have HM : Hid (ss.length = m) := hm
  clear h hall hm
  go_enter Tryz.func111, Tryz.ntmps111
  go_wp2_with fail
  go_loopw [3, 4, 14] (fun x3 x4 x wr => ∃ (k N hn hc : Nat) (ha : Option Addr), k ≤ m ∧ N ≤ 16 * k ∧ hn ≤ 1 ∧ x = .int .i64 (k : Int) ∧ x3 = .int .i64 (N : Int) ∧ x4 = .slice ha hn hc ∧ Hid (CT W wr iv ss k N ha hn hc)) (fun _ _ x _ => m - (intOf x).toNat)
  case atStart => exact ⟨0, 0, 0, 0, none, Nat.zero_le _, by omega, by omega, rfl, rfl, rfl, Below.refl _ _, none, [], KsAt.nil _, fun _ => rfl, fun x e => (by cases e), rfl, by simp⟩
  case round =>
    obtain ⟨k, N, hn, hc, ha, hk, hN, hhn, rfl, rfl, rfl, HI⟩ := hrel
    by_cases hkm : k < m
    · have hkl : k < ss.length := by rw [HM.out]; exact hkm
      obtain ⟨aj, cj, e1, e2, e3⟩ := HA.out k hkl
      have HBW : Hid (BkAt wr B p iv sz ss) := HB.out.below HI.out.base
      have hgl : g < W.heap.size := World.block_lt_of_cell? W _ e1
      have c2 : wr.cell? ⟨g, k, none⟩ = some (.slice aj ss[k].length cj) := by rw [HI.out.base.cell hgl]; exact e1
      have HBS : Hid (BsAt W aj ss[k].length cj ss[k] ∧ ss[k].length ≤ 35184372088832) := ⟨e2, e3⟩
      have hix := fun V => idxBs g (n := m) (c := m) hkm V
      obtain ⟨ah, done, i1, i2, i3, i4, i5⟩ := HI.out.rest
      rw [cnt_step hkl] at i5
      cases hen : entsF iv [] ss[k] with
      | none =>
        rw [hen] at i5
        have HR : Hid (cntF iv none ss = none) := by rw [i5]; rfl
        have hem := entM_none HBW.out h16 hkl hen
        generalize ss[k].length = nj at c2 HBS
        clear i1 i2 i3 i4 i5 hen e1 e2 e3
        go_wp2_with fail
        refine hem.mono ?_
        rintro _ w2 ⟨rfl, hb2⟩
        exact ⟨rfl, HI.out.base.trans (hb2.mono HI.out.base.size), .inl ⟨HR.out, rfl⟩⟩
      | some l =>
        rw [hen] at i5
        simp only at i5
        have hem := entM_some HBW.out h16 hkl hen
        have hok := ents_ok _ _ _ _ hen
        have HX : Hid (KsAt wr ha hn hc ah.toList ∧ (ha = none → hc = 0) ∧ (∀ x, ah = some x → EOk x) ∧ N = done.flatten.length) := ⟨i1, i2, i3, i4⟩
        have HI5 : Hid (cntF iv none ss = (if (l.length = iv ∨ (0 < l.length ∧ ss.drop (k + 1) = [])) ∧ chkGo (ah.map (·.1)) l = 0 ∧ strB [] l = ss[k] then (cntF iv (l.getLast?.map (·.1)) (ss.drop (k + 1))).map (l :: ·) else none).map (done ++ ·)) := i5
        have HOK : Hid (∀ e ∈ l, e.1.err = 0 ∧ e.2.size ≤ ss[k].length) := hok.2
        have hll : l.length ≤ 16 := by have := hok.1; omega
        generalize hsk : ss[k] = sk at c2 HBS HI5 HOK hem
        clear i1 i2 i3 i4 i5 hen e1 e2 e3 hok hsk
        generalize hll2 : l.length = ll at hem hll HI5
        have HLL : Hid (l.length = ll) := hll2
        clear hll2
        go_wp2_with fail
        refine hem.mono ?_
        rintro _ w2 ⟨al, cl, rfl, hol, hb2⟩
        have HW2 : Hid (Below W.heap.size W w2 ∧ Below wr.heap.size wr w2 ∧ OwnK w2 wr.heap.size al ll cl l) := ⟨HI.out.base.trans (hb2.mono HI.out.base.size), hb2, hol⟩
        have d1 : w2.cell? ⟨p, 1, none⟩ = some (.int .i64 (iv : Int)) := by rw [HW2.out.1.cell hpl]; exact c1
        have d0 : w2.cell? ⟨p, 0, none⟩ = some (.slice (some ⟨g, 0, none⟩) m m) := by rw [HW2.out.1.cell hpl]; exact c0
        clear hb2 hol hem
        have HD : Hid (ss.drop (k + 1) = [] ↔ k + 1 = m) := by
          show ss.drop (k + 1) = [] ↔ k + 1 = m
          rw [List.drop_eq_nil_iff, HM.out]
          exact ⟨fun h => by omega, fun h => by omega⟩
        have HNO : Hid (¬ ((ll = iv ∨ (0 < ll ∧ ss.drop (k + 1) = [])) ∧ chkGo (ah.map (·.1)) l = 0 ∧ strB [] l = sk) → cntF iv none ss = none) := fun hno => by rw [HI5.out, if_neg hno]; rfl
        have HCC : Hid (Calls Tryz.prog 128 #[.slice (some ⟨w2.heap.size, 0, none⟩) 2 2] (w2.alloc (.cells #[.slice ha hn hc, .slice al ll cl] 23)) fun r w' => ∃ a' c', r = .returned (.slice a' (hn + ll) c') ∧ KsAt w' a' (hn + ll) c' (ah.toList ++ l) ∧ Below w2.heap.size w2 w') := by
          have hb : Below w2.heap.size w2 (w2.alloc (.cells #[.slice ha hn hc, .slice al ll cl] 23)) := (Below.refl _ _).alloc (Nat.le_refl _) _
          have hBox := Box.new w2 23 #[.slice ha hn hc, .slice al ll cl]
          refine (concatK_any w2.heap.size 2 (by omega) [⟨ha, hn, hc, ah.toList⟩, ⟨al, ll, cl, l⟩] rfl (by simp [sumK]; omega) _ ?_).mono ?_
          · intro j hj
            have hj2 : j < 2 := hj
            rcases (by omega : j = 0 ∨ j = 1) with rfl | rfl
            · exact ⟨hBox.cell 0, HX.out.1.below (HW2.out.2.1.trans (hb.mono HW2.out.2.1.size)), HX.out.2.1⟩
            · exact ⟨hBox.cell 1, HW2.out.2.2.ks.below hb, HW2.out.2.2.spot.1⟩
          · rintro _ w' ⟨ka, kc, rfl, ho, hb'⟩
            simp [sumK, allK] at ho
            exact ⟨ka, kc, by simp [sumK], ho.ks, hb.trans (hb'.mono (by simp))⟩
        have HWf : Hid (WfL (ah.toList ++ l)) := fun e he => by
          rcases List.mem_append.1 he with he | he
          · have hx := HX.out.2.2.1 e (by simpa using he)
            exact ⟨by have := err_le hx.1; omega, by have := hx.2; omega⟩
          · obtain ⟨h1, h2⟩ := HOK.out e he
            exact ⟨by have := err_le h1; omega, by have := HBS.out.2; omega⟩
        have HCA : Hid (chkL (ah.toList ++ l) = chkGo (ah.map (·.1)) l) := chk_ahead ah HX.out.2.2.1 l
        have hskl := HBS.out.2
        generalize hskn : sk.length = skn at c2 hskl HBS
        clear hskn
        by_cases hfull : ll = iv
        · have gb : ((ll : Int) == (iv : Int)) = true := by simp [hfull]
          have HF : Hid (ll = iv ∨ (0 < ll ∧ ss.drop (k + 1) = [])) := .inl hfull
          have hpos : 0 < ll := by omega
          clear hfull
          go_wp2_with fail
          refine (must_yes _).mono ?_
          rintro _ _ ⟨rfl, rfl⟩
          go_wp2_with fail
          refine HCC.out.mono ?_
          rintro _ w3 ⟨a3, c3, rfl, hk3, hb3⟩
          have H3 : Hid (Below W.heap.size W w3 ∧ OwnK w3 wr.heap.size al ll cl l ∧ KsAt w3 a3 (hn + ll) c3 (ah.toList ++ l)) := ⟨HW2.out.1.trans (hb3.mono HW2.out.1.size), HW2.out.2.2.below hb3, hk3⟩
          have hchk := bcheck_any a3 (hn + ll) c3 _ w3 H3.out.2.2 HWf.out
          rw [HCA.out] at hchk
          clear hk3 hb3
          generalize hcg : chkGo (ah.map (·.1)) l = cg at hchk
          have HCG : Hid (chkGo (ah.map (·.1)) l = cg) := hcg
          clear hcg
          go_wp2_with fail
          refine hchk.mono ?_
          rintro _ w4 ⟨rfl, hb4⟩
          have H4 : Hid (Below W.heap.size W w4 ∧ OwnK w4 wr.heap.size al ll cl l) := ⟨H3.out.1.trans (hb4.mono H3.out.1.size), H3.out.2.1.below hb4⟩
          clear hb4 hchk
          by_cases hcg0 : cg = 0
          · subst hcg0
            go_wp2_with fail
            refine (must_yes _).mono ?_
            rintro _ _ ⟨rfl, rfl⟩
            have HEO : Hid (∀ e ∈ l, EOk e) := (chkGo_zero.1 HCG.out).1
            have hst := stretch_any al ll cl l w4 H4.out.2.ks HEO.out (by omega)
            have HSB : Hid (strB [] l = strB [] l) := rfl
            generalize hsb : strB [] l = sb at hst
            have HSB2 : Hid (strB [] l = sb) := hsb
            clear hsb
            generalize sb.length = sbn at hst
            go_wp2_with fail
            refine hst.mono ?_
            rintro _ w5 ⟨a5, c5, rfl, ho5, hb5⟩
            have H5 : Hid (Below W.heap.size W w5 ∧ OwnK w5 wr.heap.size al ll cl l) := ⟨H4.out.1.trans (hb5.mono H4.out.1.size), H4.out.2.below hb5⟩
            have heq := equal_any a5 aj sbn c5 skn cj sb sk w5 ho5.bs (HBS.out.1.below (Nat.le_refl _) H5.out.1)
            clear ho5 hb5 hst
            go_wp2_with fail
            refine heq.mono ?_
            rintro _ _ ⟨rfl, rfl⟩
            by_cases hse : sb = sk
            · rw [show decide (sb = sk) = true from decide_eq_true hse]
              go_wp2_with fail
              refine (must_yes _).mono ?_
              rintro _ _ ⟨rfl, rfl⟩
              obtain ⟨nx, hnx⟩ : ∃ nx, ll = nx + 1 := ⟨ll - 1, by omega⟩
              obtain ⟨p6, q6, r6, s6, _⟩ := ks_from H5.out.2.ks H5.out.2.spot.1 H5.out.2.spot.2 (ll - 1) (by omega)
              rw [show ((ll - 1 : Nat) : Int) = (ll : Int) - 1 by omega, show ll - (ll - 1) = 1 by omega] at q6
              have HE : Hid (CT W w5 iv ss (k + 1) (N + ll) p6 1 (cl - (ll - 1))) := by
                have hks := r6 _ _ H5.out.2.ks
                have hlast : l.drop (ll - 1) = l.getLast?.toList := last_drop (by rw [HLL.out]; omega)
                rw [hlast, show ll - (ll - 1) = 1 by omega] at hks
                refine ⟨H5.out.1, l.getLast?, done ++ [l], hks, s6, fun x hx => HEO.out x (List.mem_of_getLast? hx), ?_, ?_⟩
                · rw [List.flatten_append, List.length_append, HX.out.2.2.2]
                  simp [HLL.out]
                · rw [HI5.out, if_pos ⟨HF.out, HCG.out, by rw [HSB2.out]; exact hse⟩, Option.map_map]
                  congr 1
                  funext x
                  simp
              clear r6 s6 hnx
              go_wp2
              go_roundw
              case rel => exact ⟨k + 1, N + ll, 1, cl - (ll - 1), p6, by omega, by omega, Nat.le_refl _, by go_num, by go_num, rfl, HE.out⟩
              case measure => simp only [intOf]; omega
            · rw [show decide (sb = sk) = false from decide_eq_false hse]
              go_wp2_with fail
              refine (must_no _).mono ?_
              rintro _ _ ⟨rfl, rfl⟩
              exact ⟨rfl, H5.out.1, .inl ⟨HNO.out (fun h => hse (by rw [← HSB2.out]; exact h.2.2)), rfl⟩⟩
          · have gc : ((cg : Int) == 0) = false := by simp; omega
            go_wp2_with fail
            refine (must_no _).mono ?_
            rintro _ _ ⟨rfl, rfl⟩
            exact ⟨rfl, H4.out.1, .inl ⟨HNO.out (fun h => hcg0 (by rw [← HCG.out]; exact h.2.1)), rfl⟩⟩
        · have gb : ((ll : Int) == (iv : Int)) = false := by simp; omega
          by_cases hpos : 0 < ll
          · by_cases hlast : k + 1 = m
            · have HF : Hid (ll = iv ∨ (0 < ll ∧ ss.drop (k + 1) = [])) := .inr ⟨hpos, HD.out.2 hlast⟩
              have g2 : ((k : Int) == (m : Int) - 1) = true := by simp; omega
              have HLA : Hid (k + 1 = m) := hlast
              clear hfull hlast
              go_wp2_with fail
              refine (must_yes _).mono ?_
              rintro _ _ ⟨rfl, rfl⟩
              go_wp2_with fail
              refine HCC.out.mono ?_
              rintro _ w3 ⟨a3, c3, rfl, hk3, hb3⟩
              have H3 : Hid (Below W.heap.size W w3 ∧ OwnK w3 wr.heap.size al ll cl l ∧ KsAt w3 a3 (hn + ll) c3 (ah.toList ++ l)) := ⟨HW2.out.1.trans (hb3.mono HW2.out.1.size), HW2.out.2.2.below hb3, hk3⟩
              have hchk := bcheck_any a3 (hn + ll) c3 _ w3 H3.out.2.2 HWf.out
              rw [HCA.out] at hchk
              clear hk3 hb3
              generalize hcg : chkGo (ah.map (·.1)) l = cg at hchk
              have HCG : Hid (chkGo (ah.map (·.1)) l = cg) := hcg
              clear hcg
              go_wp2_with fail
              refine hchk.mono ?_
              rintro _ w4 ⟨rfl, hb4⟩
              have H4 : Hid (Below W.heap.size W w4 ∧ OwnK w4 wr.heap.size al ll cl l) := ⟨H3.out.1.trans (hb4.mono H3.out.1.size), H3.out.2.1.below hb4⟩
              clear hb4 hchk
              by_cases hcg0 : cg = 0
              · subst hcg0
                go_wp2_with fail
                refine (must_yes _).mono ?_
                rintro _ _ ⟨rfl, rfl⟩
                have HEO : Hid (∀ e ∈ l, EOk e) := (chkGo_zero.1 HCG.out).1
                have hst := stretch_any al ll cl l w4 H4.out.2.ks HEO.out (by omega)
                have HSB : Hid (strB [] l = strB [] l) := rfl
                generalize hsb : strB [] l = sb at hst
                have HSB2 : Hid (strB [] l = sb) := hsb
                clear hsb
                generalize sb.length = sbn at hst
                go_wp2_with fail
                refine hst.mono ?_
                rintro _ w5 ⟨a5, c5, rfl, ho5, hb5⟩
                have H5 : Hid (Below W.heap.size W w5 ∧ OwnK w5 wr.heap.size al ll cl l) := ⟨H4.out.1.trans (hb5.mono H4.out.1.size), H4.out.2.below hb5⟩
                have heq := equal_any a5 aj sbn c5 skn cj sb sk w5 ho5.bs (HBS.out.1.below (Nat.le_refl _) H5.out.1)
                clear ho5 hb5 hst
                go_wp2_with fail
                refine heq.mono ?_
                rintro _ _ ⟨rfl, rfl⟩
                by_cases hse : sb = sk
                · rw [show decide (sb = sk) = true from decide_eq_true hse]
                  go_wp2_with fail
                  refine (must_yes _).mono ?_
                  rintro _ _ ⟨rfl, rfl⟩
                  obtain ⟨nx, hnx⟩ : ∃ nx, ll = nx + 1 := ⟨ll - 1, by omega⟩
                  obtain ⟨p6, q6, r6, s6, _⟩ := ks_from H5.out.2.ks H5.out.2.spot.1 H5.out.2.spot.2 (ll - 1) (by omega)
                  rw [show ((ll - 1 : Nat) : Int) = (ll : Int) - 1 by omega, show ll - (ll - 1) = 1 by omega] at q6
                  have HE : Hid (CT W w5 iv ss (k + 1) (N + ll) p6 1 (cl - (ll - 1))) := by
                    have hks := r6 _ _ H5.out.2.ks
                    have hlast : l.drop (ll - 1) = l.getLast?.toList := last_drop (by rw [HLL.out]; omega)
                    rw [hlast, show ll - (ll - 1) = 1 by omega] at hks
                    refine ⟨H5.out.1, l.getLast?, done ++ [l], hks, s6, fun x hx => HEO.out x (List.mem_of_getLast? hx), ?_, ?_⟩
                    · rw [List.flatten_append, List.length_append, HX.out.2.2.2]
                      simp [HLL.out]
                    · rw [HI5.out, if_pos ⟨HF.out, HCG.out, by rw [HSB2.out]; exact hse⟩, Option.map_map]
                      congr 1
                      funext x
                      simp
                  clear r6 s6 hnx
                  go_wp2
                  go_roundw
                  case rel => exact ⟨k + 1, N + ll, 1, cl - (ll - 1), p6, by omega, by omega, Nat.le_refl _, by go_num, by go_num, rfl, HE.out⟩
                  case measure => simp only [intOf]; omega
                · rw [show decide (sb = sk) = false from decide_eq_false hse]
                  go_wp2_with fail
                  refine (must_no _).mono ?_
                  rintro _ _ ⟨rfl, rfl⟩
                  exact ⟨rfl, H5.out.1, .inl ⟨HNO.out (fun h => hse (by rw [← HSB2.out]; exact h.2.2)), rfl⟩⟩
              · have gc : ((cg : Int) == 0) = false := by simp; omega
                go_wp2_with fail
                refine (must_no _).mono ?_
                rintro _ _ ⟨rfl, rfl⟩
                exact ⟨rfl, H4.out.1, .inl ⟨HNO.out (fun h => hcg0 (by rw [← HCG.out]; exact h.2.1)), rfl⟩⟩
            · have g2 : ((k : Int) == (m : Int) - 1) = false := by simp; omega
              have HF : Hid (¬ (ll = iv ∨ (0 < ll ∧ ss.drop (k + 1) = []))) := fun h => h.elim hfull (fun h => hlast (HD.out.1 h.2))
              clear hfull
              go_wp2_with fail
              refine (must_no _).mono ?_
              rintro _ _ ⟨rfl, rfl⟩
              exact ⟨rfl, HW2.out.1, .inl ⟨HNO.out (fun h => HF.out h.1), rfl⟩⟩
          · have HF : Hid (¬ (ll = iv ∨ (0 < ll ∧ ss.drop (k + 1) = []))) := fun h => h.elim hfull (fun h => hpos h.1)
            obtain rfl : ll = 0 := by omega
            have g0 : ((0 : Int) == (iv : Int)) = false := by simp; omega
            clear hfull
            go_wp2_with fail
            refine (must_no _).mono ?_
            rintro _ _ ⟨rfl, rfl⟩
            exact ⟨rfl, HW2.out.1, .inl ⟨HNO.out (fun h => HF.out h.1), rfl⟩⟩
    · obtain rfl : k = m := by omega
      go_wp2
      go_ret
      obtain ⟨ah, done, _, _, _, i4, i5⟩ := HI.out.rest
      rw [List.drop_eq_nil_of_le (by rw [HM.out]; exact Nat.le_refl _), cntF] at i5
      exact ⟨HI.out.base, .inr ⟨done, by rw [i5]; simp, ret1 (by rw [i4]; rfl)⟩⟩
end Go.Proofs.YtgegjcnjlibfdaaGreat
/- The contract of block's Open: bytes that are no block's are given up by a panic, which is recovered. -/
namespace Go.Proofs.YtgegjcnjlibfdaaGreat
open Go.RowKit
set_option linter.unusedVariables false
set_option linter.unusedSimpArgs false
abbrev TPB : TypeId := 92
abbrev TEr : TypeId := 28
set_option maxRecDepth 100000 in
theorem catch_panicking (q1 q2 : Nat) (v1 v2 : Value) (u : TypeId) (pv : Value) (older : List PanicEntry) (w : World) (hne : q1 ≠ q2) (h1 : Box w q1 TPB #[v1]) (h2 : Box w q2 TEr #[v2]) :
    CallsD Tryz.prog 109 #[at_ q1, at_ q2] (.panicking ({ v := .iface u pv, recovered := false } :: older)) w fun e u' w' =>
      e = .returned (.tuple #[]) ∧ u' = .panicking ({ v := .iface u pv, recovered := true } :: older) ∧ w' = (w.setCell ⟨q1, 0, none⟩ (.pointer none)).setCell ⟨q2, 0, none⟩ (.int .i64 111) := by
  have c1 : w.cell? ⟨q1, 0, none⟩ = some v1 := h1.cell 0
  have c2 : w.cell? ⟨q2, 0, none⟩ = some v2 := h2.cell 0
  have z1 := h1.soft 0
  have z2 := h2.soft 0
  refine callsD_of_wpS Tryz.func109 rfl fun c₀ cs hu => ?_
  apply wpS_seq
  apply wpS_region
  simp [wpOpsS, go_sem, recoverD, hu, Tryz.ntmps109, Exit.thenS]
  refine wpS_cond (t := true) (by simp [Act.eval, Array.replicate]) ?_
  simp only [if_true]
  apply wpS_region
  simp [wpOpsS, go_sem, c1, c2, z1, z2, hne, bodyPostS, results, Tryz.results109]
set_option maxRecDepth 100000 in
theorem catch_idle (q1 q2 : Nat) (w : World) :
    CallsD Tryz.prog 109 #[at_ q1, at_ q2] .returning w fun e u' w' => e = .returned (.tuple #[]) ∧ u' = .returning ∧ w' = w := by
  refine callsD_of_wpS Tryz.func109 rfl fun c₀ cs hu => ?_
  apply wpS_seq
  apply wpS_region
  simp [wpOpsS, go_sem, recoverD, hu, Tryz.ntmps109, Exit.thenS]
  refine wpS_cond (t := false) (by simp [Act.eval, Array.replicate]) ?_
  simp only [Bool.false_eq_true, if_false]
  refine wpS_of_wp (wp_skip ?_)
  cases c₀
  simp_all [bodyPostS, results, Tryz.results109]
theorem BkAt.soft {W : World} {B p iv sz : Nat} {ss : List (List UInt8)} (h : BkAt W B p iv sz ss) (j : Nat) : W.frozen? ⟨p, j, none⟩ = false := by
  obtain ⟨g, arr, ab, nb, cb, body, h1, h2, h2', h3, h4, h5, h6⟩ := h.here
  exact h3.soft j
theorem BkAt.sized {W : World} {B p iv sz : Nat} {ss : List (List UInt8)} (h : BkAt W B p iv sz ss) (n : Nat) : BkAt (W.setCell ⟨p, 2, none⟩ (.int .i64 (n : Int))) B p iv n ss := by
  obtain ⟨g, arr, ab, nb, cb, body, h1, h2, h2', h3, h4, h5, h6⟩ := h.here
  have hgp : g ≠ p := tag_ne h4.tag h3.tag (by decide)
  refine ⟨h.ge, g, arr, ab, nb, cb, body, h1, h2, h2', (h3.set 2 _).eq (by simp), h4.other hgp 2 _, h5, h6.kept fun k e => Below.heap_setCell _ _ _ _ (fun e' => ?_)⟩
  exact tag_ne (h6.tag e) h3.tag (by decide) e'
theorem BkAt.less {W : World} {B B' p iv sz : Nat} {ss : List (List UInt8)} (h : BkAt W B p iv sz ss) (hB : B' ≤ B) : BkAt W B' p iv sz ss := by
  obtain ⟨g, arr, ab, nb, cb, body, h1, h2, h2', h3, h4, h5, h6⟩ := h.here
  exact ⟨Nat.le_trans hB h.ge, g, arr, ab, nb, cb, body, Nat.le_trans hB h1, h2, h2', h3, h4, h5, h6.mono hB⟩
theorem open_none1 {b : List UInt8} (h : partP b = none) : openP b = none := by unfold openP; rw [h]
theorem open_none2 {b : List UInt8} {ss : List (List UInt8)} (h : partP b = some ss) (h2 : cntF (ivOf b) none ss = none) : openP b = none := by unfold openP; rw [h]; simp [h2]
theorem open_yes {b : List UInt8} {ss : List (List UInt8)} {ls : List (List KV)} (h : partP b = some ss) (h2 : cntF (ivOf b) none ss = some ls) : openP b = some (ss, ls) := by unfold openP; rw [h]; simp [h2]
set_option maxRecDepth 100000 in
set_option maxHeartbeats 4000000 in
theorem open_any (a : Option Addr) (n c : Nat) (b : List UInt8) (w : World) (h : BsAt w a n c b) (hn : n ≤ 4000000000000) :
    Calls Tryz.prog 77 #[.slice a n c] w fun r w' => Below w.heap.size w w' ∧ ((openP b = none ∧ r = .returned (.tuple #[.pointer none, .int .i64 111])) ∨ ∃ ss ls p, openP b = some (ss, ls) ∧ r = .returned (.tuple #[at_ p, .int .i64 0]) ∧ BkAt w' w.heap.size p (ivOf b) ls.flatten.length ss) := by
  have hmf : ∀ (fn : Fn) (first cap : Array Value) (w : World), (Instr.makeFunc fn first cap).run Tryz.prog w = .ok (.func fn first cap) w := fun _ _ _ _ => rfl
  have HB : Hid (BsAt w a n c b) := h
  have W1 : Hid (Below w.heap.size w ((w.alloc (.cells #[.pointer none] TPB)).alloc (.cells #[.int .i64 0] TEr)) ∧ Box ((w.alloc (.cells #[.pointer none] TPB)).alloc (.cells #[.int .i64 0] TEr)) w.heap.size TPB #[.pointer none] ∧ Box ((w.alloc (.cells #[.pointer none] TPB)).alloc (.cells #[.int .i64 0] TEr)) (w.heap.size + 1) TEr #[.int .i64 0]) :=
    ⟨((Below.refl _ _).alloc (Nat.le_refl _) _).alloc (by simp) _, (Box.new _ _ _).alloc _, by have := Box.new (w.alloc (.cells #[.pointer none] TPB)) TEr #[.int .i64 0]; simpa using this⟩
  have hpa := parted_any a n c b _ (h.below (Nat.le_refl _) W1.out.1) hn
  clear h
  go_enter_defers Tryz.func77, Tryz.ntmps77
  go_wp2_with fail
  refine hpa.mono ?_
  rintro _ w2 ⟨hb2, ⟨hno, rfl⟩ | ⟨ss, p, hss, rfl, hbk⟩⟩
  · have H2 : Hid (Below w.heap.size w w2 ∧ Box w2 w.heap.size TPB #[.pointer none] ∧ Box w2 (w.heap.size + 1) TEr #[.int .i64 0]) := ⟨W1.out.1.trans (hb2.mono W1.out.1.size), W1.out.2.1.kept (hb2.block _ W1.out.2.1.lt), W1.out.2.2.kept (hb2.block _ W1.out.2.2.lt)⟩
    refine leaves_cons (f := 109) (args := #[at_ w.heap.size, at_ (w.heap.size + 1)]) (by simp) (by simp [go_sem]) ?_
    refine (catch_panicking w.heap.size (w.heap.size + 1) _ _ _ _ [] _ (by omega) H2.out.2.1 H2.out.2.2).mono ?_
    rintro e u' w3 ⟨rfl, rfl, rfl⟩
    have x1 : w2.cell? ⟨w.heap.size, 0, none⟩ = some (.pointer none) := H2.out.2.1.cell 0
    have x2 : w2.cell? ⟨w.heap.size + 1, 0, none⟩ = some (.int .i64 0) := H2.out.2.2.cell 0
    simp [Leaves, settle, results, Tryz.results77, go_sem, x1, x2]
    exact ⟨(H2.out.1.setCell (by simp) _).setCell (by simp) _, open_none1 hno⟩
  · have H2 : Hid (Below w.heap.size w w2 ∧ Box w2 w.heap.size TPB #[.pointer none] ∧ Box w2 (w.heap.size + 1) TEr #[.int .i64 0] ∧ BkAt w2 (w.heap.size + 2) p (ivOf b) 0 ss) := ⟨W1.out.1.trans (hb2.mono W1.out.1.size), W1.out.2.1.kept (hb2.block _ W1.out.2.1.lt), W1.out.2.2.kept (hb2.block _ W1.out.2.2.lt), by simpa using hbk⟩
    have HP := (show Hid _ from part_some hss)
    have HSS : Hid (partP b = some ss) := hss
    have H3 : Hid (Below w.heap.size w (w2.setCell ⟨w.heap.size, 0, none⟩ (at_ p)) ∧ Box (w2.setCell ⟨w.heap.size, 0, none⟩ (at_ p)) w.heap.size TPB #[at_ p] ∧ Box (w2.setCell ⟨w.heap.size, 0, none⟩ (at_ p)) (w.heap.size + 1) TEr #[.int .i64 0] ∧ BkAt (w2.setCell ⟨w.heap.size, 0, none⟩ (at_ p)) (w.heap.size + 2) p (ivOf b) 0 ss) :=
      ⟨H2.out.1.setCell (by simp) _, (H2.out.2.1.set 0 _).eq (by simp), H2.out.2.2.1.other (by omega) 0 _, H2.out.2.2.2.keep fun k hk _ => Below.heap_setCell _ _ _ _ (by show k ≠ w.heap.size; omega)⟩
    have x1 : w2.cell? ⟨w.heap.size, 0, none⟩ = some (.pointer none) := H2.out.2.1.cell 0
    have z1 := H2.out.2.1.soft 0
    clear hb2 hbk hss
    go_wp2_with fail
    generalize w2.setCell ⟨w.heap.size, 0, none⟩ (at_ p) = w3 at H3 ⊢
    clear x1 z1
    have y1 : w3.cell? ⟨w.heap.size, 0, none⟩ = some (at_ p) := H3.out.2.1.cell 0
    have y1' : w3.drew.cell? ⟨w.heap.size, 0, none⟩ = some (at_ p) := y1
    have hct := counted_any (W := w3.drew) (H3.out.2.2.2.below (Below.refl _ _).drew) HP.out.2.1 HP.out.2.2.1
    cases hcn : cntF (ivOf b) none ss with
    | none =>
      rw [hcn] at hct
      go_region_dies
      all_goals
        refine hct.mono ?_
        rintro _ w4 ⟨hb4, ⟨_, rfl⟩ | ⟨ls, h, _⟩⟩
        · have H4 : Hid (Below w.heap.size w w4 ∧ Box w4 w.heap.size TPB #[at_ p] ∧ Box w4 (w.heap.size + 1) TEr #[.int .i64 0]) := by
            have hb := ((Below.refl _ w3).drew).trans hb4
            exact ⟨H3.out.1.trans (hb.mono H3.out.1.size), H3.out.2.1.kept (hb.block _ H3.out.2.1.lt), H3.out.2.2.1.kept (hb.block _ H3.out.2.2.1.lt)⟩
          refine leaves_cons (f := 109) (args := #[at_ w.heap.size, at_ (w.heap.size + 1)]) (by simp) (by simp [go_sem]) ?_
          refine (catch_panicking w.heap.size (w.heap.size + 1) _ _ _ _ [] _ (by omega) H4.out.2.1 H4.out.2.2).mono ?_
          rintro e u' w5 ⟨rfl, rfl, rfl⟩
          have x1 : w4.cell? ⟨w.heap.size, 0, none⟩ = some (at_ p) := H4.out.2.1.cell 0
          have x2 : w4.cell? ⟨w.heap.size + 1, 0, none⟩ = some (.int .i64 0) := H4.out.2.2.cell 0
          simp [Leaves, settle, results, Tryz.results77, go_sem, x1, x2]
          exact ⟨(H4.out.1.setCell (by simp) _).setCell (by simp) _, open_none2 HSS.out hcn⟩
        · cases h
    | some ls =>
      rw [hcn] at hct
      have HC : Hid (Calls Tryz.prog 111 #[at_ p] w3.drew fun r w' => r = .returned (.int .i64 ((ls.flatten.length : Nat) : Int)) ∧ Below w3.heap.size w3 w') := hct.mono fun r w' ⟨hb, h⟩ => by
        refine ⟨?_, ((Below.refl _ w3).drew).trans hb⟩
        rcases h with ⟨h, _⟩ | ⟨ls', h, h2⟩
        · cases h
        · obtain rfl := Option.some.inj h
          exact h2
      have HOP : Hid (openP b = some (ss, ls)) := open_yes HSS.out hcn
      generalize hsz : ls.flatten.length = sz at HC
      have HSZ : Hid (ls.flatten.length = sz) := hsz
      clear hct hcn hsz
      go_region_held3 (fun V => V.cell? ⟨w.heap.size, 0, none⟩ = some (at_ p)) (first | exact y1' | go_keep)
        (first | (go_at_call 111; refine HC.out.mono ?_; rintro _ vx ⟨rfl, hbx⟩
                  have H4 : Hid (Below w.heap.size w vx ∧ Box vx w.heap.size TPB #[at_ p] ∧ Box vx (w.heap.size + 1) TEr #[.int .i64 0] ∧ BkAt vx (w.heap.size + 2) p (ivOf b) 0 ss) := ⟨H3.out.1.trans (hbx.mono H3.out.1.size), H3.out.2.1.kept (hbx.block _ H3.out.2.1.lt), H3.out.2.2.1.kept (hbx.block _ H3.out.2.2.1.lt), H3.out.2.2.2.below hbx⟩
                  have y1' : vx.cell? ⟨w.heap.size, 0, none⟩ = some (at_ p) := H4.out.2.1.cell 0
                  obtain ⟨g, _, _, c2, _, _⟩ := H4.out.2.2.2.cells
                  have s2 : vx.frozen? ⟨p, 2, none⟩ = false := H4.out.2.2.2.soft 2
                  have hpw : p ≠ w.heap.size := by have := H4.out.2.2.2.ge; omega
                  clear hbx))
      have H5 : Hid (Below w.heap.size w (vx.setCell ⟨p, 2, none⟩ (.int .i64 (sz : Int))) ∧ Box (vx.setCell ⟨p, 2, none⟩ (.int .i64 (sz : Int))) w.heap.size TPB #[at_ p] ∧ Box (vx.setCell ⟨p, 2, none⟩ (.int .i64 (sz : Int))) (w.heap.size + 1) TEr #[.int .i64 0] ∧ BkAt (vx.setCell ⟨p, 2, none⟩ (.int .i64 (sz : Int))) (w.heap.size + 2) p (ivOf b) sz ss) := by
        have hge := H4.out.2.2.2.ge
        exact ⟨H4.out.1.setCell (by show w.heap.size ≤ p; omega) _, H4.out.2.1.other (by omega) 2 _, H4.out.2.2.1.other (by omega) 2 _, H4.out.2.2.2.sized sz⟩
      generalize vx.setCell ⟨p, 2, none⟩ (.int .i64 (sz : Int)) = w5 at H5 ⊢
      have u1 : w5.cell? ⟨w.heap.size, 0, none⟩ = some (at_ p) := H5.out.2.1.cell 0
      have u2 : w5.cell? ⟨w.heap.size + 1, 0, none⟩ = some (.int .i64 0) := H5.out.2.2.1.cell 0
      have v1 := H5.out.2.1.soft 0
      have v2 := H5.out.2.2.1.soft 0
      clear H4 y1 y1' c2 s2
      go_wp2
      have H6 : Hid (Below w.heap.size w ((w5.setCell ⟨w.heap.size, 0, none⟩ (at_ p)).setCell ⟨w.heap.size + 1, 0, none⟩ (.int .i64 0)) ∧ Box ((w5.setCell ⟨w.heap.size, 0, none⟩ (at_ p)).setCell ⟨w.heap.size + 1, 0, none⟩ (.int .i64 0)) w.heap.size TPB #[at_ p] ∧ Box ((w5.setCell ⟨w.heap.size, 0, none⟩ (at_ p)).setCell ⟨w.heap.size + 1, 0, none⟩ (.int .i64 0)) (w.heap.size + 1) TEr #[.int .i64 0] ∧ BkAt ((w5.setCell ⟨w.heap.size, 0, none⟩ (at_ p)).setCell ⟨w.heap.size + 1, 0, none⟩ (.int .i64 0)) (w.heap.size + 2) p (ivOf b) sz ss) := by
        refine ⟨(H5.out.1.setCell (by simp) _).setCell (by simp) _, ((H5.out.2.1.set 0 _).eq (by simp)).other (by omega) 0 _, ((H5.out.2.2.1.other (by omega) 0 _).set 0 _).eq (by simp), H5.out.2.2.2.keep fun k hk _ => ?_⟩
        rw [Below.heap_setCell _ _ _ _ (by show k ≠ w.heap.size + 1; omega), Below.heap_setCell _ _ _ _ (by show k ≠ w.heap.size; omega)]
      generalize (w5.setCell ⟨w.heap.size, 0, none⟩ (.pointer (some ⟨p, 0, none⟩))).setCell ⟨w.heap.size + 1, 0, none⟩ (.int .i64 0) = w6 at H6 ⊢
      refine leaves_cons (f := 109) (args := #[at_ w.heap.size, at_ (w.heap.size + 1)]) (by simp) (by simp [go_sem]) ?_
      refine (catch_idle w.heap.size (w.heap.size + 1) _).mono ?_
      rintro e u' w7 ⟨rfl, rfl, hw⟩
      obtain rfl : w6 = w7 := hw.symm
      have t1 : w6.cell? ⟨w.heap.size, 0, none⟩ = some (at_ p) := H6.out.2.1.cell 0
      have t2 : w6.cell? ⟨w.heap.size + 1, 0, none⟩ = some (.int .i64 0) := H6.out.2.2.1.cell 0
      clear u1 u2 v1 v2
      simp [Leaves, settle, results, Tryz.results77, go_sem, t1, t2]
      refine ⟨H6.out.1, ss, ls, HOP.out, ?_⟩
      rw [← List.length_flatten, HSZ.out]
      exact H6.out.2.2.2.less (by omega)
end Go.Proofs.YtgegjcnjlibfdaaGreat
/- The contracts of a block's Len and At. -/
namespace Go.Proofs.YtgegjcnjlibfdaaGreat
open Go.RowKit
set_option linter.unusedVariables false
set_option linter.unusedSimpArgs false
/-- A block of entries that rise. -/
structure GB (W : World) (B p iv : Nat) (l : List KV) : Prop where
  bk : BkAt W B p iv l.length (strs iv l)
  ok : chkL l = 0
  one : 1 ≤ iv
  top : iv ≤ 16
  small : l.length ≤ 1000000000000
theorem GB.eok {W : World} {B p iv : Nat} {l : List KV} (h : GB W B p iv l) : ∀ e ∈ l, EOk e := (chkL_zero.1 h.ok).1
theorem GB.rise {W : World} {B p iv : Nat} {l : List KV} (h : GB W B p iv l) : Rises l := (chkL_zero.1 h.ok).2
theorem GB.keep {W W' : World} {B p iv : Nat} {l : List KV} (h : GB W B p iv l) (hk : ∀ k, B ≤ k → k < W.heap.size → W'.heap[k]? = W.heap[k]?) : GB W' B p iv l := ⟨h.bk.keep hk, h.ok, h.one, h.top, h.small⟩
theorem GB.below {W W' : World} {B p iv : Nat} {l : List KV} (h : GB W B p iv l) (hb : Below W.heap.size W W') : GB W' B p iv l := ⟨h.bk.below hb, h.ok, h.one, h.top, h.small⟩
set_option maxRecDepth 100000 in
theorem len_nil (w : World) : Calls Tryz.prog 78 #[.pointer none] w fun r w' => r = .returned (.int .i64 0) ∧ w = w' := by
  go_enter Tryz.func78, Tryz.ntmps78
  go_wp2
  go_ret
  exact ⟨ret1 rfl, rfl⟩
set_option maxRecDepth 100000 in
theorem len_any {W : World} {B p iv sz : Nat} {ss : List (List UInt8)} (h : BkAt W B p iv sz ss) : Calls Tryz.prog 78 #[at_ p] W fun r w' => r = .returned (.int .i64 (sz : Int)) ∧ W = w' := by
  obtain ⟨g, _, _, c2, _, _⟩ := h.cells
  go_enter Tryz.func78, Tryz.ntmps78
  go_wp2
  go_ret
  exact ⟨ret1 rfl, rfl⟩
def kvz : Value := .agg #[.string ⟨#[]⟩, .int .u64 0, .int .i64 0, .string ⟨#[]⟩]
def kvv (e : KV) : Value := .agg #[.string e.1.user, .int .u64 (e.1.seq : Int), .int .i64 e.1.kind, .string e.2]
/-- What is told where there is no such entry. -/
def NoAt (w : World) (r : Ending) (w' : World) : Prop := r = .returned (.tuple #[kvz, .int .i64 1]) ∧ Below w.heap.size w w'
set_option maxRecDepth 100000 in
set_option maxHeartbeats 1000000 in
theorem at_no {q : Value} {i : Int} {n : Nat} {W : World} (hl : ∀ V : World, Below W.heap.size W V → Calls Tryz.prog 78 #[q] V fun r w' => r = .returned (.int .i64 (n : Int)) ∧ V = w') (hi : i < 0 ∨ (n : Int) ≤ i) : Calls Tryz.prog 50 #[q, .int .i64 i] W (NoAt W) := by
  have HW : Hid (Below W.heap.size W (W.alloc (.cells #[.string ⟨#[]⟩, .int .u64 0, .int .i64 0, .string ⟨#[]⟩] 54))) := (Below.refl _ _).alloc (Nat.le_refl _) _
  by_cases h0 : i < 0
  · have hd : decide (i < 0) = true := decide_eq_true h0
    go_enter Tryz.func50, Tryz.ntmps50
    go_wp2
    exact bodyPost_ret (v := .tuple #[kvz, .int .i64 1]) (by simp [results, Tryz.results50, go_sem, kvz]) rfl ⟨rfl, HW.out⟩
  · have hd : decide (i < 0) = false := decide_eq_false h0
    have hg : (n : Int) ≤ i := by omega
    go_enter Tryz.func50, Tryz.ntmps50
    go_wp2_with fail
    refine (hl _ HW.out).mono ?_
    rintro _ _ ⟨rfl, rfl⟩
    go_wp2
    exact bodyPost_ret (v := .tuple #[kvz, .int .i64 1]) (by simp [results, Tryz.results50, go_sem, kvz]) rfl ⟨rfl, HW.out⟩
set_option maxRecDepth 100000 in
set_option maxHeartbeats 4000000 in
theorem at_yes {W : World} {B p iv : Nat} {l : List KV} (h : GB W B p iv l) {i : Nat} (hi : i < l.length) :
    Calls Tryz.prog 50 #[at_ p, .int .i64 (i : Int)] W fun r w' => r = .returned (.tuple #[kvv l[i], .int .i64 0]) ∧ Below W.heap.size W w' := by
  have hiv1 := h.one
  have hiv16 := h.top
  have hsm := h.small
  obtain ⟨hj, hm, hget⟩ := chunk_entry h.one l hi
  have hjs : i / iv < (strs iv l).length := by rw [strs_len]; exact hj
  have hent := strs_ents h.one h.eok hjs
  have HEM : Hid (∀ V : World, Below W.heap.size W V → Calls Tryz.prog 87 #[at_ p, .int .i64 ((i / iv : Nat) : Int)] V fun r w' => ∃ a' c', r = .returned (.slice a' ((chunks iv l)[i / iv]).length c') ∧ KsAt w' a' ((chunks iv l)[i / iv]).length c' (chunks iv l)[i / iv] ∧ Below V.heap.size V w') := fun V hV => (entM_some (h.bk.below hV) h.top hjs hent).mono fun r w' ⟨a', c', h1, h2, h3⟩ => ⟨a', c', h1, h2.ks, h3⟩
  have HW : Hid (Below W.heap.size W (W.alloc (.cells #[.string ⟨#[]⟩, .int .u64 0, .int .i64 0, .string ⟨#[]⟩] 54)) ∧ Box (W.alloc (.cells #[.string ⟨#[]⟩, .int .u64 0, .int .i64 0, .string ⟨#[]⟩] 54)) W.heap.size TKV #[.string ⟨#[]⟩, .int .u64 0, .int .i64 0, .string ⟨#[]⟩]) := ⟨(Below.refl _ _).alloc (Nat.le_refl _) _, Box.new _ _ _⟩
  have hlen := len_any (h.bk.below HW.out.1)
  have HBK : Hid (BkAt W B p iv l.length (strs iv l)) := h.bk
  have c1 : W.cell? ⟨p, 1, none⟩ = some (.int .i64 (iv : Int)) := by
    obtain ⟨g, _, c1, _⟩ := h.bk.cells
    exact c1
  have hpl : p < W.heap.size := World.block_lt_of_cell? W _ c1
  have hpn : p ≠ W.heap.size := by omega
  have hq1 : IntKind.i64.wrap ((i : Int) / (iv : Int)) = ((i / iv : Nat) : Int) := by
    have := Nat.div_le_self i iv
    rw [show (i : Int) / (iv : Int) = ((i / iv : Nat) : Int) by omega, IntKind.wrap_i64]
    generalize i / iv = x at this
    omega
  have hr1 : (i : Int).tmod (iv : Int) = ((i % iv : Nat) : Int) := by rw [Int.tmod_eq_emod_of_nonneg (by omega)]; omega
  have hne0 : ¬ (iv = 0) := by omega
  have hii : (i : Int) < (l.length : Int) := by omega
  generalize (chunks iv l)[i / iv] = ch at HEM hm hget
  have HG : Hid (ch[i % iv]? = some l[i]) := by show ch[i % iv]? = some l[i]; rw [List.getElem?_eq_getElem hm, hget]
  have HM : Hid (i % iv < ch.length) := hm
  generalize l[i] = e at HG
  generalize i / iv = jq at HEM hq1
  generalize i % iv = jr at HG HM hr1
  generalize l.length = n at hlen hii HBK hsm
  clear hent hjs hj hget hm hi h
  go_enter Tryz.func50, Tryz.ntmps50
  go_wp2_with fail
  refine hlen.mono ?_
  rintro _ _ ⟨rfl, rfl⟩
  go_wp2_with fail
  generalize hw1 : W.alloc (.cells #[.string ⟨#[]⟩, .int .u64 0, .int .i64 0, .string ⟨#[]⟩] 54) = w1 at HW
  have d1 : w1.cell? ⟨p, 1, none⟩ = some (.int .i64 (iv : Int)) := by rw [HW.out.1.cell hpl]; exact c1
  have d1' : w1.drew.cell? ⟨p, 1, none⟩ = some (.int .i64 (iv : Int)) := d1
  have HW2 : Hid (Below W.heap.size W w1.drew ∧ Box w1.drew W.heap.size TKV #[.string ⟨#[]⟩, .int .u64 0, .int .i64 0, .string ⟨#[]⟩]) := ⟨HW.out.1.drew, HW.out.2⟩
  clear hw1 hlen
  refine wp_region_held_drew (S := (fun V => V.cell? ⟨p, 1, none⟩ = some (.int .i64 (iv : Int)))) (by kernel_rfl) d1' (fun hHeld => ?_)
  refine wpAnyH_take (i := 0) (v := ?_) rfl (by kernel_rfl) (by kernel_rfl) (by kernel_rfl) (fun _ _ _ h => h) (Or.inl ⟨by rfl, ?_⟩) hHeld ?_
  rotate_left
  · intro w hSw
    try dsimp only at hSw
    go_simp
    try with_reducible rfl
  try simp only [Act.put, List.setIfInBounds_toArray, List.set_cons_zero, List.set_cons_succ]
  refine wpAnyH_take (i := 1) (v := ?_) rfl (by kernel_rfl) (by kernel_rfl) (by kernel_rfl) (fun _ _ _ h => h) (Or.inl ⟨by rfl, ?_⟩) hHeld ?_
  rotate_left
  · intro w hSw
    try dsimp only at hSw
    go_simp
    try with_reducible rfl
  try simp only [Act.put, List.setIfInBounds_toArray, List.set_cons_zero, List.set_cons_succ]
  refine wpAnyH_take (i := 2) (v := ?_) rfl (by kernel_rfl) (by kernel_rfl) (by kernel_rfl) (fun _ _ _ h => h) (Or.inl ⟨by rfl, ?_⟩) hHeld ?_
  rotate_left
  · intro w hSw
    try dsimp only at hSw
    go_simp
    try with_reducible rfl
  try simp only [Act.put, List.setIfInBounds_toArray, List.set_cons_zero, List.set_cons_succ]
  refine wpAnyH_take (i := 3) (v := ?_) rfl (by kernel_rfl) (by kernel_rfl) (by kernel_rfl) (fun _ _ _ h => h) (Or.inl ⟨by rfl, ?_⟩) hHeld ?_
  rotate_left
  · intro w hSw
    try dsimp only at hSw
    go_simp
    try with_reducible rfl
  try simp only [Act.put, List.setIfInBounds_toArray, List.set_cons_zero, List.set_cons_succ]
  refine wpAnyH_take (i := 4) (v := ?_) rfl (by kernel_rfl) (by kernel_rfl) (by kernel_rfl) (fun _ _ _ h => h) (Or.inl ⟨by rfl, ?_⟩) hHeld ?_
  rotate_left
  · intro w hSw
    try dsimp only at hSw
    go_simp
    try with_reducible rfl
  try simp only [Act.put, List.setIfInBounds_toArray, List.set_cons_zero, List.set_cons_succ]
  refine wpAnyH_take (i := 5) (v := ?_) rfl (by kernel_rfl) (by kernel_rfl) (by kernel_rfl) (fun _ _ _ h => h) (Or.inl ⟨by rfl, ?_⟩) hHeld ?_
  rotate_left
  · intro w hSw
    try dsimp only at hSw
    go_simp
    try with_reducible rfl
  try simp only [Act.put, List.setIfInBounds_toArray, List.set_cons_zero, List.set_cons_succ]
  refine wpAnyH_take (i := 6) (v := ?_) rfl (by kernel_rfl) (by kernel_rfl) (by kernel_rfl) (fun _ _ _ h => h) (Or.inl ⟨by rfl, ?_⟩) hHeld ?_
  rotate_left
  · intro w hSw
    try dsimp only at hSw
    go_simp
    try with_reducible rfl
  try simp only [Act.put, List.setIfInBounds_toArray, List.set_cons_zero, List.set_cons_succ]
  refine wpAnyH_take (i := 8) (v := ?_) rfl (by kernel_rfl) (by kernel_rfl) (by kernel_rfl) (fun _ _ _ h => h) (Or.inl ⟨by rfl, ?_⟩) hHeld ?_
  rotate_left
  · intro w hSw
    try dsimp only at hSw
    go_simp
    try with_reducible rfl
  try simp only [Act.put, List.setIfInBounds_toArray, List.set_cons_zero, List.set_cons_succ]
  refine wpAnyH_take (i := 9) (v := ?_) rfl (by kernel_rfl) (by kernel_rfl) (by kernel_rfl) (fun _ _ _ h => h) (Or.inl ⟨by rfl, ?_⟩) hHeld ?_
  rotate_left
  · intro w hSw
    try dsimp only at hSw
    go_simp
    try with_reducible rfl
  try simp only [Act.put, List.setIfInBounds_toArray, List.set_cons_zero, List.set_cons_succ]
  refine wpAnyH_take (i := 10) (v := ?_) rfl (by kernel_rfl) (by kernel_rfl) (by kernel_rfl) (fun _ _ _ h => h) (Or.inl ⟨by rfl, ?_⟩) hHeld ?_
  rotate_left
  · intro w hSw
    try dsimp only at hSw
    go_simp
    try with_reducible rfl
  try simp only [Act.put, List.setIfInBounds_toArray, List.set_cons_zero, List.set_cons_succ]
  refine wpAnyH_take (i := 11) (v := ?_) rfl (by kernel_rfl) (by kernel_rfl) (by kernel_rfl) (fun _ _ _ h => h) (Or.inl ⟨by rfl, ?_⟩) hHeld ?_
  rotate_left
  · intro w hSw
    try dsimp only at hSw
    go_simp
    try with_reducible rfl
  try simp only [Act.put, List.setIfInBounds_toArray, List.set_cons_zero, List.set_cons_succ]
  refine wpAnyH_take (i := 12) (v := ?_) rfl (by kernel_rfl) (by kernel_rfl) (by kernel_rfl) (fun _ _ _ h => h) (Or.inl ⟨by rfl, ?_⟩) hHeld ?_
  rotate_left
  · intro w hSw
    try dsimp only at hSw
    go_simp
    try with_reducible rfl
  try simp only [Act.put, List.setIfInBounds_toArray, List.set_cons_zero, List.set_cons_succ]
  refine wpAnyH_take (i := 13) (v := ?_) rfl (by kernel_rfl) (by kernel_rfl) (by kernel_rfl) (fun _ _ _ h => h) (Or.inl ⟨by rfl, ?_⟩) hHeld ?_
  rotate_left
  · intro w hSw
    try dsimp only at hSw
    go_simp
    try with_reducible rfl
  try simp only [Act.put, List.setIfInBounds_toArray, List.set_cons_zero, List.set_cons_succ]
  refine wpAnyH_ready (rs := [7]) (by kernel_rfl) (by simp) ?_
  refine AllReadyH.cons rfl (fun K hK => ?_) AllReadyH.nil
  go_simp
  refine (HEM.out _ HW2.out.1).mono ?_
  rintro _ vx ⟨ae, ce, rfl, hks, hbx⟩
  have H3 : Hid (Below W.heap.size W vx ∧ Box vx W.heap.size TKV #[.string ⟨#[]⟩, .int .u64 0, .int .i64 0, .string ⟨#[]⟩]) := ⟨HW2.out.1.trans (hbx.mono HW2.out.1.size), HW2.out.2.kept (hbx.block _ HW2.out.2.lt)⟩
  have hp1 : vx.cell? ⟨p, 1, none⟩ = some (.int .i64 (iv : Int)) := by rw [H3.out.1.cell hpl]; exact c1
  obtain ⟨eb, eo, hea, hec⟩ := hks.cells4 (by have := HM.out; omega)
  obtain ⟨k0, k1, k2, k3⟩ := hec jr HM.out
  have hel : ch[jr]'HM.out = e := by have := HG.out; rw [List.getElem?_eq_getElem HM.out] at this; exact Option.some.inj this
  rw [hel] at k0 k1 k2 k3
  have hidx := fun V => idxKV V (a := ae) (b := eb) (off := eo) (n := ch.length) (c := ce) hea HM.out
  have x0 : vx.cell? ⟨W.heap.size, 0, none⟩ = some (.string ⟨#[]⟩) := H3.out.2.cell 0
  have x1 : vx.cell? ⟨W.heap.size, 1, none⟩ = some (.int .u64 0) := H3.out.2.cell 1
  have x2 : vx.cell? ⟨W.heap.size, 2, none⟩ = some (.int .i64 0) := H3.out.2.cell 2
  have x3 : vx.cell? ⟨W.heap.size, 3, none⟩ = some (.string ⟨#[]⟩) := H3.out.2.cell 3
  have y0 := H3.out.2.soft 0
  have y1 := H3.out.2.soft 1
  have y2 := H3.out.2.soft 2
  have y3 := H3.out.2.soft 3
  clear hks hbx hec hea hel
  refine hK.out _ _ ?_ (fun hHeld => ?_)
  · exact hp1
  clear hK K
  try simp only [Act.put, List.setIfInBounds_toArray, List.set_cons_zero, List.set_cons_succ]
  refine wpAnyH_take (i := 14) (v := ?_) rfl (by kernel_rfl) (by kernel_rfl) (by kernel_rfl) (fun _ _ _ h => h) (Or.inl ⟨by rfl, ?_⟩) hHeld ?_
  rotate_left
  · intro w hSw
    try dsimp only at hSw
    go_simp
    try with_reducible rfl
  try simp only [Act.put, List.setIfInBounds_toArray, List.set_cons_zero, List.set_cons_succ]
  refine wpAnyH_ready (rs := [15]) (by kernel_rfl) (by simp) ?_
  refine AllReadyH.cons rfl (fun K hK => ?_) AllReadyH.nil
  go_simp
  refine hK.out _ _ ?_ (fun hHeld => ?_)
  · exact hp1
  clear hK K
  try simp only [Act.put, List.setIfInBounds_toArray, List.set_cons_zero, List.set_cons_succ]
  refine wpAnyH_ready (rs := [16]) (by kernel_rfl) (by simp) ?_
  refine AllReadyH.cons rfl (fun K hK => ?_) AllReadyH.nil
  go_simp
  have HF : Hid (Below W.heap.size W ((((vx.setCell ⟨W.heap.size, 0, none⟩ (.string e.1.user)).setCell ⟨W.heap.size, 1, none⟩ (.int .u64 (e.1.seq : Int))).setCell ⟨W.heap.size, 2, none⟩ (.int .i64 e.1.kind)).setCell ⟨W.heap.size, 3, none⟩ (.string e.2)) ∧ Box ((((vx.setCell ⟨W.heap.size, 0, none⟩ (.string e.1.user)).setCell ⟨W.heap.size, 1, none⟩ (.int .u64 (e.1.seq : Int))).setCell ⟨W.heap.size, 2, none⟩ (.int .i64 e.1.kind)).setCell ⟨W.heap.size, 3, none⟩ (.string e.2)) W.heap.size TKV #[.string e.1.user, .int .u64 (e.1.seq : Int), .int .i64 e.1.kind, .string e.2]) := ⟨(((H3.out.1.setCell (by simp) _).setCell (by simp) _).setCell (by simp) _).setCell (by simp) _, ((((H3.out.2.set 0 _).set 1 _).set 2 _).set 3 _).eq (by simp)⟩
  generalize (((vx.setCell ⟨W.heap.size, 0, none⟩ (.string e.1.user)).setCell ⟨W.heap.size, 1, none⟩ (.int .u64 (e.1.seq : Int))).setCell ⟨W.heap.size, 2, none⟩ (.int .i64 e.1.kind)).setCell ⟨W.heap.size, 3, none⟩ (.string e.2) = wf at HF ⊢
  have hpf : wf.cell? ⟨p, 1, none⟩ = some (.int .i64 (iv : Int)) := by rw [HF.out.1.cell hpl]; exact c1
  refine hK.out _ _ ?_ (fun hHeld => ?_)
  · exact hpf
  clear hK K x0 x1 x2 x3 y0 y1 y2 y3 k0 k1 k2 k3 hidx
  try simp only [Act.put, List.setIfInBounds_toArray, List.set_cons_zero, List.set_cons_succ]
  refine wpAnyH_ready (rs := [17]) (by kernel_rfl) (by simp) ?_
  refine AllReadyH.cons rfl (fun K hK => ?_) AllReadyH.nil
  go_simp
  refine hK.out _ _ ?_ (fun hHeld => ?_)
  · exact hpf
  clear hK K
  try simp only [Act.put, List.setIfInBounds_toArray, List.set_cons_zero, List.set_cons_succ]
  refine wpAnyH_done (by kernel_rfl) ?_ _
  have r0 : wf.cell? ⟨W.heap.size, 0, none⟩ = some (.string e.1.user) := HF.out.2.cell 0
  have r1 : wf.cell? ⟨W.heap.size, 1, none⟩ = some (.int .u64 (e.1.seq : Int)) := HF.out.2.cell 1
  have r2 : wf.cell? ⟨W.heap.size, 2, none⟩ = some (.int .i64 e.1.kind) := HF.out.2.cell 2
  have r3 : wf.cell? ⟨W.heap.size, 3, none⟩ = some (.string e.2) := HF.out.2.cell 3
  go_wp2
  exact bodyPost_ret (v := .tuple #[kvv e, .int .i64 0]) (by simp [results, Tryz.results50, go_sem, kvv, r0, r1, r2, r3]) rfl ⟨rfl, HF.out.1⟩
end Go.Proofs.YtgegjcnjlibfdaaGreat
/- A block that was opened is a block of entries that rise; what is laid is opened: in memory. -/
namespace Go.Proofs.YtgegjcnjlibfdaaGreat
open Go.RowKit
set_option linter.unusedVariables false
set_option linter.unusedSimpArgs false
theorem strB_ge : ∀ (l : List KV) (ah : List UInt8), 3 * l.length ≤ (strB ah l).length
  | [], _ => by simp
  | e :: l, ah => by
    have h1 := (ent_len ah e.1.enc e.2.data.toList).1
    have h2 := strB_ge l e.1.enc
    rw [strB, List.length_append, List.length_cons]
    unfold entE
    omega
theorem lay_ge {iv : Nat} (hi : 1 ≤ iv) (l : List KV) : 3 * l.length ≤ (layP iv l).length := by
  have h : ∀ cs : List (List KV), 3 * cs.flatten.length ≤ ((cs.map (strB [])).flatten).length := by
    intro cs
    induction cs with
    | nil => simp
    | cons c r ih =>
      have := strB_ge c []
      simp only [List.flatten_cons, List.map_cons, List.length_append]
      omega
  have h1 := h (chunks iv l)
  rw [chunks_flat hi] at h1
  rw [layP_join, join_len]
  unfold strs
  omega
theorem gb_of {b : List UInt8} {ss : List (List UInt8)} {ls : List (List KV)} (h : openP b = some (ss, ls)) {W : World} {B p : Nat} (hb : BkAt W B p (ivOf b) ls.flatten.length ss) (hs : b.length ≤ 3000000000000) : GB W B p (ivOf b) ls.flatten := by
  obtain ⟨h1, h2, h3, h4, h5, h6, h7⟩ := open_some h
  have hss : ss = strs (ivOf b) ls.flatten := by
    unfold strs
    rw [h7]
    exact h6
  have hl := lay_ge h2 ls.flatten
  rw [← h5] at hl
  rw [hss] at hb
  exact ⟨hb, h4, h2, h3, by omega⟩
/-- What is laid is opened. -/
theorem open_built {a : Option Addr} {n c iv : Nat} {l : List KV} {w : World} (h : BsAt w a n c (layP iv l)) (hn : n ≤ 4000000000) (h1 : 1 ≤ iv) (h2 : iv ≤ 16) (hc : chkL l = 0) :
    Calls Tryz.prog 77 #[.slice a n c] w fun r w' => ∃ p, r = .returned (.tuple #[at_ p, .int .i64 0]) ∧ GB w' w.heap.size p iv l ∧ Below w.heap.size w w' := by
  have hlen := h.size
  have ho := open_laid h1 h2 hc (by omega)
  refine (open_any a n c _ w h (by omega)).mono ?_
  rintro r w' ⟨hb, ⟨hno, _⟩ | ⟨ss, ls, p, hop, rfl, hbk⟩⟩
  · rw [ho] at hno; cases hno
  · have hg := gb_of hop hbk (by omega)
    rw [ho] at hop
    simp only [Option.some.injEq, Prod.mk.injEq] at hop
    obtain ⟨rfl, rfl⟩ := hop
    rw [layP_join, join_iv (by omega), chunks_flat h1] at hg
    exact ⟨p, rfl, hg, hb⟩
end Go.Proofs.YtgegjcnjlibfdaaGreat
