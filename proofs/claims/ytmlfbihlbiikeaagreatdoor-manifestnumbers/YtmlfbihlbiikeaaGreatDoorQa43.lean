/- The contract of wal.Read: any bytes are read as the plain function walRead tells. -/
import Derived.Test.YtmlfbihlbiikeaaGreatDoorQa24
import Derived.WalkMore
namespace Go.Proofs.YtmlfbihlbiikeaaGreatDoor
open Go.RowKit Go.Shelf
attribute [local go_sem] Oper.semAt_some

theorem RdM.start (w : World) (a : Option Addr) (len cap : Nat) {W0 : World} (hW : (((((w.alloc (.cells #[.slice none 0 0] TRows)).alloc (.cells #[.int .i64 0] 3)).alloc (.cells #[.int .i64 0] 3)).alloc (.cells #[.slice none 0 0] TBs)).alloc (.cells #[.bool false] 4)).alloc (.cells #[.slice a len cap] TBs) = W0) :
    RdM w W0 (w.heap.size + 6) none 0 [] none 0 false [] [] 0 0 ∧ Boxed W0 (w.heap.size + 5) TBs (.slice a len cap) ∧ W0.heap.size = w.heap.size + 6 := by
  have hs : W0.heap.size = w.heap.size + 6 := by rw [← hW]; simp
  have y0 := ((((((Boxed.new w TRows (.slice none 0 0)).alloc (.cells #[.int .i64 0] 3)).alloc (.cells #[.int .i64 0] 3)).alloc (.cells #[.slice none 0 0] TBs)).alloc (.cells #[.bool false] 4)).alloc (.cells #[.slice a len cap] TBs))
  have y1 := (((((Boxed.new (w.alloc (.cells #[.slice none 0 0] TRows)) 3 (.int .i64 0))).alloc (.cells #[.int .i64 0] 3)).alloc (.cells #[.slice none 0 0] TBs)).alloc (.cells #[.bool false] 4)).alloc (.cells #[.slice a len cap] TBs)
  have y2 := (((Boxed.new ((w.alloc (.cells #[.slice none 0 0] TRows)).alloc (.cells #[.int .i64 0] 3)) 3 (.int .i64 0)).alloc (.cells #[.slice none 0 0] TBs)).alloc (.cells #[.bool false] 4)).alloc (.cells #[.slice a len cap] TBs)
  have y3 := ((Boxed.new (((w.alloc (.cells #[.slice none 0 0] TRows)).alloc (.cells #[.int .i64 0] 3)).alloc (.cells #[.int .i64 0] 3)) TBs (.slice none 0 0)).alloc (.cells #[.bool false] 4)).alloc (.cells #[.slice a len cap] TBs)
  have y4 := (Boxed.new ((((w.alloc (.cells #[.slice none 0 0] TRows)).alloc (.cells #[.int .i64 0] 3)).alloc (.cells #[.int .i64 0] 3)).alloc (.cells #[.slice none 0 0] TBs)) 4 (.bool false)).alloc (.cells #[.slice a len cap] TBs)
  have y5 := Boxed.new (((((w.alloc (.cells #[.slice none 0 0] TRows)).alloc (.cells #[.int .i64 0] 3)).alloc (.cells #[.int .i64 0] 3)).alloc (.cells #[.slice none 0 0] TBs)).alloc (.cells #[.bool false] 4)) TBs (.slice a len cap)
  simp only [World.size_alloc, Nat.add_assoc, Nat.reduceAdd] at y1 y2 y3 y4 y5
  have hb : Below w.heap.size w W0 := by
    rw [← hW]
    exact ((((((Below.refl _ w).alloc (Nat.le_refl _) _).alloc (by simp) _).alloc (by simp; omega) _).alloc (by simp; omega) _).alloc (by simp; omega) _).alloc (by simp; omega) _
  rw [hW] at y0 y1 y2 y3 y4 y5
  exact ⟨⟨hb, Nat.le_refl _, by omega, y0, y1, y2, y3, y4, World.ownsRow_nil _ _ _ _, fun j hj => absurd hj (Nat.not_lt_zero _), ⟨rfl, World.ownsRow_nil _ _ _ _⟩⟩, y5, hs⟩

def RdI (w : World) (b : List UInt8) (pre : List (PcX w b)) (W : World) : Prop :=
  ∃ M ra rc vs ca cc bg cur rs size, RdM w W M ra rc vs ca cc bg cur rs size 0 ∧ (∀ t, rdL b (PcX.pcs pre ++ t) false [] [] 0 = rdL b t bg cur rs size) ∧ cur.length ≤ 121 * pre.length ∧ rs.length ≤ pre.length
def RdX (w : World) (b : List UInt8) (c : Code) (pre : List (PcX w b)) (W : World) : Prop :=
  c = .exit 0 ∧ ∃ M ra rc vs ca cc bg cur rs size en, RdM w W M ra rc vs ca cc bg cur rs size en ∧ en ≠ 0 ∧ (∀ t, rdL b (PcX.pcs pre ++ t) false [] [] 0 = (rs, size, en))
theorem RdM.own' {w : World} {B : Nat} (hB : w.heap.size ≤ B) {W W' : World} {row : Option Nat} {M : Nat} {ra : Option Addr} {rc : Nat} {vs : List Value} {ca : Option Addr} {cc : Nat} {bg : Bool} {cur : List UInt8} {rs : List (List UInt8)} {size en : Nat}
    (h : RdM w W M ra rc vs ca cc bg cur rs size en) (hg : W.grownBy W' row) (hr : ∀ r, row = some r → B ≤ r ∧ ∃ o : Obj, W.heap[r]? = some o ∧ o.isCells = false) : RdM w W' M ra rc vs ca cc bg cur rs size en := by
  refine h.keep (h.base.grown hg h.base.size (fun k e => by have := (hr k e).1; omega)) hg.size (fun k arr t hk => hg.block k (Array.getElem?_eq_some_iff.1 hk).1 (fun e => ?_))
  obtain ⟨_, o, ho, hcl⟩ := hr k e.symm
  rw [hk] at ho
  cases ho
  cases hcl
theorem row_low {W : World} {B B' : Nat} {e : TypeId} {size n : Nat} {v : Value} {xs : List Value} (h : W.ownsRow B e size v n xs) (hB : B' ≤ B) : W.ownsRow B' e size v n xs := by
  refine ⟨h.1, ?_⟩
  rcases h.2 with hn | ⟨g, c, cur, hv, hb, rest⟩
  · exact .inl hn
  · exact .inr ⟨g, c, cur, hv, Nat.le_trans hB hb, rest⟩
theorem RecAt.low {W : World} {B B' M : Nat} {v : Value} {r : List UInt8} (h : RecAt W B M v r) (hB : B' ≤ B) : RecAt W B' M v r := by
  obtain ⟨a, c, hv, ho, hb⟩ := h
  exact ⟨a, c, hv, ho.mono hB, hb⟩
theorem RdM.fin {w W V : World} {M : Nat} {ra : Option Addr} {rc : Nat} {vs : List Value} {ca : Option Addr} {cc : Nat} {bg : Bool} {cur : List UInt8} {rs : List (List UInt8)} {size en : Nat} (h : RdM w W M ra rc vs ca cc bg cur rs size en) {D : Nat} (hD : w.heap.size ≤ D) {o : Obj} (hK : W.heap[D]? = some o) (hcl : o.isCells = false)
    (hV : (((W.setCell ⟨w.heap.size, 0, none⟩ (.slice ra rs.length rc)).setCell ⟨w.heap.size + 1, 0, none⟩ (.int .i64 (size : Int))).setCell ⟨w.heap.size + 2, 0, none⟩ (.int .i64 (en : Int))).drew.putObj D (.deferred none) = V) :
    V.cell? ⟨w.heap.size, 0, none⟩ = some (.slice ra rs.length rc) ∧ V.cell? ⟨w.heap.size + 1, 0, none⟩ = some (.int .i64 (size : Int)) ∧ V.cell? ⟨w.heap.size + 2, 0, none⟩ = some (.int .i64 (en : Int)) ∧ OwnRs V w.heap.size ra rs.length rc rs ∧ Below w.heap.size w V := by
  have h0 : RdM w (W.setCell ⟨w.heap.size, 0, none⟩ (.slice ra rs.length rc)) M ra rc vs ca cc bg cur rs size en := by
    obtain ⟨h1, h2, h3, h4, h5, h6⟩ := h.setBox (p := w.heap.size) (by omega) (by omega) (.slice ra rs.length rc)
    exact ⟨h1, h.low, h2, h.x0.set _, (h3 _ (by omega)).trans h.x1, (h3 _ (by omega)).trans h.x2, (h3 _ (by omega)).trans h.x3, (h3 _ (by omega)).trans h.x4, h4, h5, h6⟩
  have h1 := (h0.setSize size).1
  have h2 := (h1.setEnd en).1
  have h3 := h2.below ((Below.refl _ _).drew)
  have hk := ((KeepsOthers.setCell W ⟨w.heap.size, 0, none⟩ (.slice ra rs.length rc)).trans ((KeepsOthers.setCell _ ⟨w.heap.size + 1, 0, none⟩ (.int .i64 (size : Int))).trans ((KeepsOthers.setCell _ ⟨w.heap.size + 2, 0, none⟩ (.int .i64 (en : Int))).trans (KeepsOthers.drew _)))).same D o hK hcl
  have h4 := h3.own' (Nat.le_refl _) (grownBy_putObj' _ D (.deferred none)) (fun r e => by cases e; exact ⟨hD, o, hk, hcl⟩)
  rw [hV] at h4
  exact ⟨h4.x0.cell, h4.x1.cell, h4.x2.cell, ⟨rfl, vs, row_low h4.row (by omega), fun j hj => ⟨M, (h4.recs j hj).low (by omega)⟩⟩, h4.base⟩
theorem rdI_own (w : World) (b : List UInt8) {B : Nat} (hB : w.heap.size ≤ B) : OwnFrom B (RdI w b) := by
  rintro pre W W' row ⟨M, ra, rc, vs, ca, cc, bg, cur, rs, size, h, h1⟩ hg hr
  exact ⟨M, ra, rc, vs, ca, cc, bg, cur, rs, size, h.own' hB hg hr, h1⟩
theorem rdX_own (w : World) (b : List UInt8) (c : Code) {B : Nat} (hB : w.heap.size ≤ B) : OwnFrom B (RdX w b c) := by
  rintro pre W W' row ⟨hc, M, ra, rc, vs, ca, cc, bg, cur, rs, size, en, h, h1⟩ hg hr
  exact ⟨hc, M, ra, rc, vs, ca, cc, bg, cur, rs, size, en, h.own' hB hg hr, h1⟩
def RdA (w : World) (b : List UInt8) (a : Option Addr) (len cap : Nat) (x : PcX w b) (a' : Act) (W : World) : Prop :=
  ∃ Bx, w.heap.size + 6 ≤ Bx ∧ Box W Bx 155 #[.int .u8 (x.1.1.kind.toNat : Int), .slice x.1.2.1 x.1.1.n x.1.2.2, .int .i64 (x.1.1.behind : Int)] ∧
    a' = { tmps := #[.slice a len cap, undef, .pointer (some ⟨w.heap.size, 0, none⟩), .pointer (some ⟨w.heap.size + 1, 0, none⟩), .pointer (some ⟨w.heap.size + 2, 0, none⟩), .pointer (some ⟨w.heap.size + 3, 0, none⟩), .pointer (some ⟨w.heap.size + 4, 0, none⟩), .pointer (some ⟨Bx, 0, none⟩), .int .i64 (x.1.1.fault : Int), .slice a len cap, .func (.func 139) #[] #[.pointer (some ⟨w.heap.size + 5, 0, none⟩)], PcV x.1.1 x.1.2.1 x.1.2.2, .int .i64 (x.1.1.fault : Int), undef, undef, undef, undef, undef, undef, undef, undef, undef, undef, undef, undef, undef, undef, undef, undef, undef, undef, undef, undef, undef, undef, undef, undef, undef, undef, undef, undef, undef, undef, undef, undef], defers := [] }
set_option maxRecDepth 100000 in
set_option maxHeartbeats 2000000 in
theorem read_any (a : Option Addr) (len cap : Nat) (b : List UInt8) (w : World) (h : BsAt w a len cap b) (hl : len ≤ 140737488355328) (hc : (pcs b 0).length ≤ 1000000000000) :
    Calls Tryz.prog 48 #[.slice a len cap] w fun e w' => ∃ ra rc, e = .returned (.tuple #[.slice ra (walRead b).1.length rc, .int .i64 ((walRead b).2.1 : Int), .int .i64 ((walRead b).2.2 : Int)]) ∧ OwnRs w' w.heap.size ra (walRead b).1.length rc (walRead b).1 ∧ Below w.heap.size w w' := by
  have hmix : Tryz.prog.follows Departure.mixedOrders = true := by kernel_rfl
  refine (callsIn_wide (n := 6)).1 ?_
  refine callsIn_of_wp_marks Tryz.func48 rfl trivial ?_ rfl
  simp only [Tryz.ntmps48, List.size_toArray, List.length_cons, List.length_nil, Nat.reduceAdd, Nat.reduceSub, Array.replicate_succ, Array.replicate_zero, List.push_toArray, List.append_toArray, List.nil_append, List.cons_append]
  gi_wp2
  refine wpIn_wide.2 (wp_scope_straight ((wpIn_wide (n := 6)).1 ?_))
  gi_wp2
  refine wpIn_label ?_
  gi_wp2_with (refine ⟨trivial, ?_⟩; gi_at_call 87; refine (callsIn_wide.2 (pieces_any _ _ _ _)).mono ?_; rintro e w' ⟨rfl, rfl⟩)
  simp only [Nat.add_assoc, Nat.reduceAdd]
  obtain ⟨W0, hW0⟩ : ∃ W0, (((((w.alloc (.cells #[.slice none 0 0] TRows)).alloc (.cells #[.int .i64 0] 3)).alloc (.cells #[.int .i64 0] 3)).alloc (.cells #[.slice none 0 0] TBs)).alloc (.cells #[.bool false] 4)).alloc (.cells #[.slice a len cap] TBs) = W0 := ⟨_, rfl⟩
  obtain ⟨h0, hbx, hsz⟩ := RdM.start w a len cap hW0
  rw [hW0]
  clear hW0
  refine wpIn_rangeFunc_ownH (F := Fence.wide) rfl (by omega) (gf := 139) (lb := #[.pointer (some ⟨w.heap.size + 5, 0, none⟩)]) rfl trivial (enters_of Tryz.func139 (by kernel_rfl) rfl)
    (pieces_stops 5 (by omega) w a len cap b h hl (w.heap.size + 5) W0 h0.base hbx) Kp3.trans (Kp3.put (by omega) (by omega)) (Below.refl _ _) (fun _ => rfl)
    (RdI w b) (RdX w b) (rdI_own w b (by omega)) (fun c => rdX_own w b c (by omega)) ⟨_, _, _, _, _, _, _, _, _, _, h0, fun t => rfl, Nat.zero_le _, Nat.zero_le _⟩
    (RdA w b a len cap) ?hax ?assign ?body ?done ?stop
  case hax =>
    rintro x a' _ X Y row ⟨Bx, h1, h2, h3⟩ hg hr
    refine ⟨Bx, h1, ?_, h3⟩
    refine h2.kept (hg.block _ h2.lt (fun e => ?_))
    obtain ⟨_, o, ho, hcl⟩ := hr _ e.symm
    rw [show X.heap[Bx]? = _ from h2] at ho
    cases ho
    cases hcl
  case assign =>
    rintro l pre x W K ⟨M, ra, rc, vs, ca, cc, bg, cur, rs, size, hM, h1⟩ hK
    simp only [PcX.vals, PcV]
    gi_wp2
    have hbl : Below W.heap.size W (W.alloc (.cells #[.int .u8 (x.1.1.kind.toNat : Int), .slice x.1.2.1 x.1.1.n x.1.2.2, .int .i64 (x.1.1.behind : Int)] 155)) := (Below.refl _ W).alloc (Nat.le_refl _) _
    have hbg := hM.big
    exact hK _ _ ((KeepsOthers.alloc _ _).from _) (Kp3.of hbl (by omega) (by omega)) ⟨M, ra, rc, vs, ca, cc, bg, cur, rs, size, hM.below hbl, h1⟩ ⟨W.heap.size, hbg, Box.new W _ _, rfl⟩
  case body =>
    rintro l pre x a' W hl0 _ ⟨M, ra, rc, vs, ca, cc, bg, cur, rs, size, hM, hrd, hcur, hrs⟩ ⟨Bx, hBx, hx, rfl⟩ hlt
    obtain ⟨⟨⟨f, k, off, n⟩, ax, cx⟩, hok, hbs⟩ := x
    simp only [PcV] at *
    have hbg := hM.big
    by_cases hf : f = 0
    · subst hf
      obtain ⟨t, ht, ht3⟩ : ∃ t : Bool, decide (k.toNat = 1 ∨ k.toNat = 2) = t ∧ t = decide (k.toNat < 3) := by
        refine ⟨_, rfl, ?_⟩
        simp [Pc.Ok] at hok
        by_cases h3 : k.toNat < 3
        · rw [decide_eq_true h3, decide_eq_true (by omega)]
        · rw [decide_eq_false h3, decide_eq_false (by omega)]
      obtain ⟨bh, hbh⟩ : ∃ bh : Nat, Pc.behind ⟨0, k, off, n⟩ = bh := ⟨_, rfl⟩
      rw [hbh] at hx ⊢
      have y0 := hx.cell 0
      have y1 := hx.cell 1
      have y2 := hx.cell 2
      simp only [List.getElem?_toArray, List.getElem?_cons_zero, List.getElem?_cons_succ] at y0 y1 y2
      have c4 := hM.x4.cell
      have HM : Hid _ := hM
      have HX : Hid _ := hx
      have HT3 : Hid (t = decide (k.toNat < 3)) := ht3
      obtain ⟨ed, hed⟩ : ∃ ed : Bool, decide (k.toNat = 1 ∨ k.toNat = 4) = ed := ⟨_, rfl⟩
      have HOK : Hid (off + n ≤ b.length ∧ n ≤ 121 ∧ 1 ≤ k.toNat ∧ k.toNat ≤ 4) := by
        simp [Pc.Ok] at hok
        exact hok
      have HBB : Hid (BsAt w ax n cx (Pc.body b ⟨0, k, off, n⟩)) := hbs
      have HRD : Hid (∀ t, rdL b (PcX.pcs pre ++ t) false [] [] 0 = rdL b t bg cur rs size) := hrd
      have HBH : Hid (Pc.behind ⟨0, k, off, n⟩ = bh) := hbh
      have hn121 := HOK.out.2.1
      clear ht3 hM hx hrd hbh
      obtain ⟨q, hq, HQ⟩ : ∃ q : Bool, (t == bg) = q ∧ Hid (q = true ↔ t = bg) := ⟨_, rfl, by simp [Hid]⟩
      gi_wp2
      gi_region_with_o (refine ⟨trivial, ?_⟩; gi_at_call 88; refine (CallsIn.inRound l (callsIn_wide.2 (begins_eq k t ht _ _ _ _ _))).mono ?_; rintro e w2 ⟨rfl, hb2⟩
                        have c4' : w2.cell? ⟨w.heap.size + 4, 0, none⟩ = some (.bool bg) := by rw [hb2.cell (by simpa using HM.out.x4.lt)]; exact c4)
      all_goals
        have hb2 : Below W.heap.size W w2 := ((Below.refl _ W).drew).trans hb2
        have HM2 : Hid _ := HM.out.below hb2
        have HS2 : Hid (Stp w W w2) := Stp.of hb2 hbg
        have HX2 : Hid (Box w2 Bx 155 #[.int .u8 (k.toNat : Int), .slice ax n cx, .int .i64 (bh : Int)]) := Box.kept HX.out (hb2.block _ (Box.lt HX.out))
        clear c4 c4' y0 y1 y2
        by_cases hqt : q = true
        · subst hqt
          have c2 := HM2.out.x2.cell
          have f2 := HM2.out.x2.frozen
          gi_wp2
          obtain ⟨h3, st⟩ := HM2.out.setEnd 2
          refine ⟨(HS2.out.trans st).ko.from _, rfl, M, ra, rc, vs, ca, cc, bg, cur, rs, size, 2, h3, by omega, fun t' => ?_⟩
          have e := HQ.out.1 (by trivial)
          rw [HT3.out] at e
          rw [pcsX_snoc, List.append_assoc, HRD.out]
          simp [rdL, e]
        · obtain rfl : q = false := by simpa using hqt
          have c3 := HM2.out.x3.cell
          have y1 := Box.cell HX2.out 1
          simp only [List.getElem?_toArray, List.getElem?_cons_zero, List.getElem?_cons_succ] at y1
          have HBB2 : Hid (BsAt w2 ax n cx (Pc.body b ⟨0, k, off, n⟩)) := HBB.out.below (Nat.le_refl _) HM2.out.base
          have hcl : cur.length + n ≤ 140737488355328 := by omega
          gi_wp2_with (gi_at_builtin; refine wpListIn_app w2 rfl _ _ rfl M ca cur.length cc cur rfl HM2.out.own ax n cx (Pc.body b ⟨0, k, off, n⟩) rfl HBB2.out hcl HM2.out.high ?_; intro a3 c3' w3 ho3 hg3
                       obtain ⟨hc3, hf3, hM3, hs3⟩ := HM2.out.appended (by rw [List.length_append, HBB.out.size]) ho3 hg3
                       have HX3 : Hid (Box (w3.setCell ⟨w.heap.size + 3, 0, none⟩ (.slice a3 (cur.length + n) c3')) Bx 155 #[.int .u8 (k.toNat : Int), .slice ax n cx, .int .i64 (bh : Int)]) := hs3.kp.tag _ _ _ HX2.out
                       have z0 := Box.cell HX3.out 0
                       have z1 := Box.cell HX3.out 1
                       have z2 := Box.cell HX3.out 2
                       simp only [List.getElem?_toArray, List.getElem?_cons_zero, List.getElem?_cons_succ] at z0 z1 z2)
          refine ⟨trivial, ?_⟩
          refine (CallsIn.inRound l (callsIn_wide.2 (ends_eq k ed hed _ _ _ _ _))).mono ?_
          rintro e w5 ⟨rfl, hb5⟩
          have HLEN : Hid ((cur ++ Pc.body b ⟨0, k, off, n⟩).length = cur.length + n) := by unfold Hid; rw [List.length_append, HBB.out.size]
          obtain ⟨cur', HC'⟩ : ∃ cur', Hid (cur ++ Pc.body b ⟨0, k, off, n⟩ = cur') := ⟨_, rfl⟩
          rw [HC'.out] at HLEN hM3
          have HM5 : Hid _ := hM3.below hb5
          have HS5 : Hid (Stp w W w5) := (HS2.out.trans hs3).trans (Stp.of hb5 hM3.big)
          have HX5 : Hid (Box w5 Bx 155 #[.int .u8 (k.toNat : Int), .slice ax n cx, .int .i64 (bh : Int)]) := Box.kept HX3.out (hb5.block _ (Box.lt HX3.out))
          have c4 := HM5.out.x4.cell
          have f4 := HM5.out.x4.frozen
          clear hM3 hs3 hb5 hc3 hf3 c3 y1 z0 z1 z2 HX3 ho3 hg3
          have HK : Hid (ed = false → ∀ t', rdL b (PcX.pcs pre ++ (⟨0, k, off, n⟩ :: t')) false [] [] 0 = rdL b t' true cur' rs size) := by
            rintro rfl t'
            have hne : ¬ decide (k.toNat < 3) = bg := by
              have := HQ.out
              rw [HT3.out] at this
              intro e
              exact absurd (this.2 e) (by simp)
            have hk4 : ¬ (k.toNat = 1 ∨ k.toNat = 4) := of_decide_eq_false hed
            rw [HRD.out, rdL, if_neg (by simp), if_neg hne, if_neg hk4, HC'.out]
          have HK2 : Hid (ed = true → ∀ t', rdL b (PcX.pcs pre ++ (⟨0, k, off, n⟩ :: t')) false [] [] 0 = rdL b t' false [] (rs ++ [cur']) bh) := by
            rintro rfl t'
            have hne : ¬ decide (k.toNat < 3) = bg := by
              have := HQ.out
              rw [HT3.out] at this
              intro e
              exact absurd (this.2 e) (by simp)
            have hk4 : k.toNat = 1 ∨ k.toNat = 4 := of_decide_eq_true hed
            rw [HRD.out, rdL, if_neg (by simp), if_neg hne, if_pos hk4, HC'.out, HBH.out]
          generalize hL3 : cur.length + n = L3 at *
          cases ed
          · obtain ⟨hM6, hs6⟩ := HM5.out.setBegun true
            gi_wp2
            refine ⟨(HS5.out.trans hs6).ko.from _, (HS5.out.trans hs6).kp, M, ra, rc, vs, a3, c3', true, cur', rs, size, hM6, fun t' => ?_, ?_, ?_⟩
            · rw [pcsX_snoc, List.append_assoc]
              exact HK.out (by trivial) t'
            · rw [HLEN.out, List.length_append]
              simp only [List.length_cons, List.length_nil]
              omega
            · rw [List.length_append]
              omega
          · obtain ⟨hM6, hs6⟩ := HM5.out.setBegun false
            have HX6 : Hid (Box (w5.setCell ⟨w.heap.size + 4, 0, none⟩ (.bool false)) Bx 155 #[.int .u8 (k.toNat : Int), .slice ax n cx, .int .i64 (bh : Int)]) := hs6.kp.tag _ _ _ HX5.out
            have c0 := hM6.x0.cell
            have c3 := hM6.x3.cell
            rw [HLEN.out] at c3
            have HM6 : Hid _ := hM6
            have HS6 : Hid (Stp w W (w5.setCell ⟨w.heap.size + 4, 0, none⟩ (.bool false))) := HS5.out.trans hs6
            have hrl : rs.length + 1 ≤ 5000000000000 := by omega
            clear hM6 hs6
            gi_wp2_with (gi_at_builtin; refine wpListIn_push (w5.setCell ⟨w.heap.size + 4, 0, none⟩ (.bool false)) rfl _ _ rfl (w.heap.size + 6) ra rs.length rc vs rfl HM6.out.row (.slice a3 L3 c3') rfl (by simp [Act.eval]) hrl HM6.out.big ?_; intro a7 c7 w7 hr7 hg7
                         rw [show L3 = cur'.length from HLEN.out.symm] at hr7
                         obtain ⟨hc0, hf0, hc3, hf3, hM7, hs7⟩ := HM6.out.pushed rfl hr7 hg7
                         rw [HLEN.out] at hc3
                         have HX7 := Box.cell (hs7.kp.tag _ _ _ HX6.out) 2
                         simp only [List.getElem?_toArray, List.getElem?_cons_zero, List.getElem?_cons_succ] at HX7
                         have c1 := hM7.x1.cell
                         have f1 := hM7.x1.frozen)
            obtain ⟨hM8, hs8⟩ := hM7.setSize bh
            have hst := (HS6.out.trans hs7).trans hs8
            refine ⟨hst.ko.from _, hst.kp, _, a7, c7, _, none, 0, false, [], rs ++ [cur'], bh, hM8, fun t' => ?_, Nat.zero_le _, ?_⟩
            · rw [pcsX_snoc, List.append_assoc]
              exact HK2.out (by trivial) t'
            · rw [List.length_append, List.length_append]
              simp only [List.length_cons, List.length_nil]
              omega
    · have c2 := hM.x2.cell
      have f2 := hM.x2.frozen
      have hne : ((f : Int) != 0) = true := by simp; omega
      gi_wp2
      obtain ⟨h2, st⟩ := hM.setEnd f
      exact ⟨st.ko.from _, rfl, M, ra, rc, vs, ca, cc, bg, cur, rs, size, f, h2, hf, fun t => by rw [pcsX_snoc, List.append_assoc, hrd]; simp [rdL, hf]⟩
  case done =>
    rintro D xs W hD hS ⟨M, ra, rc, vs, ca, cc, bg, cur, rs, size, hM, hrd, _, _⟩ hK
    have hrd := hrd []
    rw [List.append_nil, hS] at hrd
    have HRD : Hid (walRead b = (rs, size, if bg = true then 1 else 0)) := hrd
    have c2 := hM.x2.cell
    have c4 := hM.x4.cell
    have HM : Hid _ := hM
    clear hM hrd
    cases bg
    · have c0 := HM.out.x0.cell
      have f0 := HM.out.x0.frozen
      have c1 := HM.out.x1.cell
      have f1 := HM.out.x1.frozen
      have f2 := HM.out.x2.frozen
      gi_wp2
      gi_region_with_o (fail)
      all_goals gi_wp2
      all_goals rw [Exit.noGoto_ret]
      all_goals refine ⟨by simp, .inl ⟨_, _, rfl, run_takeDeferred (((KeepsOthers.setCell _ _ _).trans ((KeepsOthers.setCell _ _ _).trans ((KeepsOthers.setCell _ _ _).trans (KeepsOthers.drew _)))).same D _ hK rfl), ?_⟩⟩
      all_goals
        obtain ⟨V, hV⟩ : ∃ V, ((((W.setCell ⟨w.heap.size, 0, none⟩ (.slice ra rs.length rc)).setCell ⟨w.heap.size + 1, 0, none⟩ (.int .i64 (size : Int))).setCell ⟨w.heap.size + 2, 0, none⟩ (.int .i64 0)).drew.putObj D (Obj.deferred none)) = V := ⟨_, rfl⟩
        rw [hV]
        obtain ⟨hc0, hc1, hc2, hrs, hbl⟩ := HM.out.fin (D := D) (by omega) hK rfl hV
        clear hV
        refine ⟨.tuple #[.slice ra rs.length rc, .int .i64 (size : Int), .int .i64 0], ?_, ra, rc, ?_, ?_, ?_⟩
        · simp [results, Tryz.results48, go_sem, hc0, hc1, hc2]
        · rw [HRD.out]; rfl
        · rw [HRD.out]; exact hrs
        · exact hbl
    · have HM1 : Hid _ := (HM.out.setEnd 1).1
      have HK1 := (KeepsOthers.setCell W ⟨w.heap.size + 2, 0, none⟩ (.int .i64 1)).same D _ hK rfl
      have c0 := HM.out.x0.cell
      have f0 := HM.out.x0.frozen
      have c1 := HM.out.x1.cell
      have f1 := HM.out.x1.frozen
      have f2 := HM.out.x2.frozen
      gi_wp2
      gi_region_with_o (fail)
      all_goals gi_wp2
      all_goals rw [Exit.noGoto_ret]
      all_goals refine ⟨by simp, .inl ⟨_, _, rfl, run_takeDeferred (((KeepsOthers.setCell _ _ _).trans ((KeepsOthers.setCell _ _ _).trans ((KeepsOthers.setCell _ _ _).trans (KeepsOthers.drew _)))).same D _ HK1 rfl), ?_⟩⟩
      all_goals
        obtain ⟨V, hV⟩ : ∃ V, (((((W.setCell ⟨w.heap.size + 2, 0, none⟩ (.int .i64 1)).setCell ⟨w.heap.size, 0, none⟩ (.slice ra rs.length rc)).setCell ⟨w.heap.size + 1, 0, none⟩ (.int .i64 (size : Int))).setCell ⟨w.heap.size + 2, 0, none⟩ (.int .i64 1)).drew.putObj D (Obj.deferred none)) = V := ⟨_, rfl⟩
        rw [hV]
        obtain ⟨hc0, hc1, hc2, hrs, hbl⟩ := HM1.out.fin (D := D) (by omega) HK1 rfl hV
        clear hV
        refine ⟨.tuple #[.slice ra rs.length rc, .int .i64 (size : Int), .int .i64 1], ?_, ra, rc, ?_, ?_, ?_⟩
        · simp [results, Tryz.results48, go_sem, hc0, hc1, hc2]
        · rw [HRD.out]; rfl
        · rw [HRD.out]; exact hrs
        · exact hbl
  case stop =>
    rintro D c pre W hD ⟨tl, hS⟩ ⟨rfl, M, ra, rc, vs, ca, cc, bg, cur, rs, size, en, hM, hen, hrd⟩ hK
    have hrd := hrd tl
    rw [hS] at hrd
    have HRD : Hid (walRead b = (rs, size, en)) := hrd
    have c0 := hM.x0.cell
    have f0 := hM.x0.frozen
    have c1 := hM.x1.cell
    have f1 := hM.x1.frozen
    have c2 := hM.x2.cell
    have f2 := hM.x2.frozen
    have hne : ((en : Int) == 0) = false := by simp; omega
    have HM : Hid _ := hM
    clear hM hrd hen
    gi_wp2
    gi_region_with_o (fail)
    all_goals gi_wp2
    all_goals rw [Exit.noGoto_ret]
    all_goals refine ⟨by simp, .inl ⟨_, _, rfl, run_takeDeferred (((KeepsOthers.setCell _ _ _).trans ((KeepsOthers.setCell _ _ _).trans ((KeepsOthers.setCell _ _ _).trans (KeepsOthers.drew _)))).same D _ hK rfl), ?_⟩⟩
    all_goals
      obtain ⟨V, hV⟩ : ∃ V, ((((W.setCell ⟨w.heap.size, 0, none⟩ (.slice ra rs.length rc)).setCell ⟨w.heap.size + 1, 0, none⟩ (.int .i64 (size : Int))).setCell ⟨w.heap.size + 2, 0, none⟩ (.int .i64 (en : Int))).drew.putObj D (Obj.deferred none)) = V := ⟨_, rfl⟩
      rw [hV]
      obtain ⟨hc0, hc1, hc2, hrs, hbl⟩ := HM.out.fin (D := D) (by omega) hK rfl hV
      clear hV
      refine ⟨.tuple #[.slice ra rs.length rc, .int .i64 (size : Int), .int .i64 (en : Int)], ?_, ra, rc, ?_, ?_, ?_⟩
      · simp [results, Tryz.results48, go_sem, hc0, hc1, hc2]
      · rw [HRD.out]
      · rw [HRD.out]; exact hrs
      · exact hbl
end Go.Proofs.YtmlfbihlbiikeaaGreatDoor
