/- The contract of sstable's tableBytes. -/
import Derived.Test.YtgegjcnjlibfdaaGreatT12TabA
import Derived.Test.YtgegjcnjlibfdaaGreatT12FootOf
namespace Go.Proofs.YtgegjcnjlibfdaaGreat
set_option maxRecDepth 100000
open Go.RowKit Go.Shelf
attribute [local go_sem] Oper.semAt_some
set_option linter.unusedVariables false
set_option linter.unusedSimpArgs false
theorem lay_le12 {iv : Nat} (hi : 1 ≤ iv) (l : List KV) (hl : ∀ e ∈ l, EOk e) : (layP iv l).length ≤ 1106 * l.length + 5 := by
  have h : ∀ cs : List (List KV), (∀ c ∈ cs, ∀ e ∈ c, EOk e) → ((cs.map (strB [])).flatten).length ≤ 1102 * cs.flatten.length := by
    intro cs
    induction cs with
    | nil => simp
    | cons c r ih =>
      intro hc
      have h1 := strB_len c [] (hc c List.mem_cons_self)
      have h2 := ih fun d hd => hc d (List.mem_cons_of_mem _ hd)
      simp only [List.flatten_cons, List.map_cons, List.length_append]
      omega
  have h1 := h (chunks iv l) fun c hc e he => hl e ((chunks_mem hi l c hc).2.2 e he)
  rw [chunks_flat hi] at h1
  have h2 := chunks_len_le hi l
  rw [layP_join, join_len, strs_len]
  unfold strs
  omega
theorem body_len {w : World} {iv : Nat} (hi : 1 ≤ iv) : ∀ pre : List (GpX w), (bodyT (tdOf iv (GpX.ls pre))).length ≤ 1106009 * pre.length ∧ (ixE 0 (tdOf iv (GpX.ls pre))).length = pre.length := by
  intro pre
  constructor
  · induction pre with
    | nil => simp [bodyT, tdOf, GpX.ls]
    | cons x r ih =>
      have e1 : bodyT (tdOf iv (GpX.ls (x :: r))) = partB (layP iv x.1.2) ++ bodyT (tdOf iv (GpX.ls r)) := rfl
      have h1 := lay_le12 hi x.1.2 (chkL_zero.1 x.2.2.2.2.1).1
      have h2 := x.2.2.2.1
      rw [e1, List.length_append, partB_len, List.length_cons]
      omega
  · have h : ∀ (ps : List (List UInt8 × IK)) (k : Nat), (ixE k ps).length = ps.length := by
      intro ps
      induction ps with
      | nil => intro k; rfl
      | cons y r ih => intro k; simp [ixE, ih]
    rw [h]
    simp [tdOf, GpX.ls]
/-- Behind the loop. -/
structure TZ (w : World) (q : Nat) (ao : Option Addr) (no co : Nat) (lo : List UInt8) (ai : Option Addr) (ni ci : Nat) (li : List KV) (gf : Nat) (fa : Array Value) (D : Nat) (V : World) : Prop where
  base : Below w.heap.size w V
  le : w.heap.size ≤ q
  bo : Box V (q + 1) TBs #[.slice ao no co]
  bi : Box V (q + 2) TKs #[.slice ai ni ci]
  oo : OwnB V w.heap.size ao no co lo
  oi : OwnK V w.heap.size ai ni ci li
  ft : Box V gf TFt fa
  gq : q + 4 < gf
  df : V.heap[D]? = some (.deferred (some []))
section
variable {w : World} {q : Nat} {ao : Option Addr} {no co : Nat} {lo : List UInt8} {ai : Option Addr} {ni ci : Nat} {li : List KV} {gf : Nat} {fa : Array Value} {D : Nat} {V V' : World}
theorem TZ.call (h : TZ w q ao no co lo ai ni ci li gf fa D V) (hb : Below V.heap.size V V') : TZ w q ao no co lo ai ni ci li gf fa D V' :=
  ⟨h.base.trans (hb.mono h.base.size), h.le, h.bo.kept (hb.block _ h.bo.lt), h.bi.kept (hb.block _ h.bi.lt), h.oo.below hb, h.oi.below hb, h.ft.kept (hb.block _ h.ft.lt), h.gq, (hb.block D (Array.getElem?_eq_some_iff.1 h.df).1).trans h.df⟩
theorem box_df {p D : Nat} {t : TypeId} {arr : Array Value} (hp : Box V p t arr) (hd : V.heap[D]? = some (.deferred (some []))) : D ≠ p := fun e => by
  rw [e, hp] at hd
  cases hd
theorem TZ.lay (h : TZ w q ao no co lo ai ni ci li gf fa D V) (hc : Chg (fun k => blkOf ao = some k) V V') {ao' : Option Addr} {no' co' : Nat} {lo' : List UInt8} (ho : OwnB V' w.heap.size ao' no' co' lo') :
    Box V' (q + 1) TBs #[.slice ao no co] ∧ Box V' gf TFt fa ∧ TZ w q ao' no' co' lo' ai ni ci li gf fa D (V'.setCell ⟨q + 1, 0, none⟩ (.slice ao' no' co')) := by
  have kb : ∀ {p : Nat} {t : TypeId} {arr : Array Value}, Box V p t arr → t ≠ 5 → Box V' p t arr := fun {p t arr} hp ht => hp.kept (hc.block _ hp.lt (fun e => h.oo.apart hp ht e))
  have hbB : Below w.heap.size V V' := hc.below (fun k e => h.oo.ge e) h.base.size
  have hk1 := kb h.bo (by decide)
  have hoi : OwnK V' w.heap.size ai ni ci li := h.oi.kept fun k e => hc.block k (tag_lt (h.oi.tag e)) (fun e2 => by have h1 := h.oo.tag e2; rw [h.oi.tag e] at h1; cases h1)
  have hdf : V'.heap[D]? = some (.deferred (some [])) := (hc.block D (Array.getElem?_eq_some_iff.1 h.df).1 (fun e => by have := row_cells h.oo.row D _ e h.df; cases this)).trans h.df
  have hle := h.le
  have hgq := h.gq
  refine ⟨hk1, kb h.ft (by decide), (h.base.trans hbB).setCell (p := ⟨q + 1, 0, none⟩) (by show w.heap.size ≤ q + 1; omega) _, h.le, (hk1.set 0 _).eq (by simp), (kb h.bi (by decide)).other (by omega) _ _, ?_, ?_, (kb h.ft (by decide)).other (by omega) _ _, h.gq, (Below.heap_setCell _ _ _ _ (box_df hk1 hdf)).trans hdf⟩
  · exact ho.kept fun k e => Below.heap_setCell _ _ _ _ (fun e2 => ho.apart hk1 (by decide) (by rw [e, e2]))
  · exact hoi.kept fun k e => Below.heap_setCell _ _ _ _ (fun e2 => by have h1 := hoi.tag e; rw [e2, hk1.tag] at h1; cases h1)
theorem TZ.setFt (h : TZ w q ao no co lo ai ni ci li gf fa D V) (j : Nat) (v : Value) : TZ w q ao no co lo ai ni ci li gf (fa.setIfInBounds j v) D (V.setCell ⟨gf, j, none⟩ v) := by
  have hgq := h.gq
  have hle := h.le
  refine ⟨h.base.setCell (p := ⟨gf, j, none⟩) (by show w.heap.size ≤ gf; omega) _, h.le, h.bo.other (by omega) _ _, h.bi.other (by omega) _ _, ?_, ?_, h.ft.set _ _, h.gq, (Below.heap_setCell _ _ _ _ (box_df h.ft h.df)).trans h.df⟩
  · exact h.oo.kept fun k e => Below.heap_setCell _ _ _ _ (fun e2 => h.oo.apart h.ft (by decide) (by rw [e, e2]))
  · exact h.oi.kept fun k e => Below.heap_setCell _ _ _ _ (fun e2 => by have h1 := h.oi.tag e; rw [e2, h.ft.tag] at h1; cases h1)
end
theorem keepP {V : World} {g h : Nat} {x y z u : Value} (hne : h ≠ g) (hh : V.cell? ⟨h, 1, none⟩ = some u) : (((V.setCell ⟨g, 0, none⟩ x).setCell ⟨g, 1, none⟩ y)).cell? ⟨h, 1, none⟩ = some u := by
  rw [World.cell?_of_block (Below.heap_setCell _ _ _ _ hne), World.cell?_of_block (Below.heap_setCell _ _ _ _ hne)]
  exact hh
set_option maxHeartbeats 8000000 in
theorem table_any {a af : Option Addr} {n c nf cf iv bl bits : Nat} {l : List KV} {fl : List UInt8} {w : World} (h : KsAt w a n c l) (hF : FL a n c iv bl l) (hf : BsAt w af nf cf fl) (hnf : nf ≤ 1000000000) (hnf0 : 0 < nf) (hn : n ≤ 1000) :
    Calls Tryz.prog 25 #[.slice a n c, .slice af nf cf, .agg (opA (bl : Int) (iv : Int) bits)] w fun r w' => ∃ a' c', r = .returned (.slice a' (tabB (tdOf iv (grps iv bl l)) fl n).length c') ∧ OwnB w' w.heap.size a' (tabB (tdOf iv (grps iv bl l)) fl n).length c' (tabB (tdOf iv (grps iv bl l)) fl n) ∧ Below w.heap.size w w' := by
  have hmix : Tryz.prog.follows Departure.mixedOrders = true := by kernel_rfl
  have HH : Hid (KsAt w a n c l ∧ FL a n c iv bl l ∧ BsAt w af nf cf fl) := ⟨h, hF, hf⟩
  have hiv1 := hF.one
  have hiv16 := hF.top
  clear h hF hf
  refine (callsIn_wide (n := 6)).1 ?_
  refine callsIn_of_wp_marks Tryz.func25 rfl trivial ?_ rfl
  unfold opA
  simp only [Tryz.ntmps25, List.size_toArray, List.length_cons, List.length_nil, Nat.reduceAdd, Nat.reduceSub, Array.replicate_succ, Array.replicate_zero, List.push_toArray, List.append_toArray, List.nil_append, List.cons_append]
  gi_wp2_with (first
    | (refine ⟨trivial, ?_⟩; gi_at_call 62; refine (callsIn_wide.2 (groups_any a n c (bl : Int) (iv : Int) bits _)).mono ?_; rintro e w2 ⟨rfl, rfl⟩))
  simp only [Nat.add_assoc, Nat.reduceAdd]
  generalize hw2 : ((((w.alloc (.cells #[.int .i64 (bl : Int), .int .i64 (iv : Int), .float .f64 bits] TOp)).alloc (.cells #[.slice none 0 0] TBs)).alloc (.cells #[.slice none 0 0] TKs)).alloc (.cells #[.slice a n c] TKs)).alloc (.cells (opA (bl : Int) (iv : Int) bits) TOp) = w2
  have W4 : Hid (TI w w.heap.size a n c iv bl bits [] w2 ∧ w2.heap.size = w.heap.size + 5) := by
    subst hw2
    refine ⟨⟨(((((Below.refl _ _).alloc (Nat.le_refl _) _).alloc (by simp) _).alloc (by simp; omega) _).alloc (by simp; omega) _).alloc (by simp; omega) _, Nat.le_refl _, ((((Box.new _ _ _).alloc _).alloc _).alloc _).alloc _, ?_, ?_, none, none, 0, 0, 0, 0, ?_, ?_, OwnB.nil _ _, OwnK.nil _ _⟩, by simp⟩
    · have := (Box.new (((w.alloc (.cells #[.int .i64 (bl : Int), .int .i64 (iv : Int), .float .f64 bits] TOp)).alloc (.cells #[.slice none 0 0] TBs)).alloc (.cells #[.slice none 0 0] TKs)) TKs #[.slice a n c]).alloc (.cells (opA (bl : Int) (iv : Int) bits) TOp)
      simpa [Nat.add_assoc] using this
    · have := Box.new ((((w.alloc (.cells #[.int .i64 (bl : Int), .int .i64 (iv : Int), .float .f64 bits] TOp)).alloc (.cells #[.slice none 0 0] TBs)).alloc (.cells #[.slice none 0 0] TKs)).alloc (.cells #[.slice a n c] TKs)) TOp (opA (bl : Int) (iv : Int) bits)
      simpa [Nat.add_assoc] using this
    · have := (((Box.new (w.alloc (.cells #[.int .i64 (bl : Int), .int .i64 (iv : Int), .float .f64 bits] TOp)) TBs #[.slice none 0 0]).alloc (.cells #[.slice none 0 0] TKs)).alloc (.cells #[.slice a n c] TKs)).alloc (.cells (opA (bl : Int) (iv : Int) bits) TOp)
      simpa [Nat.add_assoc] using this
    · have := ((Box.new ((w.alloc (.cells #[.int .i64 (bl : Int), .int .i64 (iv : Int), .float .f64 bits] TOp)).alloc (.cells #[.slice none 0 0] TBs)) TKs #[.slice none 0 0]).alloc (.cells #[.slice a n c] TKs)).alloc (.cells (opA (bl : Int) (iv : Int) bits) TOp)
      simpa [Nat.add_assoc] using this
  clear hw2
  have hlen5 := W4.out.2
  obtain ⟨q, hq⟩ : ∃ q, w.heap.size = q := ⟨_, rfl⟩
  have HQ : Hid (w.heap.size = q) := hq
  rw [hq] at hlen5
  have W5 : Hid (TI w q a n c iv bl bits [] w2) := by rw [← HQ.out]; exact W4.out.1
  rw [hq]
  clear W4 hq
  refine wpIn_rangeFunc_ownG (F := Fence.wide) rfl (by omega) (gf := 103) (lb := #[.pointer (some ⟨q + 3, 0, none⟩), .pointer (some ⟨q + 4, 0, none⟩)]) rfl trivial (enters_of Tryz.func103 (by kernel_rfl) rfl)
    (groups_stops 5 (by omega) w a n c iv bl bits l HH.out.1 HH.out.2.1 hn (q + 3) w2 W5.out.base W5.out.x3 W5.out.x4) Kp4.trans (Kp4.put W5.out.base.size (by omega)) (Below.refl _ _) (fun _ => rfl)
    (TI w q a n c iv bl bits) (TX w) (TI.own w q a n c iv bl bits _ W5.out.base.size) (fun c pre W W' row h => h.elim) W5.out
    (fun x => { tmps := #[.slice a n c, .slice af nf cf, .agg #[.int .i64 (bl : Int), .int .i64 (iv : Int), .float .f64 bits], undef, undef, .pointer (some ⟨q, 0, none⟩), .slice none 0 0, .pointer (some ⟨q + 1, 0, none⟩), .pointer (some ⟨q + 2, 0, none⟩), .slice x.1.1 x.1.2.length x.1.2.length, undef, undef, .slice a n c, .agg #[.int .i64 (bl : Int), .int .i64 (iv : Int), .float .f64 bits],
        .func (.func 103) #[] #[.pointer (some ⟨q + 3, 0, none⟩), .pointer (some ⟨q + 4, 0, none⟩)], .slice x.1.1 x.1.2.length x.1.2.length, undef, undef, undef, undef, undef, undef, undef, undef, undef, undef, undef, undef, undef, undef, undef, undef, undef, undef, undef, undef, undef, undef, undef, undef, undef, undef, undef, undef, undef, undef, undef, undef, undef, undef, undef, undef, undef, undef, undef, undef, undef, undef, undef, undef, undef], defers := [] }) ?assign ?body ?done ?stop
  case assign =>
    intro lb x W K hK
    simp only [GpX.vals]
    gi_wp2
    exact hK
  case body =>
    rintro lb pre x W hI hpl
    obtain ⟨ao, ai, no, co, ni, ci, g3, g4, g5, g6⟩ := hI.here
    obtain ⟨hks, hxne, hxl, hxok, hxb, hxs⟩ := x.2
    dsimp only
    generalize x.1.1 = xa at hks hxb hxs ⊢
    generalize hxe : x.1.2 = xl at hks hxne hxl hxok hxb ⊢
    have HXE : Hid (x.1.2 = xl) := hxe
    clear hxe
    have hgl := Nat.le_trans (grps_len iv bl l) (by rw [HH.out.2.1.len]; exact hn : l.length ≤ 1000)
    have hplen : pre.length < 1000 := by omega

    have hbl := body_len hiv1 pre
    have hno : no ≤ 1200000000 := by have := g5.size; omega
    have hni : ni ≤ 1000 := by have := g6.size; omega
    have hgw : w.heap.size ≤ W.heap.size := hI.base.size
    have G : Hid (TS12 w q W a n c iv bl bits ao no co (bodyT (tdOf iv (GpX.ls pre))) ai ni ci (ixE 0 (tdOf iv (GpX.ls pre))) W.heap.size #[.int .u64 0, .int .u64 0] (W.alloc (.cells #[.int .u64 0, .int .u64 0] TPl))) := by
      have hA : Below W.heap.size W (W.alloc (.cells #[.int .u64 0, .int .u64 0] TPl)) := (Below.refl _ _).alloc (Nat.le_refl _) _
      exact ⟨hI.base.alloc hI.base.size _, hI.le, RK.of hA hI.base.size (by have := hI.x4.lt; omega), hI.opt.alloc _, hI.x3.alloc _, hI.x4.alloc _, g3.alloc _, g4.alloc _, g5.alloc _, g6.alloc _, Box.new _ _ _, hI.x4.lt⟩
    have HKS : Hid (KsAt w xa xl.length xl.length xl ∧ (xa = none → xl.length = 0) ∧ (∀ y, xa = some y → y.spot = none) ∧ chkL xl = 0 ∧ xl ≠ []) := ⟨hks, hxb, hxs, hxok, hxne⟩
    have HLL : Hid ((layP iv xl).length ≤ 1200000 ∧ (bodyT (tdOf iv (GpX.ls pre))).length = no ∧ (ixE 0 (tdOf iv (GpX.ls pre))).length = ni) := ⟨by have := lay_le12 hiv1 xl (chkL_zero.1 hxok).1; omega, g5.size, g6.size⟩
    have HBB : Hid (∀ V, Below w.heap.size w V → Calls Tryz.prog 64 #[.slice xa xl.length xl.length, .int .i64 (iv : Int)] V fun r w' => ∃ a' c', r = .returned (.slice a' (layP iv xl).length c') ∧ OwnB w' V.heap.size a' (layP iv xl).length c' (layP iv xl) ∧ Below V.heap.size V w') := fun V hV => blk_yes xa xl.length xl.length xl iv hiv1 hiv16 V (HKS.out.1.below hV) HKS.out.2.1 HKS.out.2.2.1 (by omega) HKS.out.2.2.2.1
    clear hks hxb hxs hxok hxne g3 g4 g5 g6 hI hbl
    generalize hlo : bodyT (tdOf iv (GpX.ls pre)) = lo at G
    generalize hli : ixE 0 (tdOf iv (GpX.ls pre)) = li at G
    have HLO : Hid (bodyT (tdOf iv (GpX.ls pre)) = lo ∧ ixE 0 (tdOf iv (GpX.ls pre)) = li) := ⟨hlo, hli⟩
    clear hlo hli
    obtain ⟨xn, HXN⟩ : ∃ xn, Hid (xl.length = xn) := ⟨_, (rfl : xl.length = xl.length)⟩
    rw [HXN.out] at HBB hxl ⊢
    obtain ⟨ln, HLN⟩ : ∃ ln, Hid ((layP iv xl).length = ln) := ⟨_, (rfl : (layP iv xl).length = (layP iv xl).length)⟩
    rw [HLN.out] at HBB
    have hln : ln ≤ 1200000 := by rw [← HLN.out]; exact HLL.out.1
    have hxn1 : 1 ≤ xn := by
      rw [← HXN.out]
      exact List.length_pos_iff.2 HKS.out.2.2.2.2
    obtain ⟨b, off, hab, hcs⟩ := HKS.out.1.cells4 (by rw [HXN.out]; omega)
    obtain ⟨k0, k1, k2, _⟩ := hcs (xn - 1) (by rw [HXN.out]; omega)
    have HLK : Hid (lastK xl = (xl[xn - 1]'(by rw [HXN.out]; omega)).1) := by
      obtain ⟨z, _, hz, hz2⟩ := lastK_mem HKS.out.2.2.2.2
      unfold Hid
      rw [hz2]
      rw [List.getLast?_eq_getElem?, HXN.out, List.getElem?_eq_getElem (by rw [HXN.out]; omega)] at hz
      rw [Option.some.inj hz]
    have hixk := fun V => idxKV V (a := xa) (b := b) (off := off) (n := xn) (c := xn) (i := xn - 1) hab (by omega)
    rw [show ((xn - 1 : Nat) : Int) = (xn : Int) - 1 by omega] at hixk
    generalize (xl[xn - 1]'(by rw [HXN.out]; omega)).1 = ek at k0 k1 k2 HLK
    obtain ⟨ko, HKO⟩ : ∃ ko, Hid (off + (xn - 1) * 4 = ko) := ⟨_, (rfl : off + (xn - 1) * 4 = off + (xn - 1) * 4)⟩
    rw [HKO.out] at k0 k1 k2 hixk
    have HKC : Hid (∀ V : World, Below w.heap.size w V → V.cell? ⟨b, ko, none⟩ = some (.string ek.user) ∧ V.cell? ⟨b, ko + 1, none⟩ = some (.int .u64 (ek.seq : Int)) ∧ V.cell? ⟨b, ko + 2, none⟩ = some (.int .i64 ek.kind)) := fun V hV => by
      have tr : ∀ {a : Addr} {v : Value}, w.cell? a = some v → V.cell? a = some v := fun {a v} hv => by rw [hV.cell (World.block_lt_of_cell? w _ hv)]; exact hv
      exact ⟨tr k0, tr k1, tr k2⟩
    have hwx : IntKind.i64.wrap ((xn : Int) - 1) = (xn : Int) - 1 := by
      have := i64_wrap (xn - 1) (by omega)
      rwa [show ((xn - 1 : Nat) : Int) = (xn : Int) - 1 by omega] at this
    clear k0 k1 k2 hcs hab
    gi_wp2
    rename_i K6 hK6
    generalize W.alloc (.cells #[.int .u64 0, .int .u64 0] TPl) = V0 at *
    generalize W.heap.size = gp at *
    have c1 : V0.drew.cell? ⟨q, 1, none⟩ = some (.int .i64 (iv : Int)) := G.out.opt.cell 1
    have o0 : V0.drew.cell? ⟨q + 1, 0, none⟩ = some (.slice ao no co) := G.out.bo.cell 0
    refine wpIn_region_round (S := fun V => V.cell? ⟨q, 1, none⟩ = some (.int .i64 (iv : Int))) hmix (by kernel_rfl) (by rintro ⟨_, _, hh⟩; exact hh) c1 (fun hHeld => ?_)
    refine wpAnyH_take (i := 1) (v := ?_) rfl (by kernel_rfl) (by kernel_rfl) (by kernel_rfl) (fun _ _ _ h => h) (Or.inl ⟨by rfl, ?_⟩) hHeld ?_
    rotate_left
    · intro w hSw
      try dsimp only at hSw
      go_simp
      try with_reducible rfl
    try simp only [Act.put, List.getElem_toArray, List.getElem_cons_succ, List.getElem_cons_zero, Array.getInternal_eq_getElem, List.setIfInBounds_toArray, List.set_cons_zero, List.set_cons_succ]
    refine wpAnyH_take (i := 2) (v := ?_) rfl (by kernel_rfl) (by kernel_rfl) (by kernel_rfl) (fun _ _ _ h => h) (Or.inl ⟨by rfl, ?_⟩) hHeld ?_
    rotate_left
    · intro w hSw
      try dsimp only at hSw
      go_simp
      try with_reducible rfl
    try simp only [Act.put, List.getElem_toArray, List.getElem_cons_succ, List.getElem_cons_zero, Array.getInternal_eq_getElem, List.setIfInBounds_toArray, List.set_cons_zero, List.set_cons_succ]
    refine wpAnyH_take (i := 3) (v := ?_) rfl (by kernel_rfl) (by kernel_rfl) (by kernel_rfl) (fun _ _ _ h => h) (Or.inl ⟨by rfl, ?_⟩) hHeld ?_
    rotate_left
    · intro w hSw
      try dsimp only at hSw
      go_simp
      try with_reducible rfl
    try simp only [Act.put, List.getElem_toArray, List.getElem_cons_succ, List.getElem_cons_zero, Array.getInternal_eq_getElem, List.setIfInBounds_toArray, List.set_cons_zero, List.set_cons_succ]
    refine wpAnyH_ready (rs := [0, 4]) (by kernel_rfl) (by simp) ?_
    refine AllReadyH.cons rfl (fun K hK => ?_) ?_
    · skip
      go_simp
      refine hK.out _ _ c1 (fun hHeld => ?_)
      clear hK K
      try simp only [Act.put, List.getElem_toArray, List.getElem_cons_succ, List.getElem_cons_zero, Array.getInternal_eq_getElem, List.setIfInBounds_toArray, List.set_cons_zero, List.set_cons_succ]
      refine wpAnyH_ready (rs := [4]) (by kernel_rfl) (by simp) ?_
      refine AllReadyH.cons rfl (fun K hK => ?_) ?_
      · skip
        go_simp
        refine (HBB.out _ G.out.base.drew).mono ?_
        rintro _ v1 ⟨a4, c4, rfl, ho4, hb4⟩
        have G1 : Hid (TS12 w q W a n c iv bl bits ao no co lo ai ni ci li gp #[.int .u64 0, .int .u64 0] v1 ∧ OwnB v1 V0.heap.size a4 ln c4 (layP iv xl)) := ⟨G.out.call ((Below.refl _ _).drew.trans hb4), ho4⟩
        have c1 : v1.cell? ⟨q, 1, none⟩ = some (.int .i64 (iv : Int)) := G1.out.1.opt.cell 1
        have o0 : v1.cell? ⟨q + 1, 0, none⟩ = some (.slice ao no co) := G1.out.1.bo.cell 0
        clear ho4 hb4 hHeld
        refine hK.out _ _ c1 (fun hHeld => ?_)
        clear hK K
        try simp only [Act.put, List.getElem_toArray, List.getElem_cons_succ, List.getElem_cons_zero, Array.getInternal_eq_getElem, List.setIfInBounds_toArray, List.set_cons_zero, List.set_cons_succ]
        refine wpAnyH_ready (rs := [5]) (by kernel_rfl) (by simp) ?_
        refine AllReadyH.cons rfl (fun K hK => ?_) ?_
        · skip
          go_simp
          have hoff : ∀ k, blkOf ao = some k → blkOf a4 ≠ some k := fun k hk hk2 => by
            have h1 := G1.out.2.ge hk2
            have h2 := tag_lt (G.out.oo.tag hk)
            omega
          have hly := lay_any (B := w.heap.size) G1.out.1.oo G1.out.1.base.size G1.out.2.bs hoff (by omega)
          refine hly.mono ?_
          rintro _ v2 ⟨a5, c5, rfl, ho5, hc5⟩
          have HL : Hid (Box v2 (q + 1) TBs #[.slice ao no co] ∧ TS12 w q W a n c iv bl bits a5 (no + ln + 4) c5 (lo ++ partB (layP iv xl)) ai ni ci li gp #[.int .u64 0, .int .u64 0] (v2.setCell ⟨q + 1, 0, none⟩ (.slice a5 (no + ln + 4) c5)) ∧ Box v2 q TOp (opA (bl : Int) (iv : Int) bits)) := ⟨(G1.out.1.lay hc5 ho5).1, (G1.out.1.lay hc5 ho5).2, G1.out.1.opt.kept (hc5.block _ G1.out.1.opt.lt (fun e => G1.out.1.oo.apart G1.out.1.opt (by decide) e))⟩
          have c1 : v2.cell? ⟨q, 1, none⟩ = some (.int .i64 (iv : Int)) := HL.out.2.2.cell 1
          have b2 : v2.cell? ⟨q + 1, 0, none⟩ = some (.slice ao no co) := HL.out.1.cell 0
          have f2 := HL.out.1.soft 0
          clear ho5 hc5 hly hoff hHeld
          refine hK.out _ _ c1 (fun hHeld => ?_)
          clear hK K
          try simp only [Act.put, List.getElem_toArray, List.getElem_cons_succ, List.getElem_cons_zero, Array.getInternal_eq_getElem, List.setIfInBounds_toArray, List.set_cons_zero, List.set_cons_succ]
          refine wpAnyH_take (i := 6) (v := ?_) rfl (by kernel_rfl) (by kernel_rfl) (by kernel_rfl) (fun _ _ _ h => h) (Or.inl ⟨by rfl, ?_⟩) hHeld ?_
          rotate_left
          · intro w hSw
            try dsimp only at hSw
            go_simp
            try with_reducible rfl
          try simp only [Act.put, List.getElem_toArray, List.getElem_cons_succ, List.getElem_cons_zero, Array.getInternal_eq_getElem, List.setIfInBounds_toArray, List.set_cons_zero, List.set_cons_succ]
          refine wpAnyH_take (i := 7) (v := ?_) rfl (by kernel_rfl) (by kernel_rfl) (by kernel_rfl) (fun _ _ _ h => h) (Or.inl ⟨by rfl, ?_⟩) hHeld ?_
          rotate_left
          · intro w hSw
            try dsimp only at hSw
            go_simp
            try with_reducible rfl
          try simp only [Act.put, List.getElem_toArray, List.getElem_cons_succ, List.getElem_cons_zero, Array.getInternal_eq_getElem, List.setIfInBounds_toArray, List.set_cons_zero, List.set_cons_succ]
          refine wpAnyH_take (i := 8) (v := ?_) rfl (by kernel_rfl) (by kernel_rfl) (by kernel_rfl) (fun _ _ _ h => h) (Or.inl ⟨by rfl, ?_⟩) hHeld ?_
          rotate_left
          · intro w hSw
            try dsimp only at hSw
            go_simp
            try with_reducible rfl
          try simp only [Act.put, List.getElem_toArray, List.getElem_cons_succ, List.getElem_cons_zero, Array.getInternal_eq_getElem, List.setIfInBounds_toArray, List.set_cons_zero, List.set_cons_succ]
          refine wpAnyH_ready (rs := [9]) (by kernel_rfl) (by simp) ?_
          refine AllReadyH.cons rfl (fun K hK => ?_) ?_
          · skip
            go_simp
            generalize v2.setCell ⟨q + 1, 0, none⟩ (.slice a5 (no + ln + 4) c5) = V3 at *
            have c1 : V3.cell? ⟨q, 1, none⟩ = some (.int .i64 (iv : Int)) := HL.out.2.1.opt.cell 1
            have p0 : V3.cell? ⟨gp, 0, none⟩ = some (.int .u64 0) := HL.out.2.1.pl.cell 0
            have p1 : V3.cell? ⟨gp, 1, none⟩ = some (.int .u64 0) := HL.out.2.1.pl.cell 1
            have r0 := HL.out.2.1.pl.soft 0
            have r1 := HL.out.2.1.pl.soft 1
            have HP : Hid (TS12 w q W a n c iv bl bits a5 (no + ln + 4) c5 (lo ++ partB (layP iv xl)) ai ni ci li gp #[.int .u64 (no : Int), .int .u64 (ln : Int)] ((V3.setCell ⟨gp, 0, none⟩ (.int .u64 (no : Int))).setCell ⟨gp, 1, none⟩ (.int .u64 (ln : Int)))) := (HL.out.2.1.setPl hgw 0 (.int .u64 (no : Int))).setPl hgw 1 (.int .u64 (ln : Int))
            clear hHeld b2 f2
            refine hK.out _ _ c1 (fun hHeld => ?_)
            clear hK K
            try simp only [Act.put, List.getElem_toArray, List.getElem_cons_succ, List.getElem_cons_zero, Array.getInternal_eq_getElem, List.setIfInBounds_toArray, List.set_cons_zero, List.set_cons_succ]
            refine wpAnyH_ready (rs := [10]) (by kernel_rfl) (by simp) ?_
            refine AllReadyH.cons rfl (fun K hK => ?_) ?_
            · skip
              go_simp
              generalize (V3.setCell ⟨gp, 0, none⟩ (.int .u64 (no : Int))).setCell ⟨gp, 1, none⟩ (.int .u64 (ln : Int)) = V4 at *
              have c1 : V4.cell? ⟨q, 1, none⟩ = some (.int .i64 (iv : Int)) := HP.out.opt.cell 1
              clear hHeld p0 p1 r0 r1
              refine hK.out _ _ c1 (fun hHeld => ?_)
              clear hK K
              try simp only [Act.put, List.getElem_toArray, List.getElem_cons_succ, List.getElem_cons_zero, Array.getInternal_eq_getElem, List.setIfInBounds_toArray, List.set_cons_zero, List.set_cons_succ]
              refine wpAnyH_done (by kernel_rfl) ?_ _
              refine hK6 _ _ ?_
              clear hK6 hHeld c1
              have i0 : V4.drew.cell? ⟨q + 2, 0, none⟩ = some (.slice ai ni ci) := HP.out.bi.cell 0
              obtain ⟨k0, k1, k2⟩ := HKC.out (V4.drew) (HP.out.base.drew)
              have p0 : (V4.drew).cell? ⟨gp, 0, none⟩ = some (.int .u64 (no : Int)) := (HP.out.pl).cell 0
              have p1 : (V4.drew).cell? ⟨gp, 1, none⟩ = some (.int .u64 (ln : Int)) := (HP.out.pl).cell 1
              refine wpIn_region_round (S := fun V => V.cell? ⟨b, ko, none⟩ = some (.string ek.user) ∧ V.cell? ⟨b, ko + 1, none⟩ = some (.int .u64 (ek.seq : Int)) ∧ V.cell? ⟨b, ko + 2, none⟩ = some (.int .i64 ek.kind) ∧ V.cell? ⟨gp, 0, none⟩ = some (.int .u64 (no : Int)) ∧ V.cell? ⟨gp, 1, none⟩ = some (.int .u64 (ln : Int))) hmix (by kernel_rfl) (by rintro ⟨_, _, hh⟩; exact hh) ⟨k0, k1, k2, p0, p1⟩ (fun hHeld => ?_)
              refine wpAnyH_take (i := 1) (v := ?_) rfl (by kernel_rfl) (by kernel_rfl) (by kernel_rfl) (fun _ _ _ h => h) (Or.inl ⟨by rfl, ?_⟩) hHeld ?_
              rotate_left
              · intro w hSw
                try dsimp only at hSw
                go_simp
                try with_reducible rfl
              try simp only [Act.put, List.getElem_toArray, List.getElem_cons_succ, List.getElem_cons_zero, Array.getInternal_eq_getElem, List.setIfInBounds_toArray, List.set_cons_zero, List.set_cons_succ]
              refine wpAnyH_take (i := 2) (v := ?_) rfl (by kernel_rfl) (by kernel_rfl) (by kernel_rfl) (fun _ _ _ h => h) (Or.inl ⟨by rfl, ?_⟩) hHeld ?_
              rotate_left
              · intro w hSw
                try dsimp only at hSw
                go_simp
                try with_reducible rfl
              try simp only [Act.put, List.getElem_toArray, List.getElem_cons_succ, List.getElem_cons_zero, Array.getInternal_eq_getElem, List.setIfInBounds_toArray, List.set_cons_zero, List.set_cons_succ]
              refine wpAnyH_take (i := 3) (v := ?_) rfl (by kernel_rfl) (by kernel_rfl) (by kernel_rfl) (fun _ _ _ h => h) (Or.inl ⟨by rfl, ?_⟩) hHeld ?_
              rotate_left
              · intro w hSw
                try dsimp only at hSw
                go_simp
                try with_reducible rfl
              try simp only [Act.put, List.getElem_toArray, List.getElem_cons_succ, List.getElem_cons_zero, Array.getInternal_eq_getElem, List.setIfInBounds_toArray, List.set_cons_zero, List.set_cons_succ]
              refine wpAnyH_take (i := 4) (v := ?_) rfl (by kernel_rfl) (by kernel_rfl) (by kernel_rfl) (fun _ _ _ h => h) (Or.inl ⟨by rfl, ?_⟩) hHeld ?_
              rotate_left
              · intro w hSw
                try dsimp only at hSw
                go_simp
                try with_reducible rfl
              try simp only [Act.put, List.getElem_toArray, List.getElem_cons_succ, List.getElem_cons_zero, Array.getInternal_eq_getElem, List.setIfInBounds_toArray, List.set_cons_zero, List.set_cons_succ]
              refine wpAnyH_take (i := 5) (v := ?_) rfl (by kernel_rfl) (by kernel_rfl) (by kernel_rfl) (fun _ _ _ h => h) (Or.inl ⟨by rfl, ?_⟩) hHeld ?_
              rotate_left
              · intro w hSw
                try dsimp only at hSw
                go_simp
                try with_reducible rfl
              try simp only [Act.put, List.getElem_toArray, List.getElem_cons_succ, List.getElem_cons_zero, Array.getInternal_eq_getElem, List.setIfInBounds_toArray, List.set_cons_zero, List.set_cons_succ]
              refine wpAnyH_take (i := 6) (v := ?_) rfl (by kernel_rfl) (by kernel_rfl) (by kernel_rfl) (fun _ _ _ h => h) (Or.inl ⟨by rfl, ?_⟩) hHeld ?_
              rotate_left
              · intro w hSw
                try dsimp only at hSw
                go_simp
                try with_reducible rfl
              try simp only [Act.put, List.getElem_toArray, List.getElem_cons_succ, List.getElem_cons_zero, Array.getInternal_eq_getElem, List.setIfInBounds_toArray, List.set_cons_zero, List.set_cons_succ]
              refine wpAnyH_take (i := 7) (v := ?_) rfl (by kernel_rfl) (by kernel_rfl) (by kernel_rfl) (fun _ _ _ h => h) (Or.inl ⟨by rfl, ?_⟩) hHeld ?_
              rotate_left
              · intro w hSw
                try dsimp only at hSw
                go_simp
                try with_reducible rfl
              try simp only [Act.put, List.getElem_toArray, List.getElem_cons_succ, List.getElem_cons_zero, Array.getInternal_eq_getElem, List.setIfInBounds_toArray, List.set_cons_zero, List.set_cons_succ]
              refine wpAnyH_take (i := 8) (v := ?_) rfl (by kernel_rfl) (by kernel_rfl) (by kernel_rfl) (fun _ _ _ h => h) (Or.inl ⟨by rfl, ?_⟩) hHeld ?_
              rotate_left
              · intro w hSw
                try dsimp only at hSw
                go_simp
                try with_reducible rfl
              try simp only [Act.put, List.getElem_toArray, List.getElem_cons_succ, List.getElem_cons_zero, Array.getInternal_eq_getElem, List.setIfInBounds_toArray, List.set_cons_zero, List.set_cons_succ]
              refine wpAnyH_ready (rs := [0, 9]) (by kernel_rfl) (by simp) ?_
              refine AllReadyH.cons rfl (fun K hK => ?_) ?_
              · skip
                go_simp
                refine hK.out _ _ ⟨k0, k1, k2, p0, p1⟩ (fun hHeld => ?_)
                clear hK K
                try simp only [Act.put, List.getElem_toArray, List.getElem_cons_succ, List.getElem_cons_zero, Array.getInternal_eq_getElem, List.setIfInBounds_toArray, List.set_cons_zero, List.set_cons_succ]
                refine wpAnyH_ready (rs := [9]) (by kernel_rfl) (by simp) ?_
                refine AllReadyH.cons rfl (fun K hK => ?_) ?_
                · skip
                  go_simp
                  refine (value_any no ln (by omega) (by omega) _).mono ?_
                  rintro _ v5 ⟨rfl, hb5⟩
                  have G5 : Hid (TS12 w q W a n c iv bl bits a5 (no + ln + 4) c5 (lo ++ partB (layP iv xl)) ai ni ci li gp #[.int .u64 (no : Int), .int .u64 (ln : Int)] v5) := HP.out.call ((Below.refl _ _).drew.trans hb5)
                  obtain ⟨k0, k1, k2⟩ := HKC.out (v5) (G5.out.base)
                  have p0 : (v5).cell? ⟨gp, 0, none⟩ = some (.int .u64 (no : Int)) := (G5.out.pl).cell 0
                  have p1 : (v5).cell? ⟨gp, 1, none⟩ = some (.int .u64 (ln : Int)) := (G5.out.pl).cell 1
                  have i0 : v5.cell? ⟨q + 2, 0, none⟩ = some (.slice ai ni ci) := G5.out.bi.cell 0
                  clear hb5 hHeld
                  refine hK.out _ _ ⟨k0, k1, k2, p0, p1⟩ (fun hHeld => ?_)
                  clear hK K
                  try simp only [Act.put, List.getElem_toArray, List.getElem_cons_succ, List.getElem_cons_zero, Array.getInternal_eq_getElem, List.setIfInBounds_toArray, List.set_cons_zero, List.set_cons_succ]
                  refine wpAnyH_take (i := 10) (v := ?_) rfl (by kernel_rfl) (by kernel_rfl) (by kernel_rfl) (fun _ _ _ h => h) (Or.inl ⟨by rfl, ?_⟩) hHeld ?_
                  rotate_left
                  · intro w hSw
                    try dsimp only at hSw
                    go_simp
                    try with_reducible rfl
                  try simp only [Act.put, List.getElem_toArray, List.getElem_cons_succ, List.getElem_cons_zero, Array.getInternal_eq_getElem, List.setIfInBounds_toArray, List.set_cons_zero, List.set_cons_succ]
                  refine wpAnyH_ready (rs := [11]) (by kernel_rfl) (by simp) ?_
                  refine AllReadyH.cons rfl (fun K hK => ?_) ?_
                  · skip
                    go_simp
                    have hA : Below v5.heap.size v5 (v5.alloc (.cells #[.string ek.user, .int .u64 (ek.seq : Int), .int .i64 ek.kind, .string (strOf (plV no ln))] TKV)) := (Below.refl _ _).alloc (Nat.le_refl _) _
                    obtain ⟨k0, k1, k2⟩ := HKC.out (v5.alloc (.cells #[.string ek.user, .int .u64 (ek.seq : Int), .int .i64 ek.kind, .string (strOf (plV no ln))] TKV)) ((G5.out.call hA).base)
                    have p0 : (v5.alloc (.cells #[.string ek.user, .int .u64 (ek.seq : Int), .int .i64 ek.kind, .string (strOf (plV no ln))] TKV)).cell? ⟨gp, 0, none⟩ = some (.int .u64 (no : Int)) := ((G5.out.call hA).pl).cell 0
                    have p1 : (v5.alloc (.cells #[.string ek.user, .int .u64 (ek.seq : Int), .int .i64 ek.kind, .string (strOf (plV no ln))] TKV)).cell? ⟨gp, 1, none⟩ = some (.int .u64 (ln : Int)) := ((G5.out.call hA).pl).cell 1
                    have i0 : (v5.alloc (.cells #[.string ek.user, .int .u64 (ek.seq : Int), .int .i64 ek.kind, .string (strOf (plV no ln))] TKV)).cell? ⟨q + 2, 0, none⟩ = some (.slice ai ni ci) := (G5.out.call hA).bi.cell 0
                    clear hA hHeld
                    refine hK.out _ _ ⟨k0, k1, k2, p0, p1⟩ (fun hHeld => ?_)
                    clear hK K
                    try simp only [Act.put, List.getElem_toArray, List.getElem_cons_succ, List.getElem_cons_zero, Array.getInternal_eq_getElem, List.setIfInBounds_toArray, List.set_cons_zero, List.set_cons_succ]
                    refine wpAnyH_ready (rs := [12]) (by kernel_rfl) (by simp) ?_
                    refine AllReadyH.cons rfl (fun K hK => ?_) ?_
                    · skip
                      refine step_pushK v5 rfl (.tmp 25) (.tmp 36) rfl w.heap.size ai ni ci li (by simp [Act.eval]) G5.out.oi (ek, strOf (plV no ln)) _ rfl v5.heap.size rfl (by simp [Act.eval]) (by omega) G5.out.base.size ?_
                      intro a6 c6 v6 ho6 hb6 hg6
                      have HU : Hid (Box v6 (q + 2) TKs #[.slice ai ni ci] ∧ TS12 w q W a n c iv bl bits a5 (no + ln + 4) c5 (lo ++ partB (layP iv xl)) a6 (ni + 1) c6 (li ++ [(ek, strOf (plV no ln))]) gp #[.int .u64 (no : Int), .int .u64 (ln : Int)] (v6.setCell ⟨q + 2, 0, none⟩ (.slice a6 (ni + 1) c6)) ∧ Below w.heap.size w v6 ∧ Box v6 gp TPl #[.int .u64 (no : Int), .int .u64 (ln : Int)]) := ⟨(G5.out.push _ hb6 hg6 ho6).1, (G5.out.push _ hb6 hg6 ho6).2.2, G5.out.base.trans hb6, (G5.out.push _ hb6 hg6 ho6).2.1⟩
                      obtain ⟨k0, k1, k2⟩ := HKC.out (v6) (HU.out.2.2.1)
                      have p0 : (v6).cell? ⟨gp, 0, none⟩ = some (.int .u64 (no : Int)) := (HU.out.2.2.2).cell 0
                      have p1 : (v6).cell? ⟨gp, 1, none⟩ = some (.int .u64 (ln : Int)) := (HU.out.2.2.2).cell 1
                      have b6 : v6.cell? ⟨q + 2, 0, none⟩ = some (.slice ai ni ci) := HU.out.1.cell 0
                      have f6 := HU.out.1.soft 0
                      clear ho6 hb6 hg6 hHeld
                      refine hK.out _ _ ⟨k0, k1, k2, p0, p1⟩ (fun hHeld => ?_)
                      clear hK K
                      try simp only [Act.put, List.getElem_toArray, List.getElem_cons_succ, List.getElem_cons_zero, Array.getInternal_eq_getElem, List.setIfInBounds_toArray, List.set_cons_zero, List.set_cons_succ]
                      refine wpAnyH_ready (rs := [13]) (by kernel_rfl) (by simp) ?_
                      refine AllReadyH.cons rfl (fun K hK => ?_) ?_
                      · skip
                        go_simp
                        generalize v6.setCell ⟨q + 2, 0, none⟩ (.slice a6 (ni + 1) c6) = V7 at *
                        obtain ⟨k0, k1, k2⟩ := HKC.out (V7) (HU.out.2.1.base)
                        have p0 : (V7).cell? ⟨gp, 0, none⟩ = some (.int .u64 (no : Int)) := (HU.out.2.1.pl).cell 0
                        have p1 : (V7).cell? ⟨gp, 1, none⟩ = some (.int .u64 (ln : Int)) := (HU.out.2.1.pl).cell 1
                        clear hHeld b6 f6
                        refine hK.out _ _ ⟨k0, k1, k2, p0, p1⟩ (fun hHeld => ?_)
                        clear hK K
                        try simp only [Act.put, List.getElem_toArray, List.getElem_cons_succ, List.getElem_cons_zero, Array.getInternal_eq_getElem, List.setIfInBounds_toArray, List.set_cons_zero, List.set_cons_succ]
                        refine wpAnyH_done (by kernel_rfl) ?_ _
                        refine ⟨HU.out.2.1.rk.ko.from _, HU.out.2.1.rk.kp, HU.out.2.1.base, HU.out.2.1.le, HU.out.2.1.opt, HU.out.2.1.x3, HU.out.2.1.x4, a5, a6, no + ln + 4, c5, ni + 1, c6, HU.out.2.1.bo, HU.out.2.1.bi, ?_, ?_⟩
                        · rw [gls_snoc, tdOf_snoc, bodyT_snoc, HLO.out.1, HXE.out]
                          exact HU.out.2.1.oo
                        · rw [gls_snoc, tdOf_snoc, ixE_snoc, HLO.out.2, HXE.out, HLL.out.2.1, Nat.zero_add]
                          dsimp only
                          rw [partB_len, Nat.add_sub_cancel, HLN.out, HLK.out]
                          exact HU.out.2.1.oi
                      exact AllReadyH.nil
                    exact AllReadyH.nil
                  exact AllReadyH.nil
                exact AllReadyH.nil
              refine AllReadyH.cons rfl (fun K hK => ?_) ?_
              · skip
                go_simp
                refine (value_any no ln (by omega) (by omega) _).mono ?_
                rintro _ v5 ⟨rfl, hb5⟩
                have G5 : Hid (TS12 w q W a n c iv bl bits a5 (no + ln + 4) c5 (lo ++ partB (layP iv xl)) ai ni ci li gp #[.int .u64 (no : Int), .int .u64 (ln : Int)] v5) := HP.out.call ((Below.refl _ _).drew.trans hb5)
                obtain ⟨k0, k1, k2⟩ := HKC.out (v5) (G5.out.base)
                have p0 : (v5).cell? ⟨gp, 0, none⟩ = some (.int .u64 (no : Int)) := (G5.out.pl).cell 0
                have p1 : (v5).cell? ⟨gp, 1, none⟩ = some (.int .u64 (ln : Int)) := (G5.out.pl).cell 1
                have i0 : v5.cell? ⟨q + 2, 0, none⟩ = some (.slice ai ni ci) := G5.out.bi.cell 0
                clear hb5 hHeld
                refine hK.out _ _ ⟨k0, k1, k2, p0, p1⟩ (fun hHeld => ?_)
                clear hK K
                try simp only [Act.put, List.getElem_toArray, List.getElem_cons_succ, List.getElem_cons_zero, Array.getInternal_eq_getElem, List.setIfInBounds_toArray, List.set_cons_zero, List.set_cons_succ]
                refine wpAnyH_take (i := 10) (v := ?_) rfl (by kernel_rfl) (by kernel_rfl) (by kernel_rfl) (fun _ _ _ h => h) (Or.inl ⟨by rfl, ?_⟩) hHeld ?_
                rotate_left
                · intro w hSw
                  try dsimp only at hSw
                  go_simp
                  try with_reducible rfl
                try simp only [Act.put, List.getElem_toArray, List.getElem_cons_succ, List.getElem_cons_zero, Array.getInternal_eq_getElem, List.setIfInBounds_toArray, List.set_cons_zero, List.set_cons_succ]
                refine wpAnyH_ready (rs := [0, 11]) (by kernel_rfl) (by simp) ?_
                refine AllReadyH.cons rfl (fun K hK => ?_) ?_
                · skip
                  go_simp
                  refine hK.out _ _ ⟨k0, k1, k2, p0, p1⟩ (fun hHeld => ?_)
                  clear hK K
                  try simp only [Act.put, List.getElem_toArray, List.getElem_cons_succ, List.getElem_cons_zero, Array.getInternal_eq_getElem, List.setIfInBounds_toArray, List.set_cons_zero, List.set_cons_succ]
                  refine wpAnyH_ready (rs := [11]) (by kernel_rfl) (by simp) ?_
                  refine AllReadyH.cons rfl (fun K hK => ?_) ?_
                  · skip
                    go_simp
                    have hA : Below v5.heap.size v5 (v5.alloc (.cells #[.string ek.user, .int .u64 (ek.seq : Int), .int .i64 ek.kind, .string (strOf (plV no ln))] TKV)) := (Below.refl _ _).alloc (Nat.le_refl _) _
                    obtain ⟨k0, k1, k2⟩ := HKC.out (v5.alloc (.cells #[.string ek.user, .int .u64 (ek.seq : Int), .int .i64 ek.kind, .string (strOf (plV no ln))] TKV)) ((G5.out.call hA).base)
                    have p0 : (v5.alloc (.cells #[.string ek.user, .int .u64 (ek.seq : Int), .int .i64 ek.kind, .string (strOf (plV no ln))] TKV)).cell? ⟨gp, 0, none⟩ = some (.int .u64 (no : Int)) := ((G5.out.call hA).pl).cell 0
                    have p1 : (v5.alloc (.cells #[.string ek.user, .int .u64 (ek.seq : Int), .int .i64 ek.kind, .string (strOf (plV no ln))] TKV)).cell? ⟨gp, 1, none⟩ = some (.int .u64 (ln : Int)) := ((G5.out.call hA).pl).cell 1
                    have i0 : (v5.alloc (.cells #[.string ek.user, .int .u64 (ek.seq : Int), .int .i64 ek.kind, .string (strOf (plV no ln))] TKV)).cell? ⟨q + 2, 0, none⟩ = some (.slice ai ni ci) := (G5.out.call hA).bi.cell 0
                    clear hA hHeld
                    refine hK.out _ _ ⟨k0, k1, k2, p0, p1⟩ (fun hHeld => ?_)
                    clear hK K
                    try simp only [Act.put, List.getElem_toArray, List.getElem_cons_succ, List.getElem_cons_zero, Array.getInternal_eq_getElem, List.setIfInBounds_toArray, List.set_cons_zero, List.set_cons_succ]
                    refine wpAnyH_ready (rs := [12]) (by kernel_rfl) (by simp) ?_
                    refine AllReadyH.cons rfl (fun K hK => ?_) ?_
                    · skip
                      refine step_pushK v5 rfl (.tmp 25) (.tmp 36) rfl w.heap.size ai ni ci li (by simp [Act.eval]) G5.out.oi (ek, strOf (plV no ln)) _ rfl v5.heap.size rfl (by simp [Act.eval]) (by omega) G5.out.base.size ?_
                      intro a6 c6 v6 ho6 hb6 hg6
                      have HU : Hid (Box v6 (q + 2) TKs #[.slice ai ni ci] ∧ TS12 w q W a n c iv bl bits a5 (no + ln + 4) c5 (lo ++ partB (layP iv xl)) a6 (ni + 1) c6 (li ++ [(ek, strOf (plV no ln))]) gp #[.int .u64 (no : Int), .int .u64 (ln : Int)] (v6.setCell ⟨q + 2, 0, none⟩ (.slice a6 (ni + 1) c6)) ∧ Below w.heap.size w v6 ∧ Box v6 gp TPl #[.int .u64 (no : Int), .int .u64 (ln : Int)]) := ⟨(G5.out.push _ hb6 hg6 ho6).1, (G5.out.push _ hb6 hg6 ho6).2.2, G5.out.base.trans hb6, (G5.out.push _ hb6 hg6 ho6).2.1⟩
                      obtain ⟨k0, k1, k2⟩ := HKC.out (v6) (HU.out.2.2.1)
                      have p0 : (v6).cell? ⟨gp, 0, none⟩ = some (.int .u64 (no : Int)) := (HU.out.2.2.2).cell 0
                      have p1 : (v6).cell? ⟨gp, 1, none⟩ = some (.int .u64 (ln : Int)) := (HU.out.2.2.2).cell 1
                      have b6 : v6.cell? ⟨q + 2, 0, none⟩ = some (.slice ai ni ci) := HU.out.1.cell 0
                      have f6 := HU.out.1.soft 0
                      clear ho6 hb6 hg6 hHeld
                      refine hK.out _ _ ⟨k0, k1, k2, p0, p1⟩ (fun hHeld => ?_)
                      clear hK K
                      try simp only [Act.put, List.getElem_toArray, List.getElem_cons_succ, List.getElem_cons_zero, Array.getInternal_eq_getElem, List.setIfInBounds_toArray, List.set_cons_zero, List.set_cons_succ]
                      refine wpAnyH_ready (rs := [13]) (by kernel_rfl) (by simp) ?_
                      refine AllReadyH.cons rfl (fun K hK => ?_) ?_
                      · skip
                        go_simp
                        generalize v6.setCell ⟨q + 2, 0, none⟩ (.slice a6 (ni + 1) c6) = V7 at *
                        obtain ⟨k0, k1, k2⟩ := HKC.out (V7) (HU.out.2.1.base)
                        have p0 : (V7).cell? ⟨gp, 0, none⟩ = some (.int .u64 (no : Int)) := (HU.out.2.1.pl).cell 0
                        have p1 : (V7).cell? ⟨gp, 1, none⟩ = some (.int .u64 (ln : Int)) := (HU.out.2.1.pl).cell 1
                        clear hHeld b6 f6
                        refine hK.out _ _ ⟨k0, k1, k2, p0, p1⟩ (fun hHeld => ?_)
                        clear hK K
                        try simp only [Act.put, List.getElem_toArray, List.getElem_cons_succ, List.getElem_cons_zero, Array.getInternal_eq_getElem, List.setIfInBounds_toArray, List.set_cons_zero, List.set_cons_succ]
                        refine wpAnyH_done (by kernel_rfl) ?_ _
                        refine ⟨HU.out.2.1.rk.ko.from _, HU.out.2.1.rk.kp, HU.out.2.1.base, HU.out.2.1.le, HU.out.2.1.opt, HU.out.2.1.x3, HU.out.2.1.x4, a5, a6, no + ln + 4, c5, ni + 1, c6, HU.out.2.1.bo, HU.out.2.1.bi, ?_, ?_⟩
                        · rw [gls_snoc, tdOf_snoc, bodyT_snoc, HLO.out.1, HXE.out]
                          exact HU.out.2.1.oo
                        · rw [gls_snoc, tdOf_snoc, ixE_snoc, HLO.out.2, HXE.out, HLL.out.2.1, Nat.zero_add]
                          dsimp only
                          rw [partB_len, Nat.add_sub_cancel, HLN.out, HLK.out]
                          exact HU.out.2.1.oi
                      exact AllReadyH.nil
                    exact AllReadyH.nil
                  exact AllReadyH.nil
                refine AllReadyH.cons rfl (fun K hK => ?_) ?_
                · skip
                  go_simp
                  have hA : Below v5.heap.size v5 (v5.alloc (.cells #[.string ek.user, .int .u64 (ek.seq : Int), .int .i64 ek.kind, .string (strOf (plV no ln))] TKV)) := (Below.refl _ _).alloc (Nat.le_refl _) _
                  obtain ⟨k0, k1, k2⟩ := HKC.out (v5.alloc (.cells #[.string ek.user, .int .u64 (ek.seq : Int), .int .i64 ek.kind, .string (strOf (plV no ln))] TKV)) ((G5.out.call hA).base)
                  have p0 : (v5.alloc (.cells #[.string ek.user, .int .u64 (ek.seq : Int), .int .i64 ek.kind, .string (strOf (plV no ln))] TKV)).cell? ⟨gp, 0, none⟩ = some (.int .u64 (no : Int)) := ((G5.out.call hA).pl).cell 0
                  have p1 : (v5.alloc (.cells #[.string ek.user, .int .u64 (ek.seq : Int), .int .i64 ek.kind, .string (strOf (plV no ln))] TKV)).cell? ⟨gp, 1, none⟩ = some (.int .u64 (ln : Int)) := ((G5.out.call hA).pl).cell 1
                  have i0 : (v5.alloc (.cells #[.string ek.user, .int .u64 (ek.seq : Int), .int .i64 ek.kind, .string (strOf (plV no ln))] TKV)).cell? ⟨q + 2, 0, none⟩ = some (.slice ai ni ci) := (G5.out.call hA).bi.cell 0
                  clear hA hHeld
                  refine hK.out _ _ ⟨k0, k1, k2, p0, p1⟩ (fun hHeld => ?_)
                  clear hK K
                  try simp only [Act.put, List.getElem_toArray, List.getElem_cons_succ, List.getElem_cons_zero, Array.getInternal_eq_getElem, List.setIfInBounds_toArray, List.set_cons_zero, List.set_cons_succ]
                  refine wpAnyH_ready (rs := [0]) (by kernel_rfl) (by simp) ?_
                  refine AllReadyH.cons rfl (fun K hK => ?_) ?_
                  · skip
                    go_simp
                    refine hK.out _ _ ⟨k0, k1, k2, p0, p1⟩ (fun hHeld => ?_)
                    clear hK K
                    try simp only [Act.put, List.getElem_toArray, List.getElem_cons_succ, List.getElem_cons_zero, Array.getInternal_eq_getElem, List.setIfInBounds_toArray, List.set_cons_zero, List.set_cons_succ]
                    refine wpAnyH_ready (rs := [12]) (by kernel_rfl) (by simp) ?_
                    refine AllReadyH.cons rfl (fun K hK => ?_) ?_
                    · skip
                      refine step_pushK v5 rfl (.tmp 25) (.tmp 36) rfl w.heap.size ai ni ci li (by simp [Act.eval]) G5.out.oi (ek, strOf (plV no ln)) _ rfl v5.heap.size rfl (by simp [Act.eval]) (by omega) G5.out.base.size ?_
                      intro a6 c6 v6 ho6 hb6 hg6
                      have HU : Hid (Box v6 (q + 2) TKs #[.slice ai ni ci] ∧ TS12 w q W a n c iv bl bits a5 (no + ln + 4) c5 (lo ++ partB (layP iv xl)) a6 (ni + 1) c6 (li ++ [(ek, strOf (plV no ln))]) gp #[.int .u64 (no : Int), .int .u64 (ln : Int)] (v6.setCell ⟨q + 2, 0, none⟩ (.slice a6 (ni + 1) c6)) ∧ Below w.heap.size w v6 ∧ Box v6 gp TPl #[.int .u64 (no : Int), .int .u64 (ln : Int)]) := ⟨(G5.out.push _ hb6 hg6 ho6).1, (G5.out.push _ hb6 hg6 ho6).2.2, G5.out.base.trans hb6, (G5.out.push _ hb6 hg6 ho6).2.1⟩
                      obtain ⟨k0, k1, k2⟩ := HKC.out (v6) (HU.out.2.2.1)
                      have p0 : (v6).cell? ⟨gp, 0, none⟩ = some (.int .u64 (no : Int)) := (HU.out.2.2.2).cell 0
                      have p1 : (v6).cell? ⟨gp, 1, none⟩ = some (.int .u64 (ln : Int)) := (HU.out.2.2.2).cell 1
                      have b6 : v6.cell? ⟨q + 2, 0, none⟩ = some (.slice ai ni ci) := HU.out.1.cell 0
                      have f6 := HU.out.1.soft 0
                      clear ho6 hb6 hg6 hHeld
                      refine hK.out _ _ ⟨k0, k1, k2, p0, p1⟩ (fun hHeld => ?_)
                      clear hK K
                      try simp only [Act.put, List.getElem_toArray, List.getElem_cons_succ, List.getElem_cons_zero, Array.getInternal_eq_getElem, List.setIfInBounds_toArray, List.set_cons_zero, List.set_cons_succ]
                      refine wpAnyH_ready (rs := [13]) (by kernel_rfl) (by simp) ?_
                      refine AllReadyH.cons rfl (fun K hK => ?_) ?_
                      · skip
                        go_simp
                        generalize v6.setCell ⟨q + 2, 0, none⟩ (.slice a6 (ni + 1) c6) = V7 at *
                        obtain ⟨k0, k1, k2⟩ := HKC.out (V7) (HU.out.2.1.base)
                        have p0 : (V7).cell? ⟨gp, 0, none⟩ = some (.int .u64 (no : Int)) := (HU.out.2.1.pl).cell 0
                        have p1 : (V7).cell? ⟨gp, 1, none⟩ = some (.int .u64 (ln : Int)) := (HU.out.2.1.pl).cell 1
                        clear hHeld b6 f6
                        refine hK.out _ _ ⟨k0, k1, k2, p0, p1⟩ (fun hHeld => ?_)
                        clear hK K
                        try simp only [Act.put, List.getElem_toArray, List.getElem_cons_succ, List.getElem_cons_zero, Array.getInternal_eq_getElem, List.setIfInBounds_toArray, List.set_cons_zero, List.set_cons_succ]
                        refine wpAnyH_done (by kernel_rfl) ?_ _
                        refine ⟨HU.out.2.1.rk.ko.from _, HU.out.2.1.rk.kp, HU.out.2.1.base, HU.out.2.1.le, HU.out.2.1.opt, HU.out.2.1.x3, HU.out.2.1.x4, a5, a6, no + ln + 4, c5, ni + 1, c6, HU.out.2.1.bo, HU.out.2.1.bi, ?_, ?_⟩
                        · rw [gls_snoc, tdOf_snoc, bodyT_snoc, HLO.out.1, HXE.out]
                          exact HU.out.2.1.oo
                        · rw [gls_snoc, tdOf_snoc, ixE_snoc, HLO.out.2, HXE.out, HLL.out.2.1, Nat.zero_add]
                          dsimp only
                          rw [partB_len, Nat.add_sub_cancel, HLN.out, HLK.out]
                          exact HU.out.2.1.oi
                      exact AllReadyH.nil
                    exact AllReadyH.nil
                  exact AllReadyH.nil
                exact AllReadyH.nil
              exact AllReadyH.nil
            exact AllReadyH.nil
          exact AllReadyH.nil
        exact AllReadyH.nil
      exact AllReadyH.nil
    refine AllReadyH.cons rfl (fun K hK => ?_) ?_
    · skip
      go_simp
      refine (HBB.out _ G.out.base.drew).mono ?_
      rintro _ v1 ⟨a4, c4, rfl, ho4, hb4⟩
      have G1 : Hid (TS12 w q W a n c iv bl bits ao no co lo ai ni ci li gp #[.int .u64 0, .int .u64 0] v1 ∧ OwnB v1 V0.heap.size a4 ln c4 (layP iv xl)) := ⟨G.out.call ((Below.refl _ _).drew.trans hb4), ho4⟩
      have c1 : v1.cell? ⟨q, 1, none⟩ = some (.int .i64 (iv : Int)) := G1.out.1.opt.cell 1
      have o0 : v1.cell? ⟨q + 1, 0, none⟩ = some (.slice ao no co) := G1.out.1.bo.cell 0
      clear ho4 hb4 hHeld
      refine hK.out _ _ c1 (fun hHeld => ?_)
      clear hK K
      try simp only [Act.put, List.getElem_toArray, List.getElem_cons_succ, List.getElem_cons_zero, Array.getInternal_eq_getElem, List.setIfInBounds_toArray, List.set_cons_zero, List.set_cons_succ]
      refine wpAnyH_ready (rs := [0]) (by kernel_rfl) (by simp) ?_
      refine AllReadyH.cons rfl (fun K hK => ?_) ?_
      · skip
        go_simp
        refine hK.out _ _ c1 (fun hHeld => ?_)
        clear hK K
        try simp only [Act.put, List.getElem_toArray, List.getElem_cons_succ, List.getElem_cons_zero, Array.getInternal_eq_getElem, List.setIfInBounds_toArray, List.set_cons_zero, List.set_cons_succ]
        refine wpAnyH_ready (rs := [5]) (by kernel_rfl) (by simp) ?_
        refine AllReadyH.cons rfl (fun K hK => ?_) ?_
        · skip
          go_simp
          have hoff : ∀ k, blkOf ao = some k → blkOf a4 ≠ some k := fun k hk hk2 => by
            have h1 := G1.out.2.ge hk2
            have h2 := tag_lt (G.out.oo.tag hk)
            omega
          have hly := lay_any (B := w.heap.size) G1.out.1.oo G1.out.1.base.size G1.out.2.bs hoff (by omega)
          refine hly.mono ?_
          rintro _ v2 ⟨a5, c5, rfl, ho5, hc5⟩
          have HL : Hid (Box v2 (q + 1) TBs #[.slice ao no co] ∧ TS12 w q W a n c iv bl bits a5 (no + ln + 4) c5 (lo ++ partB (layP iv xl)) ai ni ci li gp #[.int .u64 0, .int .u64 0] (v2.setCell ⟨q + 1, 0, none⟩ (.slice a5 (no + ln + 4) c5)) ∧ Box v2 q TOp (opA (bl : Int) (iv : Int) bits)) := ⟨(G1.out.1.lay hc5 ho5).1, (G1.out.1.lay hc5 ho5).2, G1.out.1.opt.kept (hc5.block _ G1.out.1.opt.lt (fun e => G1.out.1.oo.apart G1.out.1.opt (by decide) e))⟩
          have c1 : v2.cell? ⟨q, 1, none⟩ = some (.int .i64 (iv : Int)) := HL.out.2.2.cell 1
          have b2 : v2.cell? ⟨q + 1, 0, none⟩ = some (.slice ao no co) := HL.out.1.cell 0
          have f2 := HL.out.1.soft 0
          clear ho5 hc5 hly hoff hHeld
          refine hK.out _ _ c1 (fun hHeld => ?_)
          clear hK K
          try simp only [Act.put, List.getElem_toArray, List.getElem_cons_succ, List.getElem_cons_zero, Array.getInternal_eq_getElem, List.setIfInBounds_toArray, List.set_cons_zero, List.set_cons_succ]
          refine wpAnyH_take (i := 6) (v := ?_) rfl (by kernel_rfl) (by kernel_rfl) (by kernel_rfl) (fun _ _ _ h => h) (Or.inl ⟨by rfl, ?_⟩) hHeld ?_
          rotate_left
          · intro w hSw
            try dsimp only at hSw
            go_simp
            try with_reducible rfl
          try simp only [Act.put, List.getElem_toArray, List.getElem_cons_succ, List.getElem_cons_zero, Array.getInternal_eq_getElem, List.setIfInBounds_toArray, List.set_cons_zero, List.set_cons_succ]
          refine wpAnyH_take (i := 7) (v := ?_) rfl (by kernel_rfl) (by kernel_rfl) (by kernel_rfl) (fun _ _ _ h => h) (Or.inl ⟨by rfl, ?_⟩) hHeld ?_
          rotate_left
          · intro w hSw
            try dsimp only at hSw
            go_simp
            try with_reducible rfl
          try simp only [Act.put, List.getElem_toArray, List.getElem_cons_succ, List.getElem_cons_zero, Array.getInternal_eq_getElem, List.setIfInBounds_toArray, List.set_cons_zero, List.set_cons_succ]
          refine wpAnyH_take (i := 8) (v := ?_) rfl (by kernel_rfl) (by kernel_rfl) (by kernel_rfl) (fun _ _ _ h => h) (Or.inl ⟨by rfl, ?_⟩) hHeld ?_
          rotate_left
          · intro w hSw
            try dsimp only at hSw
            go_simp
            try with_reducible rfl
          try simp only [Act.put, List.getElem_toArray, List.getElem_cons_succ, List.getElem_cons_zero, Array.getInternal_eq_getElem, List.setIfInBounds_toArray, List.set_cons_zero, List.set_cons_succ]
          refine wpAnyH_ready (rs := [9]) (by kernel_rfl) (by simp) ?_
          refine AllReadyH.cons rfl (fun K hK => ?_) ?_
          · skip
            go_simp
            generalize v2.setCell ⟨q + 1, 0, none⟩ (.slice a5 (no + ln + 4) c5) = V3 at *
            have c1 : V3.cell? ⟨q, 1, none⟩ = some (.int .i64 (iv : Int)) := HL.out.2.1.opt.cell 1
            have p0 : V3.cell? ⟨gp, 0, none⟩ = some (.int .u64 0) := HL.out.2.1.pl.cell 0
            have p1 : V3.cell? ⟨gp, 1, none⟩ = some (.int .u64 0) := HL.out.2.1.pl.cell 1
            have r0 := HL.out.2.1.pl.soft 0
            have r1 := HL.out.2.1.pl.soft 1
            have HP : Hid (TS12 w q W a n c iv bl bits a5 (no + ln + 4) c5 (lo ++ partB (layP iv xl)) ai ni ci li gp #[.int .u64 (no : Int), .int .u64 (ln : Int)] ((V3.setCell ⟨gp, 0, none⟩ (.int .u64 (no : Int))).setCell ⟨gp, 1, none⟩ (.int .u64 (ln : Int)))) := (HL.out.2.1.setPl hgw 0 (.int .u64 (no : Int))).setPl hgw 1 (.int .u64 (ln : Int))
            clear hHeld b2 f2
            refine hK.out _ _ c1 (fun hHeld => ?_)
            clear hK K
            try simp only [Act.put, List.getElem_toArray, List.getElem_cons_succ, List.getElem_cons_zero, Array.getInternal_eq_getElem, List.setIfInBounds_toArray, List.set_cons_zero, List.set_cons_succ]
            refine wpAnyH_ready (rs := [10]) (by kernel_rfl) (by simp) ?_
            refine AllReadyH.cons rfl (fun K hK => ?_) ?_
            · skip
              go_simp
              generalize (V3.setCell ⟨gp, 0, none⟩ (.int .u64 (no : Int))).setCell ⟨gp, 1, none⟩ (.int .u64 (ln : Int)) = V4 at *
              have c1 : V4.cell? ⟨q, 1, none⟩ = some (.int .i64 (iv : Int)) := HP.out.opt.cell 1
              clear hHeld p0 p1 r0 r1
              refine hK.out _ _ c1 (fun hHeld => ?_)
              clear hK K
              try simp only [Act.put, List.getElem_toArray, List.getElem_cons_succ, List.getElem_cons_zero, Array.getInternal_eq_getElem, List.setIfInBounds_toArray, List.set_cons_zero, List.set_cons_succ]
              refine wpAnyH_done (by kernel_rfl) ?_ _
              refine hK6 _ _ ?_
              clear hK6 hHeld c1
              have i0 : V4.drew.cell? ⟨q + 2, 0, none⟩ = some (.slice ai ni ci) := HP.out.bi.cell 0
              obtain ⟨k0, k1, k2⟩ := HKC.out (V4.drew) (HP.out.base.drew)
              have p0 : (V4.drew).cell? ⟨gp, 0, none⟩ = some (.int .u64 (no : Int)) := (HP.out.pl).cell 0
              have p1 : (V4.drew).cell? ⟨gp, 1, none⟩ = some (.int .u64 (ln : Int)) := (HP.out.pl).cell 1
              refine wpIn_region_round (S := fun V => V.cell? ⟨b, ko, none⟩ = some (.string ek.user) ∧ V.cell? ⟨b, ko + 1, none⟩ = some (.int .u64 (ek.seq : Int)) ∧ V.cell? ⟨b, ko + 2, none⟩ = some (.int .i64 ek.kind) ∧ V.cell? ⟨gp, 0, none⟩ = some (.int .u64 (no : Int)) ∧ V.cell? ⟨gp, 1, none⟩ = some (.int .u64 (ln : Int))) hmix (by kernel_rfl) (by rintro ⟨_, _, hh⟩; exact hh) ⟨k0, k1, k2, p0, p1⟩ (fun hHeld => ?_)
              refine wpAnyH_take (i := 1) (v := ?_) rfl (by kernel_rfl) (by kernel_rfl) (by kernel_rfl) (fun _ _ _ h => h) (Or.inl ⟨by rfl, ?_⟩) hHeld ?_
              rotate_left
              · intro w hSw
                try dsimp only at hSw
                go_simp
                try with_reducible rfl
              try simp only [Act.put, List.getElem_toArray, List.getElem_cons_succ, List.getElem_cons_zero, Array.getInternal_eq_getElem, List.setIfInBounds_toArray, List.set_cons_zero, List.set_cons_succ]
              refine wpAnyH_take (i := 2) (v := ?_) rfl (by kernel_rfl) (by kernel_rfl) (by kernel_rfl) (fun _ _ _ h => h) (Or.inl ⟨by rfl, ?_⟩) hHeld ?_
              rotate_left
              · intro w hSw
                try dsimp only at hSw
                go_simp
                try with_reducible rfl
              try simp only [Act.put, List.getElem_toArray, List.getElem_cons_succ, List.getElem_cons_zero, Array.getInternal_eq_getElem, List.setIfInBounds_toArray, List.set_cons_zero, List.set_cons_succ]
              refine wpAnyH_take (i := 3) (v := ?_) rfl (by kernel_rfl) (by kernel_rfl) (by kernel_rfl) (fun _ _ _ h => h) (Or.inl ⟨by rfl, ?_⟩) hHeld ?_
              rotate_left
              · intro w hSw
                try dsimp only at hSw
                go_simp
                try with_reducible rfl
              try simp only [Act.put, List.getElem_toArray, List.getElem_cons_succ, List.getElem_cons_zero, Array.getInternal_eq_getElem, List.setIfInBounds_toArray, List.set_cons_zero, List.set_cons_succ]
              refine wpAnyH_take (i := 4) (v := ?_) rfl (by kernel_rfl) (by kernel_rfl) (by kernel_rfl) (fun _ _ _ h => h) (Or.inl ⟨by rfl, ?_⟩) hHeld ?_
              rotate_left
              · intro w hSw
                try dsimp only at hSw
                go_simp
                try with_reducible rfl
              try simp only [Act.put, List.getElem_toArray, List.getElem_cons_succ, List.getElem_cons_zero, Array.getInternal_eq_getElem, List.setIfInBounds_toArray, List.set_cons_zero, List.set_cons_succ]
              refine wpAnyH_take (i := 5) (v := ?_) rfl (by kernel_rfl) (by kernel_rfl) (by kernel_rfl) (fun _ _ _ h => h) (Or.inl ⟨by rfl, ?_⟩) hHeld ?_
              rotate_left
              · intro w hSw
                try dsimp only at hSw
                go_simp
                try with_reducible rfl
              try simp only [Act.put, List.getElem_toArray, List.getElem_cons_succ, List.getElem_cons_zero, Array.getInternal_eq_getElem, List.setIfInBounds_toArray, List.set_cons_zero, List.set_cons_succ]
              refine wpAnyH_take (i := 6) (v := ?_) rfl (by kernel_rfl) (by kernel_rfl) (by kernel_rfl) (fun _ _ _ h => h) (Or.inl ⟨by rfl, ?_⟩) hHeld ?_
              rotate_left
              · intro w hSw
                try dsimp only at hSw
                go_simp
                try with_reducible rfl
              try simp only [Act.put, List.getElem_toArray, List.getElem_cons_succ, List.getElem_cons_zero, Array.getInternal_eq_getElem, List.setIfInBounds_toArray, List.set_cons_zero, List.set_cons_succ]
              refine wpAnyH_take (i := 7) (v := ?_) rfl (by kernel_rfl) (by kernel_rfl) (by kernel_rfl) (fun _ _ _ h => h) (Or.inl ⟨by rfl, ?_⟩) hHeld ?_
              rotate_left
              · intro w hSw
                try dsimp only at hSw
                go_simp
                try with_reducible rfl
              try simp only [Act.put, List.getElem_toArray, List.getElem_cons_succ, List.getElem_cons_zero, Array.getInternal_eq_getElem, List.setIfInBounds_toArray, List.set_cons_zero, List.set_cons_succ]
              refine wpAnyH_take (i := 8) (v := ?_) rfl (by kernel_rfl) (by kernel_rfl) (by kernel_rfl) (fun _ _ _ h => h) (Or.inl ⟨by rfl, ?_⟩) hHeld ?_
              rotate_left
              · intro w hSw
                try dsimp only at hSw
                go_simp
                try with_reducible rfl
              try simp only [Act.put, List.getElem_toArray, List.getElem_cons_succ, List.getElem_cons_zero, Array.getInternal_eq_getElem, List.setIfInBounds_toArray, List.set_cons_zero, List.set_cons_succ]
              refine wpAnyH_ready (rs := [0, 9]) (by kernel_rfl) (by simp) ?_
              refine AllReadyH.cons rfl (fun K hK => ?_) ?_
              · skip
                go_simp
                refine hK.out _ _ ⟨k0, k1, k2, p0, p1⟩ (fun hHeld => ?_)
                clear hK K
                try simp only [Act.put, List.getElem_toArray, List.getElem_cons_succ, List.getElem_cons_zero, Array.getInternal_eq_getElem, List.setIfInBounds_toArray, List.set_cons_zero, List.set_cons_succ]
                refine wpAnyH_ready (rs := [9]) (by kernel_rfl) (by simp) ?_
                refine AllReadyH.cons rfl (fun K hK => ?_) ?_
                · skip
                  go_simp
                  refine (value_any no ln (by omega) (by omega) _).mono ?_
                  rintro _ v5 ⟨rfl, hb5⟩
                  have G5 : Hid (TS12 w q W a n c iv bl bits a5 (no + ln + 4) c5 (lo ++ partB (layP iv xl)) ai ni ci li gp #[.int .u64 (no : Int), .int .u64 (ln : Int)] v5) := HP.out.call ((Below.refl _ _).drew.trans hb5)
                  obtain ⟨k0, k1, k2⟩ := HKC.out (v5) (G5.out.base)
                  have p0 : (v5).cell? ⟨gp, 0, none⟩ = some (.int .u64 (no : Int)) := (G5.out.pl).cell 0
                  have p1 : (v5).cell? ⟨gp, 1, none⟩ = some (.int .u64 (ln : Int)) := (G5.out.pl).cell 1
                  have i0 : v5.cell? ⟨q + 2, 0, none⟩ = some (.slice ai ni ci) := G5.out.bi.cell 0
                  clear hb5 hHeld
                  refine hK.out _ _ ⟨k0, k1, k2, p0, p1⟩ (fun hHeld => ?_)
                  clear hK K
                  try simp only [Act.put, List.getElem_toArray, List.getElem_cons_succ, List.getElem_cons_zero, Array.getInternal_eq_getElem, List.setIfInBounds_toArray, List.set_cons_zero, List.set_cons_succ]
                  refine wpAnyH_take (i := 10) (v := ?_) rfl (by kernel_rfl) (by kernel_rfl) (by kernel_rfl) (fun _ _ _ h => h) (Or.inl ⟨by rfl, ?_⟩) hHeld ?_
                  rotate_left
                  · intro w hSw
                    try dsimp only at hSw
                    go_simp
                    try with_reducible rfl
                  try simp only [Act.put, List.getElem_toArray, List.getElem_cons_succ, List.getElem_cons_zero, Array.getInternal_eq_getElem, List.setIfInBounds_toArray, List.set_cons_zero, List.set_cons_succ]
                  refine wpAnyH_ready (rs := [11]) (by kernel_rfl) (by simp) ?_
                  refine AllReadyH.cons rfl (fun K hK => ?_) ?_
                  · skip
                    go_simp
                    have hA : Below v5.heap.size v5 (v5.alloc (.cells #[.string ek.user, .int .u64 (ek.seq : Int), .int .i64 ek.kind, .string (strOf (plV no ln))] TKV)) := (Below.refl _ _).alloc (Nat.le_refl _) _
                    obtain ⟨k0, k1, k2⟩ := HKC.out (v5.alloc (.cells #[.string ek.user, .int .u64 (ek.seq : Int), .int .i64 ek.kind, .string (strOf (plV no ln))] TKV)) ((G5.out.call hA).base)
                    have p0 : (v5.alloc (.cells #[.string ek.user, .int .u64 (ek.seq : Int), .int .i64 ek.kind, .string (strOf (plV no ln))] TKV)).cell? ⟨gp, 0, none⟩ = some (.int .u64 (no : Int)) := ((G5.out.call hA).pl).cell 0
                    have p1 : (v5.alloc (.cells #[.string ek.user, .int .u64 (ek.seq : Int), .int .i64 ek.kind, .string (strOf (plV no ln))] TKV)).cell? ⟨gp, 1, none⟩ = some (.int .u64 (ln : Int)) := ((G5.out.call hA).pl).cell 1
                    have i0 : (v5.alloc (.cells #[.string ek.user, .int .u64 (ek.seq : Int), .int .i64 ek.kind, .string (strOf (plV no ln))] TKV)).cell? ⟨q + 2, 0, none⟩ = some (.slice ai ni ci) := (G5.out.call hA).bi.cell 0
                    clear hA hHeld
                    refine hK.out _ _ ⟨k0, k1, k2, p0, p1⟩ (fun hHeld => ?_)
                    clear hK K
                    try simp only [Act.put, List.getElem_toArray, List.getElem_cons_succ, List.getElem_cons_zero, Array.getInternal_eq_getElem, List.setIfInBounds_toArray, List.set_cons_zero, List.set_cons_succ]
                    refine wpAnyH_ready (rs := [12]) (by kernel_rfl) (by simp) ?_
                    refine AllReadyH.cons rfl (fun K hK => ?_) ?_
                    · skip
                      refine step_pushK v5 rfl (.tmp 25) (.tmp 36) rfl w.heap.size ai ni ci li (by simp [Act.eval]) G5.out.oi (ek, strOf (plV no ln)) _ rfl v5.heap.size rfl (by simp [Act.eval]) (by omega) G5.out.base.size ?_
                      intro a6 c6 v6 ho6 hb6 hg6
                      have HU : Hid (Box v6 (q + 2) TKs #[.slice ai ni ci] ∧ TS12 w q W a n c iv bl bits a5 (no + ln + 4) c5 (lo ++ partB (layP iv xl)) a6 (ni + 1) c6 (li ++ [(ek, strOf (plV no ln))]) gp #[.int .u64 (no : Int), .int .u64 (ln : Int)] (v6.setCell ⟨q + 2, 0, none⟩ (.slice a6 (ni + 1) c6)) ∧ Below w.heap.size w v6 ∧ Box v6 gp TPl #[.int .u64 (no : Int), .int .u64 (ln : Int)]) := ⟨(G5.out.push _ hb6 hg6 ho6).1, (G5.out.push _ hb6 hg6 ho6).2.2, G5.out.base.trans hb6, (G5.out.push _ hb6 hg6 ho6).2.1⟩
                      obtain ⟨k0, k1, k2⟩ := HKC.out (v6) (HU.out.2.2.1)
                      have p0 : (v6).cell? ⟨gp, 0, none⟩ = some (.int .u64 (no : Int)) := (HU.out.2.2.2).cell 0
                      have p1 : (v6).cell? ⟨gp, 1, none⟩ = some (.int .u64 (ln : Int)) := (HU.out.2.2.2).cell 1
                      have b6 : v6.cell? ⟨q + 2, 0, none⟩ = some (.slice ai ni ci) := HU.out.1.cell 0
                      have f6 := HU.out.1.soft 0
                      clear ho6 hb6 hg6 hHeld
                      refine hK.out _ _ ⟨k0, k1, k2, p0, p1⟩ (fun hHeld => ?_)
                      clear hK K
                      try simp only [Act.put, List.getElem_toArray, List.getElem_cons_succ, List.getElem_cons_zero, Array.getInternal_eq_getElem, List.setIfInBounds_toArray, List.set_cons_zero, List.set_cons_succ]
                      refine wpAnyH_ready (rs := [13]) (by kernel_rfl) (by simp) ?_
                      refine AllReadyH.cons rfl (fun K hK => ?_) ?_
                      · skip
                        go_simp
                        generalize v6.setCell ⟨q + 2, 0, none⟩ (.slice a6 (ni + 1) c6) = V7 at *
                        obtain ⟨k0, k1, k2⟩ := HKC.out (V7) (HU.out.2.1.base)
                        have p0 : (V7).cell? ⟨gp, 0, none⟩ = some (.int .u64 (no : Int)) := (HU.out.2.1.pl).cell 0
                        have p1 : (V7).cell? ⟨gp, 1, none⟩ = some (.int .u64 (ln : Int)) := (HU.out.2.1.pl).cell 1
                        clear hHeld b6 f6
                        refine hK.out _ _ ⟨k0, k1, k2, p0, p1⟩ (fun hHeld => ?_)
                        clear hK K
                        try simp only [Act.put, List.getElem_toArray, List.getElem_cons_succ, List.getElem_cons_zero, Array.getInternal_eq_getElem, List.setIfInBounds_toArray, List.set_cons_zero, List.set_cons_succ]
                        refine wpAnyH_done (by kernel_rfl) ?_ _
                        refine ⟨HU.out.2.1.rk.ko.from _, HU.out.2.1.rk.kp, HU.out.2.1.base, HU.out.2.1.le, HU.out.2.1.opt, HU.out.2.1.x3, HU.out.2.1.x4, a5, a6, no + ln + 4, c5, ni + 1, c6, HU.out.2.1.bo, HU.out.2.1.bi, ?_, ?_⟩
                        · rw [gls_snoc, tdOf_snoc, bodyT_snoc, HLO.out.1, HXE.out]
                          exact HU.out.2.1.oo
                        · rw [gls_snoc, tdOf_snoc, ixE_snoc, HLO.out.2, HXE.out, HLL.out.2.1, Nat.zero_add]
                          dsimp only
                          rw [partB_len, Nat.add_sub_cancel, HLN.out, HLK.out]
                          exact HU.out.2.1.oi
                      exact AllReadyH.nil
                    exact AllReadyH.nil
                  exact AllReadyH.nil
                exact AllReadyH.nil
              refine AllReadyH.cons rfl (fun K hK => ?_) ?_
              · skip
                go_simp
                refine (value_any no ln (by omega) (by omega) _).mono ?_
                rintro _ v5 ⟨rfl, hb5⟩
                have G5 : Hid (TS12 w q W a n c iv bl bits a5 (no + ln + 4) c5 (lo ++ partB (layP iv xl)) ai ni ci li gp #[.int .u64 (no : Int), .int .u64 (ln : Int)] v5) := HP.out.call ((Below.refl _ _).drew.trans hb5)
                obtain ⟨k0, k1, k2⟩ := HKC.out (v5) (G5.out.base)
                have p0 : (v5).cell? ⟨gp, 0, none⟩ = some (.int .u64 (no : Int)) := (G5.out.pl).cell 0
                have p1 : (v5).cell? ⟨gp, 1, none⟩ = some (.int .u64 (ln : Int)) := (G5.out.pl).cell 1
                have i0 : v5.cell? ⟨q + 2, 0, none⟩ = some (.slice ai ni ci) := G5.out.bi.cell 0
                clear hb5 hHeld
                refine hK.out _ _ ⟨k0, k1, k2, p0, p1⟩ (fun hHeld => ?_)
                clear hK K
                try simp only [Act.put, List.getElem_toArray, List.getElem_cons_succ, List.getElem_cons_zero, Array.getInternal_eq_getElem, List.setIfInBounds_toArray, List.set_cons_zero, List.set_cons_succ]
                refine wpAnyH_take (i := 10) (v := ?_) rfl (by kernel_rfl) (by kernel_rfl) (by kernel_rfl) (fun _ _ _ h => h) (Or.inl ⟨by rfl, ?_⟩) hHeld ?_
                rotate_left
                · intro w hSw
                  try dsimp only at hSw
                  go_simp
                  try with_reducible rfl
                try simp only [Act.put, List.getElem_toArray, List.getElem_cons_succ, List.getElem_cons_zero, Array.getInternal_eq_getElem, List.setIfInBounds_toArray, List.set_cons_zero, List.set_cons_succ]
                refine wpAnyH_ready (rs := [0, 11]) (by kernel_rfl) (by simp) ?_
                refine AllReadyH.cons rfl (fun K hK => ?_) ?_
                · skip
                  go_simp
                  refine hK.out _ _ ⟨k0, k1, k2, p0, p1⟩ (fun hHeld => ?_)
                  clear hK K
                  try simp only [Act.put, List.getElem_toArray, List.getElem_cons_succ, List.getElem_cons_zero, Array.getInternal_eq_getElem, List.setIfInBounds_toArray, List.set_cons_zero, List.set_cons_succ]
                  refine wpAnyH_ready (rs := [11]) (by kernel_rfl) (by simp) ?_
                  refine AllReadyH.cons rfl (fun K hK => ?_) ?_
                  · skip
                    go_simp
                    have hA : Below v5.heap.size v5 (v5.alloc (.cells #[.string ek.user, .int .u64 (ek.seq : Int), .int .i64 ek.kind, .string (strOf (plV no ln))] TKV)) := (Below.refl _ _).alloc (Nat.le_refl _) _
                    obtain ⟨k0, k1, k2⟩ := HKC.out (v5.alloc (.cells #[.string ek.user, .int .u64 (ek.seq : Int), .int .i64 ek.kind, .string (strOf (plV no ln))] TKV)) ((G5.out.call hA).base)
                    have p0 : (v5.alloc (.cells #[.string ek.user, .int .u64 (ek.seq : Int), .int .i64 ek.kind, .string (strOf (plV no ln))] TKV)).cell? ⟨gp, 0, none⟩ = some (.int .u64 (no : Int)) := ((G5.out.call hA).pl).cell 0
                    have p1 : (v5.alloc (.cells #[.string ek.user, .int .u64 (ek.seq : Int), .int .i64 ek.kind, .string (strOf (plV no ln))] TKV)).cell? ⟨gp, 1, none⟩ = some (.int .u64 (ln : Int)) := ((G5.out.call hA).pl).cell 1
                    have i0 : (v5.alloc (.cells #[.string ek.user, .int .u64 (ek.seq : Int), .int .i64 ek.kind, .string (strOf (plV no ln))] TKV)).cell? ⟨q + 2, 0, none⟩ = some (.slice ai ni ci) := (G5.out.call hA).bi.cell 0
                    clear hA hHeld
                    refine hK.out _ _ ⟨k0, k1, k2, p0, p1⟩ (fun hHeld => ?_)
                    clear hK K
                    try simp only [Act.put, List.getElem_toArray, List.getElem_cons_succ, List.getElem_cons_zero, Array.getInternal_eq_getElem, List.setIfInBounds_toArray, List.set_cons_zero, List.set_cons_succ]
                    refine wpAnyH_ready (rs := [12]) (by kernel_rfl) (by simp) ?_
                    refine AllReadyH.cons rfl (fun K hK => ?_) ?_
                    · skip
                      refine step_pushK v5 rfl (.tmp 25) (.tmp 36) rfl w.heap.size ai ni ci li (by simp [Act.eval]) G5.out.oi (ek, strOf (plV no ln)) _ rfl v5.heap.size rfl (by simp [Act.eval]) (by omega) G5.out.base.size ?_
                      intro a6 c6 v6 ho6 hb6 hg6
                      have HU : Hid (Box v6 (q + 2) TKs #[.slice ai ni ci] ∧ TS12 w q W a n c iv bl bits a5 (no + ln + 4) c5 (lo ++ partB (layP iv xl)) a6 (ni + 1) c6 (li ++ [(ek, strOf (plV no ln))]) gp #[.int .u64 (no : Int), .int .u64 (ln : Int)] (v6.setCell ⟨q + 2, 0, none⟩ (.slice a6 (ni + 1) c6)) ∧ Below w.heap.size w v6 ∧ Box v6 gp TPl #[.int .u64 (no : Int), .int .u64 (ln : Int)]) := ⟨(G5.out.push _ hb6 hg6 ho6).1, (G5.out.push _ hb6 hg6 ho6).2.2, G5.out.base.trans hb6, (G5.out.push _ hb6 hg6 ho6).2.1⟩
                      obtain ⟨k0, k1, k2⟩ := HKC.out (v6) (HU.out.2.2.1)
                      have p0 : (v6).cell? ⟨gp, 0, none⟩ = some (.int .u64 (no : Int)) := (HU.out.2.2.2).cell 0
                      have p1 : (v6).cell? ⟨gp, 1, none⟩ = some (.int .u64 (ln : Int)) := (HU.out.2.2.2).cell 1
                      have b6 : v6.cell? ⟨q + 2, 0, none⟩ = some (.slice ai ni ci) := HU.out.1.cell 0
                      have f6 := HU.out.1.soft 0
                      clear ho6 hb6 hg6 hHeld
                      refine hK.out _ _ ⟨k0, k1, k2, p0, p1⟩ (fun hHeld => ?_)
                      clear hK K
                      try simp only [Act.put, List.getElem_toArray, List.getElem_cons_succ, List.getElem_cons_zero, Array.getInternal_eq_getElem, List.setIfInBounds_toArray, List.set_cons_zero, List.set_cons_succ]
                      refine wpAnyH_ready (rs := [13]) (by kernel_rfl) (by simp) ?_
                      refine AllReadyH.cons rfl (fun K hK => ?_) ?_
                      · skip
                        go_simp
                        generalize v6.setCell ⟨q + 2, 0, none⟩ (.slice a6 (ni + 1) c6) = V7 at *
                        obtain ⟨k0, k1, k2⟩ := HKC.out (V7) (HU.out.2.1.base)
                        have p0 : (V7).cell? ⟨gp, 0, none⟩ = some (.int .u64 (no : Int)) := (HU.out.2.1.pl).cell 0
                        have p1 : (V7).cell? ⟨gp, 1, none⟩ = some (.int .u64 (ln : Int)) := (HU.out.2.1.pl).cell 1
                        clear hHeld b6 f6
                        refine hK.out _ _ ⟨k0, k1, k2, p0, p1⟩ (fun hHeld => ?_)
                        clear hK K
                        try simp only [Act.put, List.getElem_toArray, List.getElem_cons_succ, List.getElem_cons_zero, Array.getInternal_eq_getElem, List.setIfInBounds_toArray, List.set_cons_zero, List.set_cons_succ]
                        refine wpAnyH_done (by kernel_rfl) ?_ _
                        refine ⟨HU.out.2.1.rk.ko.from _, HU.out.2.1.rk.kp, HU.out.2.1.base, HU.out.2.1.le, HU.out.2.1.opt, HU.out.2.1.x3, HU.out.2.1.x4, a5, a6, no + ln + 4, c5, ni + 1, c6, HU.out.2.1.bo, HU.out.2.1.bi, ?_, ?_⟩
                        · rw [gls_snoc, tdOf_snoc, bodyT_snoc, HLO.out.1, HXE.out]
                          exact HU.out.2.1.oo
                        · rw [gls_snoc, tdOf_snoc, ixE_snoc, HLO.out.2, HXE.out, HLL.out.2.1, Nat.zero_add]
                          dsimp only
                          rw [partB_len, Nat.add_sub_cancel, HLN.out, HLK.out]
                          exact HU.out.2.1.oi
                      exact AllReadyH.nil
                    exact AllReadyH.nil
                  exact AllReadyH.nil
                refine AllReadyH.cons rfl (fun K hK => ?_) ?_
                · skip
                  go_simp
                  have hA : Below v5.heap.size v5 (v5.alloc (.cells #[.string ek.user, .int .u64 (ek.seq : Int), .int .i64 ek.kind, .string (strOf (plV no ln))] TKV)) := (Below.refl _ _).alloc (Nat.le_refl _) _
                  obtain ⟨k0, k1, k2⟩ := HKC.out (v5.alloc (.cells #[.string ek.user, .int .u64 (ek.seq : Int), .int .i64 ek.kind, .string (strOf (plV no ln))] TKV)) ((G5.out.call hA).base)
                  have p0 : (v5.alloc (.cells #[.string ek.user, .int .u64 (ek.seq : Int), .int .i64 ek.kind, .string (strOf (plV no ln))] TKV)).cell? ⟨gp, 0, none⟩ = some (.int .u64 (no : Int)) := ((G5.out.call hA).pl).cell 0
                  have p1 : (v5.alloc (.cells #[.string ek.user, .int .u64 (ek.seq : Int), .int .i64 ek.kind, .string (strOf (plV no ln))] TKV)).cell? ⟨gp, 1, none⟩ = some (.int .u64 (ln : Int)) := ((G5.out.call hA).pl).cell 1
                  have i0 : (v5.alloc (.cells #[.string ek.user, .int .u64 (ek.seq : Int), .int .i64 ek.kind, .string (strOf (plV no ln))] TKV)).cell? ⟨q + 2, 0, none⟩ = some (.slice ai ni ci) := (G5.out.call hA).bi.cell 0
                  clear hA hHeld
                  refine hK.out _ _ ⟨k0, k1, k2, p0, p1⟩ (fun hHeld => ?_)
                  clear hK K
                  try simp only [Act.put, List.getElem_toArray, List.getElem_cons_succ, List.getElem_cons_zero, Array.getInternal_eq_getElem, List.setIfInBounds_toArray, List.set_cons_zero, List.set_cons_succ]
                  refine wpAnyH_ready (rs := [0]) (by kernel_rfl) (by simp) ?_
                  refine AllReadyH.cons rfl (fun K hK => ?_) ?_
                  · skip
                    go_simp
                    refine hK.out _ _ ⟨k0, k1, k2, p0, p1⟩ (fun hHeld => ?_)
                    clear hK K
                    try simp only [Act.put, List.getElem_toArray, List.getElem_cons_succ, List.getElem_cons_zero, Array.getInternal_eq_getElem, List.setIfInBounds_toArray, List.set_cons_zero, List.set_cons_succ]
                    refine wpAnyH_ready (rs := [12]) (by kernel_rfl) (by simp) ?_
                    refine AllReadyH.cons rfl (fun K hK => ?_) ?_
                    · skip
                      refine step_pushK v5 rfl (.tmp 25) (.tmp 36) rfl w.heap.size ai ni ci li (by simp [Act.eval]) G5.out.oi (ek, strOf (plV no ln)) _ rfl v5.heap.size rfl (by simp [Act.eval]) (by omega) G5.out.base.size ?_
                      intro a6 c6 v6 ho6 hb6 hg6
                      have HU : Hid (Box v6 (q + 2) TKs #[.slice ai ni ci] ∧ TS12 w q W a n c iv bl bits a5 (no + ln + 4) c5 (lo ++ partB (layP iv xl)) a6 (ni + 1) c6 (li ++ [(ek, strOf (plV no ln))]) gp #[.int .u64 (no : Int), .int .u64 (ln : Int)] (v6.setCell ⟨q + 2, 0, none⟩ (.slice a6 (ni + 1) c6)) ∧ Below w.heap.size w v6 ∧ Box v6 gp TPl #[.int .u64 (no : Int), .int .u64 (ln : Int)]) := ⟨(G5.out.push _ hb6 hg6 ho6).1, (G5.out.push _ hb6 hg6 ho6).2.2, G5.out.base.trans hb6, (G5.out.push _ hb6 hg6 ho6).2.1⟩
                      obtain ⟨k0, k1, k2⟩ := HKC.out (v6) (HU.out.2.2.1)
                      have p0 : (v6).cell? ⟨gp, 0, none⟩ = some (.int .u64 (no : Int)) := (HU.out.2.2.2).cell 0
                      have p1 : (v6).cell? ⟨gp, 1, none⟩ = some (.int .u64 (ln : Int)) := (HU.out.2.2.2).cell 1
                      have b6 : v6.cell? ⟨q + 2, 0, none⟩ = some (.slice ai ni ci) := HU.out.1.cell 0
                      have f6 := HU.out.1.soft 0
                      clear ho6 hb6 hg6 hHeld
                      refine hK.out _ _ ⟨k0, k1, k2, p0, p1⟩ (fun hHeld => ?_)
                      clear hK K
                      try simp only [Act.put, List.getElem_toArray, List.getElem_cons_succ, List.getElem_cons_zero, Array.getInternal_eq_getElem, List.setIfInBounds_toArray, List.set_cons_zero, List.set_cons_succ]
                      refine wpAnyH_ready (rs := [13]) (by kernel_rfl) (by simp) ?_
                      refine AllReadyH.cons rfl (fun K hK => ?_) ?_
                      · skip
                        go_simp
                        generalize v6.setCell ⟨q + 2, 0, none⟩ (.slice a6 (ni + 1) c6) = V7 at *
                        obtain ⟨k0, k1, k2⟩ := HKC.out (V7) (HU.out.2.1.base)
                        have p0 : (V7).cell? ⟨gp, 0, none⟩ = some (.int .u64 (no : Int)) := (HU.out.2.1.pl).cell 0
                        have p1 : (V7).cell? ⟨gp, 1, none⟩ = some (.int .u64 (ln : Int)) := (HU.out.2.1.pl).cell 1
                        clear hHeld b6 f6
                        refine hK.out _ _ ⟨k0, k1, k2, p0, p1⟩ (fun hHeld => ?_)
                        clear hK K
                        try simp only [Act.put, List.getElem_toArray, List.getElem_cons_succ, List.getElem_cons_zero, Array.getInternal_eq_getElem, List.setIfInBounds_toArray, List.set_cons_zero, List.set_cons_succ]
                        refine wpAnyH_done (by kernel_rfl) ?_ _
                        refine ⟨HU.out.2.1.rk.ko.from _, HU.out.2.1.rk.kp, HU.out.2.1.base, HU.out.2.1.le, HU.out.2.1.opt, HU.out.2.1.x3, HU.out.2.1.x4, a5, a6, no + ln + 4, c5, ni + 1, c6, HU.out.2.1.bo, HU.out.2.1.bi, ?_, ?_⟩
                        · rw [gls_snoc, tdOf_snoc, bodyT_snoc, HLO.out.1, HXE.out]
                          exact HU.out.2.1.oo
                        · rw [gls_snoc, tdOf_snoc, ixE_snoc, HLO.out.2, HXE.out, HLL.out.2.1, Nat.zero_add]
                          dsimp only
                          rw [partB_len, Nat.add_sub_cancel, HLN.out, HLK.out]
                          exact HU.out.2.1.oi
                      exact AllReadyH.nil
                    exact AllReadyH.nil
                  exact AllReadyH.nil
                exact AllReadyH.nil
              exact AllReadyH.nil
            exact AllReadyH.nil
          exact AllReadyH.nil
        exact AllReadyH.nil
      exact AllReadyH.nil
    exact AllReadyH.nil
  case stop =>
    rintro D c pre W hD _ hx _
    exact hx.elim
  case done =>
    rintro D xs W hD hS hI hK
    obtain ⟨ao, ai, no, co, ni, ci, g3, g4, g5, g6⟩ := hI.here
    have hgl := Nat.le_trans (grps_len iv bl l) (by rw [HH.out.2.1.len]; exact hn : l.length ≤ 1000)
    have hxl : xs.length = (grps iv bl l).length := by rw [← hS]; simp [GpX.ls]
    have hbl := body_len hiv1 xs
    have hno : no ≤ 1200000000 := by have := g5.size; omega
    have hni : ni ≤ 1000 := by have := g6.size; omega
    rw [hS] at g5 g6
    have G : Hid (TI w q a n c iv bl bits xs W ∧ Box W (q + 1) TBs #[.slice ao no co] ∧ Box W (q + 2) TKs #[.slice ai ni ci] ∧ OwnB W w.heap.size ao no co (bodyT (tdOf iv (grps iv bl l))) ∧ OwnK W w.heap.size ai ni ci (ixE 0 (tdOf iv (grps iv bl l)))) := ⟨hI, g3, g4, g5, g6⟩
    have HKD : Hid (W.heap[D]? = some (.deferred (some []))) := hK
    have hcv := conv_int_u64 n (by omega)
    have hq1 : q + 1 < W.heap.size := g3.lt
    have c1 : W.cell? ⟨q + 1, 0, none⟩ = some (.slice ao no co) := g3.cell 0
    have Z0 : Hid (TZ w q ao no co (bodyT (tdOf iv (grps iv bl l))) ai ni ci (ixE 0 (tdOf iv (grps iv bl l))) W.heap.size #[.int .u64 0, .int .u64 0, .int .u64 0, .int .u64 0, .int .u64 (n : Int)] D (W.alloc (.cells #[.int .u64 0, .int .u64 0, .int .u64 0, .int .u64 0, .int .u64 (n : Int)] TFt))) := ⟨hI.base.alloc hI.base.size _, hI.le, g3.alloc _, g4.alloc _, g5.alloc _, g6.alloc _, Box.new _ _ _, hI.x4.lt, (Below.heap_alloc W _ D (Array.getElem?_eq_some_iff.1 hK).1).trans hK⟩
    have hoff0 : ∀ k, blkOf ao = some k → blkOf af ≠ some k := fun k hk hk2 => by
      obtain ⟨b, off, hb, hcell⟩ := HH.out.2.2.here hnf0
      have h1 := g5.ge hk
      have h2 : b < w.heap.size := World.block_lt_of_cell? w _ (hcell 0 hnf0)
      rw [hb] at hk2
      have h3 : b = k := Option.some.inj hk2
      omega
    have hl0 := lay_any (B := w.heap.size) Z0.out.oo Z0.out.base.size (HH.out.2.2.below (Nat.le_refl _) Z0.out.base) hoff0 (by omega)
    clear hI g3 g4 g5 g6 hS hK
    gi_wp2_with (first
      | (refine ⟨trivial, ?_⟩; gi_at_call 63; refine (callsIn_wide.2 hl0).mono ?_; rintro e v1 ⟨a1, k1, rfl, ho1, hc1⟩
         have Z1 : Hid (Box v1 (q + 1) TBs #[.slice ao no co] ∧ Box v1 W.heap.size TFt #[.int .u64 0, .int .u64 0, .int .u64 0, .int .u64 0, .int .u64 (n : Int)] ∧ TZ w q a1 (no + nf + 4) k1 (bodyT (tdOf iv (grps iv bl l)) ++ partB fl) ai ni ci (ixE 0 (tdOf iv (grps iv bl l))) W.heap.size #[.int .u64 0, .int .u64 0, .int .u64 0, .int .u64 0, .int .u64 (n : Int)] D (v1.setCell ⟨q + 1, 0, none⟩ (.slice a1 (no + nf + 4) k1))) := Z0.out.lay hc1 ho1
         have b1 : v1.cell? ⟨q + 1, 0, none⟩ = some (.slice ao no co) := Z1.out.1.cell 0
         have f1 := Z1.out.1.soft 0
         have d0 : v1.cell? ⟨W.heap.size, 0, none⟩ = some (.int .u64 0) := Z1.out.2.1.cell 0
         have d1 : v1.cell? ⟨W.heap.size, 1, none⟩ = some (.int .u64 0) := Z1.out.2.1.cell 1
         have r0 := Z1.out.2.1.soft 0
         have r1 := Z1.out.2.1.soft 1
         have hqw : ¬ q + 1 = W.heap.size := by omega
         have hqw2 : ¬ W.heap.size = q + 1 := by omega
         clear hc1 ho1))
    have Z2 : Hid (TZ w q a1 (no + nf + 4) k1 (bodyT (tdOf iv (grps iv bl l)) ++ partB fl) ai ni ci (ixE 0 (tdOf iv (grps iv bl l))) W.heap.size #[.int .u64 (no : Int), .int .u64 (nf : Int), .int .u64 0, .int .u64 0, .int .u64 (n : Int)] D (((v1.setCell ⟨q + 1, 0, none⟩ (.slice a1 (no + nf + 4) k1)).setCell ⟨W.heap.size, 0, none⟩ (.int .u64 (no : Int))).setCell ⟨W.heap.size, 1, none⟩ (.int .u64 (nf : Int)))) := (Z1.out.2.2.setFt 0 (.int .u64 (no : Int))).setFt 1 (.int .u64 (nf : Int))
    generalize ((v1.setCell ⟨q + 1, 0, none⟩ (.slice a1 (no + nf + 4) k1)).setCell ⟨W.heap.size, 0, none⟩ (.int .u64 (no : Int))).setCell ⟨W.heap.size, 1, none⟩ (.int .u64 (nf : Int)) = V2 at *
    generalize hgf : W.heap.size = gf at *
    have HNL : Hid ((bodyT (tdOf iv (grps iv bl l))).length = no ∧ fl.length = nf) := ⟨Z0.out.oo.size, HH.out.2.2.size⟩
    have HGS : Hid (∀ g ∈ grps iv bl l, g ≠ []) := fun g hg => (grps_mem iv bl l g hg).1
    clear b1 f1 d0 d1 r0 r1 hqw hqw2 hgf Z1 hl0 hoff0 c1 hcv
    have i0 : V2.drew.cell? ⟨q + 2, 0, none⟩ = some (.slice ai ni ci) := Z2.out.bi.cell 0
    have o0 : V2.drew.cell? ⟨q + 1, 0, none⟩ = some (.slice a1 (no + nf + 4) k1) := Z2.out.bo.cell 0
    have HGG : Hid (Gs iv (grps iv bl l)) := by
      refine ⟨hiv1, hiv16, HGS.out, by rw [grps_flat]; exact HH.out.2.1.ok, fun g hg => ?_⟩
      have h1 := (grps_mem iv bl l g hg).2
      rw [HH.out.2.1.len] at h1
      have h2 := (chkL_zero.1 HH.out.2.1.ok).1
      have h3 := lay_le12 hiv1 g (fun e he => h2 e (by rw [← grps_flat iv bl l]; exact List.mem_flatten.2 ⟨g, hg, he⟩))
      omega
    have HIX : Hid (chkL (ixE 0 (tdOf iv (grps iv bl l))) = 0) := ix_chk (fun x hx => (tdOf_ok HGG.out x hx).1) (tdOf_rises _ HGG.out) 0
    have HBB : Hid (∀ V, TZ w q a1 (no + nf + 4) k1 (bodyT (tdOf iv (grps iv bl l)) ++ partB fl) ai ni ci (ixE 0 (tdOf iv (grps iv bl l))) gf #[.int .u64 (no : Int), .int .u64 (nf : Int), .int .u64 0, .int .u64 0, .int .u64 (n : Int)] D V → Calls Tryz.prog 64 #[.slice ai ni ci, .int .i64 1] V fun r w' => ∃ a' c', r = .returned (.slice a' (ixB (tdOf iv (grps iv bl l))).length c') ∧ OwnB w' V.heap.size a' (ixB (tdOf iv (grps iv bl l))).length c' (ixB (tdOf iv (grps iv bl l))) ∧ Below V.heap.size V w') := fun V hV => blk_yes ai ni ci (ixE 0 (tdOf iv (grps iv bl l))) 1 (by omega) (by omega) V hV.oi.ks hV.oi.spot.1 hV.oi.spot.2 (by omega) HIX.out
    have hixl : (ixB (tdOf iv (grps iv bl l))).length ≤ 1200000 := by
      have h1 := lay_le12 (Nat.le_refl 1) (ixE 0 (tdOf iv (grps iv bl l))) (chkL_zero.1 HIX.out).1
      have h2 := Z2.out.oi.size
      rw [h2] at h1
      show (layP 1 (ixE 0 (tdOf iv (grps iv bl l)))).length ≤ _
      omega
    obtain ⟨ixn, HIN⟩ : ∃ ixn, Hid ((ixB (tdOf iv (grps iv bl l))).length = ixn) := ⟨_, (rfl : (ixB (tdOf iv (grps iv bl l))).length = (ixB (tdOf iv (grps iv bl l))).length)⟩
    rw [HIN.out] at HBB hixl
    generalize hlo : bodyT (tdOf iv (grps iv bl l)) ++ partB fl = lo at *
    have HLO : Hid (bodyT (tdOf iv (grps iv bl l)) ++ partB fl = lo) := hlo
    clear hlo
    have HTB : Hid (tabB (tdOf iv (grps iv bl l)) fl n = lo ++ partB (ixB (tdOf iv (grps iv bl l))) ++ footB no nf (no + nf + 4) ixn n ∧ (tabB (tdOf iv (grps iv bl l)) fl n).length = no + nf + 4 + ixn + 4 + 28) := by
      refine ⟨?_, ?_⟩
      · unfold tabB
        rw [← HLO.out, HNL.out.1, HNL.out.2, HIN.out]
        simp only [List.append_assoc]
      · rw [tabB_len, HNL.out.1, HNL.out.2, HIN.out]
        omega
    rename_i K10 hK10
    refine wpIn_wide.2 ?_
    refine wp_region_noPanic ?_
    refine wp_region_held_drew (S := fun V => V.cell? ⟨q + 2, 0, none⟩ = some (.slice ai ni ci)) hmix i0 (fun hHeld => ?_)
    refine wpAnyH_take (i := 1) (v := ?_) rfl (by kernel_rfl) (by kernel_rfl) (by kernel_rfl) (fun _ _ _ h => h) (Or.inl ⟨by rfl, ?_⟩) hHeld ?_
    rotate_left
    · intro w hSw
      try dsimp only at hSw
      go_simp
      try with_reducible rfl
    try simp only [Act.put, List.getElem_toArray, List.getElem_cons_succ, List.getElem_cons_zero, Array.getInternal_eq_getElem, List.setIfInBounds_toArray, List.set_cons_zero, List.set_cons_succ]
    refine wpAnyH_ready (rs := [0, 2]) (by kernel_rfl) (by simp) ?_
    refine AllReadyH.cons rfl (fun K hK => ?_) ?_
    · skip
      go_simp
      refine hK.out _ _ i0 (fun hHeld => ?_)
      clear hK K
      try simp only [Act.put, List.getElem_toArray, List.getElem_cons_succ, List.getElem_cons_zero, Array.getInternal_eq_getElem, List.setIfInBounds_toArray, List.set_cons_zero, List.set_cons_succ]
      refine wpAnyH_ready (rs := [2]) (by kernel_rfl) (by simp) ?_
      refine AllReadyH.cons rfl (fun K hK => ?_) ?_
      · skip
        go_simp
        refine (HBB.out _ (Z2.out.call (Below.refl _ _).drew)).mono ?_
        rintro _ v3 ⟨a3, k3, rfl, ho3, hb3⟩
        have Z3 : Hid (TZ w q a1 (no + nf + 4) k1 lo ai ni ci (ixE 0 (tdOf iv (grps iv bl l))) gf #[.int .u64 (no : Int), .int .u64 (nf : Int), .int .u64 0, .int .u64 0, .int .u64 (n : Int)] D v3 ∧ OwnB v3 V2.heap.size a3 ixn k3 (ixB (tdOf iv (grps iv bl l)))) := ⟨Z2.out.call ((Below.refl _ _).drew.trans hb3), ho3⟩
        have i0 : v3.cell? ⟨q + 2, 0, none⟩ = some (.slice ai ni ci) := Z3.out.1.bi.cell 0
        have o0 : v3.cell? ⟨q + 1, 0, none⟩ = some (.slice a1 (no + nf + 4) k1) := Z3.out.1.bo.cell 0
        clear ho3 hb3 hHeld
        refine hK.out _ _ i0 (fun hHeld => ?_)
        clear hK K
        try simp only [Act.put, List.getElem_toArray, List.getElem_cons_succ, List.getElem_cons_zero, Array.getInternal_eq_getElem, List.setIfInBounds_toArray, List.set_cons_zero, List.set_cons_succ]
        refine wpAnyH_ready (rs := [3]) (by kernel_rfl) (by simp) ?_
        refine AllReadyH.cons rfl (fun K hK => ?_) ?_
        · skip
          go_simp
          have hoff : ∀ k, blkOf a1 = some k → blkOf a3 ≠ some k := fun k hk hk2 => by
            have h1 := Z3.out.2.ge hk2
            have h2 := tag_lt (Z2.out.oo.tag hk)
            omega
          have hly := lay_any (B := w.heap.size) Z3.out.1.oo Z3.out.1.base.size Z3.out.2.bs hoff (by omega)
          refine hly.mono ?_
          rintro _ v4 ⟨a4, k4, rfl, ho4, hc4⟩
          have Z4 : Hid (Box v4 (q + 1) TBs #[.slice a1 (no + nf + 4) k1] ∧ Box v4 gf TFt #[.int .u64 (no : Int), .int .u64 (nf : Int), .int .u64 0, .int .u64 0, .int .u64 (n : Int)] ∧ TZ w q a4 (no + nf + 4 + ixn + 4) k4 (lo ++ partB (ixB (tdOf iv (grps iv bl l)))) ai ni ci (ixE 0 (tdOf iv (grps iv bl l))) gf #[.int .u64 (no : Int), .int .u64 (nf : Int), .int .u64 0, .int .u64 0, .int .u64 (n : Int)] D (v4.setCell ⟨q + 1, 0, none⟩ (.slice a4 (no + nf + 4 + ixn + 4) k4)) ∧ Box v4 (q + 2) TKs #[.slice ai ni ci]) := ⟨(Z3.out.1.lay hc4 ho4).1, (Z3.out.1.lay hc4 ho4).2.1, (Z3.out.1.lay hc4 ho4).2.2, Z3.out.1.bi.kept (hc4.block _ Z3.out.1.bi.lt (fun e => Z3.out.1.oo.apart Z3.out.1.bi (by decide) e))⟩
          have i0 : v4.cell? ⟨q + 2, 0, none⟩ = some (.slice ai ni ci) := Z4.out.2.2.2.cell 0
          have b4 : v4.cell? ⟨q + 1, 0, none⟩ = some (.slice a1 (no + nf + 4) k1) := Z4.out.1.cell 0
          have f4 := Z4.out.1.soft 0
          clear ho4 hc4 hly hoff hHeld
          refine hK.out _ _ i0 (fun hHeld => ?_)
          clear hK K
          try simp only [Act.put, List.getElem_toArray, List.getElem_cons_succ, List.getElem_cons_zero, Array.getInternal_eq_getElem, List.setIfInBounds_toArray, List.set_cons_zero, List.set_cons_succ]
          refine wpAnyH_take (i := 4) (v := ?_) rfl (by kernel_rfl) (by kernel_rfl) (by kernel_rfl) (fun _ _ _ h => h) (Or.inl ⟨by rfl, ?_⟩) hHeld ?_
          rotate_left
          · intro w hSw
            try dsimp only at hSw
            go_simp
            try with_reducible rfl
          try simp only [Act.put, List.getElem_toArray, List.getElem_cons_succ, List.getElem_cons_zero, Array.getInternal_eq_getElem, List.setIfInBounds_toArray, List.set_cons_zero, List.set_cons_succ]
          refine wpAnyH_take (i := 5) (v := ?_) rfl (by kernel_rfl) (by kernel_rfl) (by kernel_rfl) (fun _ _ _ h => h) (Or.inl ⟨by rfl, ?_⟩) hHeld ?_
          rotate_left
          · intro w hSw
            try dsimp only at hSw
            go_simp
            try with_reducible rfl
          try simp only [Act.put, List.getElem_toArray, List.getElem_cons_succ, List.getElem_cons_zero, Array.getInternal_eq_getElem, List.setIfInBounds_toArray, List.set_cons_zero, List.set_cons_succ]
          refine wpAnyH_take (i := 6) (v := ?_) rfl (by kernel_rfl) (by kernel_rfl) (by kernel_rfl) (fun _ _ _ h => h) (Or.inl ⟨by rfl, ?_⟩) hHeld ?_
          rotate_left
          · intro w hSw
            try dsimp only at hSw
            go_simp
            try with_reducible rfl
          try simp only [Act.put, List.getElem_toArray, List.getElem_cons_succ, List.getElem_cons_zero, Array.getInternal_eq_getElem, List.setIfInBounds_toArray, List.set_cons_zero, List.set_cons_succ]
          refine wpAnyH_ready (rs := [7]) (by kernel_rfl) (by simp) ?_
          refine AllReadyH.cons rfl (fun K hK => ?_) ?_
          · skip
            go_simp
            generalize v4.setCell ⟨q + 1, 0, none⟩ (.slice a4 (no + nf + 4 + ixn + 4) k4) = V5 at *
            have i0 : V5.cell? ⟨q + 2, 0, none⟩ = some (.slice ai ni ci) := Z4.out.2.2.1.bi.cell 0
            have p0 : V5.cell? ⟨gf, 2, none⟩ = some (.int .u64 0) := Z4.out.2.2.1.ft.cell 2
            have p1 : V5.cell? ⟨gf, 3, none⟩ = some (.int .u64 0) := Z4.out.2.2.1.ft.cell 3
            have r0 := Z4.out.2.2.1.ft.soft 2
            have r1 := Z4.out.2.2.1.ft.soft 3
            have Z5 : Hid (TZ w q a4 (no + nf + 4 + ixn + 4) k4 (lo ++ partB (ixB (tdOf iv (grps iv bl l)))) ai ni ci (ixE 0 (tdOf iv (grps iv bl l))) gf #[.int .u64 (no : Int), .int .u64 (nf : Int), .int .u64 ((no : Int) + (nf : Int) + 4), .int .u64 (ixn : Int), .int .u64 (n : Int)] D ((V5.setCell ⟨gf, 2, none⟩ (.int .u64 ((no : Int) + (nf : Int) + 4))).setCell ⟨gf, 3, none⟩ (.int .u64 (ixn : Int)))) := (Z4.out.2.2.1.setFt 2 (.int .u64 ((no : Int) + (nf : Int) + 4))).setFt 3 (.int .u64 (ixn : Int))
            clear hHeld b4 f4
            refine hK.out _ _ i0 (fun hHeld => ?_)
            clear hK K
            try simp only [Act.put, List.getElem_toArray, List.getElem_cons_succ, List.getElem_cons_zero, Array.getInternal_eq_getElem, List.setIfInBounds_toArray, List.set_cons_zero, List.set_cons_succ]
            refine wpAnyH_take (i := 8) (v := ?_) rfl (by kernel_rfl) (by kernel_rfl) (by kernel_rfl) (fun _ _ _ h => h) (Or.inl ⟨by rfl, ?_⟩) hHeld ?_
            rotate_left
            · intro w hSw
              try dsimp only at hSw
              go_simp
              try with_reducible rfl
            try simp only [Act.put, List.getElem_toArray, List.getElem_cons_succ, List.getElem_cons_zero, Array.getInternal_eq_getElem, List.setIfInBounds_toArray, List.set_cons_zero, List.set_cons_succ]
            refine wpAnyH_ready (rs := [9]) (by kernel_rfl) (by simp) ?_
            refine AllReadyH.cons rfl (fun K hK => ?_) ?_
            · skip
              go_simp
              generalize (V5.setCell ⟨gf, 2, none⟩ (.int .u64 ((no : Int) + (nf : Int) + 4))).setCell ⟨gf, 3, none⟩ (.int .u64 (ixn : Int)) = V6 at *
              have i0 : V6.cell? ⟨q + 2, 0, none⟩ = some (.slice ai ni ci) := Z5.out.bi.cell 0
              clear hHeld p0 p1 r0 r1
              refine hK.out _ _ i0 (fun hHeld => ?_)
              clear hK K
              try simp only [Act.put, List.getElem_toArray, List.getElem_cons_succ, List.getElem_cons_zero, Array.getInternal_eq_getElem, List.setIfInBounds_toArray, List.set_cons_zero, List.set_cons_succ]
              refine wpAnyH_done (by kernel_rfl) (NoPanic.normal ?_) _
              refine hK10 _ _ ?_
              clear hK10 hHeld i0
              have o0 : V6.drew.cell? ⟨q + 1, 0, none⟩ = some (.slice a4 (no + nf + 4 + ixn + 4) k4) := (Z5.out.bo).cell 0
              have z0 : V6.drew.cell? ⟨gf, 0, none⟩ = some (.int .u64 (no : Int)) := (Z5.out.ft).cell 0
              have z1 : V6.drew.cell? ⟨gf, 1, none⟩ = some (.int .u64 (nf : Int)) := (Z5.out.ft).cell 1
              have z2 : V6.drew.cell? ⟨gf, 2, none⟩ = some (.int .u64 ((no : Int) + (nf : Int) + 4)) := (Z5.out.ft).cell 2
              have z3 : V6.drew.cell? ⟨gf, 3, none⟩ = some (.int .u64 (ixn : Int)) := (Z5.out.ft).cell 3
              have z4 : V6.drew.cell? ⟨gf, 4, none⟩ = some (.int .u64 (n : Int)) := (Z5.out.ft).cell 4
              have HFB : Hid (∀ V, Calls Tryz.prog 66 #[.agg #[.int .u64 (no : Int), .int .u64 (nf : Int), .int .u64 ((no : Int) + (nf : Int) + 4), .int .u64 (ixn : Int), .int .u64 (n : Int)]] V fun e w' => ∃ a' c', e = .returned (.slice a' 28 c') ∧ OwnB w' V.heap.size a' 28 c' (footB no nf (no + nf + 4) ixn n) ∧ Below V.heap.size V w') := fun V => by
                have h1 := foot_bytes no nf (no + nf + 4) ixn n (by intro x hx; simp at hx; omega) V
                unfold fiveA at h1
                rw [show ((no + nf + 4 : Nat) : Int) = (no : Int) + (nf : Int) + 4 by omega] at h1
                exact h1
              gi_wp2
              rename_i K11 hK11
              refine wpIn_wide.2 ?_
              go_region_held3 (fun V => V.cell? ⟨q + 1, 0, none⟩ = some (.slice a4 (no + nf + 4 + ixn + 4) k4) ∧ V.cell? ⟨gf, 0, none⟩ = some (.int .u64 (no : Int)) ∧ V.cell? ⟨gf, 1, none⟩ = some (.int .u64 (nf : Int)) ∧ V.cell? ⟨gf, 2, none⟩ = some (.int .u64 ((no : Int) + (nf : Int) + 4)) ∧ V.cell? ⟨gf, 3, none⟩ = some (.int .u64 (ixn : Int)) ∧ V.cell? ⟨gf, 4, none⟩ = some (.int .u64 (n : Int))) (first | with_reducible exact ⟨o0, z0, z1, z2, z3, z4⟩ | go_keep)
                (first
                 | (go_at_call 66; refine (HFB.out _).mono ?_; rintro _ v7 ⟨a7, k7, rfl, ho7, hb7⟩
                    have Z7 : Hid (TZ w q a4 (no + nf + 4 + ixn + 4) k4 (lo ++ partB (ixB (tdOf iv (grps iv bl l)))) ai ni ci (ixE 0 (tdOf iv (grps iv bl l))) gf #[.int .u64 (no : Int), .int .u64 (nf : Int), .int .u64 ((no : Int) + (nf : Int) + 4), .int .u64 (ixn : Int), .int .u64 (n : Int)] D v7 ∧ BsAt v7 a7 28 k7 (footB no nf (no + nf + 4) ixn n)) := ⟨Z5.out.call ((Below.refl _ _).drew.trans hb7), ho7.bs⟩
                    have o0 : v7.cell? ⟨q + 1, 0, none⟩ = some (.slice a4 (no + nf + 4 + ixn + 4) k4) := (Z7.out.1.bo).cell 0
                    have z0 : v7.cell? ⟨gf, 0, none⟩ = some (.int .u64 (no : Int)) := (Z7.out.1.ft).cell 0
                    have z1 : v7.cell? ⟨gf, 1, none⟩ = some (.int .u64 (nf : Int)) := (Z7.out.1.ft).cell 1
                    have z2 : v7.cell? ⟨gf, 2, none⟩ = some (.int .u64 ((no : Int) + (nf : Int) + 4)) := (Z7.out.1.ft).cell 2
                    have z3 : v7.cell? ⟨gf, 3, none⟩ = some (.int .u64 (ixn : Int)) := (Z7.out.1.ft).cell 3
                    have z4 : v7.cell? ⟨gf, 4, none⟩ = some (.int .u64 (n : Int)) := (Z7.out.1.ft).cell 4
                    clear ho7 hb7)
                 | (refine step_appAt rfl (.tmp 57) (.tmp 59) rfl w.heap.size a4 (no + nf + 4 + ixn + 4) k4 _ (by simp [Act.eval]) Z7.out.1.oo a7 28 k7 _ (by simp [Act.eval]) Z7.out.2 (by omega) Z7.out.1.base.size ?_
                    intro a8 c8 v8 ho8 hg8
                    have H8 : Hid (OwnB v8 w.heap.size a8 (no + nf + 4 + ixn + 4 + 28) c8 (lo ++ partB (ixB (tdOf iv (grps iv bl l))) ++ footB no nf (no + nf + 4) ixn n) ∧ Below w.heap.size w v8 ∧ v8.heap[D]? = some (.deferred (some [])) ∧ Box v8 (q + 1) TBs #[.slice a4 (no + nf + 4 + ixn + 4) k4] ∧ Box v8 gf TFt #[.int .u64 (no : Int), .int .u64 (nf : Int), .int .u64 ((no : Int) + (nf : Int) + 4), .int .u64 (ixn : Int), .int .u64 (n : Int)]) := ⟨ho8, Z7.out.1.base.trans ((Chg.grown hg8).below (fun k e => Z7.out.1.oo.ge e) Z7.out.1.base.size), (hg8.block D (Array.getElem?_eq_some_iff.1 Z7.out.1.df).1 (fun e => by have := row_cells Z7.out.1.oo.row D _ e.symm Z7.out.1.df; cases this)).trans Z7.out.1.df, (Z7.out.1.lay (Chg.grown hg8) ho8).1, (Z7.out.1.lay (Chg.grown hg8) ho8).2.1⟩
                    have o0 : v8.cell? ⟨q + 1, 0, none⟩ = some (.slice a4 (no + nf + 4 + ixn + 4) k4) := (H8.out.2.2.2.1).cell 0
                    have z0 : v8.cell? ⟨gf, 0, none⟩ = some (.int .u64 (no : Int)) := (H8.out.2.2.2.2).cell 0
                    have z1 : v8.cell? ⟨gf, 1, none⟩ = some (.int .u64 (nf : Int)) := (H8.out.2.2.2.2).cell 1
                    have z2 : v8.cell? ⟨gf, 2, none⟩ = some (.int .u64 ((no : Int) + (nf : Int) + 4)) := (H8.out.2.2.2.2).cell 2
                    have z3 : v8.cell? ⟨gf, 3, none⟩ = some (.int .u64 (ixn : Int)) := (H8.out.2.2.2.2).cell 3
                    have z4 : v8.cell? ⟨gf, 4, none⟩ = some (.int .u64 (n : Int)) := (H8.out.2.2.2.2).cell 4
                    clear ho8 hg8))
              refine hK11 _ _ ?_
              clear hK11 o0 z0 z1 z2 z3 z4
              gi_wp2
              have hDw : w.heap.size ≤ D := by have := HQ.out; omega
              refine ⟨by simp, .inl ⟨_, _, rfl, run_takeDeferred H8.out.2.2.1, ?_⟩⟩
              refine ⟨.slice a8 (no + nf + 4 + ixn + 4 + 28) c8, ?_, a8, c8, ?_, ?_, ?_⟩
              · simp [results, Tryz.results25, go_sem]
              · rw [HTB.out.2]
              · rw [HTB.out.2, HTB.out.1]
                refine H8.out.1.kept fun k hk => ?_
                have hne : k ≠ D := fun e => by
                  subst e
                  have h9 := row_cells H8.out.1.row k _ hk H8.out.2.2.1
                  cases h9
                exact World.putObj_heap_other (by omega)
              · exact H8.out.2.1.trans (belowK_b (w := w) (Nat.le_refl _) _ D _ _ hDw H8.out.2.2.1 rfl rfl)
            exact AllReadyH.nil
          exact AllReadyH.nil
        exact AllReadyH.nil
      exact AllReadyH.nil
    refine AllReadyH.cons rfl (fun K hK => ?_) ?_
    · skip
      go_simp
      refine (HBB.out _ (Z2.out.call (Below.refl _ _).drew)).mono ?_
      rintro _ v3 ⟨a3, k3, rfl, ho3, hb3⟩
      have Z3 : Hid (TZ w q a1 (no + nf + 4) k1 lo ai ni ci (ixE 0 (tdOf iv (grps iv bl l))) gf #[.int .u64 (no : Int), .int .u64 (nf : Int), .int .u64 0, .int .u64 0, .int .u64 (n : Int)] D v3 ∧ OwnB v3 V2.heap.size a3 ixn k3 (ixB (tdOf iv (grps iv bl l)))) := ⟨Z2.out.call ((Below.refl _ _).drew.trans hb3), ho3⟩
      have i0 : v3.cell? ⟨q + 2, 0, none⟩ = some (.slice ai ni ci) := Z3.out.1.bi.cell 0
      have o0 : v3.cell? ⟨q + 1, 0, none⟩ = some (.slice a1 (no + nf + 4) k1) := Z3.out.1.bo.cell 0
      clear ho3 hb3 hHeld
      refine hK.out _ _ i0 (fun hHeld => ?_)
      clear hK K
      try simp only [Act.put, List.getElem_toArray, List.getElem_cons_succ, List.getElem_cons_zero, Array.getInternal_eq_getElem, List.setIfInBounds_toArray, List.set_cons_zero, List.set_cons_succ]
      refine wpAnyH_ready (rs := [0]) (by kernel_rfl) (by simp) ?_
      refine AllReadyH.cons rfl (fun K hK => ?_) ?_
      · skip
        go_simp
        refine hK.out _ _ i0 (fun hHeld => ?_)
        clear hK K
        try simp only [Act.put, List.getElem_toArray, List.getElem_cons_succ, List.getElem_cons_zero, Array.getInternal_eq_getElem, List.setIfInBounds_toArray, List.set_cons_zero, List.set_cons_succ]
        refine wpAnyH_ready (rs := [3]) (by kernel_rfl) (by simp) ?_
        refine AllReadyH.cons rfl (fun K hK => ?_) ?_
        · skip
          go_simp
          have hoff : ∀ k, blkOf a1 = some k → blkOf a3 ≠ some k := fun k hk hk2 => by
            have h1 := Z3.out.2.ge hk2
            have h2 := tag_lt (Z2.out.oo.tag hk)
            omega
          have hly := lay_any (B := w.heap.size) Z3.out.1.oo Z3.out.1.base.size Z3.out.2.bs hoff (by omega)
          refine hly.mono ?_
          rintro _ v4 ⟨a4, k4, rfl, ho4, hc4⟩
          have Z4 : Hid (Box v4 (q + 1) TBs #[.slice a1 (no + nf + 4) k1] ∧ Box v4 gf TFt #[.int .u64 (no : Int), .int .u64 (nf : Int), .int .u64 0, .int .u64 0, .int .u64 (n : Int)] ∧ TZ w q a4 (no + nf + 4 + ixn + 4) k4 (lo ++ partB (ixB (tdOf iv (grps iv bl l)))) ai ni ci (ixE 0 (tdOf iv (grps iv bl l))) gf #[.int .u64 (no : Int), .int .u64 (nf : Int), .int .u64 0, .int .u64 0, .int .u64 (n : Int)] D (v4.setCell ⟨q + 1, 0, none⟩ (.slice a4 (no + nf + 4 + ixn + 4) k4)) ∧ Box v4 (q + 2) TKs #[.slice ai ni ci]) := ⟨(Z3.out.1.lay hc4 ho4).1, (Z3.out.1.lay hc4 ho4).2.1, (Z3.out.1.lay hc4 ho4).2.2, Z3.out.1.bi.kept (hc4.block _ Z3.out.1.bi.lt (fun e => Z3.out.1.oo.apart Z3.out.1.bi (by decide) e))⟩
          have i0 : v4.cell? ⟨q + 2, 0, none⟩ = some (.slice ai ni ci) := Z4.out.2.2.2.cell 0
          have b4 : v4.cell? ⟨q + 1, 0, none⟩ = some (.slice a1 (no + nf + 4) k1) := Z4.out.1.cell 0
          have f4 := Z4.out.1.soft 0
          clear ho4 hc4 hly hoff hHeld
          refine hK.out _ _ i0 (fun hHeld => ?_)
          clear hK K
          try simp only [Act.put, List.getElem_toArray, List.getElem_cons_succ, List.getElem_cons_zero, Array.getInternal_eq_getElem, List.setIfInBounds_toArray, List.set_cons_zero, List.set_cons_succ]
          refine wpAnyH_take (i := 4) (v := ?_) rfl (by kernel_rfl) (by kernel_rfl) (by kernel_rfl) (fun _ _ _ h => h) (Or.inl ⟨by rfl, ?_⟩) hHeld ?_
          rotate_left
          · intro w hSw
            try dsimp only at hSw
            go_simp
            try with_reducible rfl
          try simp only [Act.put, List.getElem_toArray, List.getElem_cons_succ, List.getElem_cons_zero, Array.getInternal_eq_getElem, List.setIfInBounds_toArray, List.set_cons_zero, List.set_cons_succ]
          refine wpAnyH_take (i := 5) (v := ?_) rfl (by kernel_rfl) (by kernel_rfl) (by kernel_rfl) (fun _ _ _ h => h) (Or.inl ⟨by rfl, ?_⟩) hHeld ?_
          rotate_left
          · intro w hSw
            try dsimp only at hSw
            go_simp
            try with_reducible rfl
          try simp only [Act.put, List.getElem_toArray, List.getElem_cons_succ, List.getElem_cons_zero, Array.getInternal_eq_getElem, List.setIfInBounds_toArray, List.set_cons_zero, List.set_cons_succ]
          refine wpAnyH_take (i := 6) (v := ?_) rfl (by kernel_rfl) (by kernel_rfl) (by kernel_rfl) (fun _ _ _ h => h) (Or.inl ⟨by rfl, ?_⟩) hHeld ?_
          rotate_left
          · intro w hSw
            try dsimp only at hSw
            go_simp
            try with_reducible rfl
          try simp only [Act.put, List.getElem_toArray, List.getElem_cons_succ, List.getElem_cons_zero, Array.getInternal_eq_getElem, List.setIfInBounds_toArray, List.set_cons_zero, List.set_cons_succ]
          refine wpAnyH_ready (rs := [7]) (by kernel_rfl) (by simp) ?_
          refine AllReadyH.cons rfl (fun K hK => ?_) ?_
          · skip
            go_simp
            generalize v4.setCell ⟨q + 1, 0, none⟩ (.slice a4 (no + nf + 4 + ixn + 4) k4) = V5 at *
            have i0 : V5.cell? ⟨q + 2, 0, none⟩ = some (.slice ai ni ci) := Z4.out.2.2.1.bi.cell 0
            have p0 : V5.cell? ⟨gf, 2, none⟩ = some (.int .u64 0) := Z4.out.2.2.1.ft.cell 2
            have p1 : V5.cell? ⟨gf, 3, none⟩ = some (.int .u64 0) := Z4.out.2.2.1.ft.cell 3
            have r0 := Z4.out.2.2.1.ft.soft 2
            have r1 := Z4.out.2.2.1.ft.soft 3
            have Z5 : Hid (TZ w q a4 (no + nf + 4 + ixn + 4) k4 (lo ++ partB (ixB (tdOf iv (grps iv bl l)))) ai ni ci (ixE 0 (tdOf iv (grps iv bl l))) gf #[.int .u64 (no : Int), .int .u64 (nf : Int), .int .u64 ((no : Int) + (nf : Int) + 4), .int .u64 (ixn : Int), .int .u64 (n : Int)] D ((V5.setCell ⟨gf, 2, none⟩ (.int .u64 ((no : Int) + (nf : Int) + 4))).setCell ⟨gf, 3, none⟩ (.int .u64 (ixn : Int)))) := (Z4.out.2.2.1.setFt 2 (.int .u64 ((no : Int) + (nf : Int) + 4))).setFt 3 (.int .u64 (ixn : Int))
            clear hHeld b4 f4
            refine hK.out _ _ i0 (fun hHeld => ?_)
            clear hK K
            try simp only [Act.put, List.getElem_toArray, List.getElem_cons_succ, List.getElem_cons_zero, Array.getInternal_eq_getElem, List.setIfInBounds_toArray, List.set_cons_zero, List.set_cons_succ]
            refine wpAnyH_take (i := 8) (v := ?_) rfl (by kernel_rfl) (by kernel_rfl) (by kernel_rfl) (fun _ _ _ h => h) (Or.inl ⟨by rfl, ?_⟩) hHeld ?_
            rotate_left
            · intro w hSw
              try dsimp only at hSw
              go_simp
              try with_reducible rfl
            try simp only [Act.put, List.getElem_toArray, List.getElem_cons_succ, List.getElem_cons_zero, Array.getInternal_eq_getElem, List.setIfInBounds_toArray, List.set_cons_zero, List.set_cons_succ]
            refine wpAnyH_ready (rs := [9]) (by kernel_rfl) (by simp) ?_
            refine AllReadyH.cons rfl (fun K hK => ?_) ?_
            · skip
              go_simp
              generalize (V5.setCell ⟨gf, 2, none⟩ (.int .u64 ((no : Int) + (nf : Int) + 4))).setCell ⟨gf, 3, none⟩ (.int .u64 (ixn : Int)) = V6 at *
              have i0 : V6.cell? ⟨q + 2, 0, none⟩ = some (.slice ai ni ci) := Z5.out.bi.cell 0
              clear hHeld p0 p1 r0 r1
              refine hK.out _ _ i0 (fun hHeld => ?_)
              clear hK K
              try simp only [Act.put, List.getElem_toArray, List.getElem_cons_succ, List.getElem_cons_zero, Array.getInternal_eq_getElem, List.setIfInBounds_toArray, List.set_cons_zero, List.set_cons_succ]
              refine wpAnyH_done (by kernel_rfl) (NoPanic.normal ?_) _
              refine hK10 _ _ ?_
              clear hK10 hHeld i0
              have o0 : V6.drew.cell? ⟨q + 1, 0, none⟩ = some (.slice a4 (no + nf + 4 + ixn + 4) k4) := (Z5.out.bo).cell 0
              have z0 : V6.drew.cell? ⟨gf, 0, none⟩ = some (.int .u64 (no : Int)) := (Z5.out.ft).cell 0
              have z1 : V6.drew.cell? ⟨gf, 1, none⟩ = some (.int .u64 (nf : Int)) := (Z5.out.ft).cell 1
              have z2 : V6.drew.cell? ⟨gf, 2, none⟩ = some (.int .u64 ((no : Int) + (nf : Int) + 4)) := (Z5.out.ft).cell 2
              have z3 : V6.drew.cell? ⟨gf, 3, none⟩ = some (.int .u64 (ixn : Int)) := (Z5.out.ft).cell 3
              have z4 : V6.drew.cell? ⟨gf, 4, none⟩ = some (.int .u64 (n : Int)) := (Z5.out.ft).cell 4
              have HFB : Hid (∀ V, Calls Tryz.prog 66 #[.agg #[.int .u64 (no : Int), .int .u64 (nf : Int), .int .u64 ((no : Int) + (nf : Int) + 4), .int .u64 (ixn : Int), .int .u64 (n : Int)]] V fun e w' => ∃ a' c', e = .returned (.slice a' 28 c') ∧ OwnB w' V.heap.size a' 28 c' (footB no nf (no + nf + 4) ixn n) ∧ Below V.heap.size V w') := fun V => by
                have h1 := foot_bytes no nf (no + nf + 4) ixn n (by intro x hx; simp at hx; omega) V
                unfold fiveA at h1
                rw [show ((no + nf + 4 : Nat) : Int) = (no : Int) + (nf : Int) + 4 by omega] at h1
                exact h1
              gi_wp2
              rename_i K11 hK11
              refine wpIn_wide.2 ?_
              go_region_held3 (fun V => V.cell? ⟨q + 1, 0, none⟩ = some (.slice a4 (no + nf + 4 + ixn + 4) k4) ∧ V.cell? ⟨gf, 0, none⟩ = some (.int .u64 (no : Int)) ∧ V.cell? ⟨gf, 1, none⟩ = some (.int .u64 (nf : Int)) ∧ V.cell? ⟨gf, 2, none⟩ = some (.int .u64 ((no : Int) + (nf : Int) + 4)) ∧ V.cell? ⟨gf, 3, none⟩ = some (.int .u64 (ixn : Int)) ∧ V.cell? ⟨gf, 4, none⟩ = some (.int .u64 (n : Int))) (first | with_reducible exact ⟨o0, z0, z1, z2, z3, z4⟩ | go_keep)
                (first
                 | (go_at_call 66; refine (HFB.out _).mono ?_; rintro _ v7 ⟨a7, k7, rfl, ho7, hb7⟩
                    have Z7 : Hid (TZ w q a4 (no + nf + 4 + ixn + 4) k4 (lo ++ partB (ixB (tdOf iv (grps iv bl l)))) ai ni ci (ixE 0 (tdOf iv (grps iv bl l))) gf #[.int .u64 (no : Int), .int .u64 (nf : Int), .int .u64 ((no : Int) + (nf : Int) + 4), .int .u64 (ixn : Int), .int .u64 (n : Int)] D v7 ∧ BsAt v7 a7 28 k7 (footB no nf (no + nf + 4) ixn n)) := ⟨Z5.out.call ((Below.refl _ _).drew.trans hb7), ho7.bs⟩
                    have o0 : v7.cell? ⟨q + 1, 0, none⟩ = some (.slice a4 (no + nf + 4 + ixn + 4) k4) := (Z7.out.1.bo).cell 0
                    have z0 : v7.cell? ⟨gf, 0, none⟩ = some (.int .u64 (no : Int)) := (Z7.out.1.ft).cell 0
                    have z1 : v7.cell? ⟨gf, 1, none⟩ = some (.int .u64 (nf : Int)) := (Z7.out.1.ft).cell 1
                    have z2 : v7.cell? ⟨gf, 2, none⟩ = some (.int .u64 ((no : Int) + (nf : Int) + 4)) := (Z7.out.1.ft).cell 2
                    have z3 : v7.cell? ⟨gf, 3, none⟩ = some (.int .u64 (ixn : Int)) := (Z7.out.1.ft).cell 3
                    have z4 : v7.cell? ⟨gf, 4, none⟩ = some (.int .u64 (n : Int)) := (Z7.out.1.ft).cell 4
                    clear ho7 hb7)
                 | (refine step_appAt rfl (.tmp 57) (.tmp 59) rfl w.heap.size a4 (no + nf + 4 + ixn + 4) k4 _ (by simp [Act.eval]) Z7.out.1.oo a7 28 k7 _ (by simp [Act.eval]) Z7.out.2 (by omega) Z7.out.1.base.size ?_
                    intro a8 c8 v8 ho8 hg8
                    have H8 : Hid (OwnB v8 w.heap.size a8 (no + nf + 4 + ixn + 4 + 28) c8 (lo ++ partB (ixB (tdOf iv (grps iv bl l))) ++ footB no nf (no + nf + 4) ixn n) ∧ Below w.heap.size w v8 ∧ v8.heap[D]? = some (.deferred (some [])) ∧ Box v8 (q + 1) TBs #[.slice a4 (no + nf + 4 + ixn + 4) k4] ∧ Box v8 gf TFt #[.int .u64 (no : Int), .int .u64 (nf : Int), .int .u64 ((no : Int) + (nf : Int) + 4), .int .u64 (ixn : Int), .int .u64 (n : Int)]) := ⟨ho8, Z7.out.1.base.trans ((Chg.grown hg8).below (fun k e => Z7.out.1.oo.ge e) Z7.out.1.base.size), (hg8.block D (Array.getElem?_eq_some_iff.1 Z7.out.1.df).1 (fun e => by have := row_cells Z7.out.1.oo.row D _ e.symm Z7.out.1.df; cases this)).trans Z7.out.1.df, (Z7.out.1.lay (Chg.grown hg8) ho8).1, (Z7.out.1.lay (Chg.grown hg8) ho8).2.1⟩
                    have o0 : v8.cell? ⟨q + 1, 0, none⟩ = some (.slice a4 (no + nf + 4 + ixn + 4) k4) := (H8.out.2.2.2.1).cell 0
                    have z0 : v8.cell? ⟨gf, 0, none⟩ = some (.int .u64 (no : Int)) := (H8.out.2.2.2.2).cell 0
                    have z1 : v8.cell? ⟨gf, 1, none⟩ = some (.int .u64 (nf : Int)) := (H8.out.2.2.2.2).cell 1
                    have z2 : v8.cell? ⟨gf, 2, none⟩ = some (.int .u64 ((no : Int) + (nf : Int) + 4)) := (H8.out.2.2.2.2).cell 2
                    have z3 : v8.cell? ⟨gf, 3, none⟩ = some (.int .u64 (ixn : Int)) := (H8.out.2.2.2.2).cell 3
                    have z4 : v8.cell? ⟨gf, 4, none⟩ = some (.int .u64 (n : Int)) := (H8.out.2.2.2.2).cell 4
                    clear ho8 hg8))
              refine hK11 _ _ ?_
              clear hK11 o0 z0 z1 z2 z3 z4
              gi_wp2
              have hDw : w.heap.size ≤ D := by have := HQ.out; omega
              refine ⟨by simp, .inl ⟨_, _, rfl, run_takeDeferred H8.out.2.2.1, ?_⟩⟩
              refine ⟨.slice a8 (no + nf + 4 + ixn + 4 + 28) c8, ?_, a8, c8, ?_, ?_, ?_⟩
              · simp [results, Tryz.results25, go_sem]
              · rw [HTB.out.2]
              · rw [HTB.out.2, HTB.out.1]
                refine H8.out.1.kept fun k hk => ?_
                have hne : k ≠ D := fun e => by
                  subst e
                  have h9 := row_cells H8.out.1.row k _ hk H8.out.2.2.1
                  cases h9
                exact World.putObj_heap_other (by omega)
              · exact H8.out.2.1.trans (belowK_b (w := w) (Nat.le_refl _) _ D _ _ hDw H8.out.2.2.1 rfl rfl)
            exact AllReadyH.nil
          exact AllReadyH.nil
        exact AllReadyH.nil
      exact AllReadyH.nil
    exact AllReadyH.nil
end Go.Proofs.YtgegjcnjlibfdaaGreat
