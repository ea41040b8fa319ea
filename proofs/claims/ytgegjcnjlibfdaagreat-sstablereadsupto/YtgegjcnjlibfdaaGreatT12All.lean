/- The contract of a table's All. -/
import Derived.Test.YtgegjcnjlibfdaaGreatQa20
import Derived.Test.YtgegjcnjlibfdaaGreatQa11
import Derived.Test.YtgegjcnjlibfdaaGreatT12TabA
namespace Go.Proofs.YtgegjcnjlibfdaaGreat
set_option maxRecDepth 100000
open Go.RowKit Go.Shelf
attribute [local go_sem] Oper.semAt_some
set_option linter.unusedVariables false
set_option linter.unusedSimpArgs false
theorem read_len {p : List UInt8} {k : IK} {l : List KV} (h : readS p k = .ok l) : 3 * l.length ≤ p.length := by
  unfold readS at h
  split at h
  · cases h
  · split at h
    · cases h
    · rename_i ss ls ho
      split at h
      · cases h
        obtain ⟨h1, h2, h3, h4, h5, _⟩ := open_some ho
        have h6 := lay_ge h2 ls.flatten
        rw [← h5] at h6
        have : (bodyB p).length ≤ p.length := by unfold bodyB; rw [List.length_take]; omega
        omega
      · cases h
theorem no_clash0 {acc l : List KV} (h : acc = []) : clash acc l = false := by
  subst h
  rfl
theorem clash_at {acc l : List KV} {n : Nat} (hn : acc.length = n) (h0 : 0 < n) (hl : 0 < l.length) : clash acc l = decide ((0 : Int) ≤ (acc[n - 1]'(by omega)).1.cmp l[0].1) := by
  subst hn
  unfold clash
  rw [List.getLast?_eq_getElem?, List.getElem?_eq_getElem (by omega), List.head?_eq_getElem?, List.getElem?_eq_getElem hl]
theorem KeepsOthers.ofBelow {W W' : World} (h : Below W.heap.size W W') : KeepsOthers W W' := KeepsOthers.of_grownBy (grown_noneR h) (fun j o e _ => by cases e)
/-- Rows of entries appended to such a row, inside a fence. -/
theorem wpListIn_appK {F : Fence} {n : Nat} (w : World) {ops : Array Oper} {rest : List Oper} {o : Oper} {a : Act} {Q : Exit → Act → World → Prop} (hgd : o.guard = none) (s x : Operand)
    (ho : o.op = .call { callee := .builtin .append, args := #[s, x], argTypes := #[23, 23] })
    (B : Nat) (a1 : Option Addr) (n1 c1 : Nat) (l : List KV) (hs : a.eval s = .slice a1 n1 c1) (hown : OwnK w B a1 n1 c1 l)
    (ad : Addr) (n2 c2 : Nat) (m : List KV) (hx : a.eval x = .slice (some ad) n2 c2) (hsrc : KsAt w (some ad) n2 c2 m)
    (hb : n1 + n2 ≤ 2000000000000) (hB : B ≤ w.heap.size)
    (h : ∀ a' c' w', OwnK w' B a' (n1 + n2) c' (l ++ m) → Below B w w' → w.grownBy w' (blkOf a1) → wpListIn F n Tryz.prog ops Q rest (a.put o.dst (.slice a' (n1 + n2) c')) w') :
    wpListIn F n Tryz.prog ops Q (o :: rest) a w := by
  have hm := hsrc.size
  have hl := hown.size
  obtain ⟨i, hi, hz0, hz1, hz2⟩ := info_parts infoKV
  have hlt : ∀ k, (Value.slice a1 n1 c1).ownBlock = some k → B ≤ k := fun k hk => (hown.row.lt k hk).1
  have hcell : ∀ j u, (cellsKV m)[j]? = some u → w.cell? (ad.add j) = some u := by
    intro j u hu
    have hj : j < (cellsKV m).length := (List.getElem?_eq_some_iff.1 hu).1
    rw [cellsKV_len] at hj
    obtain ⟨b, off, he, hc⟩ := hsrc.here (by omega)
    obtain rfl := Option.some.inj he
    rw [Addr.add_lit, hc j (by omega)]
    exact hu
  refine wpListIn_append_own w hgd s x _ ho B TKV i _ 4 48 Tryz.underlying23 hi hz0 hz1 hz2 rfl (by decide) _ n1 _ hs hown.row ad n2 c2 (cellsKV m) hx (by rw [cellsKV_len]; omega) hcell (cellsKV_one m) (by unfold maxLen; omega) (by omega) hB ?_
  intro v' w' hr hg _
  have hr' : w'.ownsRow B TKV 4 v' (n1 + n2) (cellsKV (l ++ m)) := by
    rw [cellsKV_append]
    exact hr
  have hln : (l ++ m).length = n1 + n2 := by rw [List.length_append]; omega
  rcases hr'.2 with ⟨rfl, h0⟩ | ⟨g, c, cur, rfl, rest'⟩
  · have e0 : n1 + n2 = 0 := h0
    rw [e0] at hr' hln h
    exact h none 0 w' ⟨hln, hr'⟩ ((Below.refl B _).grown hg hB hlt) (by rw [← own_blk a1 n1 c1]; exact hg)
  · exact h _ c w' ⟨hln, hr'⟩ ((Below.refl B _).grown hg hB hlt) (by rw [← own_blk a1 n1 c1]; exact hg)
/-- Between two rounds. -/
structure AI (w : World) (T : TD) (q : Nat) (pre : List RdX) (W : World) : Prop where
  base : Below w.heap.size w W
  le : w.heap.size ≤ q
  r0 : Box W q TKs #[.slice none 0 0]
  r1 : Box W (q + 1) TEr #[.int .i64 0]
  here : ∃ (a : Option Addr) (n c : Nat) (acc : List KV), Box W (q + 2) TKs #[.slice a n c] ∧ OwnK W w.heap.size a n c acc ∧ allGo [] T.blocks = allGo acc (T.blocks.drop pre.length) ∧ n ≤ 1000000 * pre.length
/-- A round has found that it can't be read. -/
structure AX (w : World) (T : TD) (q : Nat) (pre : List RdX) (W : World) : Prop where
  base : Below w.heap.size w W
  r0 : Box W q TKs #[.slice none 0 0]
  here : ∃ er : Nat, Box W (q + 1) TEr #[.int .i64 (er : Int)] ∧ allGo [] T.blocks = .error er ∧ er ≠ 0
theorem cells_kept {B : Nat} {W W' : World} {row : Option Nat} (hg : W.grownBy W' row) (hr : ∀ r, row = some r → B ≤ r ∧ ∃ o : Obj, W.heap[r]? = some o ∧ o.isCells = false) : ∀ (k : Nat) (arr : Array Value) (t : TypeId) (fz : Nat × Nat), W.heap[k]? = some (Obj.cells arr t fz) → W'.heap[k]? = W.heap[k]? :=
  fun k arr t fz hk => hg.block k (Array.getElem?_eq_some_iff.1 hk).1 (fun e => by
    obtain ⟨_, o, ho, hcl⟩ := hr _ e.symm
    rw [hk] at ho
    cases ho
    cases hcl)
theorem OwnK.keptC {W W' : World} {B n c : Nat} {a : Option Addr} {l : List KV} (h : OwnK W B a n c l) (hk : ∀ (k : Nat) (arr : Array Value) (t : TypeId) (fz : Nat × Nat), W.heap[k]? = some (Obj.cells arr t fz) → W'.heap[k]? = W.heap[k]?) : OwnK W' B a n c l := h.kept fun k hb => by
  rcases h.row.2 with ⟨hv, _⟩ | ⟨g, c', cur, hv, _, hgg, _⟩
  · simp only [Value.slice.injEq] at hv
    rw [hv.1] at hb
    cases hb
  · simp only [Value.slice.injEq] at hv
    rw [hv.1] at hb
    cases hb
    exact hk _ _ _ _ hgg
theorem AI.own (w : World) (T : TD) (q B : Nat) (hB : w.heap.size ≤ B) : OwnFrom B (AI w T q) := by
  rintro pre W W' row ⟨h1, h2, x0, x1, a, n, c, acc, h3, h4, h5, h6⟩ hg hr
  have hc := cells_kept hg hr
  exact ⟨h1.grown hg h1.size (fun k e => by have := (hr k e).1; omega), h2, x0.kept (hc _ _ _ _ x0), x1.kept (hc _ _ _ _ x1), a, n, c, acc, h3.kept (hc _ _ _ _ h3), h4.keptC hc, h5, h6⟩
theorem AX.own (w : World) (T : TD) (q B : Nat) (hB : w.heap.size ≤ B) : OwnFrom B (AX w T q) := by
  rintro pre W W' row ⟨h1, x0, er, h3, h4, h5⟩ hg hr
  have hc := cells_kept hg hr
  exact ⟨h1.grown hg h1.size (fun k e => by have := (hr k e).1; omega), x0.kept (hc _ _ _ _ x0), er, h3.kept (hc _ _ _ _ h3), h4, h5⟩
/-- Within a round: what was read is there as a row, too. -/
structure AS (w : World) (T : TD) (q : Nat) (W : World) (aA : Option Addr) (nA cA : Nat) (acc : List KV) (aL : Option Addr) (cL : Nat) (l : List KV) (V : World) : Prop where
  base : Below w.heap.size w V
  le : w.heap.size ≤ q
  ko : KeepsOthers W V
  kb : Below w.heap.size W V
  r0 : Box V q TKs #[.slice none 0 0]
  r1 : Box V (q + 1) TEr #[.int .i64 0]
  bx : Box V (q + 2) TKs #[.slice aA nA cA]
  ow : OwnK V w.heap.size aA nA cA acc
  lo : OwnK V W.heap.size aL l.length cL l
theorem AS.call {w : World} {T : TD} {q : Nat} {W : World} {aA : Option Addr} {nA cA : Nat} {acc : List KV} {aL : Option Addr} {cL : Nat} {l : List KV} {V V' : World} (h : AS w T q W aA nA cA acc aL cL l V) (hb : Below V.heap.size V V') : AS w T q W aA nA cA acc aL cL l V' :=
  ⟨h.base.trans (hb.mono h.base.size), h.le, h.ko.trans (KeepsOthers.ofBelow hb), h.kb.trans (hb.mono h.base.size), h.r0.kept (hb.block _ h.r0.lt), h.r1.kept (hb.block _ h.r1.lt), h.bx.kept (hb.block _ h.bx.lt), h.ow.below hb, h.lo.below hb⟩
theorem AS.drew {w : World} {T : TD} {q : Nat} {W : World} {aA : Option Addr} {nA cA : Nat} {acc : List KV} {aL : Option Addr} {cL : Nat} {l : List KV} {V : World} (h : AS w T q W aA nA cA acc aL cL l V) : AS w T q W aA nA cA acc aL cL l V.drew := h.call (Below.refl _ _).drew
theorem Box.putD {W : World} {p D : Nat} {t : TypeId} {arr : Array Value} {x : Option (List Deferred)} (h : Box W p t arr) (hD : W.heap[D]? = some (.deferred x)) (o : Obj) : Box (W.putObj D o) p t arr := h.kept (World.putObj_heap_other (by
  rintro rfl
  rw [show W.heap[_]? = _ from h] at hD
  cases hD))
theorem OwnK.putD {W : World} {B n c D : Nat} {a : Option Addr} {l : List KV} {x : Option (List Deferred)} (h : OwnK W B a n c l) (hD : W.heap[D]? = some (.deferred x)) (o : Obj) : OwnK (W.putObj D o) B a n c l := h.keptC fun k arr t fz hk => World.putObj_heap_other (by
  rintro rfl
  rw [hk] at hD
  cases hD)
/-- Behind the append. -/
structure AU (w : World) (T : TD) (q : Nat) (W : World) (aA : Option Addr) (nA cA : Nat) (acc : List KV) (V5 : World) : Prop where
  base : Below w.heap.size w (V5.setCell ⟨q + 2, 0, none⟩ (.slice aA nA cA))
  le : w.heap.size ≤ q
  ko : KeepsOthers W (V5.setCell ⟨q + 2, 0, none⟩ (.slice aA nA cA))
  kb : Below w.heap.size W (V5.setCell ⟨q + 2, 0, none⟩ (.slice aA nA cA))
  r0 : Box (V5.setCell ⟨q + 2, 0, none⟩ (.slice aA nA cA)) q TKs #[.slice none 0 0]
  r1 : Box (V5.setCell ⟨q + 2, 0, none⟩ (.slice aA nA cA)) (q + 1) TEr #[.int .i64 0]
  bx : Box (V5.setCell ⟨q + 2, 0, none⟩ (.slice aA nA cA)) (q + 2) TKs #[.slice aA nA cA]
  ow : OwnK (V5.setCell ⟨q + 2, 0, none⟩ (.slice aA nA cA)) w.heap.size aA nA cA acc
theorem AS.app {w : World} {T : TD} {q : Nat} {W : World} {aA : Option Addr} {nA cA : Nat} {acc : List KV} {aL : Option Addr} {cL : Nat} {l : List KV} {V V5 : World} (h : AS w T q W aA nA cA acc aL cL l V) {a5 : Option Addr} {n5 c5 : Nat} {r5 : List KV} (ho : OwnK V5 w.heap.size a5 n5 c5 r5) (hb : Below w.heap.size V V5) (hg : V.grownBy V5 (blkOf aA)) : AU w T q W a5 n5 c5 r5 V5 ∧ Box V5 (q + 2) TKs #[.slice aA nA cA] := by
  have kb : ∀ {p : Nat} {t : TypeId} {arr : Array Value}, Box V p t arr → t ≠ TKV → Box V5 p t arr := fun {p t arr} hp ht => hp.kept (hg.block _ hp.lt (fun e => by have h1 := h.ow.tag e.symm; rw [hp.tag] at h1; exact ht (Option.some.inj h1)))
  have b2 := kb h.bx (by decide)
  have hko : KeepsOthers V V5 := KeepsOthers.of_grownBy hg (fun j o e hj => row_cells h.ow.row j o e hj)
  have hle := h.le
  refine ⟨⟨(h.base.trans hb).setCell (p := ⟨q + 2, 0, none⟩) (by show w.heap.size ≤ q + 2; omega) _, h.le, (h.ko.trans hko).trans (KeepsOthers.setCell _ _ _), (h.kb.trans hb).setCell (p := ⟨q + 2, 0, none⟩) (by show w.heap.size ≤ q + 2; omega) _, (kb h.r0 (by decide)).other (by omega) _ _, (kb h.r1 (by decide)).other (by omega) _ _, (b2.set 0 _).eq (by simp), ?_⟩, b2⟩
  exact ho.kept fun k e => Below.heap_setCell _ _ _ _ (tag_ne (ho.tag e) b2.tag (by decide))
def RdX.v0 (x : RdX) : Value := match x.2 with
  | .error e => .pointer none
  | .ok _ => at_ x.1
def RdX.v1 (x : RdX) : Value := match x.2 with
  | .error e => .int .i64 (e : Int)
  | .ok _ => .int .i64 0
theorem RdX.vals_eq (x : RdX) : RdX.vals x = #[x.v0, x.v1] := by
  obtain ⟨q, r⟩ := x
  cases r <;> rfl
theorem sp_at {T : TD} {pre : List RdX} {x : RdX} (h : SpR T (pre ++ [x])) : ∃ (hk : pre.length < T.blocks.length), rdS T.blocks[pre.length] = x.2 := by
  obtain ⟨t, ht⟩ := h
  rw [rs_snoc] at ht
  have hl : (RdX.rs pre).length = pre.length := by simp [RdX.rs]
  have hlen := congrArg List.length ht
  simp only [List.length_append, List.length_map, List.length_cons, List.length_nil] at hlen
  have hk : pre.length < T.blocks.length := by omega
  refine ⟨hk, ?_⟩
  have h1 : ((RdX.rs pre ++ [x.2]) ++ t)[pre.length]? = (T.blocks.map rdS)[pre.length]? := by rw [ht]
  rw [List.getElem?_append_left (by simp [hl]), List.getElem?_append_right (by omega), hl, Nat.sub_self, List.getElem?_map, List.getElem?_eq_getElem hk] at h1
  exact (Option.some.inj h1).symm
theorem go_err {T : TD} {acc : List KV} {k : Nat} (hk : k < T.blocks.length) {e : Nat} (h : rdS T.blocks[k] = .error e) : allGo acc (T.blocks.drop k) = .error e := by
  rw [List.drop_eq_getElem_cons hk]
  unfold rdS at h
  unfold allGo
  rw [h]
theorem go_ok {T : TD} {acc l : List KV} {k : Nat} (hk : k < T.blocks.length) (h : rdS T.blocks[k] = .ok l) : allGo acc (T.blocks.drop k) = if clash acc l = true then .error 121 else allGo (acc ++ l) (T.blocks.drop (k + 1)) := by
  rw [List.drop_eq_getElem_cons hk]
  unfold rdS at h
  conv => lhs; unfold allGo
  rw [h]
theorem allT_no {T : TD} {er : Nat} (h : allGo [] T.blocks = .error er) : allT T = .error er := by unfold allT; rw [h]
theorem allT_cnt {T : TD} {l : List KV} (h : allGo [] T.blocks = .ok l) (hn : l.length ≠ T.told) : allT T = .error 121 := by unfold allT; rw [h]; simp only [if_neg hn]
theorem allT_yes {T : TD} {l : List KV} (h : allGo [] T.blocks = .ok l) (hn : l.length = T.told) : allT T = .ok l := by unfold allT; rw [h]; simp only [if_pos hn]
theorem all_nil (w : World) : Calls Tryz.prog 15 #[.pointer none] w fun r w' => r = .returned (.tuple #[.slice none 0 0, .int .i64 1]) ∧ Below w.heap.size w w' := by
  go_enter Tryz.func15, Tryz.ntmps15
  go_wp2
  refine bodyPost_ret (v := .tuple #[.slice none 0 0, .int .i64 1]) (by simp [results, Tryz.results15, go_sem]) rfl ⟨rfl, ?_⟩
  exact ((Below.refl _ _).alloc (Nat.le_refl _) _).alloc (by simp) _
set_option maxHeartbeats 8000000 in
theorem all12 {w : World} {B p : Nat} {T : TD} (h : TbAt w B p T) :
    Calls Tryz.prog 15 #[at_ p] w fun r w' => Below w.heap.size w w' ∧ ((∃ er : Nat, allT T = .error er ∧ er ≠ 0 ∧ r = .returned (.tuple #[.slice none 0 0, .int .i64 (er : Int)])) ∨ ∃ l a c, allT T = .ok l ∧ r = .returned (.tuple #[.slice a l.length c, .int .i64 0]) ∧ OwnK w' w.heap.size a l.length c l) := by
  have hmix : Tryz.prog.follows Departure.mixedOrders = true := by kernel_rfl
  have HT : Hid (TbAt w B p T) := h
  have hsm := h.small.2
  have htl := h.told
  clear h
  refine (callsIn_wide (n := 6)).1 ?_
  refine callsIn_of_wp_marks Tryz.func15 rfl trivial ?_ rfl
  simp only [Tryz.ntmps15, List.size_toArray, List.length_cons, List.length_nil, Nat.reduceAdd, Nat.reduceSub, Array.replicate_succ, Array.replicate_zero, List.push_toArray, List.append_toArray, List.nil_append, List.cons_append]
  gi_wp2_with (first
    | (refine ⟨trivial, ?_⟩; gi_at_call 41; refine (callsIn_wide.2 (readf_any p _)).mono ?_; rintro e w2 ⟨rfl, rfl⟩))
  simp only [World.size_alloc, Nat.add_assoc, Nat.reduceAdd]
  generalize hw2 : (((w.alloc (.cells #[.slice none 0 0] TKs)).alloc (.cells #[.int .i64 0] TEr)).alloc (.cells #[.slice none 0 0] TKs)).alloc (.cells #[at_ p] TPT) = w2
  have W4 : Hid (AI w T w.heap.size [] w2 ∧ Boxed w2 (w.heap.size + 3) TPT (at_ p) ∧ w2.heap.size = w.heap.size + 4) := by
    subst hw2
    refine ⟨⟨((((Below.refl _ _).alloc (Nat.le_refl _) _).alloc (by simp) _).alloc (by simp; omega) _).alloc (by simp; omega) _, Nat.le_refl _, (((Box.new _ _ _).alloc _).alloc _).alloc _, ?_, none, 0, 0, [], ?_, OwnK.nil _ _, rfl, by simp⟩, ?_, by simp⟩
    · have := ((Box.new (w.alloc (.cells #[.slice none 0 0] TKs)) TEr #[.int .i64 0]).alloc (.cells #[.slice none 0 0] TKs)).alloc (.cells #[at_ p] TPT)
      simpa [Nat.add_assoc] using this
    · have := (Box.new ((w.alloc (.cells #[.slice none 0 0] TKs)).alloc (.cells #[.int .i64 0] TEr)) TKs #[.slice none 0 0]).alloc (.cells #[at_ p] TPT)
      simpa [Nat.add_assoc] using this
    · have := Boxed.new (((w.alloc (.cells #[.slice none 0 0] TKs)).alloc (.cells #[.int .i64 0] TEr)).alloc (.cells #[.slice none 0 0] TKs)) TPT (at_ p)
      simpa [Nat.add_assoc] using this
  clear hw2
  obtain ⟨q, hq⟩ : ∃ q, w.heap.size = q := ⟨_, rfl⟩
  have HQ : Hid (w.heap.size = q) := hq
  have W5 : Hid (AI w T q [] w2 ∧ Boxed w2 (q + 3) TPT (at_ p) ∧ w2.heap.size = q + 4) := by rw [← HQ.out]; exact W4.out
  rw [hq]
  clear W4 hq
  have hlen := W5.out.2.2
  refine wpIn_rangeP (n := 6) (by omega) (gf := 83) (lb := #[.pointer (some ⟨q + 3, 0, none⟩)]) rfl (enters_of Tryz.func83 (by kernel_rfl) rfl)
    (read_stops 5 (by omega) w HT.out (q + 3) w2 W5.out.1.base W5.out.2.1) PreR.put (fun h k => h.trans k) (fun W l o o' hl h1 h2 h3 => belowK_b (w := w2) W5.out.1.base.size W l o o' hl h1 h2 h3) (Below.refl _ _) (fun x => by rw [RdX.vals_eq]; rfl)
    (AI w T q) (AX w T q) (AI.own w T q _ W5.out.1.base.size) (AX.own w T q _ W5.out.1.base.size) W5.out.1
    (fun x a' _ => a' = { tmps := #[at_ p, undef, .pointer (some ⟨q, 0, none⟩), .pointer (some ⟨q + 1, 0, none⟩), .pointer (some ⟨q + 2, 0, none⟩), x.v0, x.v1, undef, undef, at_ p, .bool false, at_ p, .func (.func 83) #[] #[.pointer (some ⟨q + 3, 0, none⟩)], x.v0, x.v1, undef, undef, undef, undef, undef, undef, undef, undef, undef, undef, undef, undef, undef, undef, undef, undef, undef, undef, undef, undef, undef, undef, undef, undef, undef, undef, undef, undef, undef, undef, undef, undef, undef, undef, undef], defers := [] }) (fun x a' _ W W' row hs _ _ => hs) ?assign ?body ?done ?stop
  case assign =>
    intro lb pre x W K hi hp hK
    rw [RdX.vals_eq]
    gi_wp2
    exact hK _ _ (KeepsFrom.refl _ _) (Below.refl _ _) hi rfl hp
  case body =>
    rintro lb pre ⟨qx, r⟩ a' W hI rfl hpre hsp
    obtain ⟨hkp, hrd⟩ := sp_at hsp
    obtain ⟨aA, nA, cA, acc, g3, g4, g5, g6⟩ := hI.here
    have hgw : w.heap.size ≤ W.heap.size := hI.base.size
    have hle := hI.le
    cases r with
    | error er =>
      have hne0 : er ≠ 0 := hpre
      simp only [RdX.v0, RdX.v1]
      have hbq : ((er : Int) != 0) = true := by rw [bne_iff_ne]; omega
      have m0 : W.cell? ⟨q, 0, none⟩ = some (.slice none 0 0) := hI.r0.cell 0
      have m1 : W.cell? ⟨q + 1, 0, none⟩ = some (.int .i64 0) := hI.r1.cell 0
      have f0 := hI.r0.soft 0
      have f1 := hI.r1.soft 0
      have HI : Hid (AI w T q pre W) := hI
      have HE : Hid (allGo [] T.blocks = .error er) := by
        unfold Hid
        rw [g5]
        exact go_err hkp hrd
      clear hI g3 g4 g5 g6 hrd hsp hpre
      gi_wp2
      refine ⟨((KeepsOthers.setCell _ _ _).trans (KeepsOthers.setCell _ _ _)).from _, (HI.out.base.setCell (p := ⟨q, 0, none⟩) hle _).setCell (p := ⟨q + 1, 0, none⟩) (by show w.heap.size ≤ q + 1; omega) _, ?_, er, ?_, HE.out, hne0⟩
      · have := (HI.out.r0.set 0 (.slice none 0 0)).other (q := q + 1) (by omega) 0 (.int .i64 (er : Int))
        exact this.eq (by simp)
      · have := (HI.out.r1.other (q := q) (by omega) 0 (.slice none 0 0)).set 0 (.int .i64 (er : Int))
        exact this.eq (by simp)
    | ok l =>
      obtain ⟨hl0, iv, hgb⟩ := hpre
      simp only [RdX.v0, RdX.v1]
      have hl3 : 3 * l.length ≤ 3000000 := Nat.le_trans (read_len hrd) (HT.out.parts _ (List.getElem_mem _))
      have HGO : Hid (allGo [] T.blocks = if clash acc l = true then .error 121 else allGo (acc ++ l) (T.blocks.drop (pre.length + 1))) := by
        unfold Hid
        rw [g5]
        exact go_ok hkp hrd
      have hen := entries12 hgb (by omega)
      have HI : Hid (AI w T q pre W ∧ Box W (q + 2) TKs #[.slice aA nA cA] ∧ OwnK W w.heap.size aA nA cA acc ∧ nA ≤ 1000000 * pre.length) := ⟨hI, g3, g4, g6⟩
      have hnA : nA ≤ 750000000000 := by
        have : pre.length ≤ 750000 := by omega
        omega
      clear hI g3 g4 g5 g6 hrd hsp hgb
      gi_wp2
      refine ⟨trivial, (CallsIn.inRound lb (callsIn_wide.2 hen)).mono ?_⟩
      rintro e wA ⟨aL, cL, rfl, hoL, hbL⟩
      have HS : Hid (AS w T q W aA nA cA acc aL cL l wA) := ⟨HI.out.1.base.trans (hbL.mono hgw), HI.out.1.le, KeepsOthers.ofBelow hbL, hbL.mono hgw, HI.out.1.r0.kept (hbL.block _ HI.out.1.r0.lt), HI.out.1.r1.kept (hbL.block _ HI.out.1.r1.lt), HI.out.2.1.kept (hbL.block _ HI.out.2.1.lt), HI.out.2.2.1.below hbL, hoL⟩
      have x2 : wA.cell? ⟨q + 2, 0, none⟩ = some (.slice aA nA cA) := HS.out.bx.cell 0
      obtain ⟨lb0, hlb⟩ := (row_addr HS.out.lo.row).2.2.2 hl0
      obtain ⟨ln, HLN⟩ : ∃ ln, Hid (l.length = ln) := ⟨_, (rfl : l.length = l.length)⟩
      rw [HLN.out] at hl0 hl3 ⊢
      subst hlb
      clear hbL hoL hen
      gi_wp2
      rename_i K11 hK11
      by_cases hn0 : nA = 0
      · subst hn0
        refine wpIn_region_round (S := fun V => True) hmix (by kernel_rfl) (by rintro ⟨_, _, hh⟩; exact hh) trivial (fun hHeld => ?_)
        refine wpAnyH_take (i := 0) (v := ?_) rfl (by kernel_rfl) (by kernel_rfl) (by kernel_rfl) (fun _ _ _ h => h) (Or.inl ⟨by rfl, ?_⟩) hHeld ?_
        rotate_left
        · intro w hSw
          try dsimp only at hSw
          go_simp
          try with_reducible rfl
        try simp only [Act.put, List.getElem_toArray, List.getElem_cons_succ, List.getElem_cons_zero, Array.getInternal_eq_getElem, List.setIfInBounds_toArray, List.set_cons_zero, List.set_cons_succ]
        refine wpAnyH_take (i := 1) (v := .bool false) rfl (by kernel_rfl) (by kernel_rfl) (by kernel_rfl) (fun _ _ _ h => h) (Or.inl ⟨by rfl, ?_⟩) hHeld ?_
        · intro w hSw
          try dsimp only at hSw
          go_simp
          try with_reducible rfl
        try simp only [Act.put, List.getElem_toArray, List.getElem_cons_succ, List.getElem_cons_zero, Array.getInternal_eq_getElem, List.setIfInBounds_toArray, List.set_cons_zero, List.set_cons_succ]
        refine wpAnyH_take (i := 2) (v := ?_) rfl (by kernel_rfl) (by kernel_rfl) (by kernel_rfl) (fun _ _ _ h => h) (Or.inl ⟨by rfl, ?_⟩) hHeld ?_
        rotate_left
        · intro w hSw
          try dsimp only at hSw
          go_simp
          try with_reducible rfl
        try simp only [Act.put, List.getElem_toArray, List.getElem_cons_succ, List.getElem_cons_zero, Array.getInternal_eq_getElem, List.setIfInBounds_toArray, List.set_cons_zero, List.set_cons_succ]
        refine wpAnyH_take (i := 3) (v := undef) rfl (by kernel_rfl) (by kernel_rfl) (by kernel_rfl) (fun _ _ _ h => h) (Or.inr ⟨by rfl, rfl⟩) hHeld ?_
        try simp only [Act.put, List.getElem_toArray, List.getElem_cons_succ, List.getElem_cons_zero, Array.getInternal_eq_getElem, List.setIfInBounds_toArray, List.set_cons_zero, List.set_cons_succ]
        refine wpAnyH_take (i := 4) (v := undef) rfl (by kernel_rfl) (by kernel_rfl) (by kernel_rfl) (fun _ _ _ h => h) (Or.inr ⟨by rfl, rfl⟩) hHeld ?_
        try simp only [Act.put, List.getElem_toArray, List.getElem_cons_succ, List.getElem_cons_zero, Array.getInternal_eq_getElem, List.setIfInBounds_toArray, List.set_cons_zero, List.set_cons_succ]
        refine wpAnyH_take (i := 5) (v := undef) rfl (by kernel_rfl) (by kernel_rfl) (by kernel_rfl) (fun _ _ _ h => h) (Or.inr ⟨by rfl, rfl⟩) hHeld ?_
        try simp only [Act.put, List.getElem_toArray, List.getElem_cons_succ, List.getElem_cons_zero, Array.getInternal_eq_getElem, List.setIfInBounds_toArray, List.set_cons_zero, List.set_cons_succ]
        refine wpAnyH_take (i := 6) (v := undef) rfl (by kernel_rfl) (by kernel_rfl) (by kernel_rfl) (fun _ _ _ h => h) (Or.inr ⟨by rfl, rfl⟩) hHeld ?_
        try simp only [Act.put, List.getElem_toArray, List.getElem_cons_succ, List.getElem_cons_zero, Array.getInternal_eq_getElem, List.setIfInBounds_toArray, List.set_cons_zero, List.set_cons_succ]
        refine wpAnyH_take (i := 7) (v := undef) rfl (by kernel_rfl) (by kernel_rfl) (by kernel_rfl) (fun _ _ _ h => h) (Or.inr ⟨by rfl, rfl⟩) hHeld ?_
        try simp only [Act.put, List.getElem_toArray, List.getElem_cons_succ, List.getElem_cons_zero, Array.getInternal_eq_getElem, List.setIfInBounds_toArray, List.set_cons_zero, List.set_cons_succ]
        refine wpAnyH_take (i := 8) (v := undef) rfl (by kernel_rfl) (by kernel_rfl) (by kernel_rfl) (fun _ _ _ h => h) (Or.inr ⟨by rfl, rfl⟩) hHeld ?_
        try simp only [Act.put, List.getElem_toArray, List.getElem_cons_succ, List.getElem_cons_zero, Array.getInternal_eq_getElem, List.setIfInBounds_toArray, List.set_cons_zero, List.set_cons_succ]
        refine wpAnyH_take (i := 9) (v := undef) rfl (by kernel_rfl) (by kernel_rfl) (by kernel_rfl) (fun _ _ _ h => h) (Or.inr ⟨by rfl, rfl⟩) hHeld ?_
        try simp only [Act.put, List.getElem_toArray, List.getElem_cons_succ, List.getElem_cons_zero, Array.getInternal_eq_getElem, List.setIfInBounds_toArray, List.set_cons_zero, List.set_cons_succ]
        refine wpAnyH_take (i := 10) (v := undef) rfl (by kernel_rfl) (by kernel_rfl) (by kernel_rfl) (fun _ _ _ h => h) (Or.inr ⟨by rfl, rfl⟩) hHeld ?_
        try simp only [Act.put, List.getElem_toArray, List.getElem_cons_succ, List.getElem_cons_zero, Array.getInternal_eq_getElem, List.setIfInBounds_toArray, List.set_cons_zero, List.set_cons_succ]
        refine wpAnyH_take (i := 11) (v := undef) rfl (by kernel_rfl) (by kernel_rfl) (by kernel_rfl) (fun _ _ _ h => h) (Or.inr ⟨by rfl, rfl⟩) hHeld ?_
        try simp only [Act.put, List.getElem_toArray, List.getElem_cons_succ, List.getElem_cons_zero, Array.getInternal_eq_getElem, List.setIfInBounds_toArray, List.set_cons_zero, List.set_cons_succ]
        refine wpAnyH_take (i := 12) (v := undef) rfl (by kernel_rfl) (by kernel_rfl) (by kernel_rfl) (fun _ _ _ h => h) (Or.inr ⟨by rfl, rfl⟩) hHeld ?_
        try simp only [Act.put, List.getElem_toArray, List.getElem_cons_succ, List.getElem_cons_zero, Array.getInternal_eq_getElem, List.setIfInBounds_toArray, List.set_cons_zero, List.set_cons_succ]
        refine wpAnyH_ready (rs := [13]) (by kernel_rfl) (by simp) ?_
        refine AllReadyH.cons rfl (fun K hK => ?_) (AllReadyH.nil)
        go_simp
        refine hK.out _ _ hHeld (fun hHeld => ?_)
        clear hK K
        try simp only [Act.put, List.getElem_toArray, List.getElem_cons_succ, List.getElem_cons_zero, Array.getInternal_eq_getElem, List.setIfInBounds_toArray, List.set_cons_zero, List.set_cons_succ]
        refine wpAnyH_take (i := 14) (v := undef) rfl (by kernel_rfl) (by kernel_rfl) (by kernel_rfl) (fun _ _ _ h => h) (Or.inr ⟨by rfl, rfl⟩) hHeld ?_
        try simp only [Act.put, List.getElem_toArray, List.getElem_cons_succ, List.getElem_cons_zero, Array.getInternal_eq_getElem, List.setIfInBounds_toArray, List.set_cons_zero, List.set_cons_succ]
        refine wpAnyH_take (i := 15) (v := .bool false) rfl (by kernel_rfl) (by kernel_rfl) (by kernel_rfl) (fun _ _ _ h => h) (Or.inl ⟨by rfl, ?_⟩) hHeld ?_
        · intro w hSw
          try dsimp only at hSw
          go_simp
          try with_reducible rfl
        try simp only [Act.put, List.getElem_toArray, List.getElem_cons_succ, List.getElem_cons_zero, Array.getInternal_eq_getElem, List.setIfInBounds_toArray, List.set_cons_zero, List.set_cons_succ]
        refine wpAnyH_done (by kernel_rfl) ?_ _
        have HNC : Hid (clash acc l = false) := no_clash0 (by have := HS.out.ow.size; exact List.eq_nil_of_length_eq_zero this)
        refine hK11 _ _ ?_
        clear hK11 hHeld
        have z2 : (wA.drew).cell? ⟨q + 2, 0, none⟩ = some (.slice aA 0 cA) := HS.out.bx.cell 0
        have s2 := HS.out.bx.soft 0
        gi_wp2_with (first
          | (refine wpListIn_appK _ rfl (.tmp 38) (.tmp 39) rfl w.heap.size aA 0 cA acc rfl (HS.out.drew.ow) ⟨lb0, 0, none⟩ ln cL l rfl (by have := HS.out.drew.lo.ks; rw [HLN.out] at this; exact this) (by omega) (HS.out.drew.base.size) ?_
             intro a5 c5 V5 ho5 hb5 hg5
             rw [Nat.zero_add] at ho5
             have HU : Hid (AU w T q W a5 (ln) c5 (acc ++ l) V5 ∧ Box V5 (q + 2) TKs #[.slice aA 0 cA]) := HS.out.drew.app ho5 hb5 hg5
             have t2 : V5.cell? ⟨q + 2, 0, none⟩ = some (.slice aA 0 cA) := HU.out.2.cell 0
             have u2 := HU.out.2.soft 0
             clear ho5 hb5 hg5))
        refine ⟨HU.out.1.ko.from _, HU.out.1.kb, HU.out.1.base, HU.out.1.le, HU.out.1.r0, HU.out.1.r1, a5, ln, c5, acc ++ l, HU.out.1.bx, HU.out.1.ow, ?_, ?_⟩
        · rw [HGO.out, HNC.out, List.length_append]
          rfl
        · rw [List.length_append, List.length_singleton]
          have := HI.out.2.2.2
          omega
      · obtain ⟨b, off, hab, hcs⟩ := HS.out.ow.ks.cells4 (by omega)
        obtain ⟨k0, k1, k2, k3⟩ := hcs (nA - 1) (by rw [HS.out.ow.size]; omega)
        obtain ⟨b2, off2, hab2, hcs2⟩ := HS.out.lo.ks.cells4 (by rw [HLN.out]; exact hl0)
        obtain ⟨j0, j1, j2, j3⟩ := hcs2 0 (by rw [HLN.out]; exact hl0)
        simp only [Option.some.injEq, Addr.mk.injEq, and_true] at hab2
        obtain ⟨hab3, hab4⟩ := hab2
        subst hab3 hab4
        simp only [Nat.zero_mul, Nat.add_zero, Nat.zero_add] at j0 j1 j2 j3
        have hi1 := fun V => idxKV V (a := aA) (b := b) (off := off) (n := nA) (c := cA) (i := nA - 1) hab (by omega)
        rw [show ((nA - 1 : Nat) : Int) = (nA : Int) - 1 by omega] at hi1
        have HCL : Hid (clash acc l = decide (0 ≤ (acc[nA - 1]'(by rw [HS.out.ow.size]; omega)).1.cmp (l[0]'(by rw [HLN.out]; exact hl0)).1)) := clash_at HS.out.ow.size (by omega) (by rw [HLN.out]; exact hl0)
        generalize (acc[nA - 1]'(by rw [HS.out.ow.size]; omega)).1 = eA at k0 k1 k2 HCL
        generalize (l[0]'(by rw [HLN.out]; exact hl0)).1 = eL at j0 j1 j2 HCL
        have hcp := fun V => compare_any eA.user eL.user (eA.seq : Int) (eL.seq : Int) eA.kind eL.kind V
        have HCL2 : Hid (clash acc l = decide (0 ≤ kcmp eA.user.toList eL.user.toList (eA.seq : Int) (eL.seq : Int) eA.kind eL.kind)) := HCL.out
        clear HCL
        generalize hcv0 : kcmp eA.user.toList eL.user.toList (eA.seq : Int) (eL.seq : Int) eA.kind eL.kind = cv at hcp HCL2
        have HCL : Hid (clash acc l = decide (0 ≤ cv)) := HCL2.out
        have HCP : Hid (∀ V, Calls Tryz.prog 43 #[.agg #[.string eA.user, .int .u64 (eA.seq : Int), .int .i64 eA.kind], .agg #[.string eL.user, .int .u64 (eL.seq : Int), .int .i64 eL.kind]] V fun e w' => e = .returned (.int .i64 cv) ∧ Below V.heap.size V w') := hcp
        have hwx : IntKind.i64.wrap ((nA : Int) - 1) = (nA : Int) - 1 := by
          have := i64_wrap (nA - 1) (by omega)
          rwa [show ((nA - 1 : Nat) : Int) = (nA : Int) - 1 by omega] at this
        obtain ⟨ko, hko⟩ : ∃ ko, off + (nA - 1) * 4 = ko := ⟨_, rfl⟩
        rw [hko] at k0 k1 k2 hi1
        have HKC : Hid (∀ V, Below wA.heap.size wA V → V.cell? ⟨q + 2, 0, none⟩ = some (.slice aA nA cA) ∧ V.cell? ⟨b, ko, none⟩ = some (.string eA.user) ∧ V.cell? ⟨b, ko + 1, none⟩ = some (.int .u64 (eA.seq : Int)) ∧ V.cell? ⟨b, ko + 2, none⟩ = some (.int .i64 eA.kind) ∧ V.cell? ⟨lb0, 0, none⟩ = some (.string eL.user) ∧ V.cell? ⟨lb0, 1, none⟩ = some (.int .u64 (eL.seq : Int)) ∧ V.cell? ⟨lb0, 2, none⟩ = some (.int .i64 eL.kind)) := fun V hV => by
          have tr : ∀ {a : Addr} {v : Value}, wA.cell? a = some v → V.cell? a = some v := fun {a v} hv => by rw [hV.cell (World.block_lt_of_cell? wA _ hv)]; exact hv
          exact ⟨tr x2, tr k0, tr k1, tr k2, tr j0, tr j1, tr j2⟩
        have hpos : 0 < nA := by omega
        clear k0 k1 k2 k3 j0 j1 j2 j3 hcs hcs2 hcv0 hcp HCL2 hab hko x2
        refine wpIn_region_round (S := fun V => V.cell? ⟨q + 2, 0, none⟩ = some (.slice aA nA cA) ∧ V.cell? ⟨b, ko, none⟩ = some (.string eA.user) ∧ V.cell? ⟨b, ko + 1, none⟩ = some (.int .u64 (eA.seq : Int)) ∧ V.cell? ⟨b, ko + 2, none⟩ = some (.int .i64 eA.kind) ∧ V.cell? ⟨lb0, 0, none⟩ = some (.string eL.user) ∧ V.cell? ⟨lb0, 1, none⟩ = some (.int .u64 (eL.seq : Int)) ∧ V.cell? ⟨lb0, 2, none⟩ = some (.int .i64 eL.kind)) hmix (by kernel_rfl) (by rintro ⟨_, _, hh⟩; exact hh) (HKC.out _ (Below.refl _ _).drew) (fun hHeld => ?_)
        refine wpAnyH_take (i := 0) (v := ?_) rfl (by kernel_rfl) (by kernel_rfl) (by kernel_rfl) (fun _ _ _ h => h) (Or.inl ⟨by rfl, ?_⟩) hHeld ?_
        rotate_left
        · intro w hSw
          try dsimp only at hSw
          go_simp
          try with_reducible rfl
        try simp only [Act.put, List.getElem_toArray, List.getElem_cons_succ, List.getElem_cons_zero, Array.getInternal_eq_getElem, List.setIfInBounds_toArray, List.set_cons_zero, List.set_cons_succ]
        refine wpAnyH_take (i := 1) (v := .bool true) rfl (by kernel_rfl) (by kernel_rfl) (by kernel_rfl) (fun _ _ _ h => h) (Or.inl ⟨by rfl, ?_⟩) hHeld ?_
        · intro w hSw
          try dsimp only at hSw
          go_simp
          try with_reducible rfl
        try simp only [Act.put, List.getElem_toArray, List.getElem_cons_succ, List.getElem_cons_zero, Array.getInternal_eq_getElem, List.setIfInBounds_toArray, List.set_cons_zero, List.set_cons_succ]
        refine wpAnyH_take (i := 2) (v := ?_) rfl (by kernel_rfl) (by kernel_rfl) (by kernel_rfl) (fun _ _ _ h => h) (Or.inl ⟨by rfl, ?_⟩) hHeld ?_
        rotate_left
        · intro w hSw
          try dsimp only at hSw
          go_simp
          try with_reducible rfl
        try simp only [Act.put, List.getElem_toArray, List.getElem_cons_succ, List.getElem_cons_zero, Array.getInternal_eq_getElem, List.setIfInBounds_toArray, List.set_cons_zero, List.set_cons_succ]
        refine wpAnyH_take (i := 3) (v := ?_) rfl (by kernel_rfl) (by kernel_rfl) (by kernel_rfl) (fun _ _ _ h => h) (Or.inl ⟨by rfl, ?_⟩) hHeld ?_
        rotate_left
        · intro w hSw
          try dsimp only at hSw
          go_simp
          try with_reducible rfl
        try simp only [Act.put, List.getElem_toArray, List.getElem_cons_succ, List.getElem_cons_zero, Array.getInternal_eq_getElem, List.setIfInBounds_toArray, List.set_cons_zero, List.set_cons_succ]
        refine wpAnyH_take (i := 4) (v := ?_) rfl (by kernel_rfl) (by kernel_rfl) (by kernel_rfl) (fun _ _ _ h => h) (Or.inl ⟨by rfl, ?_⟩) hHeld ?_
        rotate_left
        · intro w hSw
          try dsimp only at hSw
          go_simp
          try with_reducible rfl
        try simp only [Act.put, List.getElem_toArray, List.getElem_cons_succ, List.getElem_cons_zero, Array.getInternal_eq_getElem, List.setIfInBounds_toArray, List.set_cons_zero, List.set_cons_succ]
        refine wpAnyH_take (i := 5) (v := ?_) rfl (by kernel_rfl) (by kernel_rfl) (by kernel_rfl) (fun _ _ _ h => h) (Or.inl ⟨by rfl, ?_⟩) hHeld ?_
        rotate_left
        · intro w hSw
          try dsimp only at hSw
          go_simp
          try with_reducible rfl
        try simp only [Act.put, List.getElem_toArray, List.getElem_cons_succ, List.getElem_cons_zero, Array.getInternal_eq_getElem, List.setIfInBounds_toArray, List.set_cons_zero, List.set_cons_succ]
        refine wpAnyH_take (i := 6) (v := ?_) rfl (by kernel_rfl) (by kernel_rfl) (by kernel_rfl) (fun _ _ _ h => h) (Or.inl ⟨by rfl, ?_⟩) hHeld ?_
        rotate_left
        · intro w hSw
          try dsimp only at hSw
          go_simp
          try with_reducible rfl
        try simp only [Act.put, List.getElem_toArray, List.getElem_cons_succ, List.getElem_cons_zero, Array.getInternal_eq_getElem, List.setIfInBounds_toArray, List.set_cons_zero, List.set_cons_succ]
        refine wpAnyH_take (i := 7) (v := ?_) rfl (by kernel_rfl) (by kernel_rfl) (by kernel_rfl) (fun _ _ _ h => h) (Or.inl ⟨by rfl, ?_⟩) hHeld ?_
        rotate_left
        · intro w hSw
          try dsimp only at hSw
          go_simp
          try with_reducible rfl
        try simp only [Act.put, List.getElem_toArray, List.getElem_cons_succ, List.getElem_cons_zero, Array.getInternal_eq_getElem, List.setIfInBounds_toArray, List.set_cons_zero, List.set_cons_succ]
        refine wpAnyH_take (i := 8) (v := ?_) rfl (by kernel_rfl) (by kernel_rfl) (by kernel_rfl) (fun _ _ _ h => h) (Or.inl ⟨by rfl, ?_⟩) hHeld ?_
        rotate_left
        · intro w hSw
          try dsimp only at hSw
          go_simp
          try with_reducible rfl
        try simp only [Act.put, List.getElem_toArray, List.getElem_cons_succ, List.getElem_cons_zero, Array.getInternal_eq_getElem, List.setIfInBounds_toArray, List.set_cons_zero, List.set_cons_succ]
        refine wpAnyH_take (i := 9) (v := ?_) rfl (by kernel_rfl) (by kernel_rfl) (by kernel_rfl) (fun _ _ _ h => h) (Or.inl ⟨by rfl, ?_⟩) hHeld ?_
        rotate_left
        · intro w hSw
          try dsimp only at hSw
          go_simp
          try with_reducible rfl
        try simp only [Act.put, List.getElem_toArray, List.getElem_cons_succ, List.getElem_cons_zero, Array.getInternal_eq_getElem, List.setIfInBounds_toArray, List.set_cons_zero, List.set_cons_succ]
        refine wpAnyH_take (i := 10) (v := ?_) rfl (by kernel_rfl) (by kernel_rfl) (by kernel_rfl) (fun _ _ _ h => h) (Or.inl ⟨by rfl, ?_⟩) hHeld ?_
        rotate_left
        · intro w hSw
          try dsimp only at hSw
          go_simp
          try with_reducible rfl
        try simp only [Act.put, List.getElem_toArray, List.getElem_cons_succ, List.getElem_cons_zero, Array.getInternal_eq_getElem, List.setIfInBounds_toArray, List.set_cons_zero, List.set_cons_succ]
        refine wpAnyH_take (i := 11) (v := ?_) rfl (by kernel_rfl) (by kernel_rfl) (by kernel_rfl) (fun _ _ _ h => h) (Or.inl ⟨by rfl, ?_⟩) hHeld ?_
        rotate_left
        · intro w hSw
          try dsimp only at hSw
          go_simp
          try with_reducible rfl
        try simp only [Act.put, List.getElem_toArray, List.getElem_cons_succ, List.getElem_cons_zero, Array.getInternal_eq_getElem, List.setIfInBounds_toArray, List.set_cons_zero, List.set_cons_succ]
        refine wpAnyH_take (i := 12) (v := ?_) rfl (by kernel_rfl) (by kernel_rfl) (by kernel_rfl) (fun _ _ _ h => h) (Or.inl ⟨by rfl, ?_⟩) hHeld ?_
        rotate_left
        · intro w hSw
          try dsimp only at hSw
          go_simp
          try with_reducible rfl
        try simp only [Act.put, List.getElem_toArray, List.getElem_cons_succ, List.getElem_cons_zero, Array.getInternal_eq_getElem, List.setIfInBounds_toArray, List.set_cons_zero, List.set_cons_succ]
        refine wpAnyH_ready (rs := [13]) (by kernel_rfl) (by simp) ?_
        refine AllReadyH.cons rfl (fun K hK => ?_) (AllReadyH.nil)
        go_simp
        refine (HCP.out _).mono ?_
        rintro _ v1 ⟨rfl, hb1⟩
        have HS1 : Hid (AS w T q W aA nA cA acc (some ⟨lb0, 0, none⟩) cL l v1) := HS.out.call ((Below.refl _ _).drew.trans hb1)
        obtain ⟨y0, y1, y2, y3, y4, y5, y6⟩ := HKC.out v1 ((Below.refl _ _).drew.trans hb1)
        clear hb1 hHeld
        refine hK.out _ _ ⟨y0, y1, y2, y3, y4, y5, y6⟩ (fun hHeld => ?_)
        clear hK K
        try simp only [Act.put, List.getElem_toArray, List.getElem_cons_succ, List.getElem_cons_zero, Array.getInternal_eq_getElem, List.setIfInBounds_toArray, List.set_cons_zero, List.set_cons_succ]
        by_cases hcv : 0 ≤ cv
        · have hcd : 0 ≤ cv := hcv
          refine wpAnyH_take (i := 14) (v := .bool true) rfl (by kernel_rfl) (by kernel_rfl) (by kernel_rfl) (fun _ _ _ h => h) (Or.inl ⟨by rfl, ?_⟩) hHeld ?_
          · intro w hSw
            try dsimp only at hSw
            go_simp
            try with_reducible rfl
          try simp only [Act.put, List.getElem_toArray, List.getElem_cons_succ, List.getElem_cons_zero, Array.getInternal_eq_getElem, List.setIfInBounds_toArray, List.set_cons_zero, List.set_cons_succ]
          refine wpAnyH_take (i := 15) (v := .bool true) rfl (by kernel_rfl) (by kernel_rfl) (by kernel_rfl) (fun _ _ _ h => h) (Or.inl ⟨by rfl, ?_⟩) hHeld ?_
          · intro w hSw
            try dsimp only at hSw
            go_simp
            try with_reducible rfl
          try simp only [Act.put, List.getElem_toArray, List.getElem_cons_succ, List.getElem_cons_zero, Array.getInternal_eq_getElem, List.setIfInBounds_toArray, List.set_cons_zero, List.set_cons_succ]
          refine wpAnyH_done (by kernel_rfl) ?_ _
          have HNC : Hid (clash acc l = true) := by rw [HCL.out]; exact decide_eq_true hcv
          refine hK11 _ _ ?_
          clear hK11 hHeld
          have m0 : v1.cell? ⟨q, 0, none⟩ = some (.slice none 0 0) := HS1.out.r0.cell 0
          have m1 : v1.cell? ⟨q + 1, 0, none⟩ = some (.int .i64 0) := HS1.out.r1.cell 0
          have f0 := HS1.out.r0.soft 0
          have f1 := HS1.out.r1.soft 0
          gi_wp2
          refine ⟨(HS1.out.ko.trans ((KeepsOthers.setCell _ _ _).trans (KeepsOthers.setCell _ _ _))).from _, (HS1.out.base.setCell (p := ⟨q, 0, none⟩) hle _).setCell (p := ⟨q + 1, 0, none⟩) (by show w.heap.size ≤ q + 1; omega) _, ?_, 121, ?_, ?_, by omega⟩
          · have := (HS1.out.r0.set 0 (.slice none 0 0)).other (q := q + 1) (by omega) 0 (.int .i64 121)
            exact this.eq (by simp)
          · have := (HS1.out.r1.other (q := q) (by omega) 0 (.slice none 0 0)).set 0 (.int .i64 121)
            exact this.eq (by simp)
          · rw [HGO.out, HNC.out]
            rfl
        · have hcd : ¬ 0 ≤ cv := hcv
          refine wpAnyH_take (i := 14) (v := .bool false) rfl (by kernel_rfl) (by kernel_rfl) (by kernel_rfl) (fun _ _ _ h => h) (Or.inl ⟨by rfl, ?_⟩) hHeld ?_
          · intro w hSw
            try dsimp only at hSw
            go_simp
            try with_reducible rfl
          try simp only [Act.put, List.getElem_toArray, List.getElem_cons_succ, List.getElem_cons_zero, Array.getInternal_eq_getElem, List.setIfInBounds_toArray, List.set_cons_zero, List.set_cons_succ]
          refine wpAnyH_take (i := 15) (v := .bool false) rfl (by kernel_rfl) (by kernel_rfl) (by kernel_rfl) (fun _ _ _ h => h) (Or.inl ⟨by rfl, ?_⟩) hHeld ?_
          · intro w hSw
            try dsimp only at hSw
            go_simp
            try with_reducible rfl
          try simp only [Act.put, List.getElem_toArray, List.getElem_cons_succ, List.getElem_cons_zero, Array.getInternal_eq_getElem, List.setIfInBounds_toArray, List.set_cons_zero, List.set_cons_succ]
          refine wpAnyH_done (by kernel_rfl) ?_ _
          have HNC : Hid (clash acc l = false) := (by rw [HCL.out]; exact decide_eq_false hcv)
          refine hK11 _ _ ?_
          clear hK11 hHeld
          have z2 : (v1).cell? ⟨q + 2, 0, none⟩ = some (.slice aA nA cA) := HS1.out.bx.cell 0
          have s2 := HS1.out.bx.soft 0
          gi_wp2_with (first
            | (refine wpListIn_appK _ rfl (.tmp 38) (.tmp 39) rfl w.heap.size aA nA cA acc rfl (HS1.out.ow) ⟨lb0, 0, none⟩ ln cL l rfl (by have := HS1.out.lo.ks; rw [HLN.out] at this; exact this) (by omega) (HS1.out.base.size) ?_
               intro a5 c5 V5 ho5 hb5 hg5
               skip
               have HU : Hid (AU w T q W a5 (nA + ln) c5 (acc ++ l) V5 ∧ Box V5 (q + 2) TKs #[.slice aA nA cA]) := HS1.out.app ho5 hb5 hg5
               have t2 : V5.cell? ⟨q + 2, 0, none⟩ = some (.slice aA nA cA) := HU.out.2.cell 0
               have u2 := HU.out.2.soft 0
               clear ho5 hb5 hg5))
          refine ⟨HU.out.1.ko.from _, HU.out.1.kb, HU.out.1.base, HU.out.1.le, HU.out.1.r0, HU.out.1.r1, a5, nA + ln, c5, acc ++ l, HU.out.1.bx, HU.out.1.ow, ?_, ?_⟩
          · rw [HGO.out, HNC.out, List.length_append]
            rfl
          · rw [List.length_append, List.length_singleton]
            have := HI.out.2.2.2
            omega
  case done =>
    rintro D xs W hD hS hI hK
    have hxl : xs.length = T.blocks.length := by
      have := congrArg List.length hS
      simpa [RdX.rs] using this
    obtain ⟨aA, nA, cA, acc, g3, g4, g5, g6⟩ := hI.here
    have hnA : nA ≤ 750000000000 := by
      have : xs.length ≤ 750000 := by omega
      omega
    have HAC : Hid (allGo [] T.blocks = .ok acc) := by
      unfold Hid
      rw [g5, hxl, List.drop_length]
      rfl
    have hle := hI.le
    have HI : Hid (AI w T q xs W ∧ Box W (q + 2) TKs #[.slice aA nA cA] ∧ OwnK W w.heap.size aA nA cA acc ∧ W.heap[D]? = some (.deferred (some []))) := ⟨hI, g3, g4, hK⟩
    obtain ⟨_, _, _, _, _, _, e2, _, _⟩ := (HT.out.below hI.base).slots
    have hcv := conv_int_u64 nA (by omega)
    have x2 : W.cell? ⟨q + 2, 0, none⟩ = some (.slice aA nA cA) := g3.cell 0
    clear hI g3 g4 g5 g6 hS hK hxl
    gi_wp2
    rename_i K14 hK14
    refine wpIn_wide.2 ?_
    by_cases hto : nA = T.told
    · have hbq : ((nA : Int) != (T.told : Int)) = false := by rw [hto]; simp
      have HR : Hid (allT T = .ok acc) := allT_yes HAC.out (by rw [HI.out.2.2.1.size]; exact hto)
      have hlen : acc.length = nA := HI.out.2.2.1.size
      clear hto
      go_quiet (fail)
      have HV0 : Hid (AI w T q xs (W.drewN nq) ∧ Box (W.drewN nq) (q + 2) TKs #[.slice aA nA cA] ∧ OwnK (W.drewN nq) w.heap.size aA nA cA acc ∧ (W.drewN nq).heap[D]? = some (.deferred (some []))) := ⟨AI.own w T q w.heap.size (Nat.le_refl _) xs W _ none HI.out.1 (grown_noneR (below_drewN (Below.refl _ _) nq)) (fun r e => by cases e), HI.out.2.1, HI.out.2.2.1.kept (fun _ _ => rfl), HI.out.2.2.2⟩
      refine hK14 _ _ ?_
      clear hK14 x2 e2 HI
      generalize W.drewN nq = V at *
      have HV : Hid (AI w T q xs V ∧ Box V (q + 2) TKs #[.slice aA nA cA] ∧ OwnK V w.heap.size aA nA cA acc ∧ V.heap[D]? = some (.deferred (some []))) := HV0.out
      clear HV0
      have fin : ∀ (x y : Value) , Hid (Box ((V.setCell ⟨q, 0, none⟩ x).setCell ⟨q + 1, 0, none⟩ y) q TKs #[x] ∧ Box ((V.setCell ⟨q, 0, none⟩ x).setCell ⟨q + 1, 0, none⟩ y) (q + 1) TEr #[y] ∧ Below w.heap.size w ((V.setCell ⟨q, 0, none⟩ x).setCell ⟨q + 1, 0, none⟩ y) ∧ ((V.setCell ⟨q, 0, none⟩ x).setCell ⟨q + 1, 0, none⟩ y).heap[D]? = some (.deferred (some [])) ∧ OwnK ((V.setCell ⟨q, 0, none⟩ x).setCell ⟨q + 1, 0, none⟩ y) w.heap.size aA nA cA acc) := fun x y => by
        have b0 := (HV.out.1.r0.set 0 x).other (q := q + 1) (by omega) 0 y
        have b1 := (HV.out.1.r1.other (q := q) (by omega) 0 x).set 0 y
        refine ⟨b0.eq (by simp), b1.eq (by simp), (HV.out.1.base.setCell (p := ⟨q, 0, none⟩) hle _).setCell (p := ⟨q + 1, 0, none⟩) (by show w.heap.size ≤ q + 1; omega) _, ((KeepsOthers.setCell _ _ _).trans (KeepsOthers.setCell _ _ _)).same D _ HV.out.2.2.2 rfl, ?_⟩
        refine HV.out.2.2.1.kept fun k e => ?_
        have h1 := HV.out.2.2.1.tag e
        have hk0 : k ≠ q := tag_ne h1 HV.out.1.r0.tag (by decide)
        have hk1 : k ≠ q + 1 := tag_ne h1 HV.out.1.r1.tag (by decide)
        exact (Below.heap_setCell _ _ _ _ hk1).trans (Below.heap_setCell _ _ _ _ hk0)
      have x2 : V.cell? ⟨q + 2, 0, none⟩ = some (.slice aA nA cA) := HV.out.2.1.cell 0
      have m0 : V.cell? ⟨q, 0, none⟩ = some (.slice none 0 0) := HV.out.1.r0.cell 0
      have m1 : V.cell? ⟨q + 1, 0, none⟩ = some (.int .i64 0) := HV.out.1.r1.cell 0
      have f0 := HV.out.1.r0.soft 0
      have f1 := HV.out.1.r1.soft 0
      gi_wp2
      obtain ⟨b0, b1, hbw, hdf, how⟩ := (fin (.slice aA nA cA) (.int .i64 0)).out
      refine ⟨by simp, .inl ⟨_, _, rfl, run_takeDeferred hdf, ?_⟩⟩
      have hc0 := (b0.putD hdf (.deferred none)).cell 0
      have hc1 := (b1.putD hdf (.deferred none)).cell 0
      simp only [List.getElem?_toArray, List.getElem?_cons_zero] at hc0 hc1
      refine ⟨.tuple #[.slice aA nA cA, .int .i64 0], ?_, hbw.trans (belowK_b (w := w) (Nat.le_refl _) _ D _ _ (by omega) hdf rfl rfl), .inr ⟨acc, aA, cA, HR.out, by rw [hlen], by rw [hlen]; exact how.putD hdf _⟩⟩
      simp [results, Tryz.results15, go_sem, hc0, hc1]
    · have hbq : ((nA : Int) != (T.told : Int)) = true := by rw [bne_iff_ne]; omega
      have HR : Hid (allT T = .error 121) := allT_cnt HAC.out (by rw [HI.out.2.2.1.size]; exact hto)
      clear hto
      go_quiet (fail)
      have HV0 : Hid (AI w T q xs (W.drewN nq) ∧ Box (W.drewN nq) (q + 2) TKs #[.slice aA nA cA] ∧ OwnK (W.drewN nq) w.heap.size aA nA cA acc ∧ (W.drewN nq).heap[D]? = some (.deferred (some []))) := ⟨AI.own w T q w.heap.size (Nat.le_refl _) xs W _ none HI.out.1 (grown_noneR (below_drewN (Below.refl _ _) nq)) (fun r e => by cases e), HI.out.2.1, HI.out.2.2.1.kept (fun _ _ => rfl), HI.out.2.2.2⟩
      refine hK14 _ _ ?_
      clear hK14 x2 e2 HI
      generalize W.drewN nq = V at *
      have HV : Hid (AI w T q xs V ∧ Box V (q + 2) TKs #[.slice aA nA cA] ∧ OwnK V w.heap.size aA nA cA acc ∧ V.heap[D]? = some (.deferred (some []))) := HV0.out
      clear HV0
      have fin : ∀ (x y : Value) , Hid (Box ((V.setCell ⟨q, 0, none⟩ x).setCell ⟨q + 1, 0, none⟩ y) q TKs #[x] ∧ Box ((V.setCell ⟨q, 0, none⟩ x).setCell ⟨q + 1, 0, none⟩ y) (q + 1) TEr #[y] ∧ Below w.heap.size w ((V.setCell ⟨q, 0, none⟩ x).setCell ⟨q + 1, 0, none⟩ y) ∧ ((V.setCell ⟨q, 0, none⟩ x).setCell ⟨q + 1, 0, none⟩ y).heap[D]? = some (.deferred (some [])) ∧ OwnK ((V.setCell ⟨q, 0, none⟩ x).setCell ⟨q + 1, 0, none⟩ y) w.heap.size aA nA cA acc) := fun x y => by
        have b0 := (HV.out.1.r0.set 0 x).other (q := q + 1) (by omega) 0 y
        have b1 := (HV.out.1.r1.other (q := q) (by omega) 0 x).set 0 y
        refine ⟨b0.eq (by simp), b1.eq (by simp), (HV.out.1.base.setCell (p := ⟨q, 0, none⟩) hle _).setCell (p := ⟨q + 1, 0, none⟩) (by show w.heap.size ≤ q + 1; omega) _, ((KeepsOthers.setCell _ _ _).trans (KeepsOthers.setCell _ _ _)).same D _ HV.out.2.2.2 rfl, ?_⟩
        refine HV.out.2.2.1.kept fun k e => ?_
        have h1 := HV.out.2.2.1.tag e
        have hk0 : k ≠ q := tag_ne h1 HV.out.1.r0.tag (by decide)
        have hk1 : k ≠ q + 1 := tag_ne h1 HV.out.1.r1.tag (by decide)
        exact (Below.heap_setCell _ _ _ _ hk1).trans (Below.heap_setCell _ _ _ _ hk0)
      have x2 : V.cell? ⟨q + 2, 0, none⟩ = some (.slice aA nA cA) := HV.out.2.1.cell 0
      have m0 : V.cell? ⟨q, 0, none⟩ = some (.slice none 0 0) := HV.out.1.r0.cell 0
      have m1 : V.cell? ⟨q + 1, 0, none⟩ = some (.int .i64 0) := HV.out.1.r1.cell 0
      have f0 := HV.out.1.r0.soft 0
      have f1 := HV.out.1.r1.soft 0
      gi_wp2
      obtain ⟨b0, b1, hbw, hdf, how⟩ := (fin (.slice none 0 0) (.int .i64 121)).out
      refine ⟨by simp, .inl ⟨_, _, rfl, run_takeDeferred hdf, ?_⟩⟩
      have hc0 := (b0.putD hdf (.deferred none)).cell 0
      have hc1 := (b1.putD hdf (.deferred none)).cell 0
      simp only [List.getElem?_toArray, List.getElem?_cons_zero] at hc0 hc1
      refine ⟨.tuple #[.slice none 0 0, .int .i64 121], ?_, hbw.trans (belowK_b (w := w) (Nat.le_refl _) _ D _ _ (by omega) hdf rfl rfl), .inl ⟨121, HR.out, by omega, rfl⟩⟩
      simp [results, Tryz.results15, go_sem, hc0, hc1]
  case stop =>
    rintro D pre W hD hS ⟨g1, g2, er, g3, g4, g5⟩ hK
    have hle : w.heap.size ≤ q := W5.out.1.le
    have HE : Hid (allT T = .error er ∧ er ≠ 0) := ⟨allT_no g4, g5⟩
    gi_wp2
    refine ⟨by simp, .inl ⟨_, _, rfl, run_takeDeferred hK, ?_⟩⟩
    have hc0 := (g2.putD hK (.deferred none)).cell 0
    have hc1 := (g3.putD hK (.deferred none)).cell 0
    simp only [List.getElem?_toArray, List.getElem?_cons_zero] at hc0 hc1
    refine ⟨.tuple #[.slice none 0 0, .int .i64 (er : Int)], ?_, g1.trans (belowK_b (w := w) (Nat.le_refl _) _ D _ _ (by omega) hK rfl rfl), .inl ⟨er, HE.out.1, HE.out.2, rfl⟩⟩
    simp [results, Tryz.results15, go_sem, hc0, hc1]
end Go.Proofs.YtgegjcnjlibfdaaGreat
