/- Lists of rows of entries, as arguments: what a reading of one gives. -/
import Derived.Test.YtjoamhcehpjepabQa02
import Derived.Test.YtjoamhcehpjepabQa05
import Derived.Deep.AppendLies
import Derived.Test.YtjoamhcehpjepabQa04
namespace Go.Proofs.Ytjoamhcehpjepab
set_option maxRecDepth 100000
open Go.ChangeShapes Go.WideShapes Go.RowKit
set_option linter.unusedVariables false
set_option linter.unusedSimpArgs false
theorem cells_row17 : Try.prog.cellsOf 30 = 1 := by kernel_rfl
theorem bytes_kv17 : Try.prog.bytesOf TKV = 48 := by kernel_rfl
section
variable {H : Type} {enc : TypeId × Value → H} {w : World} {base : Nat} {sp : Nat → Bool} {held : Bool}
/-- An entry's datum. -/
def kvD17 (H : Type) (e : KV) : DataW H := .agg [.agg [.lit (.string e.1.user.data.toList), .lit (.int .u64 (e.1.seq : Int)), .lit (.int .i64 e.1.kind)], .lit (.string e.2.data.toList)]
def Wf0 (e : KV) : Prop := e.1.seq < 18446744073709551616 ∧ e.1.kind ≤ 9223372036854775807
theorem open_kvD17 {n : Nat} {cs : List Value} {y : DataW H × List MemPlace} (h : DataW.trod enc Try.prog w base sp held n TKV cs = some y) :
    ∃ e : KV, cs = kvc e ∧ Wf0 e ∧ y.1 = kvD17 H e := by
  obtain ⟨y0, y1, m, rfl, hl, h0, h1⟩ := trod_struct2 Try.underlying34 h
  rw [cells_kv] at hl
  match cs, hl with
  | [c0, c1, c2, c3], _ =>
  simp [cells_ik, cells_s1] at h0 h1
  obtain ⟨z0, z1, z2, m', hz, hl', g0, g1, g2⟩ := Go.Deep.trod_struct3 Try.underlying32 h0
  obtain ⟨s, e0, rfl, ws⟩ := DataW.trod_string Try.underlying9 g0
  obtain ⟨q, e1, rfl, wq⟩ := DataW.trod_int Try.underlying23 g1
  obtain ⟨k, e2, rfl, wk⟩ := DataW.trod_int Try.underlying3 g2
  obtain ⟨s2, e3, hy1, ws2⟩ := DataW.trod_string Try.underlying9 h1
  simp [cells_s1, cells_u1, cells_i1] at e0 e1 e2 e3
  subst e0 e1 e2 e3
  have hq : q = ((q.toNat : Nat) : Int) ∧ q.toNat < 18446744073709551616 := by
    simp [Lit.wf, IntKind.min, IntKind.max, IntKind.bits, IntKind.signed] at wq
    omega
  have hk : k ≤ 9223372036854775807 := by
    simp [Lit.wf, IntKind.min, IntKind.max, IntKind.bits, IntKind.signed] at wk
    omega
  refine ⟨(⟨s, q.toNat, k⟩, s2), ?_, ⟨hq.2, hk⟩, ?_⟩
  · unfold kvc
    rw [← hq.1]
  · rw [hz, hy1]
    unfold kvD17
    rw [← hq.1]
theorem open_kvs17 {fuel : Nat} {cs : List Value} {x : DataW H × List MemPlace} (h : DataW.trod enc Try.prog w base sp held fuel 30 cs = some x) :
    ∃ (a : Option Addr) (len cap : Nat) (l : List KV), cs = [.slice a len cap] ∧ KsAt w a len cap l ∧ (∀ e ∈ l, Wf0 e) ∧ (l = [] ∨ ∃ es ss, x.1 = .slice es ss ∧ ∀ e ∈ l, kvD17 H e ∈ es) ∧ (x.1 = .nil ∧ len = 0 ∨ ∃ es ss, x.1 = .slice es ss ∧ es.length = len) ∧ (a = none → cap = 0) := by
  rcases Go.Deep.open_slice Try.underlying30 h with ⟨h0, rfl⟩ | ⟨a, len, cap, m, n, D, Pl, rfl, hb, hl, hm, hmm, rfl, hx⟩
  · exact ⟨none, 0, 0, [], h0, KsAt.nil w, by simp, .inl rfl, .inl ⟨rfl, rfl⟩, fun _ => rfl⟩
  have hlm : len ≤ m := by rw [hmm]; split <;> omega
  obtain ⟨l, hll, hall⟩ := collect (fun i (e : KV) => (∀ r, r < 4 → w.cell? (a.add (i * 4 + r)) = (kvc e)[r]?) ∧ Wf0 e ∧ D i = kvD17 H e) len (fun i hi => by
    obtain ⟨cs', h1, h2⟩ := hx i (by omega)
    have h1' : w.cells? base (a.add (i * 4)) 4 = some cs' := by
      rw [show Try.prog.cellsOf 34 = 4 from cells_kv] at h1
      exact h1
    obtain ⟨_, _, hcell⟩ := World.cells?_some h1'
    obtain ⟨e, rfl, he, hd⟩ := open_kvD17 h2
    refine ⟨e, fun r hr => ?_, he, hd⟩
    have e0 := hcell r hr
    rw [Go.Deep.add_add] at e0
    rw [e0])
  refine ⟨some a, len, cap, l, rfl, ⟨hll, hl, hm, fun hp => ?_⟩, fun e he => ?_, .inr ⟨_, _, rfl, fun e he => ?_⟩, .inr ⟨_, _, rfl, by simp⟩, fun e => (by cases e)⟩
  · obtain ⟨b, off, spot⟩ := a
    have h0 := (hall 0 (by omega)).1 0 (by omega)
    have hspot : spot = none := by
      have : w.cell? ((⟨b, off, spot⟩ : Addr).add (0 * 4 + 0)) = some (.string (l[0]'(by omega)).1.user) := h0
      simpa [Addr.add] using World.cell?_spot this
    subst hspot
    refine ⟨b, off, rfl, fun j hj => ?_⟩
    have hd : j / 4 < l.length := by omega
    have hg := (hall (j / 4) hd).1 (j % 4) (by omega)
    rw [Addr.add_lit, show j / 4 * 4 + j % 4 = j by omega] at hg
    rw [hg, ← cellsKV_get l (j / 4) (j % 4) hd (by omega), show j / 4 * 4 + j % 4 = j by omega]
  · obtain ⟨i, hi, rfl⟩ := List.mem_iff_getElem.1 he
    exact (hall i hi).2.1
  · obtain ⟨i, hi, rfl⟩ := List.mem_iff_getElem.1 he
    rw [← (hall i hi).2.2]
    exact List.mem_map.2 ⟨i, by simpa using (by omega : i < len), rfl⟩
theorem weightsAll_mem17 {P : Program} {e : TypeId} {n : Nat} : ∀ {l : List (DataW H)} {d : DataW H}, d ∈ l → n ∈ d.weights P e → n ∈ DataW.weightsAll P e l
  | x :: r, d, hd, hn => by
    rw [DataW.weightsAll]
    rcases List.mem_cons.1 hd with rfl | hd
    · exact List.mem_append_left _ hn
    · exact List.mem_append_right _ (weightsAll_mem17 hd hn)
theorem kvs_wf17 {l : List KV} {d : DataW H} (h : l = [] ∨ ∃ es ss, d = .slice es ss ∧ ∀ e ∈ l, kvD17 H e ∈ es) (h0 : ∀ e ∈ l, Wf0 e) (hw : ∀ n ∈ d.weights Try.prog 30, n ≤ 140737488351232) : ∀ e ∈ l, WfE e := by
  rcases h with rfl | ⟨es, ss, rfl, hs⟩
  · simp
  · simp only [DataW.weights, Try.underlying30] at hw
    intro e he
    have h1 : e.1.user.data.toList.length ∈ (kvD17 H e).weights Try.prog 34 := by
      unfold kvD17
      simp [DataW.weights, Try.underlying34, Try.underlying32, DataW.weightsEach]
    have g1 := hw _ (List.mem_cons_of_mem _ (List.mem_append_left _ (weightsAll_mem17 (hs e he) h1)))
    rw [Array.length_toList] at g1
    exact ⟨g1, (h0 e he).1, (h0 e he).2⟩
theorem open_lists17 {fuel : Nat} {cs : List Value} {x : DataW H × List MemPlace} (h : DataW.trod enc Try.prog w base sp held fuel 22 cs = some x) (hw : ∀ n ∈ x.1.weights Try.prog 22, n ≤ 140737488351232) :
    ∃ (a : Option Addr) (len cap : Nat) (L : List (List KV)), cs = [.slice a len cap] ∧ LsAt w a len cap L ∧ WfLs L := by
  rcases Go.Deep.open_slice Try.underlying22 h with ⟨h0, rfl⟩ | ⟨a, len, cap, m, n, D, Pl, rfl, hb, hl, hm, hmm, rfl, hx⟩
  · exact ⟨none, 0, 0, [], h0, LsAt.nil w, fun l hl => by cases hl⟩
  have hlm : len ≤ m := by rw [hmm]; split <;> omega
  simp only [DataW.weights, Try.underlying22] at hw
  obtain ⟨L, hll, hall⟩ := collect (fun i (l : List KV) => (∃ ai ci, w.cell? (a.add i) = some (.slice ai l.length ci) ∧ KsAt w ai l.length ci l ∧ (ai = none → ci = 0)) ∧ ∀ e ∈ l, WfE e) len (fun i hi => by
    obtain ⟨cs', h1, h2⟩ := hx i (by omega)
    rw [cells_row17] at h1
    obtain ⟨_, _, hcell⟩ := World.cells?_some h1
    obtain ⟨ai, li, ci, l, rfl, hI, h0, hd, _, hb'⟩ := open_kvs17 h2
    have e := hI.size
    subst e
    have := hcell 0 (by omega)
    rw [Go.Deep.add_add] at this
    refine ⟨l, ⟨ai, ci, by simpa using this, hI, hb'⟩, kvs_wf17 hd h0 fun q hq => ?_⟩
    exact hw _ (List.mem_cons_of_mem _ (List.mem_append_left _ (weightsAll_mem17 (List.mem_map.2 ⟨i, by simpa using hi, rfl⟩) hq))))
  refine ⟨some a, len, cap, L, rfl, ⟨hll, hl, hm, fun e => (by cases e), fun hp => ?_⟩, fun l hl e he => ?_⟩
  · obtain ⟨b, off, spot⟩ := a
    obtain ⟨⟨_, _, h0, _⟩, _⟩ := hall 0 (by omega)
    have hspot : spot = none := by
      simpa [Addr.add] using World.cell?_spot h0
    subst hspot
    refine ⟨b, off, rfl, fun i hi => ?_⟩
    have hil : i < L.length := by omega
    obtain ⟨⟨ai, ci, h1, h2, h3⟩, _⟩ := hall i hil
    have e : rowL L i = L[i] := by simp [rowL, List.getD, hil]
    rw [e]
    rw [Addr.add_lit] at h1
    exact ⟨ai, ci, h1, h2, h3⟩
  · obtain ⟨i, hi, rfl⟩ := List.mem_iff_getElem.1 hl
    exact (hall i hi).2 e he
/-- How many entries a row can have. -/
theorem kvs_len17 {ts : List TypeId} {ds : List (DataW H)} (hsz : (DataW.weightsEach Try.prog ts ds).all (· ≤ reachBytes) = true) {j : Nat} {d : DataW H} {len : Nat} (ht : ts[j]? = some 30) (hd : ds[j]? = some d) (h : d = .nil ∧ len = 0 ∨ ∃ es ss, d = .slice es ss ∧ es.length = len) : len ≤ 2932031007317 := by
  rcases h with ⟨_, rfl⟩ | ⟨es, ss, rfl, rfl⟩
  · omega
  · have := sized_slice hsz ht hd Try.underlying30
    rw [show Try.prog.bytesOf 34 = 48 from bytes_kv17] at this
    unfold reachBytes at this
    omega
end
end Go.Proofs.Ytjoamhcehpjepab
/- An item onto a row, beside a view. -/
namespace Go.Proofs.Ytjoamhcehpjepab
open Go.RowKit
set_option linter.unusedVariables false
set_option linter.unusedSimpArgs false
theorem wpList_pushLI (W : World) {ops : Array Oper} {rest : List Oper} {o : Oper} {a : Act} {Q : Exit → Act → World → Prop} (hgd : o.guard = none) (s x : Operand)
    (ho : o.op = .call { callee := .builtin .append, args := #[s, x], argTypes := #[35, 35] })
    (B : Nat) (a1 : Option Addr) (n1 c1 : Nat) (l : List It17) (hs : a.eval s = .slice a1 n1 c1) (hown : OwnI W B a1 n1 c1 l)
    (v : It17) (cv : Array Value) (hcv : cv.toList = cellsI [v]) (g : Nat) (hg : g = W.heap.size) (hx : a.eval x = .slice (some ⟨g, 0, none⟩) 1 1)
    (hb : n1 + 1 ≤ 2000000000000) (hB : B ≤ W.heap.size)
    (h : ∀ a' c' w', OwnI w' B a' (n1 + 1) c' (l ++ [v]) → (W.alloc (.cells cv TItm)).grownBy w' (blkOf a1) → (∀ k, blkOf a' = some k → blkOf a1 = some k ∨ k = W.heap.size + 1) → wpList Try.prog ops Q rest (a.put o.dst (.slice a' (n1 + 1) c')) w') :
    wpList Try.prog ops Q (o :: rest) a (W.alloc (.cells cv TItm)) := by
  subst hg
  obtain ⟨i, hi, hz0, hz1, hz2⟩ := info_parts infoItm
  have hl := hown.size
  have hone : ∀ u ∈ cellsI [v], u.oneCell' = true := by
    exact cellsI_one [v]
  refine wpList_append_lies (W.alloc (.cells cv TItm)) hgd s x 35 ho B TItm i _ 2 32 Try.underlying35 hi hz0 hz1 hz2 rfl (by decide) _ n1 _ hs (hown.row.alloc (.cells cv TItm)) ⟨W.heap.size, 0, none⟩ 1 1 (cellsI [v]) hx (by rw [cellsI_len]; rfl) (fun j u hu => ?_) hone (by omega) (by unfold maxLen; omega) (by omega) (by simp; omega) (W.heap.size + 1) (by simp) ?_
  · rw [Addr.add_lit, Nat.zero_add, (Box.new W TItm cv).cell, ← Array.getElem?_toList, hcv]
    exact hu
  · intro g c' w' hr hg hl2 _
    rw [own_blk] at hg hl2
    refine h (some ⟨g, 0, none⟩) c' w' ⟨by rw [List.length_append]; simp; omega, ?_⟩ hg (fun k e => ?_)
    · rw [cellsI_append]
      exact hr
    · have e' : g = k := by simpa [blkOf] using e
      subst e'
      exact hl2
/-- What stays when a row of its own grows. -/
theorem VwS.push {D : VwRel} (F : VwOk D) {w0 W w' : World} {M : Nat} {R : Nat → Prop} {p : Nat} {L : List It17} {o : Option Nat} {K : Nat → Prop} (h : VwS D w0 M W R p L o K) {a1 : Option Addr} {n1 c1 : Nat} {l : List It17}
    (hK : ∀ k, blkOf a1 = some k → K k) (hown : OwnI W M a1 n1 c1 l) {b : Obj} {a' : Option Addr} {c' m : Nat} {l' : List It17} (ho : OwnI w' M a' m c' l') (hg : (W.alloc b).grownBy w' (blkOf a1)) (hl : ∀ k, blkOf a' = some k → blkOf a1 = some k ∨ k = W.heap.size + 1) :
    VwS D w0 M w' R p L o (fun k => K k ∨ blkOf a' = some k) ∧ Chg (fun k => blkOf a1 = some k) W w' := by
  have hc : Chg (fun k => blkOf a1 = some k) W w' := ((Chg.refl _ W).alloc b).andThen (R' := fun k => blkOf a1 = some k) (Chg.grown hg) (fun _ _ x => x)
  refine ⟨h.more F (h.chg F hc fun k hk => ⟨hK k hk, (hown.ge hk).1⟩) fun k hk => ?_, hc⟩
  rcases hk with hk | hk
  · exact .inl hk
  · rcases hl k hk with h1 | h1
    · exact .inl (hK k h1)
    · exact .inr ⟨by omega, tag_lt (ho.tag hk)⟩
end Go.Proofs.Ytjoamhcehpjepab
/- All that is seen, from the first one on: the statements' all. -/
namespace Go.Proofs.Ytjoamhcehpjepab
open Go.RowKit
set_option linter.unusedVariables false
set_option linter.unusedSimpArgs false
theorem told7_norm {I : List It17} {i : Nat} (h : i < I.length) : told7 I (norm7 I i) = (I[i], true) := by
  unfold norm7
  rw [if_pos h]
  simp [told7, List.getD, h]
theorem told7_end (I : List It17) : told7 I (norm7 I I.length) = (i0, false) := by
  unfold norm7
  rw [if_neg (Nat.lt_irrefl _)]
  rfl
theorem go7_next {I : List It17} {i : Nat} (h : i < I.length) (u : ByteArray) : go7 I 4 u (norm7 I i) = norm7 I (i + 1) := by
  unfold norm7
  rw [if_pos h]
  rfl
/-- What goes on while all is told. -/
structure AlS (D : VwRel) (Wn : World) (M : Nat) (W0 W : World) (p : Nat) (I : List It17) (o : Option Nat) (K : Nat → Prop) (i : Nat) (a : Option Addr) (c : Nat) (R : Nat → Prop) : Prop where
  own : OwnI W W0.heap.size a i c (I.take i)
  vw : VwS D Wn M W R p I o (fun k => K k ∨ blkOf a = some k)
  low : ∀ k, K k → W.heap[k]? = W0.heap[k]?
  size : W0.heap.size ≤ W.heap.size
  old : ∀ k, K k → k < W0.heap.size
  big : M ≤ W0.heap.size
theorem AlS.step {D : VwRel} {Wn : World} {M : Nat} {W0 W W' : World} {p : Nat} {I : List It17} {o o' : Option Nat} {K : Nat → Prop} {i : Nat} {a : Option Addr} {c : Nat} {R : Nat → Prop} (h : AlS D Wn M W0 W p I o K i a c R) (hp : VwPost D R p I o' W W') : ∃ R', AlS D Wn M W0 W' p I o' K i a c R' := by
  obtain ⟨R', h1, h2, h3⟩ := h.vw.step hp
  exact ⟨R', h.own.kept fun k hk => h2 k (.inr hk), h1, fun k hk => (h2 k (.inl hk)).trans (h.low k hk), Nat.le_trans h.size h3, h.old, h.big⟩
theorem AlS.below {D : VwRel} (F : VwOk D) {Wn : World} {M : Nat} {W0 W W' : World} {p : Nat} {I : List It17} {o : Option Nat} {K : Nat → Prop} {i : Nat} {a : Option Addr} {c : Nat} {R : Nat → Prop} (h : AlS D Wn M W0 W p I o K i a c R) (hb : Below W.heap.size W W') : AlS D Wn M W0 W' p I o K i a c R :=
  ⟨h.own.below hb, h.vw.below F hb, fun k hk => (hb.block k (h.vw.keep k (.inl hk)).1).trans (h.low k hk), Nat.le_trans h.size hb.size, h.old, h.big⟩
theorem AlS.push {D : VwRel} (F : VwOk D) {Wn : World} {M : Nat} {W0 W W' : World} {p : Nat} {I : List It17} {o : Option Nat} {K : Nat → Prop} {i : Nat} {a a' : Option Addr} {c c' : Nat} {R : Nat → Prop} {b : Obj} (h : AlS D Wn M W0 W p I o K i a c R) (hi : i < I.length) (ho : OwnI W' W0.heap.size a' (i + 1) c' (I.take i ++ [I[i]])) (hg : (W.alloc b).grownBy W' (blkOf a)) (hl : ∀ k, blkOf a' = some k → blkOf a = some k ∨ k = W.heap.size + 1) : AlS D Wn M W0 W' p I o K (i + 1) a' c' R := by
  have hrm : ∀ {W : World} {a : Option Addr} {n c : Nat} {l : List It17}, OwnI W W0.heap.size a n c l → OwnI W M a n c l := fun {W a n c l} h9 => ⟨h9.size, h9.row.1, by
    rcases h9.row.2 with hn | ⟨g, c, cur, hv, hb, rest⟩
    · exact .inl hn
    · exact .inr ⟨g, c, cur, hv, Nat.le_trans h.big hb, rest⟩⟩
  obtain ⟨h1, h2⟩ := h.vw.push F (fun k hk => .inr hk) (hrm h.own) (hrm ho) hg hl
  have e : I.take (i + 1) = I.take i ++ [I[i]] := List.take_succ_eq_append_getElem hi
  refine ⟨by rw [e]; exact ho, h1.less fun k hk => ?_, fun k hk => ?_, Nat.le_trans h.size h2.size, h.old, h.big⟩
  · rcases hk with hk | hk
    · exact .inl (.inl hk)
    · exact .inr hk
  · refine (h2.block k (Nat.lt_of_lt_of_le (h.old k hk) h.size) fun hb => ?_).trans (h.low k hk)
    have := (h.own.ge hb).1
    have := h.old k hk
    omega
def AllP (D : VwRel) (Wn : World) (M : Nat) (W : World) (p : Nat) (I : List It17) (K : Nat → Prop) (e : Ending) (w' : World) : Prop := ∃ (a : Option Addr) (c : Nat) (R' : Nat → Prop), e = .returned (.tuple #[.slice a I.length c, .bool true]) ∧ AlS D Wn M W w' p I none K I.length a c R'
set_option maxRecDepth 100000 in
set_option maxHeartbeats 2000000 in
theorem all17 {D : VwRel} (F : VwOk D) {Wn W : World} {M : Nat} {R : Nat → Prop} {p : Nat} {I : List It17} {o : Option Nat} {K : Nat → Prop} (h : VwS D Wn M W R p I o K) (hI : I.Pairwise fun a b => uc a.1 b.1 < 0) (most : Nat) (hm : I.length ≤ most) (hmx : most ≤ 1000000) :
    Calls Try.prog 7 #[at_ p, .int .i64 (most : Int)] W fun e w' => AllP D Wn M W p I K e w' := by
  have HI0 : Hid (I.Pairwise fun a b => uc a.1 b.1 < 0) := hI
  have HA0 : Hid (VwS D Wn M W R p I o K) := h
  clear h hI
  obtain ⟨N, hN⟩ : ∃ N, N = I.length := ⟨_, rfl⟩
  have HN : Hid (N = I.length) := hN
  rw [← hN] at hm
  clear hN
  go_enter Try.func7, Try.ntmps7
  go_wp2_with fail
  refine (F.first HA0.out.it).mono ?_
  rintro _ w1 ⟨rfl, hp1⟩
  obtain ⟨R1, h1, h2, h3⟩ := HA0.out.step hp1
  have H1 : Hid (AlS D Wn M W w1 p I (norm7 I 0) K 0 none 0 R1) := ⟨OwnI.nil _ _, h1.less fun k hk => by
    rcases hk with hk | hk
    · exact hk
    · simp [blkOf] at hk, h2, h3, fun k hk => (HA0.out.keep k hk).1, HA0.out.top⟩
  clear h1 h2 h3 hp1
  go_wp2_with fail
  go_loopw [6, 7] (fun s6 s7 wr => ∃ (i : Nat) (a' : Option Addr) (c' : Nat), i ≤ N ∧ s7 = .int .i64 (i : Int) ∧ s6 = .slice a' i c' ∧ Hid (∃ R, AlS D Wn M W wr p I (norm7 I i) K i a' c' R)) (fun _ s7 _ => N + 1 - (intOf s7).toNat)
  case atStart => exact ⟨0, none, 0, Nat.zero_le _, rfl, rfl, R1, H1.out⟩
  case round =>
    clear H1
    obtain ⟨i, a6, c6, hiN, rfl, rfl, HI⟩ := hrel
    obtain ⟨R6, h6⟩ := HI.out
    have S6 : Hid (AlS D Wn M W wr p I (norm7 I i) K i a6 c6 R6) := h6
    clear h6 HI
    have hmI : (i : Int) ≤ (most : Int) := by omega
    by_cases hi : i < N
    · have HIL : Hid (i < I.length) := by have := HN.out; unfold Hid; omega
      have HAT : Hid (Calls Try.prog 10 #[at_ p] wr fun e w' => e = .returned (.tuple #[.agg #[.string (I[i]'HIL.out).1, .string (I[i]'HIL.out).2], .bool true]) ∧ VwPost D R6 p I (norm7 I i) wr w') := by
        have := F.at' S6.out.vw.it
        rw [told7_norm HIL.out] at this
        exact this
      have HNX : Hid (go7 I 4 ⟨#[]⟩ (norm7 I i) = norm7 I (i + 1)) := go7_next HIL.out _
      have HPU : Hid (∀ (W1 W2 : World) (a1 a2 : Option Addr) (c1 c2 : Nat) (R : Nat → Prop) (b : Obj) (o : Option Nat), AlS D Wn M W W1 p I o K i a1 c1 R → OwnI W2 W.heap.size a2 (i + 1) c2 (I.take i ++ [(I[i]'HIL.out)]) → (W1.alloc b).grownBy W2 (blkOf a1) → (∀ k, blkOf a2 = some k → blkOf a1 = some k ∨ k = W1.heap.size + 1) → AlS D Wn M W W2 p I o K (i + 1) a2 c2 R) := fun W1 W2 a1 a2 c1 c2 R b o g1 g2 g3 g4 => g1.push F HIL.out g2 g3 g4
      have HPV : Hid (0 < i → ∃ (q : It17) (g : Nat), a6 = some ⟨g, 0, none⟩ ∧ (∀ W9 : World, OwnI W9 W.heap.size a6 i c6 (I.take i) → W9.cell? ⟨g, (i - 1) * 2, none⟩ = some (.string q.1)) ∧ Op.bytesLess q.1.toList (I[i]'HIL.out).1.toList = true) := fun h0 => by
        obtain ⟨g, hg, _⟩ := S6.out.own.cellsAt h0
        have hil := HIL.out
        refine ⟨I[i - 1], g, hg, fun W9 h9 => ?_, uc_less.1 (List.pairwise_iff_getElem.1 HI0.out (i - 1) i (by omega) HIL.out (by omega))⟩
        obtain ⟨g', hg', hc⟩ := h9.cellsAt h0
        rw [hg] at hg'
        simp only [Option.some.injEq, Addr.mk.injEq, and_true] at hg'
        subst hg'
        have := (hc (i - 1) (by rw [List.length_take]; omega)).1
        rw [List.getElem_take] at this
        exact this
      have HOL : Hid (∀ W9 : World, ∀ (o : Option Nat) (R9 : Nat → Prop), AlS D Wn M W W9 p I o K i a6 c6 R9 → OwnI W9 W.heap.size a6 i c6 (I.take i)) := fun W9 o R9 h9 => h9.own
      generalize (I[i]'HIL.out) = e at HAT HPU HPV
      go_wp2_with fail
      refine HAT.out.mono ?_
      rintro _ w2 ⟨rfl, hp2⟩
      obtain ⟨R2, h2⟩ := S6.out.step hp2
      have S2 : Hid (AlS D Wn M W (w2.alloc (.cells #[.string e.1, .string e.2] TItm)) p I (norm7 I i) K i a6 c6 R2 ∧ Box (w2.alloc (.cells #[.string e.1, .string e.2] TItm)) w2.heap.size TItm #[.string e.1, .string e.2]) := ⟨h2.below F ((Below.refl _ _).alloc (Nat.le_refl _) _), Box.new _ _ _⟩
      clear hp2 h2 HAT
      go_upto_region 9 with fail
      generalize w2.heap.size = q8 at S2 ⊢
      generalize w2.alloc (.cells #[.string e.1, .string e.2] TItm) = W3 at S2 ⊢
      have b0 := S2.out.2.cell 0
      have b1 := S2.out.2.cell 1
      simp only [List.getElem?_toArray, List.getElem?_cons_succ, List.getElem?_cons_zero] at b0 b1
      go_cut [37] (fun x wz => x = .bool false ∧ ∃ m, wz = W3.drewN m)
      case first =>
        by_cases h0 : i = 0
        · subst h0
          go_quiet (fail)
          go_wp2
          go_meet
          exact ⟨rfl, _, rfl⟩
        · obtain ⟨qi, g, rfl, hcg, hlt⟩ := HPV.out (by omega)
          have y0 := hcg W3 (HOL.out _ _ _ S2.out.1)
          have hx := fun W => idxI W (b := g) (n := i) (c := c6) (i := i - 1) (by omega)
          rw [show ((i - 1 : Nat) : Int) = (i : Int) - 1 by omega] at hx
          have hw1 : IntKind.i64.wrap ((i : Int) - 1) = (i : Int) - 1 := by rw [IntKind.wrap_i64]; omega
          have h0I : (0 : Int) < (i : Int) := by omega
          have h0N : 0 < i := by omega
          clear hcg
          go_quiet (fail)
          go_wp2
          go_meet
          exact ⟨rfl, _, rfl⟩
      case rest =>
        obtain ⟨rfl, m9, hwe⟩ := hcut
        have S3 : Hid (AlS D Wn M W wc p I (norm7 I i) K i a6 c6 R2 ∧ Box wc q8 TItm #[.string e.1, .string e.2]) := by
          rw [hwe]
          exact ⟨S2.out.1.below F (Below.drewM (Below.refl _ _) _), S2.out.2⟩
        clear hwe S2 b0 b1 HPV HOL
        have b0 := S3.out.2.cell 0
        have b1 := S3.out.2.cell 1
        simp only [List.getElem?_toArray, List.getElem?_cons_succ, List.getElem?_cons_zero] at b0 b1
        go_wp2_with (first
          | (at_builtin; refine wpList_pushLI wc rfl (.tmp 38) (.tmp 40) rfl W.heap.size a6 i c6 (I.take i) rfl S3.out.1.own e #[.string e.1, .string e.2] rfl wc.heap.size rfl rfl (by omega) S3.out.1.size ?_
             intro a7 c7 w7 ho7 hg7 hl7
             have S7 : Hid (AlS D Wn M W w7 p I (norm7 I i) K (i + 1) a7 c7 R2) := HPU.out _ _ _ _ _ _ _ _ _ S3.out.1 ho7 hg7 hl7
             clear ho7 hg7 hl7 S3 b0 b1)
          | fail)
        refine (F.next S7.out.vw.it).mono ?_
        rintro _ w8 ⟨rfl, hp8⟩
        obtain ⟨R8, h8⟩ := S7.out.step hp8
        have S8 : Hid (AlS D Wn M W w8 p I (norm7 I (i + 1)) K (i + 1) a7 c7 R8) := by rw [← HNX.out]; exact h8
        clear hp8 h8 S7
        go_wp2
        go_roundw
        case rel => exact ⟨i + 1, a7, c7, by omega, by go_num, rfl, R8, S8.out⟩
        case measure => simp only [intOf]; omega
    · obtain rfl : i = N := by omega
      have HAT : Hid (Calls Try.prog 10 #[at_ p] wr fun e w' => e = .returned (.tuple #[.agg #[.string ⟨#[]⟩, .string ⟨#[]⟩], .bool false]) ∧ VwPost D R6 p I none wr w') := by
        have := F.at' S6.out.vw.it
        have e : norm7 I i = none := by rw [HN.out]; unfold norm7; rw [if_neg (Nat.lt_irrefl _)]
        rw [e] at this
        exact this
      go_wp2_with fail
      refine HAT.out.mono ?_
      rintro _ w2 ⟨rfl, hp2⟩
      obtain ⟨R2, h2⟩ := S6.out.step hp2
      have HF : Hid (AllP D Wn M W p I K (.returned (.tuple #[.slice a6 i c6, .bool true])) (w2.alloc (.cells #[.string ⟨#[]⟩, .string ⟨#[]⟩] TItm))) := by
        have h3 := h2.below F (W' := w2.alloc (.cells #[.string ⟨#[]⟩, .string ⟨#[]⟩] TItm)) ((Below.refl _ _).alloc (Nat.le_refl _) _)
        have e := HN.out
        subst e
        exact ⟨a6, c6, R2, rfl, h3⟩
      clear hp2 h2 HAT
      go_wp2
      go_ret2
      exact HF.out
end Go.Proofs.Ytjoamhcehpjepab
/- All entries of one list, or of one list in parts, plainly; what is seen of them. -/
namespace Go.Proofs.Ytjoamhcehpjepab
open Go.RowKit
set_option linter.unusedVariables false
set_option linter.unusedSimpArgs false
theorem row_ext16 {α : Type} {R : α → α → Prop} : ∀ {l l' : List α}, l.Pairwise R → l'.Pairwise R → (∀ x ∈ l, ∀ y ∈ l, R x y → ¬ R y x) → (∀ x, x ∈ l ↔ x ∈ l') → l = l'
  | [], [], _, _, _, _ => rfl
  | [], y :: r', _, _, _, h => by have := (h y).2 (by simp); simp at this
  | x :: r, [], _, _, _, h => by have := (h x).1 (by simp); simp at this
  | x :: r, y :: r', h1, h2, ha, h => by
    have p1 := List.pairwise_cons.1 h1
    have p2 := List.pairwise_cons.1 h2
    have hxy : x = y := by
      rcases List.mem_cons.1 ((h x).1 (by simp)) with e | e
      · exact e
      · rcases List.mem_cons.1 ((h y).2 (by simp)) with e' | e'
        · exact e'.symm
        · exact absurd (p2.1 x e) (ha x (by simp) y (by simp [e']) (p1.1 y e'))
    subst hxy
    have hnx : ∀ z, z ∈ r → z ≠ x := fun z hz e => by
      subst e
      exact ha z (by simp) z (by simp) (p1.1 z hz) (p1.1 z hz)
    have hnx' : ∀ z, z ∈ r' → z ≠ x := fun z hz e => by
      subst e
      exact ha z (by simp) z (by simp) (p2.1 z hz) (p2.1 z hz)
    rw [row_ext16 p1.2 p2.2 (fun a ha' b hb' => ha a (by simp [ha']) b (by simp [hb'])) (fun z => ?_)]
    constructor
    · intro hz
      rcases List.mem_cons.1 ((h z).1 (by simp [hz])) with e | e
      · exact absurd e (hnx z hz)
      · exact e
    · intro hz
      rcases List.mem_cons.1 ((h z).2 (by simp [hz])) with e | e
      · exact absurd e (hnx' z hz)
      · exact e
theorem perm_flat (L : List (List KV)) : (allL L).Perm L.flatten := by
  have h := (perm_all L).map (entL L)
  have e : (places L).map (entL L) = L.flatten := by
    unfold places
    rw [List.map_flatMap]
    have e1 : ∀ i, ((List.range (lenL L i)).map fun j => ((i, j) : PlL)).map (entL L) = rowL L i := fun i => by
      rw [List.map_map]
      refine List.ext_getElem (by simp [lenL, rowL]) fun j h1 h2 => ?_
      rw [List.getElem_map, List.getElem_range]
      exact (rowL_at h2).symm
    have e2 : (List.range L.length).map (rowL L) = L := by
      refine List.ext_getElem (by simp) fun j h1 h2 => ?_
      rw [List.getElem_map, List.getElem_range]
      simp [rowL, List.getD, h2]
    rw [show (fun a => List.map (entL L) (List.map (fun j => ((a, j) : PlL)) (List.range (lenL L a)))) = rowL L from funext e1]
    show ((List.range L.length).map (rowL L)).flatten = L.flatten
    rw [e2]
  rw [e] at h
  exact h
theorem all_le {L : List (List KV)} (hL : RiseL L) : (allL L).Pairwise fun a b => a.1.cmp b.1 ≤ 0 := by
  unfold allL
  refine List.pairwise_map.2 ((all_rises hL).imp fun {a b} h => ?_)
  rcases h with h | h
  · exact Int.le_of_lt h
  · exact Int.le_of_eq h.1
/-- All entries of lists that are one rising list's, in whatever parts. -/
theorem all_parts {L : List (List KV)} {l : List KV} (hL : RiseL L) (hl : RiseK l) (hp : L.flatten.Perm l) : allL L = l := by
  have h1 := (perm_flat L).trans hp
  have hne : l.Pairwise fun a b => a.1.cmp b.1 ≠ 0 := hl.imp fun h => by omega
  have hne2 : (allL L).Pairwise fun a b => a.1.cmp b.1 ≠ 0 := (h1.pairwise_iff (fun {a b} h => by rw [IK.cmp_turn]; omega)).2 hne
  have hlt : (allL L).Pairwise fun a b => a.1.cmp b.1 < 0 := (hne2.and (all_le hL)).imp fun ⟨h2, h3⟩ => by omega
  exact row_ext16 hlt hl (fun a _ b _ h h' => by rw [IK.cmp_turn] at h'; omega) fun x => h1.mem_iff
theorem riseL_one {l : List KV} (h : RiseK l) : RiseL [l] := fun m hm => by
  obtain rfl := List.mem_singleton.1 hm
  exact h
theorem riseK_one {l : List KV} (h : RiseL [l]) : RiseK l := h l (by simp)
theorem all_single {l : List KV} (hl : RiseK l) : allL [l] = l := all_parts (riseL_one hl) hl (by simp)
theorem all_flat_len (L : List (List KV)) : (allL L).length = L.flatten.length := (perm_flat L).length_eq
def w17a : KV := (⟨⟨#[97]⟩, 5, 0⟩, ⟨#[]⟩)
def w17b : KV := (⟨⟨#[97]⟩, 3, 1⟩, ⟨#[120]⟩)
def w17c : KV := (⟨⟨#[98]⟩, 4, 1⟩, ⟨#[121]⟩)
def w17l : List KV := [w17a, w17b, w17c]
theorem cmp17 (s t : Array UInt8) (q r : Nat) (k l : Int) : IK.cmp ⟨⟨s⟩, q, k⟩ ⟨⟨t⟩, r, l⟩ = kcmp s.toList t.toList (q : Int) (r : Int) k l := by
  unfold IK.cmp
  simp only
  rw [ByteArray.toList_eq, ByteArray.toList_eq]
theorem w17_rise : RiseK w17l := by
  have h1 : w17a.1.cmp w17b.1 < 0 := by show IK.cmp ⟨⟨#[97]⟩, 5, 0⟩ ⟨⟨#[97]⟩, 3, 1⟩ < 0; rw [cmp17]; decide +kernel
  have h2 : w17b.1.cmp w17c.1 < 0 := by show IK.cmp ⟨⟨#[97]⟩, 3, 1⟩ ⟨⟨#[98]⟩, 4, 1⟩ < 0; rw [cmp17]; decide +kernel
  have h3 := IK.cmp_trans h1 h2
  refine List.Pairwise.cons (fun x hx => ?_) (List.Pairwise.cons (fun x hx => ?_) (List.Pairwise.cons (fun x hx => by cases hx) List.Pairwise.nil))
  · simp only [List.mem_cons, List.not_mem_nil, or_false] at hx
    rcases hx with rfl | rfl
    · exact h1
    · exact h3
  · simp only [List.mem_cons, List.not_mem_nil, or_false] at hx
    subst hx
    exact h2
theorem w17_all : allL [w17l] = w17l := all_single w17_rise
theorem w17_four : seenL 4 w17l = [(⟨#[97]⟩, ⟨#[120]⟩), (⟨#[98]⟩, ⟨#[121]⟩)] := by
  simp [seenL, seenS, stepSn, w17l, w17a, w17b, w17c]
theorem w17_five : seenL 5 w17l = [(⟨#[98]⟩, ⟨#[121]⟩)] := by
  simp [seenL, seenS, stepSn, w17l, w17a, w17b, w17c]
end Go.Proofs.Ytjoamhcehpjepab
/- The statements' awake says yes, by what is asked of view's own. -/
namespace Go.Proofs.Ytjoamhcehpjepab
open Go.RowKit
set_option linter.unusedVariables false
set_option linter.unusedSimpArgs false
def a17one : Array Value := #[.string ⟨#[97]⟩, .int .u64 5, .int .i64 0, .string ⟨#[]⟩, .string ⟨#[97]⟩, .int .u64 3, .int .i64 1, .string ⟨#[120]⟩, .string ⟨#[98]⟩, .int .u64 4, .int .i64 1, .string ⟨#[121]⟩]
def a17row (n : Nat) : Array Value := #[.slice (some ⟨n, 0, none⟩) 3 3]
theorem KsAt.box17 {W : World} {q : Nat} {arr : Array Value} {l : List KV} {n : Nat} (h : Box W q TKV arr) (e : arr.toList = cellsKV l) (hn : l.length = n) (hm : n ≤ 1000000) : KsAt W (some ⟨q, 0, none⟩) n n l :=
  ⟨hn, Nat.le_refl _, by unfold maxLen; omega, fun _ => ⟨q, 0, rfl, fun j hj => by rw [Nat.zero_add, h.cell, ← Array.getElem?_toList, e]⟩⟩
/-- A row of one list. -/
theorem ls_one {W : World} {q r : Nat} {a : Option Addr} {n c : Nat} {l : List KV} (h : KsAt W a n c l) (hb : a = none → c = 0) (h3 : Box W r TRow #[.slice a n c]) : LsAt W (some ⟨r, 0, none⟩) 1 1 [l] := by
  refine ⟨rfl, Nat.le_refl _, by unfold maxLen; omega, fun e => (by cases e), fun _ => ⟨r, 0, rfl, fun i hi => ?_⟩⟩
  obtain rfl : i = 0 := by omega
  have e : (rowL [l] 0).length = n := h.size
  refine ⟨a, c, ?_, ?_, hb⟩
  · rw [e]; exact h3.cell 0
  · rw [e]; exact h
theorem few_one {l : List KV} (hl : l.length ≤ 2932031007317) (hw : ∀ e ∈ l, WfE e) : FewV [l] := ⟨by simp, by rw [all_flat_len]; simpa using hl, fun k hk => by rw [List.mem_singleton.1 hk]; exact hw⟩
theorem w17_wf : ∀ e ∈ w17l, WfE e := by
  intro e he
  simp only [w17l, List.mem_cons, List.not_mem_nil, or_false] at he
  rcases he with rfl | rfl | rfl <;> exact ⟨by decide, by decide, by decide⟩
set_option maxRecDepth 100000 in
set_option maxHeartbeats 2000000 in
theorem awake17 {D : VwRel} (F : VwOk D) (w : World) : Calls Try.prog 4 #[] w fun e w' => e = .returned (.bool true) ∧ Below w.heap.size w w' := by
  obtain ⟨W2, eW⟩ : ∃ W2, W2 = (w.alloc (.cells a17one TKV)).alloc (.cells (a17row w.heap.size) TRow) := ⟨_, rfl⟩
  have H2 : Hid (Below w.heap.size w W2 ∧ Box W2 w.heap.size TKV a17one ∧ Box W2 (w.heap.size + 1) TRow (a17row w.heap.size)) := by
    rw [eW]
    refine ⟨((Below.refl _ _).alloc (Nat.le_refl _) _).alloc (by simp) _, (Box.new _ _ _).alloc _, ?_⟩
    have := Box.new (w.alloc (.cells a17one TKV)) TRow (a17row w.heap.size)
    simpa using this
  have HNW : Hid (∀ (r : Nat) (s : Nat) (V : World), s < 18446744073709551616 → Below W2.heap.size W2 V → Box V r TRow (a17row w.heap.size) → Calls Try.prog 6 #[.slice (some ⟨r, 0, none⟩) 1 1, .int .u64 (s : Int)] V fun e w' => Below V.heap.size V w' ∧ ∃ p R, e = .returned (.tuple #[at_ p, .int .i64 0]) ∧ D w' R p (seenL s w17l) none ∧ ∀ k, R k → V.heap.size ≤ k) := fun r s V hs hV hr => by
    have hk : KsAt V (some ⟨w.heap.size, 0, none⟩) 3 3 w17l := KsAt.box17 (H2.out.2.1.kept (hV.block _ H2.out.2.1.lt)) rfl rfl (by decide)
    refine (F.new _ 1 1 [w17l] s V (ls_one (q := 0) hk (fun e => by cases e) hr) (few_one (by decide) w17_wf) hs).mono fun e w' ⟨h1, h2⟩ => ?_
    rw [w17_all] at h2
    rcases h2 with ⟨_, h2⟩ | ⟨h2, _⟩
    · exact ⟨h1, h2⟩
    · exact absurd (riseL_one w17_rise) h2
  have HN4 := HNW.out (w.heap.size + 1) 4 W2 (by decide) (Below.refl _ _) H2.out.2.2
  rw [w17_four] at HN4
  unfold a17one a17row TRow at eW
  go_enter Try.func4, Try.ntmps4
  go_wp2_with fail
  rw [← eW]
  refine HN4.mono ?_
  rintro _ V0 ⟨hb0, p, R0, rfl, hd0, hR0⟩
  have hN5 : Calls Try.prog 6 #[.slice (some ⟨V0.heap.size, 0, none⟩) 1 1, .int .u64 5] (V0.alloc (.cells #[.slice (some ⟨w.heap.size, 0, none⟩) 3 3] TRow)) fun e w' => Below (V0.alloc (.cells #[.slice (some ⟨w.heap.size, 0, none⟩) 3 3] TRow)).heap.size (V0.alloc (.cells #[.slice (some ⟨w.heap.size, 0, none⟩) 3 3] TRow)) w' ∧ ∃ p R, e = .returned (.tuple #[at_ p, .int .i64 0]) ∧ D w' R p [(⟨#[98]⟩, ⟨#[121]⟩)] none ∧ ∀ k, R k → (V0.alloc (.cells #[.slice (some ⟨w.heap.size, 0, none⟩) 3 3] TRow)).heap.size ≤ k := by
    have := HNW.out V0.heap.size 5 _ (by decide) (hb0.alloc hb0.size _) (Box.new V0 TRow (a17row w.heap.size))
    rw [w17_five] at this
    exact this
  have SV : Hid (VwS D W2 W2.heap.size V0 R0 p [(⟨#[97]⟩, ⟨#[120]⟩), (⟨#[98]⟩, ⟨#[121]⟩)] none (fun _ => False)) := VwS.made hd0 hb0 hb0.size hR0
  clear hb0 hd0 hR0 HN4 eW HNW
  go_wp2_with fail
  refine hN5.mono ?_
  rintro _ V1 ⟨hb1, q, Q, rfl, hd1, hQ⟩
  have S0 : Hid (VwS D W2 W2.heap.size V1 R0 p [(⟨#[97]⟩, ⟨#[120]⟩), (⟨#[98]⟩, ⟨#[121]⟩)] none (fun k => Q k) ∧ D V1 Q q [(⟨#[98]⟩, ⟨#[121]⟩)] none ∧ ∀ k, Q k → W2.heap.size ≤ k) := by
    have h1 := (SV.out.below F ((Below.refl _ _).alloc (Nat.le_refl _) (.cells #[.slice (some ⟨w.heap.size, 0, none⟩) 3 3] TRow))).below F hb1
    exact ⟨⟨h1.low, h1.top, h1.it, h1.ge, fun k hk => ⟨F.lt hd1 k hk, fun hr => by have := F.lt SV.out.it k hr; have := hQ k hk; simp at this; omega⟩⟩, hd1, fun k hk => by have := hQ k hk; have := SV.out.top; simp at *; omega⟩
  clear SV hN5 hb1 hd1 hQ
  go_wp2_with fail
  refine (F.first S0.out.1.it).mono ?_
  rintro _ V1x ⟨rfl, hp1⟩
  obtain ⟨R1, h1, k1, z1⟩ := S0.out.1.step hp1
  have S1 : Hid (VwS D W2 W2.heap.size V1x R1 p [(⟨#[97]⟩, ⟨#[120]⟩), (⟨#[98]⟩, ⟨#[121]⟩)] (some 0) (fun k => Q k) ∧ D V1x Q q [(⟨#[98]⟩, ⟨#[121]⟩)] none ∧ ∀ k, Q k → W2.heap.size ≤ k) := ⟨h1, F.kept S0.out.2.1 z1 fun k hk => k1 k hk, S0.out.2.2⟩
  clear S0 hp1 h1 k1 z1
  have hA : Calls Try.prog 10 #[at_ p] V1x fun e w' => e = .returned (.tuple #[.agg #[.string ⟨#[97]⟩, .string ⟨#[120]⟩], .bool true]) ∧ VwPost D R1 p [(⟨#[97]⟩, ⟨#[120]⟩), (⟨#[98]⟩, ⟨#[121]⟩)] (some 0) V1x w' := F.at' S1.out.1.it
  go_wp2_with fail
  refine hA.mono ?_
  rintro _ U1 ⟨rfl, hp2⟩
  obtain ⟨R2, h2, k2, z2⟩ := S1.out.1.step hp2
  have HX : Hid (Box (U1.alloc (.cells #[.string ⟨#[97]⟩, .string ⟨#[120]⟩] TItm)) U1.heap.size TItm #[.string ⟨#[97]⟩, .string ⟨#[120]⟩] ∧ VwS D W2 W2.heap.size (U1.alloc (.cells #[.string ⟨#[97]⟩, .string ⟨#[120]⟩] TItm)) R2 p [(⟨#[97]⟩, ⟨#[120]⟩), (⟨#[98]⟩, ⟨#[121]⟩)] (some 0) (fun k => (fun k => Q k) k ∨ k = U1.heap.size)) := ⟨Box.new _ _ _, h2.alloc F _⟩
  have HD : Hid (D (U1.alloc (.cells #[.string ⟨#[97]⟩, .string ⟨#[120]⟩] TItm)) Q q [(⟨#[98]⟩, ⟨#[121]⟩)] none ∧ (∀ k, Q k → k < U1.heap.size)) := by
    have hq := F.kept S1.out.2.1 z2 fun k hk => k2 k hk
    exact ⟨F.kept hq (by simp) fun k hk => Below.heap_alloc _ _ k (F.lt hq k hk), F.lt hq⟩
  have HQ0 : Hid (∀ k, Q k → W2.heap.size ≤ k) := S1.out.2.2
  clear S1 hp2 h2 k2 z2 hA
  go_wp2_with fail
  obtain ⟨V2, eV⟩ : ∃ V, V = U1.alloc (.cells #[.string ⟨#[97]⟩, .string ⟨#[120]⟩] TItm) := ⟨_, rfl⟩
  obtain ⟨e0, ee⟩ : ∃ e, e = U1.heap.size := ⟨_, rfl⟩
  rw [← eV, ← ee] at HX
  rw [← eV]
  try rw [← ee]
  rw [← eV, ← ee] at HD
  have S2 : Hid (VwS D W2 W2.heap.size V2 R2 p [(⟨#[97]⟩, ⟨#[120]⟩), (⟨#[98]⟩, ⟨#[121]⟩)] (some 0) (fun k => (fun k => Q k) k ∨ k = e0) ∧ D V2 Q q [(⟨#[98]⟩, ⟨#[121]⟩)] none ∧ ∀ k, Q k → W2.heap.size ≤ k) := ⟨HX.out.2, HD.out.1, HQ0.out⟩
  have E0 : Hid (∀ k, Q k → k < e0) := HD.out.2
  clear HD HQ0
  have B20 : Hid (Box V2 e0 TItm #[.string ⟨#[97]⟩, .string ⟨#[120]⟩]) := HX.out.1
  clear eV ee HX
  go_wp2_with fail
  refine (F.next S2.out.1.it).mono ?_
  rintro _ V3x ⟨rfl, hp3⟩
  obtain ⟨R3, h3, k3, z3⟩ := S2.out.1.step hp3
  have S3 : Hid (VwS D W2 W2.heap.size V3x R3 p [(⟨#[97]⟩, ⟨#[120]⟩), (⟨#[98]⟩, ⟨#[121]⟩)] (some 1) (fun k => (fun k => Q k) k ∨ k = e0) ∧ D V3x Q q [(⟨#[98]⟩, ⟨#[121]⟩)] none ∧ ∀ k, Q k → W2.heap.size ≤ k) := ⟨h3, F.kept S2.out.2.1 z3 fun k hk => k3 k (.inl hk), S2.out.2.2⟩
  have B30 : Hid (Box V3x e0 TItm #[.string ⟨#[97]⟩, .string ⟨#[120]⟩]) := B20.out.kept (k3 _ (.inr rfl))
  clear S2 hp3 h3 k3 z3 B20
  have hA : Calls Try.prog 10 #[at_ p] V3x fun e w' => e = .returned (.tuple #[.agg #[.string ⟨#[98]⟩, .string ⟨#[121]⟩], .bool true]) ∧ VwPost D R3 p [(⟨#[97]⟩, ⟨#[120]⟩), (⟨#[98]⟩, ⟨#[121]⟩)] (some 1) V3x w' := F.at' S3.out.1.it
  go_wp2_with fail
  refine hA.mono ?_
  rintro _ U3 ⟨rfl, hp4⟩
  obtain ⟨R4, h4, k4, z4⟩ := S3.out.1.step hp4
  have HX : Hid (Box (U3.alloc (.cells #[.string ⟨#[98]⟩, .string ⟨#[121]⟩] TItm)) U3.heap.size TItm #[.string ⟨#[98]⟩, .string ⟨#[121]⟩] ∧ VwS D W2 W2.heap.size (U3.alloc (.cells #[.string ⟨#[98]⟩, .string ⟨#[121]⟩] TItm)) R4 p [(⟨#[97]⟩, ⟨#[120]⟩), (⟨#[98]⟩, ⟨#[121]⟩)] (some 1) (fun k => (fun k => (fun k => Q k) k ∨ k = e0) k ∨ k = U3.heap.size)) := ⟨Box.new _ _ _, h4.alloc F _⟩
  have HD : Hid (D (U3.alloc (.cells #[.string ⟨#[98]⟩, .string ⟨#[121]⟩] TItm)) Q q [(⟨#[98]⟩, ⟨#[121]⟩)] none ∧ (∀ k, Q k → k < U3.heap.size)) := by
    have hq := F.kept S3.out.2.1 z4 fun k hk => k4 k (.inl hk)
    exact ⟨F.kept hq (by simp) fun k hk => Below.heap_alloc _ _ k (F.lt hq k hk), F.lt hq⟩
  have C40 : Hid (Box (U3.alloc (.cells #[.string ⟨#[98]⟩, .string ⟨#[121]⟩] TItm)) e0 TItm #[.string ⟨#[97]⟩, .string ⟨#[120]⟩]) := (B30.out.kept (k4 _ (.inr rfl))).alloc _
  have HQ1 : Hid (∀ k, Q k → W2.heap.size ≤ k) := S3.out.2.2
  clear S3 hp4 h4 k4 z4 hA B30
  go_wp2_with fail
  obtain ⟨V4, eV⟩ : ∃ V, V = U3.alloc (.cells #[.string ⟨#[98]⟩, .string ⟨#[121]⟩] TItm) := ⟨_, rfl⟩
  obtain ⟨e1, ee⟩ : ∃ e, e = U3.heap.size := ⟨_, rfl⟩
  rw [← eV, ← ee] at HX
  rw [← eV]
  try rw [← ee]
  rw [← eV, ← ee] at HD
  have B40 : Hid (Box V4 e0 TItm #[.string ⟨#[97]⟩, .string ⟨#[120]⟩]) := by rw [eV]; exact C40.out
  clear C40
  have S4 : Hid (VwS D W2 W2.heap.size V4 R4 p [(⟨#[97]⟩, ⟨#[120]⟩), (⟨#[98]⟩, ⟨#[121]⟩)] (some 1) (fun k => (fun k => (fun k => Q k) k ∨ k = e0) k ∨ k = e1) ∧ D V4 Q q [(⟨#[98]⟩, ⟨#[121]⟩)] none ∧ ∀ k, Q k → W2.heap.size ≤ k) := ⟨HX.out.2, HD.out.1, HQ1.out⟩
  have E1 : Hid (∀ k, Q k → k < e1) := HD.out.2
  clear HD HQ1
  have B41 : Hid (Box V4 e1 TItm #[.string ⟨#[98]⟩, .string ⟨#[121]⟩]) := HX.out.1
  clear eV ee HX
  have T4 : Hid (VwS D W2 W2.heap.size V4 Q q [(⟨#[98]⟩, ⟨#[121]⟩)] none (fun k => k = e0 ∨ k = e1)) := ⟨S4.out.1.low, S4.out.1.top, S4.out.2.1, S4.out.2.2, fun k hk => by
    rcases hk with rfl | rfl
    · exact ⟨B40.out.lt, fun hq => Nat.lt_irrefl _ (E0.out _ hq)⟩
    · exact ⟨B41.out.lt, fun hq => Nat.lt_irrefl _ (E1.out _ hq)⟩⟩
  clear S4 E0 E1
  go_wp2_with fail
  refine (F.first T4.out.it).mono ?_
  rintro _ V5x ⟨rfl, hp5⟩
  obtain ⟨R5, h5, k5, z5⟩ := T4.out.step hp5
  have T5 : Hid (VwS D W2 W2.heap.size V5x R5 q [(⟨#[98]⟩, ⟨#[121]⟩)] (some 0) (fun k => k = e0 ∨ k = e1)) := h5
  have B50 : Hid (Box V5x e0 TItm #[.string ⟨#[97]⟩, .string ⟨#[120]⟩]) := B40.out.kept (k5 _ (.inl rfl))
  have B51 : Hid (Box V5x e1 TItm #[.string ⟨#[98]⟩, .string ⟨#[121]⟩]) := B41.out.kept (k5 _ (.inr rfl))
  clear T4 hp5 h5 k5 z5 B40 B41
  have hA : Calls Try.prog 10 #[at_ q] V5x fun e w' => e = .returned (.tuple #[.agg #[.string ⟨#[98]⟩, .string ⟨#[121]⟩], .bool true]) ∧ VwPost D R5 q [(⟨#[98]⟩, ⟨#[121]⟩)] (some 0) V5x w' := F.at' T5.out.it
  go_wp2_with fail
  refine hA.mono ?_
  rintro _ U5 ⟨rfl, hp6⟩
  obtain ⟨R6, h6, k6, z6⟩ := T5.out.step hp6
  have HX : Hid (Box (U5.alloc (.cells #[.string ⟨#[98]⟩, .string ⟨#[121]⟩] TItm)) U5.heap.size TItm #[.string ⟨#[98]⟩, .string ⟨#[121]⟩] ∧ VwS D W2 W2.heap.size (U5.alloc (.cells #[.string ⟨#[98]⟩, .string ⟨#[121]⟩] TItm)) R6 q [(⟨#[98]⟩, ⟨#[121]⟩)] (some 0) (fun k => (fun k => k = e0 ∨ k = e1) k ∨ k = U5.heap.size)) := ⟨Box.new _ _ _, h6.alloc F _⟩
  have C60 : Hid (Box (U5.alloc (.cells #[.string ⟨#[98]⟩, .string ⟨#[121]⟩] TItm)) e0 TItm #[.string ⟨#[97]⟩, .string ⟨#[120]⟩]) := (B50.out.kept (k6 _ (.inl rfl))).alloc _
  have C61 : Hid (Box (U5.alloc (.cells #[.string ⟨#[98]⟩, .string ⟨#[121]⟩] TItm)) e1 TItm #[.string ⟨#[98]⟩, .string ⟨#[121]⟩]) := (B51.out.kept (k6 _ (.inr rfl))).alloc _
  clear T5 hp6 h6 k6 z6 hA B50 B51
  go_wp2_with fail
  obtain ⟨V6, eV⟩ : ∃ V, V = U5.alloc (.cells #[.string ⟨#[98]⟩, .string ⟨#[121]⟩] TItm) := ⟨_, rfl⟩
  obtain ⟨e2, ee⟩ : ∃ e, e = U5.heap.size := ⟨_, rfl⟩
  rw [← eV, ← ee] at HX
  rw [← eV]
  try rw [← ee]
  have B60 : Hid (Box V6 e0 TItm #[.string ⟨#[97]⟩, .string ⟨#[120]⟩]) := by rw [eV]; exact C60.out
  clear C60
  have B61 : Hid (Box V6 e1 TItm #[.string ⟨#[98]⟩, .string ⟨#[121]⟩]) := by rw [eV]; exact C61.out
  clear C61
  have T6 : Hid (VwS D W2 W2.heap.size V6 R6 q [(⟨#[98]⟩, ⟨#[121]⟩)] (some 0) (fun k => (fun k => k = e0 ∨ k = e1) k ∨ k = e2)) := HX.out.2
  have B62 : Hid (Box V6 e2 TItm #[.string ⟨#[98]⟩, .string ⟨#[121]⟩]) := HX.out.1
  clear eV ee HX
  go_wp2_with fail
  refine (F.prev T6.out.it).mono ?_
  rintro _ V7x ⟨rfl, hp7⟩
  obtain ⟨R7, h7, k7, z7⟩ := T6.out.step hp7
  have T7 : Hid (VwS D W2 W2.heap.size V7x R7 q [(⟨#[98]⟩, ⟨#[121]⟩)] (none) (fun k => (fun k => k = e0 ∨ k = e1) k ∨ k = e2)) := h7
  have B70 : Hid (Box V7x e0 TItm #[.string ⟨#[97]⟩, .string ⟨#[120]⟩]) := B60.out.kept (k7 _ (.inl (.inl rfl)))
  have B71 : Hid (Box V7x e1 TItm #[.string ⟨#[98]⟩, .string ⟨#[121]⟩]) := B61.out.kept (k7 _ (.inl (.inr rfl)))
  have B72 : Hid (Box V7x e2 TItm #[.string ⟨#[98]⟩, .string ⟨#[121]⟩]) := B62.out.kept (k7 _ (.inr rfl))
  clear T6 hp7 h7 k7 z7 B60 B61 B62
  have hA : Calls Try.prog 10 #[at_ q] V7x fun e w' => e = .returned (.tuple #[.agg #[.string ⟨#[]⟩, .string ⟨#[]⟩], .bool false]) ∧ VwPost D R7 q [(⟨#[98]⟩, ⟨#[121]⟩)] (none) V7x w' := F.at' T7.out.it
  go_wp2_with fail
  refine hA.mono ?_
  rintro _ U7 ⟨rfl, hp8⟩
  obtain ⟨R8, h8, k8, z8⟩ := T7.out.step hp8
  have HX : Hid (Box (U7.alloc (.cells #[.string ⟨#[]⟩, .string ⟨#[]⟩] TItm)) U7.heap.size TItm #[.string ⟨#[]⟩, .string ⟨#[]⟩] ∧ VwS D W2 W2.heap.size (U7.alloc (.cells #[.string ⟨#[]⟩, .string ⟨#[]⟩] TItm)) R8 q [(⟨#[98]⟩, ⟨#[121]⟩)] (none) (fun k => (fun k => (fun k => k = e0 ∨ k = e1) k ∨ k = e2) k ∨ k = U7.heap.size)) := ⟨Box.new _ _ _, h8.alloc F _⟩
  have C80 : Hid (Box (U7.alloc (.cells #[.string ⟨#[]⟩, .string ⟨#[]⟩] TItm)) e0 TItm #[.string ⟨#[97]⟩, .string ⟨#[120]⟩]) := (B70.out.kept (k8 _ (.inl (.inl rfl)))).alloc _
  have C81 : Hid (Box (U7.alloc (.cells #[.string ⟨#[]⟩, .string ⟨#[]⟩] TItm)) e1 TItm #[.string ⟨#[98]⟩, .string ⟨#[121]⟩]) := (B71.out.kept (k8 _ (.inl (.inr rfl)))).alloc _
  have C82 : Hid (Box (U7.alloc (.cells #[.string ⟨#[]⟩, .string ⟨#[]⟩] TItm)) e2 TItm #[.string ⟨#[98]⟩, .string ⟨#[121]⟩]) := (B72.out.kept (k8 _ (.inr rfl))).alloc _
  clear T7 hp8 h8 k8 z8 hA B70 B71 B72
  go_upto_region 14 with fail
  obtain ⟨V8, eV⟩ : ∃ V, V = U7.alloc (.cells #[.string ⟨#[]⟩, .string ⟨#[]⟩] TItm) := ⟨_, rfl⟩
  obtain ⟨e3, ee⟩ : ∃ e, e = U7.heap.size := ⟨_, rfl⟩
  rw [← eV, ← ee] at HX
  rw [← eV]
  try rw [← ee]
  have B80 : Hid (Box V8 e0 TItm #[.string ⟨#[97]⟩, .string ⟨#[120]⟩]) := by rw [eV]; exact C80.out
  clear C80
  have B81 : Hid (Box V8 e1 TItm #[.string ⟨#[98]⟩, .string ⟨#[121]⟩]) := by rw [eV]; exact C81.out
  clear C81
  have B82 : Hid (Box V8 e2 TItm #[.string ⟨#[98]⟩, .string ⟨#[121]⟩]) := by rw [eV]; exact C82.out
  clear C82
  have T8 : Hid (VwS D W2 W2.heap.size V8 R8 q [(⟨#[98]⟩, ⟨#[121]⟩)] (none) (fun k => (fun k => (fun k => k = e0 ∨ k = e1) k ∨ k = e2) k ∨ k = e3)) := HX.out.2
  have B83 : Hid (Box V8 e3 TItm #[.string ⟨#[]⟩, .string ⟨#[]⟩]) := HX.out.1
  clear eV ee HX
  have a0 := (B80.out).cell 0
  have a1 := (B80.out).cell 1
  have b0 := (B81.out).cell 0
  have b1 := (B81.out).cell 1
  have c0 := (B82.out).cell 0
  have c1 := (B82.out).cell 1
  simp only [List.getElem?_toArray, List.getElem?_cons_succ, List.getElem?_cons_zero] at a0 a1 b0 b1 c0 c1
  have heq1 : ∀ V : World, (binOp .eql TItm (.agg #[.string ⟨#[97]⟩, .string ⟨#[120]⟩]) (.agg #[.string ⟨#[97]⟩, .string ⟨#[120]⟩])).run Try.prog V = .ok (.bool true) V := fun V => by
    simp [go_sem, Try.underlying39, Try.underlying9]
  have heq2 : ∀ V : World, (binOp .eql TItm (.agg #[.string ⟨#[98]⟩, .string ⟨#[121]⟩]) (.agg #[.string ⟨#[98]⟩, .string ⟨#[121]⟩])).run Try.prog V = .ok (.bool true) V := fun V => by
    simp [go_sem, Try.underlying39, Try.underlying9]
  have HB : Hid (Below w.heap.size w V8) := H2.out.1.trans (T8.out.low.mono H2.out.1.size)
  clear B80 B81 B82 B83 T8
  go_wp2
  go_ret
  exact ⟨ret1 rfl, HB.out⟩
end Go.Proofs.Ytjoamhcehpjepab
/- Lists behind a literal one. -/
namespace Go.Proofs.Ytjoamhcehpjepab
open Go.RowKit
set_option linter.unusedVariables false
set_option linter.unusedSimpArgs false
/-- The slices of lists. -/
theorem LsAt.vals17 {w : World} {a : Option Addr} {n c : Nat} {L : List (List KV)} (h : LsAt w a n c L) : ∃ vs : List Value, vs.length = n ∧ (∀ j, j < n → ∃ v, vs[j]? = some v ∧ SlR w v (rowL L j)) ∧ (0 < n → ∃ b off, a = some ⟨b, off, none⟩ ∧ ∀ j, j < n → w.cell? ⟨b, off + j, none⟩ = vs[j]?) := by
  by_cases hp : 0 < n
  · obtain ⟨b, off, hab, hc⟩ := h.here hp
    have hget : ∀ j, j < n → ((List.range n).map fun j => (w.cell? ⟨b, off + j, none⟩).getD (.slice none 0 0))[j]? = some ((w.cell? ⟨b, off + j, none⟩).getD (.slice none 0 0)) := fun j hj => by
      rw [List.getElem?_map, List.getElem?_range hj]; rfl
    refine ⟨(List.range n).map fun j => (w.cell? ⟨b, off + j, none⟩).getD (.slice none 0 0), by simp, fun j hj => ?_, fun _ => ⟨b, off, hab, fun j hj => ?_⟩⟩
    · obtain ⟨ai, ci, h1, h2, h3⟩ := hc j hj
      refine ⟨_, hget j hj, ai, ci, ?_, h2, h3⟩
      rw [h1]; rfl
    · obtain ⟨ai, ci, h1, h2, h3⟩ := hc j hj
      rw [hget j hj, h1]; rfl
  · obtain rfl : n = 0 := by omega
    exact ⟨[], rfl, fun j hj => absurd hj (Nat.not_lt_zero _), fun h => absurd h (Nat.lt_irrefl _)⟩
theorem SlR.one {w : World} {v : Value} {l : List KV} (h : SlR w v l) : v.oneCell' = true := by
  obtain ⟨aj, cj, rfl, _⟩ := h
  rfl
theorem wpList_consL (W : World) {ops : Array Oper} {rest : List Oper} {o : Oper} {a : Act} {Q : Exit → Act → World → Prop} (hgd : o.guard = none) (s x : Operand)
    (ho : o.op = .call { callee := .builtin .append, args := #[s, x], argTypes := #[22, 22] })
    (v : Value) (l : List KV) (hv : SlR W v l) (g : Nat) (hg : g = W.heap.size) (hs : a.eval s = .slice (some ⟨g, 0, none⟩) 1 1)
    (a2 : Option Addr) (n c : Nat) (L : List (List KV)) (hL : LsAt W a2 n c L) (hx : a.eval x = .slice a2 n c) (hn : n ≤ 1000000)
    (h : ∀ a' c' w', LsAt w' a' (1 + n) c' (l :: L) → Below W.heap.size W w' → wpList Try.prog ops Q rest (a.put o.dst (.slice a' (1 + n) c')) w') :
    wpList Try.prog ops Q (o :: rest) a (W.alloc (.cells #[v] TRow)) := by
  subst hg
  obtain ⟨vs, hvl, hvs, hcs⟩ := hL.vals17
  have hone : ∀ u ∈ vs, u.oneCell' = true := fun u hu => by
    obtain ⟨j, hj, rfl⟩ := List.getElem_of_mem hu
    obtain ⟨v', h1, h2⟩ := hvs j (by omega)
    rw [List.getElem?_eq_getElem hj] at h1
    rw [Option.some.inj h1]
    exact h2.one
  have hown : (W.alloc (.cells #[v] TRow)).ownsRow W.heap.size TRow 1 (.slice (some ⟨W.heap.size, 0, none⟩) 1 1) 1 [v] := ⟨by simp, .inr ⟨W.heap.size, 1, #[v], rfl, Nat.le_refl _, heap_alloc_new W _, Nat.le_refl _, by unfold maxLen; omega, by simp, by simp⟩⟩
  refine wpList_appV (W.alloc (.cells #[v] TRow)) hgd s x _ TRow ho Try.underlying22 _ 1 24 infoRow rfl (by decide) W.heap.size (some ⟨W.heap.size, 0, none⟩) 1 1 [v] hs hown a2 n c vs hx (fun e => ?_) (by omega) (fun ad e j u hu => ?_) hone (by unfold maxLen; omega) (by omega) (by simp) ?_
  · have := hL.bare e
    have := hL.le
    omega
  · have hj : j < n := by have := (List.getElem?_eq_some_iff.1 hu).1; omega
    obtain ⟨b, off, he, hc⟩ := hcs (by omega)
    rw [he] at e
    obtain rfl := Option.some.inj e
    rw [Addr.add_lit]
    have h1 : W.cell? ⟨b, off + j, none⟩ = some u := (hc j hj).trans hu
    rw [((Below.refl _ _).alloc (Nat.le_refl _) _ : Below W.heap.size W (W.alloc (.cells #[v] TRow))).cell (World.block_lt_of_cell? W _ h1)]
    exact h1
  · intro a' c' w' hr hb hg
    have hbw : Below W.heap.size W w' := ((Below.refl _ _).alloc (Nat.le_refl _) _).trans hb
    refine h a' c' w' (OwnSl.ls (B := W.heap.size) (vs := [v] ++ vs) ⟨by simp [hvl]; omega, hr⟩ (by simp [hL.size]; omega) fun j hj => ?_) hbw
    cases j with
    | zero => exact ⟨v, rfl, hv.below hbw⟩
    | succ j =>
      obtain ⟨v', h1, h2⟩ := hvs j (by omega)
      refine ⟨v', by simpa using h1, ?_⟩
      have e : rowL (l :: L) (j + 1) = rowL L j := by simp [rowL, List.getD]
      rw [e]
      exact h2.below hbw
/-- An item onto a row of the call's own, by what lies below. -/
theorem wpList_pushIB (W : World) {ops : Array Oper} {rest : List Oper} {o : Oper} {a : Act} {Q : Exit → Act → World → Prop} (hgd : o.guard = none) (s x : Operand)
    (ho : o.op = .call { callee := .builtin .append, args := #[s, x], argTypes := #[35, 35] })
    (B : Nat) (a1 : Option Addr) (n1 c1 : Nat) (l : List It17) (hs : a.eval s = .slice a1 n1 c1) (hown : OwnI W B a1 n1 c1 l)
    (v : It17) (cv : Array Value) (hcv : cv.toList = cellsI [v]) (g : Nat) (hg : g = W.heap.size) (hx : a.eval x = .slice (some ⟨g, 0, none⟩) 1 1)
    (hb : n1 + 1 ≤ 2000000000000) (hB : B ≤ W.heap.size)
    (h : ∀ a' c' w', OwnI w' B a' (n1 + 1) c' (l ++ [v]) → Below B W w' → wpList Try.prog ops Q rest (a.put o.dst (.slice a' (n1 + 1) c')) w') :
    wpList Try.prog ops Q (o :: rest) a (W.alloc (.cells cv TItm)) := by
  refine wpList_pushLI W hgd s x ho B a1 n1 c1 l hs hown v cv hcv g hg hx hb hB fun a' c' w' h1 h2 h3 => h a' c' w' h1 ?_
  have hc : Chg (fun k => blkOf a1 = some k) W w' := ((Chg.refl _ W).alloc (.cells cv TItm)).andThen (R' := fun k => blkOf a1 = some k) (Chg.grown h2) (fun _ _ x => x)
  exact hc.below (fun k hk => (hown.ge hk).1) hB
section
variable {D : VwRel} {Wn Wy Wz Ww W8 : World} {M : Nat} {Rx Ry Rz : Nat → Prop} {px py pz : Nat} {Ix Iy Iz : List It17}
/-- Three that were made one behind another. -/
theorem three17 (F : VwOk D) (hM : M ≤ Wy.heap.size) (hb1 : Below M Wn Wy) (hy : D Wy Ry py Iy none) (hRy : ∀ k, Ry k → M ≤ k)
    (hb2 : Below Wy.heap.size Wy Wz) (hz : D Wz Rz pz Iz none) (hRz : ∀ k, Rz k → Wy.heap.size ≤ k)
    (hb3 : Below Wz.heap.size Wz Ww) (hx : D Ww Rx px Ix none) (hRx : ∀ k, Rx k → Wz.heap.size ≤ k) :
    VwS D Wn M Ww Rx px Ix none (fun k => Ry k ∨ Rz k) ∧ D Ww Ry py Iy none ∧ D Ww Rz pz Iz none ∧ (∀ k, Rz k → M ≤ k ∧ ¬ Ry k) := by
  have hby : Below Wy.heap.size Wy Ww := hb2.trans (hb3.mono hb2.size)
  have hlt := F.lt hy
  have hltz := F.lt hz
  refine ⟨⟨hb1.trans (hby.mono hM), Nat.le_trans hM hby.size, hx, fun k hk => Nat.le_trans hM (Nat.le_trans hb2.size (hRx k hk)), fun k hk => ?_⟩, F.kept hy hby.size fun k hk => hby.block k (hlt k hk), F.kept hz hb3.size fun k hk => hb3.block k (hltz k hk), fun k hk => ⟨Nat.le_trans hM (hRz k hk), fun hr => ?_⟩⟩
  · rcases hk with hk | hk
    · have h1 := hlt k hk
      have h2 := hby.size
      have h3 := hb2.size
      exact ⟨by omega, fun hr => by have := hRx k hr; omega⟩
    · have h1 := hltz k hk
      have h2 := hb3.size
      exact ⟨by omega, fun hr => by have := hRx k hr; omega⟩
  · have h1 := hRz k hk
    have h2 := hlt k hr
    omega
/-- Behind all that the one tells: the next one. -/
theorem next17 (F : VwOk D) {K K' : Nat → Prop} {a : Option Addr} {c n : Nat} {R' : Nat → Prop} {o : Option Nat} (h : AlS D Wn M Ww W8 px Ix o K n a c R') (hK : ∀ k, Ry k → K k) (hy : D Ww Ry py Iy none) (hM : ∀ k, Ry k → M ≤ k) (hK' : ∀ k, K' k → (K k ∧ ¬ Ry k) ∨ blkOf a = some k) : VwS D Wn M W8 Ry py Iy none K' :=
  ⟨h.vw.low, h.vw.top, F.kept hy h.size (fun k hk => h.low k (hK k hk)), hM, fun k hk => by
    rcases hK' k hk with ⟨h1, h2⟩ | h1
    · exact ⟨Nat.lt_of_lt_of_le (h.old k h1) h.size, h2⟩
    · exact ⟨tag_lt (h.own.tag h1), fun hr => by
        have := (h.own.ge h1).1
        have := F.lt hy k hr
        omega⟩⟩
theorem AlS.full {K : Nat → Prop} {a : Option Addr} {c : Nat} {R' : Nat → Prop} {o : Option Nat} (h : AlS D Wn M Ww W8 px Ix o K Ix.length a c R') : OwnI W8 Ww.heap.size a Ix.length c Ix := by
  have := h.own
  rw [List.take_length] at this
  exact this
end
/-- A literal row of one entry, in a world of its own. -/
theorem ks_lit17 {W : World} {q : Nat} {u v : ByteArray} {s : Nat} {kd : Int} (h : Box W q TKV #[.string u, .int .u64 (s : Int), .int .i64 kd, .string v]) : SlR W (.slice (some ⟨q, 0, none⟩) 1 1) [(⟨u, s, kd⟩, v)] :=
  ⟨some ⟨q, 0, none⟩, 1, rfl, KsAt.box17 h rfl rfl (by simp), fun e => by cases e⟩
end Go.Proofs.Ytjoamhcehpjepab
/- A view, and all that it has told, side by side. -/
namespace Go.Proofs.Ytjoamhcehpjepab
open Go.RowKit
set_option linter.unusedVariables false
set_option linter.unusedSimpArgs false
theorem sum_step (v : Nat → Nat) (i : Nat) : sumV v (i + 1) = sumV v i + v i := rfl
theorem all_sum (L : List (List KV)) : sumV (lenL L) L.length = (allL L).length := by rw [← all_len]; simp [allL]
theorem sum_mono (v : Nat → Nat) {i n : Nat} (h : i ≤ n) : sumV v i ≤ sumV v n := by
  induction n with
  | zero => have : i = 0 := by omega
            subst this; exact Nat.le_refl _
  | succ n ih =>
    by_cases e : i = n + 1
    · subst e; exact Nat.le_refl _
    · have := ih (by omega)
      show sumV v i ≤ sumV v n + v n
      omega
theorem LsAt.lens {w : World} {a : Option Addr} {n c : Nat} {L : List (List KV)} (h : LsAt w a n c L) {i : Nat} (hi : i < n) :
    ∃ (b o : Nat) (ai : Option Addr) (ci : Nat), (∀ W : World, (Instr.indexAt 22 (.slice a n c) (.int .i64 (i : Int))).run Try.prog W = .ok (.pointer (some ⟨b, o, none⟩)) W) ∧
      (∀ W, Below w.heap.size w W → W.cell? ⟨b, o, none⟩ = some (.slice ai (lenL L i) ci)) ∧ KsAt w ai (lenL L i) ci (rowL L i) := by
  obtain ⟨b, off, hx, hb, hc⟩ := h.spots (by omega)
  obtain ⟨ai, ci, h1, h2, _⟩ := hc i hi
  exact ⟨b, off + i, ai, ci, hx i hi, h1, h2⟩
/-- Ahead of what stands at j. -/
def back7 (j : Nat) : Option Nat := if j = 0 then none else some (j - 1)
theorem told7_back {I : List It17} {j : Nat} (h : j < I.length) : told7 I (back7 (j + 1)) = (I[j], true) := by
  unfold back7
  rw [if_neg (by omega)]
  simp [told7, List.getD, h]
theorem prev7_back {I : List It17} {j : Nat} (u : ByteArray) : go7 I 5 u (back7 (j + 1)) = back7 j := by
  conv => lhs; unfold back7
  rw [if_neg (by omega)]
  rfl
theorem last7_back {I : List It17} (u : ByteArray) (o : Option Nat) : go7 I 2 u o = back7 I.length := rfl
structure Lv (D : VwRel) (Wn : World) (M : Nat) (W : World) (p : Nat) (I : List It17) (o : Option Nat) (B : Nat) (a : Option Addr) (c : Nat) (R : Nat → Prop) : Prop where
  vw : VwS D Wn M W R p I o (fun k => blkOf a = some k)
  own : OwnI W B a I.length c I
theorem Lv.of {D : VwRel} {Wn : World} {M : Nat} {W0 W : World} {p : Nat} {I : List It17} {o : Option Nat} {K : Nat → Prop} {a : Option Addr} {c : Nat} {R : Nat → Prop} (h : AlS D Wn M W0 W p I o K I.length a c R) : Lv D Wn M W p I o W0.heap.size a c R := ⟨h.vw.less fun k hk => .inr hk, by
  have := h.own
  rw [List.take_length] at this
  exact this⟩
theorem Lv.step {D : VwRel} {Wn : World} {M : Nat} {W W' : World} {p : Nat} {I : List It17} {o o' : Option Nat} {B : Nat} {a : Option Addr} {c : Nat} {R : Nat → Prop} (h : Lv D Wn M W p I o B a c R) (hp : VwPost D R p I o' W W') : ∃ R', Lv D Wn M W' p I o' B a c R' := by
  obtain ⟨R', h1, h2, _⟩ := h.vw.step hp
  exact ⟨R', h1, h.own.kept h2⟩
theorem Lv.below {D : VwRel} (F : VwOk D) {Wn : World} {M : Nat} {W W' : World} {p : Nat} {I : List It17} {o : Option Nat} {B : Nat} {a : Option Addr} {c : Nat} {R : Nat → Prop} (h : Lv D Wn M W p I o B a c R) (hb : Below W.heap.size W W') : Lv D Wn M W' p I o B a c R := ⟨h.vw.below F hb, h.own.below hb⟩
theorem Lv.at' {D : VwRel} (F : VwOk D) {Wn : World} {M : Nat} {W : World} {p : Nat} {I : List It17} {o : Option Nat} {B : Nat} {a : Option Addr} {c : Nat} {R : Nat → Prop} (h : Lv D Wn M W p I o B a c R) {e : It17} {b : Bool} (he : told7 I o = (e, b)) : Calls Try.prog 10 #[at_ p] W fun x w' => x = .returned (.tuple #[.agg #[.string e.1, .string e.2], .bool b]) ∧ ∃ R', Lv D Wn M w' p I o B a c R' := by
  have := F.at' h.vw.it
  rw [he] at this
  refine this.mono fun x w' ⟨h1, h2⟩ => ⟨h1, h.step h2⟩
end Go.Proofs.Ytjoamhcehpjepab
