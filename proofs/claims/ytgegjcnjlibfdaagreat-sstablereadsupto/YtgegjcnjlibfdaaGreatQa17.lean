/- The contract of sstable's stored.read: a block that has entries. -/
import Derived.Test.YtgegjcnjlibfdaaGreatQa12
import Derived.Test.YtgegjcnjlibfdaaGreatQa07
import Derived.Test.YtgegjcnjlibfdaaGreatC11OpenA
import Derived.Test.YtgegjcnjlibfdaaGreatQa09
import Derived.Test.YtgegjcnjlibfdaaGreatQa13
namespace Go.Proofs.YtgegjcnjlibfdaaGreat
set_option maxRecDepth 100000
open Go.RowKit
set_option linter.unusedVariables false
set_option linter.unusedSimpArgs false
abbrev TSt : TypeId := 99
def stA (a : Option Addr) (n c : Nat) (k : IK) : Array Value := #[.slice a n c, .string k.user, .int .u64 (k.seq : Int), .int .i64 k.kind]
theorem readS_1 {p : List UInt8} {k : IK} (h : okP p = false) : readS p k = .error 122 := by unfold readS; rw [if_pos h]
theorem readS_2 {p : List UInt8} {k : IK} (h : okP p = true) (h2 : openP (bodyB p) = none) : readS p k = .error 121 := by unfold readS; rw [if_neg (by rw [h]; simp), h2]
theorem readS_3 {p : List UInt8} {k : IK} {ss : List (List UInt8)} {ls : List (List KV)} (h : okP p = true) (h2 : openP (bodyB p) = some (ss, ls)) (h3 : lastIs ls.flatten k = false) : readS p k = .error 121 := by unfold readS; rw [if_neg (by rw [h]; simp), h2]; simp [h3]
theorem readS_4 {p : List UInt8} {k : IK} {ss : List (List UInt8)} {ls : List (List KV)} (h : okP p = true) (h2 : openP (bodyB p) = some (ss, ls)) (h3 : lastIs ls.flatten k = true) : readS p k = .ok ls.flatten := by unfold readS; rw [if_neg (by rw [h]; simp), h2]; simp [h3]
theorem lastIs_at {l : List KV} {k : IK} (h : 0 < l.length) : lastIs l k = sameK (l[l.length - 1]'(by omega)).1 k := by
  unfold lastIs
  rw [List.getLast?_eq_getElem?, List.getElem?_eq_getElem (by omega)]
theorem run_neq_ik (s t : IK) (W : World) : (binOp .neq 52 (.agg #[.string s.user, .int .u64 (s.seq : Int), .int .i64 s.kind]) (.agg #[.string t.user, .int .u64 (t.seq : Int), .int .i64 t.kind])).run Tryz.prog W = .ok (.bool (!sameK s t)) W := by
  have e0 : (s.user.toList == t.user.toList) = decide (s.user = t.user) := by
    rw [Bool.eq_iff_iff, beq_iff_eq, decide_eq_true_iff]
    constructor
    · intro h
      apply ByteArray.ext
      have h3 := congrArg List.toArray h
      simpa [ByteArray.toList_eq] using h3
    · intro h
      rw [h]
  have e1 : ((s.seq : Int) == (t.seq : Int)) = decide (s.seq = t.seq) := by rw [Bool.eq_iff_iff]; simp; omega
  have e2 : (s.kind == t.kind) = decide (s.kind = t.kind) := by rw [Bool.eq_iff_iff]; simp
  unfold sameK
  rw [← e0, ← e1, ← e2]
  by_cases h1 : (s.user.toList == t.user.toList) = true
  · by_cases h2 : ((s.seq : Int) == (t.seq : Int)) = true
    · by_cases h3 : (s.kind == t.kind) = true
      · simp [go_sem, h1, h2, h3, Tryz.underlying52, Tryz.underlying9, Tryz.underlying33, Tryz.underlying3]
      · simp [go_sem, h1, h2, h3, Tryz.underlying52, Tryz.underlying9, Tryz.underlying33, Tryz.underlying3]
    · simp [go_sem, h1, h2, Tryz.underlying52, Tryz.underlying9, Tryz.underlying33, Tryz.underlying3]
  · simp [go_sem, h1, Tryz.underlying52, Tryz.underlying9, Tryz.underlying33, Tryz.underlying3]
theorem GB.less {W : World} {B B' p iv : Nat} {l : List KV} (h : GB W B p iv l) (hB : B' ≤ B) : GB W B' p iv l := ⟨h.bk.less hB, h.ok, h.one, h.top, h.small⟩
set_option maxHeartbeats 4000000 in
theorem read_any {a : Option Addr} {n c : Nat} {p : List UInt8} {w : World} (h : BsAt w a n c p) (h4 : 4 ≤ n) (hn : n ≤ 1000000000) (k : IK) :
    Calls Tryz.prog 49 #[.agg (stA a n c k)] w fun r w' => Below w.heap.size w w' ∧ ((∃ er, readS p k = .error er ∧ r = .returned (.tuple #[.pointer none, .int .i64 (er : Int)]) ∧ er ≠ 0) ∨ ∃ l q, readS p k = .ok l ∧ 0 < l.length ∧ r = .returned (.tuple #[at_ q, .int .i64 0]) ∧ GB w' w.heap.size q (ivOf (bodyB p)) l) := by
  have HB0 : Hid (BsAt w a n c p ∧ BsAt (w.alloc (.cells (stA a n c k) TSt)) a n c p ∧ Below w.heap.size w (w.alloc (.cells (stA a n c k) TSt)) ∧ Box (w.alloc (.cells (stA a n c k) TSt)) w.heap.size TSt (stA a n c k) ∧ p.length = n) := ⟨h, h.alloc _, (Below.refl _ _).alloc (Nat.le_refl _) _, Box.new _ _ _, h.size⟩
  clear h
  unfold stA at HB0 ⊢
  go_enter Tryz.func49, Tryz.ntmps49
  go_wp2_with fail
  generalize w.alloc (.cells #[.slice a n c, .string k.user, .int .u64 (k.seq : Int), .int .i64 k.kind] TSt) = W0 at *
  refine (body_any HB0.out.2.1 h4).mono ?_
  rintro _ w1 ⟨a1, rfl, hp1, hb1⟩
  have H1 : Hid (BsAt w1 a1 (n - 4) (n - 4) (bodyB p) ∧ Below w.heap.size w w1 ∧ Box w1 w.heap.size TSt #[.slice a n c, .string k.user, .int .u64 (k.seq : Int), .int .i64 k.kind]) := ⟨hp1 _ (HB0.out.2.1.below (Nat.le_refl _) hb1), HB0.out.2.2.1.trans (hb1.mono HB0.out.2.2.1.size), HB0.out.2.2.2.1.kept (hb1.block _ HB0.out.2.2.2.1.lt)⟩
  clear hp1 hb1
  cases hok : okP p with
  | false =>
    have HOK : Hid (okP p = false) := hok
    clear hok
    go_wp2
    go_ret2
    exact ⟨H1.out.2.1, .inl ⟨122, readS_1 HOK.out, ret2 rfl rfl, by omega⟩⟩
  | true =>
    have HOK : Hid (okP p = true) := hok
    clear hok
    have ho := open_any a1 (n - 4) (n - 4) (bodyB p) w1 H1.out.1 (by omega)
    go_wp2_with fail
    refine ho.mono ?_
    rintro _ w2 ⟨hb2, ⟨hno, rfl⟩ | ⟨ss, ls, q, hop, rfl, hbk⟩⟩
    · have H2 : Hid (Below w.heap.size w w2 ∧ openP (bodyB p) = none) := ⟨H1.out.2.1.trans (hb2.mono H1.out.2.1.size), hno⟩
      clear hno hb2 ho
      go_wp2
      go_ret2
      exact ⟨H2.out.1, .inl ⟨121, readS_2 HOK.out H2.out.2, ret2 rfl rfl, by omega⟩⟩
    · have H2 : Hid (Below w.heap.size w w2 ∧ Box w2 w.heap.size TSt #[.slice a n c, .string k.user, .int .u64 (k.seq : Int), .int .i64 k.kind] ∧ openP (bodyB p) = some (ss, ls) ∧ GB w2 w.heap.size q (ivOf (bodyB p)) ls.flatten) := ⟨H1.out.2.1.trans (hb2.mono H1.out.2.1.size), H1.out.2.2.kept (hb2.block _ H1.out.2.2.lt), hop, GB.less (gb_of hop hbk (by unfold bodyB; rw [List.length_take]; have := HB0.out.2.2.2.2; omega)) H1.out.2.1.size⟩
      clear hb2 ho hbk hop
      have HLR : Hid (lastIs ls.flatten k = lastIs ls.flatten k) := rfl
      obtain ⟨l, HL⟩ : ∃ l, Hid (ls.flatten = l) := ⟨_, (rfl : ls.flatten = ls.flatten)⟩
      rw [HL.out] at H2
      have hlen := len_any H2.out.2.2.2.bk
      have hsm := H2.out.2.2.2.small
      go_wp2_with fail
      refine hlen.mono ?_
      rintro _ w3 ⟨rfl, hw⟩
      obtain rfl : w2 = w3 := hw
      clear hlen
      by_cases h0 : 0 < l.length
      case neg =>
        have hz : l.length = 0 := by omega
        have HZ : Hid (l.length = 0) := hz
        have hno := at_no (q := at_ q) (i := -1) (n := 0) (W := w2) (fun V hV => by
          have := len_any (H2.out.2.2.2.bk.below hV)
          rw [HZ.out] at this
          exact this) (.inl (by omega))
        rw [hz]
        clear hz h0
        go_wp2_with fail
        refine hno.mono ?_
        rintro _ w4 ⟨rfl, hb4⟩
        have H4 : Hid (Below w.heap.size w w4) := H2.out.1.trans (hb4.mono H2.out.1.size)
        clear hb4 hno
        unfold kvz
        go_wp2
        go_ret2
        refine ⟨(H4.out.alloc H4.out.size _), .inl ⟨121, readS_3 HOK.out H2.out.2.2.1 ?_, ret2 rfl rfl, by omega⟩⟩
        rw [HL.out, List.eq_nil_of_length_eq_zero HZ.out]
        rfl
      have hat := at_yes H2.out.2.2.2 (i := l.length - 1) (by omega)
      have HLI : Hid (lastIs ls.flatten k = sameK (l[l.length - 1]'(by omega)).1 k) := by
        unfold Hid
        rw [HL.out]
        exact lastIs_at h0
      generalize l[l.length - 1]'(by omega) = e at hat HLI
      rw [show ((l.length - 1 : Nat) : Int) = (l.length : Int) - 1 by omega] at hat
      unfold kvv at hat
      go_wp2_with fail
      refine hat.mono ?_
      rintro _ w4 ⟨rfl, hb4⟩
      have H4 : Hid (Below w.heap.size w w4 ∧ Box w4 w.heap.size TSt #[.slice a n c, .string k.user, .int .u64 (k.seq : Int), .int .i64 k.kind] ∧ GB w4 w.heap.size q (ivOf (bodyB p)) l) := ⟨H2.out.1.trans (hb4.mono H2.out.1.size), H2.out.2.1.kept (hb4.block _ H2.out.2.1.lt), H2.out.2.2.2.below hb4⟩
      have H5 : Hid (Below w.heap.size w (w4.alloc (.cells #[.string e.1.user, .int .u64 (e.1.seq : Int), .int .i64 e.1.kind, .string e.2] TKV)) ∧ GB (w4.alloc (.cells #[.string e.1.user, .int .u64 (e.1.seq : Int), .int .i64 e.1.kind, .string e.2] TKV)) w.heap.size q (ivOf (bodyB p)) l) := ⟨H4.out.1.alloc H4.out.1.size _, H4.out.2.2.below ((Below.refl _ _).alloc (Nat.le_refl _) _)⟩
      have hlt : w.heap.size < w4.heap.size := H4.out.2.1.lt
      have c1 : w4.cell? ⟨w.heap.size, 1, none⟩ = some (.string k.user) := H4.out.2.1.cell 1
      have c2 : w4.cell? ⟨w.heap.size, 2, none⟩ = some (.int .u64 (k.seq : Int)) := H4.out.2.1.cell 2
      have c3 : w4.cell? ⟨w.heap.size, 3, none⟩ = some (.int .i64 k.kind) := H4.out.2.1.cell 3
      have hnq := fun W => run_neq_ik e.1 k W
      clear hat hb4
      cases hsk : sameK e.1 k with
      | true =>
        have HSK : Hid (sameK e.1 k = true) := hsk
        rw [hsk] at hnq
        clear hsk
        go_wp2
        go_ret2
        refine ⟨H5.out.1, .inr ⟨l, q, ?_, h0, ret2 rfl rfl, H5.out.2⟩⟩
        rw [← HL.out]
        exact readS_4 HOK.out H2.out.2.2.1 (HLI.out.trans HSK.out)
      | false =>
        have HSK : Hid (sameK e.1 k = false) := hsk
        rw [hsk] at hnq
        clear hsk
        go_wp2
        go_ret2
        exact ⟨H5.out.1, .inl ⟨121, readS_3 HOK.out H2.out.2.2.1 (HLI.out.trans HSK.out), ret2 rfl rfl, by omega⟩⟩
end Go.Proofs.YtgegjcnjlibfdaaGreat
/- Blocks that were not read yet, in memory; the contract of sstable's storedIn. -/
namespace Go.Proofs.YtgegjcnjlibfdaaGreat
set_option maxRecDepth 100000
open Go.RowKit
set_option linter.unusedVariables false
set_option linter.unusedSimpArgs false
/-- A block's part as it lies, and its last key. -/
structure SD where
  a : Option Addr
  p : List UInt8
  k : IK
def sdc (d : SD) : List Value := [.slice d.a d.p.length d.p.length, .string d.k.user, .int .u64 (d.k.seq : Int), .int .i64 d.k.kind]
def cellsD (l : List SD) : List Value := l.flatMap sdc
theorem cellsD_len : ∀ l : List SD, (cellsD l).length = l.length * 4
  | [] => rfl
  | d :: r => by
    have := cellsD_len r
    simp only [cellsD, List.flatMap_cons, List.length_append, List.length_cons] at *
    rw [this]
    simp [sdc]
    omega
theorem cellsD_get : ∀ (l : List SD) (k i : Nat) (hk : k < l.length), i < 4 → (cellsD l)[k * 4 + i]? = (sdc l[k])[i]?
  | d :: r, 0, i, hk, hi => by
    show (sdc d ++ cellsD r)[0 * 4 + i]? = _
    rw [List.getElem?_append_left (by simp [sdc]; omega)]
    simp
  | d :: r, k + 1, i, hk, hi => by
    show (sdc d ++ cellsD r)[(k + 1) * 4 + i]? = _
    rw [List.getElem?_append_right (by simp [sdc]; omega)]
    have := cellsD_get r k i (by simpa using hk) hi
    rw [show (k + 1) * 4 + i - (sdc d).length = k * 4 + i by simp [sdc]; omega, this]
    rfl
theorem cellsD_append (a b : List SD) : cellsD (a ++ b) = cellsD a ++ cellsD b := by simp [cellsD]
theorem sdc_one (d : SD) : ∀ u ∈ sdc d, u.oneCell' = true := by
  intro u hu
  simp [sdc] at hu
  rcases hu with rfl | rfl | rfl | rfl <;> rfl
theorem infoSt : (Tryz.prog.info? TSt).map (fun i => (i.zero, i.size, i.bytes)) = some (some (.agg #[.slice none 0 0, .string ⟨#[]⟩, .int .u64 0, .int .i64 0]), 4, 56) := by kernel_rfl
structure OwnD (w : World) (B : Nat) (a : Option Addr) (n c : Nat) (l : List SD) : Prop where
  size : l.length = n
  row : w.ownsRow B TSt 4 (.slice a n c) n (cellsD l)
theorem OwnD.nil (w : World) (B : Nat) : OwnD w B none 0 0 [] := ⟨rfl, World.ownsRow_nil _ _ _ 4⟩
theorem OwnD.tag {w : World} {B : Nat} {a : Option Addr} {n c : Nat} {l : List SD} (h : OwnD w B a n c l) {k : Nat} (hk : blkOf a = some k) : tag w k = some TSt := row_tag h.row (by rw [own_blk]; exact hk)
theorem OwnD.ge {w : World} {B : Nat} {a : Option Addr} {n c : Nat} {l : List SD} (h : OwnD w B a n c l) {k : Nat} (hk : blkOf a = some k) : B ≤ k := (h.row.lt k (by rw [own_blk]; exact hk)).1
theorem OwnD.kept {w w' : World} {B : Nat} {a : Option Addr} {n c : Nat} {l : List SD} (h : OwnD w B a n c l) (hk : ∀ k, blkOf a = some k → w'.heap[k]? = w.heap[k]?) : OwnD w' B a n c l := ⟨h.size, row_same h.row (fun b e => hk b (by rw [← own_blk a n c]; exact e))⟩
theorem OwnD.below {w w' : World} {B : Nat} {a : Option Addr} {n c : Nat} {l : List SD} (h : OwnD w B a n c l) (hb : Below w.heap.size w w') : OwnD w' B a n c l := h.kept fun k hk => hb.block k (tag_lt (h.tag hk))
theorem OwnD.alloc {w : World} {B : Nat} {a : Option Addr} {n c : Nat} {l : List SD} (h : OwnD w B a n c l) (o : Obj) : OwnD (w.alloc o) B a n c l := ⟨h.size, h.row.alloc o⟩
theorem step_pushD {ops : Array Oper} {o : Oper} {a : Act} {K : Act → World → Prop} {Q : Exit → Act → World → Prop} {E : Prop} (W : World) (hgd : o.guard = none) (s x : Operand)
    (ho : o.op = .call { callee := .builtin .append, args := #[s, x], argTypes := #[77, 77] })
    (B : Nat) (a1 : Option Addr) (n1 c1 : Nat) (l : List SD) (hs : a.eval s = .slice a1 n1 c1) (hown : OwnD W B a1 n1 c1 l)
    (v : SD) (cv : Array Value) (hcv : cv.toList = sdc v) (g : Nat) (hg : g = W.heap.size) (hx : a.eval x = .slice (some ⟨g, 0, none⟩) 1 1)
    (hb : n1 + 1 ≤ 2000000000000) (hB : B ≤ W.heap.size)
    (h : ∀ a' c' w', OwnD w' B a' (n1 + 1) c' (l ++ [v]) → Below B W w' → (W.alloc (.cells cv TSt)).grownBy w' (blkOf a1) → K (a.put o.dst (.slice a' (n1 + 1) c')) w') :
    if Region.wanted o (yielded ops a.tmps) = true then Oper.wp Tryz.prog o a (W.alloc (.cells cv TSt)) K Q else E := by
  subst hg
  have hw : Region.wanted o (yielded ops a.tmps) = true := by simp [Region.wanted, hgd]
  rw [if_pos hw]
  obtain ⟨i, hi, hz0, hz1, hz2⟩ := info_parts infoSt
  have hl := hown.size
  have hown2 := hown.alloc (.cells cv TSt)
  have hlt : ∀ k, (Value.slice a1 n1 c1).ownBlock = some k → B ≤ k := fun k hk => (hown.row.lt k hk).1
  have hB2 : B ≤ (W.alloc (.cells cv TSt)).heap.size := by simp; omega
  have hcell : ∀ j u, (sdc v)[j]? = some u → (W.alloc (.cells cv TSt)).cell? ((⟨W.heap.size, 0, none⟩ : Addr).add j) = some u := by
    intro j u hu
    rw [Addr.add_lit, Nat.zero_add, (Box.new W TSt cv).cell, ← Array.getElem?_toList, hcv]
    exact hu
  obtain ⟨v', w', hr, h2, h3, h4, h5⟩ := run_append_own_at (P := Tryz.prog) (W.alloc (.cells cv TSt)) B 77 o.type TSt i _ 4 56 Tryz.underlying77 hi hz0 hz1 hz2 rfl (by decide) _ n1 _ hown2.row ⟨W.heap.size, 0, none⟩ 1 1 (sdc v) (by simp [sdc]) hcell (sdc_one v) (by unfold maxLen; omega) (by omega) hB2
  unfold Oper.wp execOp
  simp only [ho, resolve, invoke, builtin, Sem.run_bind, Sem.run_pure, Result.andThen_ok, List.map_toArray, List.map_cons, List.map_nil, hs, hx, hr]
  obtain ⟨a', c', rfl⟩ := slice_of_row h2
  refine h a' c' w' ⟨by rw [List.length_append]; simp; omega, ?_⟩ (((Below.refl _ _).alloc hB _).trans ((Below.refl B _).grown h3 hB2 hlt)) (by rw [← own_blk a1 n1 c1]; exact h3)
  rw [cellsD_append]
  simpa [cellsD] using h2
def idxT (body ix : List UInt8) : Option (List (List UInt8 × IK)) := match openP ix with
  | none => none
  | some (_, ls) => if ls.flatten = [] ∨ layP 1 ls.flatten ≠ ix then none else idxGo body 0 ls.flatten
theorem idx_step_no1 {body : List UInt8} {at0 : Nat} {e : KV} {r : List KV} (h : plOf e.2.data.toList = none) : idxGo body at0 (e :: r) = none := by unfold idxGo; rw [h]
theorem idx_step_no2 {body : List UInt8} {at0 x y : Nat} {e : KV} {r : List KV} (h : plOf e.2.data.toList = some (x, y)) (h2 : ¬ (x = at0 ∧ at0 + y + 4 ≤ body.length)) : idxGo body at0 (e :: r) = none := by unfold idxGo; rw [h]; simp only [if_neg h2]
theorem idx_step_yes {body : List UInt8} {at0 y : Nat} {e : KV} {r : List KV} (h : plOf e.2.data.toList = some (at0, y)) (h2 : at0 + y + 4 ≤ body.length) : idxGo body at0 (e :: r) = (idxGo body (at0 + y + 4) r).map ((segB body at0 (y + 4), e.1) :: ·) := by
  conv => lhs; unfold idxGo
  rw [h]
  exact if_pos ⟨rfl, h2⟩
def blsOf (l : List SD) : List (List UInt8 × IK) := l.map fun d => (d.p, d.k)
/-- What a round keeps: the blocks so far, the place behind them. -/
structure SI (w wr : World) (ab : Option Addr) (nb cb : Nat) (body : List UInt8) (al : Option Addr) (nl cl : Nat) (l : List KV) (k at0 : Nat) (ar : Option Addr) (nr cr : Nat) (ds : List SD) : Prop where
  base : Below w.heap.size w wr
  row : OwnD wr w.heap.size ar nr cr ds
  told : OwnK wr w.heap.size al nl cl l
  cnt : nr = k
  le : at0 ≤ nb
  go : idxGo body 0 l = (idxGo body at0 (l.drop k)).map (blsOf ds ++ ·)
  parts : ∀ d ∈ ds, 4 ≤ d.p.length ∧ Part ab nb cb body d.a d.p.length d.p.length d.p
theorem SI.call {w wr w' : World} {ab : Option Addr} {nb cb : Nat} {body : List UInt8} {al : Option Addr} {nl cl : Nat} {l : List KV} {k at0 : Nat} {ar : Option Addr} {nr cr : Nat} {ds : List SD} (h : SI w wr ab nb cb body al nl cl l k at0 ar nr cr ds) (hb : Below wr.heap.size wr w') : SI w w' ab nb cb body al nl cl l k at0 ar nr cr ds :=
  ⟨h.base.trans (hb.mono h.base.size), h.row.below hb, h.told.below hb, h.cnt, h.le, h.go, h.parts⟩
theorem SI.push {w wr w' : World} {ab : Option Addr} {nb cb : Nat} {body : List UInt8} {al : Option Addr} {nl cl : Nat} {l : List KV} {k at0 : Nat} {ar : Option Addr} {nr cr : Nat} {ds : List SD} (h : SI w wr ab nb cb body al nl cl l k at0 ar nr cr ds) (hk : k < l.length) {y : Nat} (hp : plOf l[k].2.data.toList = some (at0, y)) (hle : at0 + y + 4 ≤ nb) (hbl : body.length = nb) {a2 : Option Addr} (hpt : Part ab nb cb body a2 (y + 4) (y + 4) (segB body at0 (y + 4))) {ar' : Option Addr} {cr' : Nat}
    (ho : OwnD w' w.heap.size ar' (nr + 1) cr' (ds ++ [⟨a2, segB body at0 (y + 4), l[k].1⟩])) (hb : Below w.heap.size wr w') (o : Obj) (hg : (wr.alloc o).grownBy w' (blkOf ar)) : SI w w' ab nb cb body al nl cl l (k + 1) (at0 + y + 4) ar' (nr + 1) cr' (ds ++ [⟨a2, segB body at0 (y + 4), l[k].1⟩]) := by
  have hsl : (segB body at0 (y + 4)).length = y + 4 := by unfold segB; rw [List.length_take, List.length_drop]; omega
  refine ⟨h.base.trans hb, ho, h.told.kept (fun q hq => ?_), by rw [h.cnt], hle, ?_, ?_⟩
  · have ht := h.told.tag hq
    rw [hg.block q (by have := tag_lt ht; simp; omega) (fun e => by have h8 := h.row.tag e.symm; rw [ht] at h8; cases h8)]
    exact Below.heap_alloc wr o q (tag_lt ht)
  · rw [h.go, List.drop_eq_getElem_cons hk, idx_step_yes hp (by rw [hbl]; exact hle), Option.map_map]
    congr 1
    funext z
    simp [blsOf]
  · intro d hd
    rcases List.mem_append.1 hd with hd | hd
    · exact h.parts d hd
    · rw [List.mem_singleton.1 hd]
      dsimp only
      rw [hsl]
      exact ⟨by omega, hpt⟩
end Go.Proofs.YtgegjcnjlibfdaaGreat
