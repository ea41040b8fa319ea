/- Entries in stretches, as slices.Chunk tells them: an iterator. -/
import Derived.RangeFuncNested
import Derived.RangeFuncBound
import Derived.RangeFuncCalls
import Derived.RangeFuncLeaves
import Derived.RangeFuncBox
import Derived.Shelf.Abstract
import Derived.Shelf.RegionOpen
import Derived.OwnWalkIn
import Derived.TacticsInMore
import Derived.LoopNIn
import Derived.LoopIn
import Derived.Test.YtgegjcnjlibfdaaGreatC11MemA
import Derived.Test.YtgegjcnjlibfdaaGreatC11PlainA
import Derived.Test.YtgegjcnjlibfdaaGreatC11FnA
import Derived.Test.YtgegjcnjlibfdaaGreatQa08
import Derived.Test.YtgegjcnjlibfdaaGreatC11TakeA
namespace Go.Proofs.YtgegjcnjlibfdaaGreat
set_option maxRecDepth 100000
open Go.RowKit Go.Shelf
attribute [local go_sem] Oper.semAt_some
set_option linter.unusedVariables false
set_option linter.unusedSimpArgs false
/-- A stretch as it is told. -/
abbrev ChX (w : World) := { x : Option Addr × List KV // KsAt w x.1 x.2.length x.2.length x.2 ∧ x.2.length ≤ 16 ∧ ∀ e ∈ x.2, EOk e }
def ChX.vals {w : World} (x : ChX w) : Array Value := #[.slice x.1.1 x.1.2.length x.1.2.length]
def ChX.ls {w : World} (l : List (ChX w)) : List (List KV) := l.map fun x => x.1.2
theorem ls_snoc {w : World} (l : List (ChX w)) (x : ChX w) : ChX.ls (l ++ [x]) = ChX.ls l ++ [x.1.2] := by simp [ChX.ls]
/-- What a round keeps: what lay below n₀, and the blocks of what is cut and of how many are wanted. -/
structure Kp4 (n₀ Bs : Nat) (W W' : World) : Prop where
  below : Below n₀ W W'
  box : W'.heap[Bs]? = W.heap[Bs]?
  box1 : W'.heap[Bs + 1]? = W.heap[Bs + 1]?
theorem Kp4.trans {n₀ Bs : Nat} {A B C : World} (h : Kp4 n₀ Bs A B) (k : Kp4 n₀ Bs B C) : Kp4 n₀ Bs A C := ⟨h.below.trans k.below, k.box.trans h.box, k.box1.trans h.box1⟩
theorem Kp4.put {n₀ Bs : Nat} {w : World} (hn : n₀ ≤ w.heap.size) (hB : Bs + 1 < w.heap.size) (W : World) (l : Nat) (o o' : Obj) (hl : w.heap.size ≤ l) (h : W.heap[l]? = some o) (h1 : o.isCells = false) (h2 : o.isWalk = false) : Kp4 n₀ Bs W (W.putObj l o') :=
  ⟨belowK_b hn W l o o' hl h h1 h2, World.putObj_heap_other (by omega), World.putObj_heap_other (by omega)⟩
theorem grown_none {W W' : World} (h : Below W.heap.size W W') : W.grownBy W' none := ⟨h.os, h.tape, h.output, h.size, fun k hk _ => h.block k hk⟩
set_option maxRecDepth 100000 in
theorem ks_mid {w0 : World} {l0 : List KV} {a : Option Addr} {n c : Nat} (h : KsAt w0 a n c l0) (i z : Nat) (hz : 0 < z) (hiz : i + z ≤ n) (j : Int) (hj : j = ((i + z : Nat) : Int)) :
    ∃ a', (∀ W : World, (Instr.slice 23 (.slice a n c) (some (.int .i64 (i : Int))) (some (.int .i64 j)) (some (.int .i64 j))).run Tryz.prog W = .ok (.slice a' z z) W) ∧
      (∀ (W : World) (l : List KV), KsAt W a n c l → KsAt W a' z z ((l.drop i).take z)) := by
  subst hj
  have hle := h.le
  have hmx := h.max
  obtain ⟨b, off, rfl, _⟩ := h.here (by omega)
  have hzz : ∀ W, (sizeOf (Tryz.prog.elem 23)).run Tryz.prog W = .ok 4 W := fun W => by kernel_rfl
  refine ⟨some ⟨b, off + i * 4, none⟩, fun W => ?_, fun W l hl => ?_⟩
  · have hz2 := hzz W
    have h1 : (i : Int) ≤ ((i + z : Nat) : Int) := by omega
    simp [Instr.slice, run_underlying Tryz.underlying23, go_sem, hz2]
    repeat (first | rw [if_pos (by omega)] | rw [if_neg (by omega)])
    simp
    omega
  · have hs := hl.size
    refine ⟨by rw [List.length_take, List.length_drop]; omega, Nat.le_refl _, by omega, fun hp => ⟨b, off + i * 4, rfl, fun j hj => ?_⟩⟩
    obtain ⟨b', o', he, hc⟩ := hl.here (by omega)
    simp only [Option.some.injEq, Addr.mk.injEq, and_true] at he
    obtain ⟨rfl, rfl⟩ := he
    rw [Nat.add_assoc, hc (i * 4 + j) (by omega)]
    conv => lhs; rw [← List.take_append_drop i l, cellsKV_append]
    rw [List.getElem?_append_right (by rw [cellsKV_len, List.length_take]; omega), cellsKV_len, List.length_take, Nat.min_eq_left (by omega), Nat.add_sub_cancel_left]
    conv => lhs; rw [← List.take_append_drop z (l.drop i), cellsKV_append]
    rw [List.getElem?_append_left (by rw [cellsKV_len, List.length_take, List.length_drop]; omega)]
set_option maxRecDepth 100000 in
set_option maxHeartbeats 4000000 in
theorem chunk1_in (f : Nat) (hf : 1 ≤ f) (w : World) (a : Option Addr) (n c iv : Nat) (l : List KV) (h : KsAt w a n c l) (hbare : a = none → c = 0) (hspot : ∀ x, a = some x → x.spot = none) (hn : n ≤ 1000000000000) (hi1 : 1 ≤ iv) (hi16 : iv ≤ 16) (hok : ∀ e ∈ l, EOk e) (lb Bs : Nat) (J Jx : List (ChX w) → World → Prop) (W : World)
    (hJ : AbidesFrom W.heap.size J)
    (hY : ∀ pre x W1, J pre W1 → pre.length < (chunks iv l).length → YieldAt Fence.wide (f - 1) Tryz.prog lb (ChX.vals x) W1 fun e W' =>
      (e = .returned (.bool true) ∧ J (pre ++ [x]) W' ∧ Kp4 w.heap.size Bs W1 W') ∨ (e = .returned (.bool false) ∧ Jx (pre ++ [x]) W'))
    (hB0 : Boxed W Bs 23 (.slice a n c)) (hB1 : Boxed W (Bs + 1) 3 (.int .i64 (iv : Int))) (h0 : J [] W) :
    CallsIn Fence.wide f Tryz.prog 97 #[.func (.yield lb) #[] #[], .pointer (some ⟨Bs, 0, none⟩), .pointer (some ⟨Bs + 1, 0, none⟩)] W fun e W' => (∃ v, e = .returned v) ∧
      ((∃ xs, ChX.ls xs = chunks iv l ∧ J xs W') ∨ (∃ pre, (∃ t, ChX.ls pre ++ t = chunks iv l) ∧ Jx pre W')) := by
  have HK : Hid (KsAt w a n c l ∧ l.length = n ∧ (a = none → c = 0) ∧ (∀ x, a = some x → x.spot = none)) := ⟨h, h.size, hbare, hspot⟩
  have hle := h.le
  have hmix : Tryz.prog.follows Departure.mixedOrders = true := by kernel_rfl
  clear h hbare hspot
  refine callsIn_of_wp Tryz.func97 rfl trivial ?_ rfl
  simp only [Tryz.ntmps97, List.size_toArray, List.length_cons, List.length_nil, Nat.reduceAdd, Nat.reduceSub, Array.replicate_succ, Array.replicate_zero, List.push_toArray, List.append_toArray, List.nil_append, List.cons_append]
  gi_wp2
  gi_loopw [4] (fun x wr => ∃ (p k : Nat) (pre : List (ChX w)), p ≤ n + 16 ∧ x = .int .i64 (p : Int) ∧ Hid (p = k * iv ∧ k ≤ (chunks iv l).length) ∧ Hid (ChX.ls pre = (chunks iv l).take k) ∧ Hid (pre.length = k) ∧ Hid (J pre wr) ∧ Hid (Boxed wr Bs 23 (.slice a n c)) ∧ Hid (Boxed wr (Bs + 1) 3 (.int .i64 (iv : Int)))) (fun x _ => n + 16 - (intOf x).toNat)
  case atStart => exact ⟨0, 0, [], by omega, rfl, ⟨by omega, Nat.zero_le _⟩, rfl, rfl, h0, hB0, hB1⟩
  case round =>
    obtain ⟨p, k, pre, hp, rfl, HP, HPR, HLN, HJ, HX0, HX1⟩ := hrel
    have hx0 := HX0.out.cell
    have hx1 := HX1.out.cell
    by_cases hlt : p < n
    · obtain ⟨e1, e2⟩ := chunks_at hi1 l k
      have hkc : k < (chunks iv l).length := e1.1 (by rw [← HP.out.1, HK.out.2.1]; exact hlt)
      have hch := e2 hkc
      rw [← HP.out.1] at hch
      obtain ⟨z, hz⟩ : ∃ z, min iv (n - p) = z := ⟨_, rfl⟩
      have hzl : ((l.drop p).take iv).length = z := by rw [List.length_take, List.length_drop, HK.out.2.1]; exact hz
      have hz0 : 0 < z ∧ z ≤ iv ∧ p + z ≤ n := by omega
      have htk : (l.drop p).take z = (l.drop p).take iv := by
        rw [← hzl, List.length_take]
        simp
      obtain ⟨p1, q1, r1, _, _⟩ := ks_from HK.out.1 HK.out.2.2.1 HK.out.2.2.2 p (by omega)
      obtain ⟨p2, q2, r2⟩ := ks_mid HK.out.1 p z hz0.1 hz0.2.2 ((p : Int) + (z : Int)) (by omega)
      have hks : KsAt w p2 ((l.drop p).take iv).length ((l.drop p).take iv).length ((l.drop p).take iv) := by
        rw [hzl, ← htk]
        exact r2 _ _ HK.out.1
      have hks2 : KsAt w p2 ((l.drop p).take iv).length ((l.drop p).take iv).length ((l.drop p).take iv) ∧ ((l.drop p).take iv).length ≤ 16 ∧ ∀ e ∈ (l.drop p).take iv, EOk e := ⟨hks, by rw [hzl]; omega, fun e he => hok e (List.mem_of_mem_drop (List.mem_of_mem_take he))⟩
      have HTK : Hid ((chunks iv l).take (k + 1) = (chunks iv l).take k ++ [(l.drop p).take iv]) := by
        show (chunks iv l).take (k + 1) = _
        rw [List.take_succ_eq_append_getElem hkc, hch]
      have HKC : Hid (k < (chunks iv l).length ∧ (k + 1) * iv = p + iv) := ⟨hkc, by rw [Nat.add_mul, Nat.one_mul, HP.out.1]⟩
      have HZL : Hid (((l.drop p).take iv).length = z) := hzl
      obtain ⟨x, HXE⟩ : ∃ x : ChX w, Hid (x = ⟨(p2, (l.drop p).take iv), hks2⟩) := ⟨_, rfl⟩
      obtain ⟨fn, tmps, assign, body, hy, hR⟩ := hY pre x wr.drew (hJ pre _ _ none HJ.out (grown_none (Below.refl _ _).drew) (fun r e => by cases e)) (by rw [HLN.out]; exact hkc)
      have hval : ChX.vals x = #[.slice p2 z z] := by
        rw [HXE.out]
        simp only [ChX.vals, hzl]
      rw [hval] at hy
      have HX2 : Hid (x.1.2 = (l.drop p).take iv) := by rw [HXE.out]; rfl
      clear hks hks2 hzl htk r1 r2 e1 e2 hch hkc hval HXE
      have hif : (if n - p < iv then ((n - p : Nat) : Int) else (iv : Int)) = (z : Int) := by split <;> omega
      obtain ⟨hz1, hz2, hz3⟩ := hz0
      gi_wp2
      gi_region_with_o (fail)
      all_goals
        try simp only [hif]
        gi_wp2
        refine hR.mono ?_
        rintro e W3 (⟨rfl, hJ3, hk3⟩ | ⟨rfl, hJx3⟩)
        · have H3 : Hid (J (pre ++ [x]) W3 ∧ Boxed W3 Bs 23 (.slice a n c) ∧ Boxed W3 (Bs + 1) 3 (.int .i64 (iv : Int))) := ⟨hJ3, hk3.box.trans HX0.out, hk3.box1.trans HX1.out⟩
          have hy1 := H3.out.2.2.cell
          clear hJ3 hk3
          gi_wp2
          refine ⟨⟨p + iv, k + 1, pre ++ [x], by omega, by go_num, ⟨by rw [HKC.out.2], by have := HKC.out.1; omega⟩, ?_, ?_, H3.out.1, H3.out.2.1, H3.out.2.2⟩, ?_⟩
          · show ChX.ls (pre ++ [x]) = _
            rw [ls_snoc, HPR.out, HTK.out, HX2.out]
          · show (pre ++ [x]).length = k + 1
            simp [HLN.out]
          · simp [intOf]
            omega
        · gi_wp2
          refine bodyPost_ret (results_none rfl _ _ _) rfl ?_
          refine ⟨⟨_, rfl⟩, .inr ⟨_, ⟨(chunks iv l).drop (k + 1), ?_⟩, hJx3⟩⟩
          rw [ls_snoc, HPR.out, HX2.out, ← HTK.out, List.take_append_drop]
    · gi_wp2
      go_end0
      refine ⟨⟨_, rfl⟩, .inl ⟨pre, ?_, HJ.out⟩⟩
      rw [HPR.out, List.take_of_length_le]
      obtain ⟨h1, h2⟩ := HP.out
      by_cases hk : k < (chunks iv l).length
      · have := (chunks_at hi1 l k).1.2 hk
        rw [HK.out.2.1] at this
        omega
      · omega
end Go.Proofs.YtgegjcnjlibfdaaGreat
/- The contract of block's Build where it refuses; what it keeps between two rounds. -/
namespace Go.Proofs.YtgegjcnjlibfdaaGreat
open Go.RowKit Go.Shelf
attribute [local go_sem] Oper.semAt_some
set_option linter.unusedVariables false
set_option linter.unusedSimpArgs false
theorem chunk_stops (f : Nat) (hf : 1 ≤ f) (w : World) (a : Option Addr) (n c iv : Nat) (l : List KV) (h : KsAt w a n c l) (hbare : a = none → c = 0) (hspot : ∀ x, a = some x → x.spot = none) (hn : n ≤ 1000000000000) (hi1 : 1 ≤ iv) (hi16 : iv ≤ 16) (hok : ∀ e ∈ l, EOk e) (Bs : Nat) (w0 : World) (hB0 : Boxed w0 Bs 23 (.slice a n c)) (hB1 : Boxed w0 (Bs + 1) 3 (.int .i64 (iv : Int))) :
    SeqStopsK Fence.wide f Tryz.prog 97 #[.pointer (some ⟨Bs, 0, none⟩), .pointer (some ⟨Bs + 1, 0, none⟩)] (ChX.vals (w := w)) (Kp4 w.heap.size Bs) (fun xs => ChX.ls xs = chunks iv l) (fun pre => ∃ t, ChX.ls pre ++ t = chunks iv l) (chunks iv l).length w0 :=
  fun lb J Jx W hW hJ _ hY h0 => chunk1_in f hf w a n c iv l h hbare hspot hn hi1 hi16 hok lb Bs J Jx W hJ hY ((hW.block _ hB0.lt).trans hB0) ((hW.block _ hB1.lt).trans hB1) h0
set_option maxRecDepth 100000 in
theorem chunk_any (a : Option Addr) (n c iv : Nat) (hi1 : 1 ≤ iv) (w : World) : Calls Tryz.prog 59 #[.slice a n c, .int .i64 (iv : Int)] w fun e w' =>
    e = .returned (.func (.func 97) #[] #[.pointer (some ⟨w.heap.size, 0, none⟩), .pointer (some ⟨w.heap.size + 1, 0, none⟩)]) ∧ w' = (w.alloc (.cells #[.slice a n c] 23)).alloc (.cells #[.int .i64 (iv : Int)] 3) := by
  have hmf : ∀ (fn : Fn) (first cap : Array Value) (w : World), (Instr.makeFunc fn first cap).run Tryz.prog w = .ok (.func fn first cap) w := fun _ _ _ _ => rfl
  have hd : ¬ ((iv : Int) < 1) := by omega
  go_enter Tryz.func59, Tryz.ntmps59
  go_wp2
  go_ret
  exact ⟨ret1 rfl, rfl⟩
/-- Bytes appended to the call's own, as a step of a region that draws its order, inside a fence. -/
theorem stepIn_appAt {F : Fence} {n : Nat} {ops : Array Oper} {o : Oper} {a : Act} {w : World} {K : Act → World → Prop} {Q : Exit → Act → World → Prop} {E : Prop} (hgd : o.guard = none) (s x : Operand)
    (ho : o.op = .call { callee := .builtin .append, args := #[s, x], argTypes := #[27, 27] })
    (B : Nat) (a1 : Option Addr) (n1 c1 : Nat) (bs : List UInt8) (hs : a.eval s = .slice a1 n1 c1) (hown : OwnB w B a1 n1 c1 bs)
    (a2 : Option Addr) (n2 c2 : Nat) (cs : List UInt8) (hx : a.eval x = .slice a2 n2 c2) (hsrc : BsAt w a2 n2 c2 cs)
    (hl : n1 + n2 ≤ 140737488355328) (hB : B ≤ w.heap.size)
    (h : ∀ a' c' w', OwnB w' B a' (n1 + n2) c' (bs ++ cs) → Below B w w' → w.grownBy w' (blkOf a1) → (blkOf a' = blkOf a1 ∨ blkOf a' = some w.heap.size) → K (a.put o.dst (.slice a' (n1 + n2) c')) w') :
    if Region.wanted o (yielded ops a.tmps) = true then Oper.wpIn F n Tryz.prog o a w K Q else E := by
  have hw : Region.wanted o (yielded ops a.tmps) = true := by simp [Region.wanted, hgd]
  rw [if_pos hw]
  obtain ⟨i, hi, hz0, hz1, hz2⟩ := info_parts infoU8
  have hsz := hsrc.size
  have hlt : ∀ k, (Value.slice a1 n1 c1).ownBlock = some k → B ≤ k := fun k hk => (hown.row.lt k hk).1
  unfold Oper.wpIn
  refine ⟨by simp [Oper.about, ho, resolve, Target.leads, Sem.run_pure], ?_⟩
  rw [Oper.semAt_plain F _ _ (by rw [ho]; intro c hc'; cases hc')]
  cases a2 with
  | none =>
    have hc0 := hsrc.bare rfl
    have hle := hsrc.le
    obtain rfl : n2 = 0 := by omega
    subst hc0
    obtain rfl := List.eq_nil_of_length_eq_zero hsz
    have hrun := run_append_owned_none (P := Tryz.prog) (w := w) B 27 o.type 5 i 1 Tryz.underlying27 hi _ n1 _ hown.row
    simp [execOp, ho, resolve, invoke, builtin, hs, hx, hrun, Result.andThen]
    exact h a1 c1 w (by simpa using hown) (Below.refl _ _) (World.grownBy.refl _ _) (.inl rfl)
  | some ad =>
    have hcell : ∀ j u, (cellsB cs)[j]? = some u → w.cell? (ad.add j) = some u := by
      intro j u hu
      have hj : j < cs.length := by have := (List.getElem?_eq_some_iff.1 hu).1; rwa [cellsB_length] at this
      obtain ⟨b, off, he, hc⟩ := hsrc.here (by omega)
      obtain rfl := Option.some.inj he
      rw [cellsB_get cs j hj] at hu
      obtain rfl := Option.some.inj hu
      rw [Addr.add_lit]
      exact hc j (by omega)
    obtain ⟨v', w', hr, h2, h3, h4, h5⟩ := run_append_own_at (P := Tryz.prog) w B 27 o.type 5 i (.int .u8 0) 1 1 Tryz.underlying27 hi hz0 hz1 hz2 rfl (by decide) _ n1 _ hown.row ad n2 c2 (cellsB cs) (by rw [cellsB_length]; omega) hcell (cellsB_one cs) (by unfold maxLen; omega) (by omega) hB
    rw [← cellsB_append] at h2
    obtain ⟨a', c', rfl, ho'⟩ := own_of_row h2
    rw [own_blk, own_blk] at h5
    simp [execOp, ho, resolve, invoke, builtin, hs, hx, hr, Result.andThen]
    exact h a' c' w' ho' ((Below.refl B w).grown h3 hB hlt) (by rw [← own_blk a1 n1 c1]; exact h3) h5
/-- Bytes appended to the call's own, inside a fence, and where the grown row lies. -/
theorem wpListIn_appAt {F : Fence} {n : Nat} (w : World) {ops : Array Oper} {rest : List Oper} {o : Oper} {a : Act} {Q : Exit → Act → World → Prop} (hgd : o.guard = none) (s x : Operand)
    (ho : o.op = .call { callee := .builtin .append, args := #[s, x], argTypes := #[27, 27] })
    (B : Nat) (a1 : Option Addr) (n1 c1 : Nat) (bs : List UInt8) (hs : a.eval s = .slice a1 n1 c1) (hown : OwnB w B a1 n1 c1 bs)
    (a2 : Option Addr) (n2 c2 : Nat) (cs : List UInt8) (hx : a.eval x = .slice a2 n2 c2) (hsrc : BsAt w a2 n2 c2 cs)
    (hl : n1 + n2 ≤ 140737488355328) (hB : B ≤ w.heap.size)
    (h : ∀ a' c' w', OwnB w' B a' (n1 + n2) c' (bs ++ cs) → Below B w w' → w.grownBy w' (blkOf a1) → (blkOf a' = blkOf a1 ∨ blkOf a' = some w.heap.size) → wpListIn F n Tryz.prog ops Q rest (a.put o.dst (.slice a' (n1 + n2) c')) w') :
    wpListIn F n Tryz.prog ops Q (o :: rest) a w := by
  refine wpListIn_plain hgd fun K hK => ?_
  obtain ⟨i, hi, hz0, hz1, hz2⟩ := info_parts infoU8
  have hsz := hsrc.size
  have hlt : ∀ k, (Value.slice a1 n1 c1).ownBlock = some k → B ≤ k := fun k hk => (hown.row.lt k hk).1
  unfold Oper.wpIn
  refine ⟨by simp [Oper.about, ho, resolve, Target.leads, Sem.run_pure], ?_⟩
  rw [Oper.semAt_plain F _ _ (by rw [ho]; intro c hc'; cases hc')]
  cases a2 with
  | none =>
    have hc0 := hsrc.bare rfl
    have hle := hsrc.le
    obtain rfl : n2 = 0 := by omega
    subst hc0
    obtain rfl := List.eq_nil_of_length_eq_zero hsz
    have hrun := run_append_owned_none (P := Tryz.prog) (w := w) B 27 o.type 5 i 1 Tryz.underlying27 hi _ n1 _ hown.row
    simp [execOp, ho, resolve, invoke, builtin, hs, hx, hrun, Result.andThen]
    exact hK _ _ (h a1 c1 w (by simpa using hown) (Below.refl _ _) (World.grownBy.refl _ _) (.inl rfl))
  | some ad =>
    have hcell : ∀ j u, (cellsB cs)[j]? = some u → w.cell? (ad.add j) = some u := by
      intro j u hu
      have hj : j < cs.length := by have := (List.getElem?_eq_some_iff.1 hu).1; rwa [cellsB_length] at this
      obtain ⟨b, off, he, hc⟩ := hsrc.here (by omega)
      obtain rfl := Option.some.inj he
      rw [cellsB_get cs j hj] at hu
      obtain rfl := Option.some.inj hu
      rw [Addr.add_lit]
      exact hc j (by omega)
    obtain ⟨v', w', hr, h2, h3, h4, h5⟩ := run_append_own_at (P := Tryz.prog) w B 27 o.type 5 i (.int .u8 0) 1 1 Tryz.underlying27 hi hz0 hz1 hz2 rfl (by decide) _ n1 _ hown.row ad n2 c2 (cellsB cs) (by rw [cellsB_length]; omega) hcell (cellsB_one cs) (by unfold maxLen; omega) (by omega) hB
    rw [← cellsB_append] at h2
    obtain ⟨a', c', rfl, ho'⟩ := own_of_row h2
    rw [own_blk, own_blk] at h5
    simp [execOp, ho, resolve, invoke, builtin, hs, hx, hr, Result.andThen]
    exact hK _ _ (h a' c' w' ho' ((Below.refl B w).grown h3 hB hlt) (by rw [← own_blk a1 n1 c1]; exact h3) h5)
/-- Between two rounds: what is laid, and the places of marks. -/
structure BI (w : World) (q : Nat) (a : Option Addr) (n c iv : Nat) (pre : List (ChX w)) (W : World) : Prop where
  base : Below w.heap.size w W
  le : w.heap.size ≤ q
  x2 : Box W (q + 2) 23 #[.slice a n c]
  x3 : Box W (q + 3) 3 #[.int .i64 (iv : Int)]
  here : ∃ (ao ap : Option Addr) (no co np cp : Nat), Box W q TBs #[.slice ao no co] ∧ Box W (q + 1) TBs #[.slice ap np cp] ∧ OwnB W w.heap.size ao no co (((ChX.ls pre).map (strB [])).flatten) ∧ OwnB W w.heap.size ap np cp (placesB 0 ((ChX.ls pre).map (strB []))) ∧ (∀ k, blkOf ao = some k → blkOf ap ≠ some k)
theorem BI.own (w : World) (q : Nat) (a : Option Addr) (n c iv B : Nat) (hB : w.heap.size ≤ B) : OwnFrom B (BI w q a n c iv) := by
  rintro pre W W' row ⟨h1, h2, x2, x3, ao, ap, no, co, np, cp, h3, h4, h5, h6, h7⟩ hg hr
  have hcell : ∀ k arr t fz, W.heap[k]? = some (Obj.cells arr t fz) → W'.heap[k]? = W.heap[k]? := fun k arr t fz hk => hg.block k (Array.getElem?_eq_some_iff.1 hk).1 (fun e => by
    obtain ⟨_, o, ho, hcl⟩ := hr _ e.symm
    rw [hk] at ho
    cases ho
    cases hcl)
  have hown : ∀ {a : Option Addr} {n c : Nat} {l : List UInt8}, OwnB W w.heap.size a n c l → OwnB W' w.heap.size a n c l := fun {a n c l} ho => ho.kept fun k hk => by
    rcases ho.row.2 with ⟨hv, _⟩ | ⟨g, c', cur, hv, hb, hgg, _⟩
    · simp only [Value.slice.injEq] at hv
      rw [hv.1] at hk
      cases hk
    · simp only [Value.slice.injEq] at hv
      rw [hv.1] at hk
      cases hk
      exact hcell _ _ _ _ hgg
  exact ⟨h1.grown hg h1.size (fun k e => by have := (hr k e).1; omega), h2, x2.kept (hcell _ _ _ _ x2), x3.kept (hcell _ _ _ _ x3), ao, ap, no, co, np, cp, h3.kept (hcell _ _ _ _ h3), h4.kept (hcell _ _ _ _ h4), hown h5, hown h6, h7⟩
/-- What a step of a round keeps. -/
structure RK (w : World) (q : Nat) (W W' : World) : Prop where
  ko : KeepsOthers W W'
  kp : Kp4 w.heap.size (q + 2) W W'
theorem RK.trans {w : World} {q : Nat} {A B C : World} (h : RK w q A B) (k : RK w q B C) : RK w q A C := ⟨h.ko.trans k.ko, h.kp.trans k.kp⟩
theorem RK.of {w : World} {q : Nat} {W W' : World} (h : Below W.heap.size W W') (hw : w.heap.size ≤ W.heap.size) (hq : q + 3 < W.heap.size) : RK w q W W' := ⟨KeepsOthers.of_grownBy (grown_none h) (fun j o e _ => by cases e), h.mono hw, h.block _ (by omega), h.block _ (by omega)⟩
theorem RK.set {w : World} {q : Nat} (W : World) (p j : Nat) (v : Value) (hw : w.heap.size ≤ p) (h2 : q + 2 ≠ p) (h3 : q + 3 ≠ p) : RK w q W (W.setCell ⟨p, j, none⟩ v) := ⟨KeepsOthers.setCell _ _ _, (Below.refl _ _).setCell hw _, Below.heap_setCell _ _ _ _ h2, Below.heap_setCell _ _ _ _ h3⟩
theorem RK.app {w : World} {q : Nat} {W W' : World} {ax : Option Addr} {nx cx : Nat} {lx : List UInt8} (ho : OwnB W w.heap.size ax nx cx lx) (hw : w.heap.size ≤ W.heap.size) (hg : W.grownBy W' (blkOf ax)) (hb : Below w.heap.size W W') {t2 t3 : TypeId} {r2 r3 : Array Value} (x2 : Box W (q + 2) t2 r2) (x3 : Box W (q + 3) t3 r3) (h2 : t2 ≠ 5) (h3 : t3 ≠ 5) : RK w q W W' := by
  have hne : ∀ k t, tag W k = some t → t ≠ 5 → blkOf ax ≠ some k := fun k t hk ht he => ht (by have := ho.tag he; rw [hk] at this; exact Option.some.inj this)
  refine ⟨KeepsOthers.of_grownBy hg (fun j o e hj => ?_), hb, hg.block _ x2.lt (fun e => hne _ _ x2.tag h2 e.symm), hg.block _ x3.lt (fun e => hne _ _ x3.tag h3 e.symm)⟩
  rcases ho.row.2 with ⟨hv, _⟩ | ⟨g, c', cur, hv, hbb, hgg, _⟩
  · simp only [Value.slice.injEq] at hv
    rw [hv.1] at e
    cases e
  · simp only [Value.slice.injEq] at hv
    rw [hv.1] at e
    cases e
    rw [hgg] at hj
    cases hj
    rfl
def BX (w : World) (c : Code) (pre : List (ChX w)) (W : World) : Prop := False
set_option maxRecDepth 100000 in
theorem build_arg (a : Option Addr) (n c : Nat) (iv : Int) (h : ¬ (1 ≤ iv ∧ iv ≤ 16)) (w : World) : Calls Tryz.prog 24 #[.slice a n c, .int .i64 iv] w fun r w' => r = .returned (.tuple #[.slice none 0 0, .int .i64 1]) ∧ Below w.heap.size w w' := by
  go_enter Tryz.func24, Tryz.ntmps24
  go_wp2_with fail
  refine (mayBe_no _ h _).mono ?_
  rintro _ _ ⟨rfl, rfl⟩
  go_wp2
  go_ret2
  exact ⟨ret2 rfl rfl, Below.refl _ _⟩
set_option maxRecDepth 100000 in
theorem build_bad (a : Option Addr) (n c : Nat) (l : List KV) (iv : Int) (hi : 1 ≤ iv ∧ iv ≤ 16) (w : World) (h : KsAt w a n c l) (hw : WfL l) (he : chkL l ≠ 0) : Calls Tryz.prog 24 #[.slice a n c, .int .i64 iv] w fun r w' => r = .returned (.tuple #[.slice none 0 0, .int .i64 ((chkL l : Nat) : Int)]) ∧ Below w.heap.size w w' := by
  have hc := bcheck_any a n c l w h hw
  have hne : (((chkL l : Nat) : Int) != 0) = true := by simp; omega
  generalize chkL l = e at hc hne
  go_enter Tryz.func24, Tryz.ntmps24
  go_wp2_with fail
  refine (mayBe_yes _ hi _).mono ?_
  rintro _ _ ⟨rfl, rfl⟩
  go_wp2_with fail
  refine hc.mono ?_
  rintro _ w1 ⟨rfl, hb⟩
  go_wp2
  go_ret2
  exact ⟨ret2 rfl rfl, hb⟩
theorem chunks_len_le {iv : Nat} (hi : 1 ≤ iv) (l : List KV) : (chunks iv l).length ≤ l.length := by
  refine chunks_ind hi (P := fun l => (chunks iv l).length ≤ l.length) (by simp [chunks_nil]) (fun l hne ih => ?_) l
  have h0 : 0 < l.length := List.length_pos_iff.2 hne
  rw [chunks_cons hi hne, List.length_cons]
  rw [List.length_drop] at ih
  omega
theorem out_len {w : World} : ∀ pre : List (ChX w), (((ChX.ls pre).map (strB [])).flatten).length ≤ 17632 * pre.length
  | [] => by simp [ChX.ls]
  | x :: r => by
    have h1 := strB_len x.1.2 [] x.2.2.2
    have h2 := x.2.2.1
    have h3 := out_len r
    simp only [ChX.ls, List.map_cons, List.flatten_cons, List.length_append, List.length_cons] at h3 ⊢
    omega
theorem pl_len {w : World} (pre : List (ChX w)) : (placesB 0 ((ChX.ls pre).map (strB []))).length = 4 * pre.length := by
  rw [placesB_len]
  simp [ChX.ls]
/-- Where a round of Build is. -/
structure BS (w : World) (q : Nat) (W : World) (a : Option Addr) (n c iv : Nat) (ao : Option Addr) (no co : Nat) (lo : List UInt8) (ap : Option Addr) (np cp : Nat) (lp : List UInt8) (V : World) : Prop where
  base : Below w.heap.size w V
  le : w.heap.size ≤ q
  rk : RK w q W V
  x2 : Box V (q + 2) 23 #[.slice a n c]
  x3 : Box V (q + 3) 3 #[.int .i64 (iv : Int)]
  bo : Box V q TBs #[.slice ao no co]
  bp : Box V (q + 1) TBs #[.slice ap np cp]
  oo : OwnB V w.heap.size ao no co lo
  op : OwnB V w.heap.size ap np cp lp
  off : ∀ k, blkOf ao = some k → blkOf ap ≠ some k
section
variable {w : World} {q : Nat} {W : World} {a : Option Addr} {n c iv : Nat} {ao : Option Addr} {no co : Nat} {lo : List UInt8} {ap : Option Addr} {np cp : Nat} {lp : List UInt8} {V V' : World}
theorem BS.call (h : BS w q W a n c iv ao no co lo ap np cp lp V) (hb : Below V.heap.size V V') : BS w q W a n c iv ao no co lo ap np cp lp V' :=
  ⟨h.base.trans (hb.mono h.base.size), h.le, h.rk.trans (RK.of hb h.base.size h.x3.lt), h.x2.kept (hb.block _ h.x2.lt), h.x3.kept (hb.block _ h.x3.lt), h.bo.kept (hb.block _ h.bo.lt), h.bp.kept (hb.block _ h.bp.lt), h.oo.below hb, h.op.below hb, h.off⟩
theorem OwnB.apart {B : Nat} {ax : Option Addr} {nx cx : Nat} {lx : List UInt8} (h : OwnB V B ax nx cx lx) {p : Nat} {t : TypeId} {r : Array Value} (hb : Box V p t r) (ht : t ≠ 5) : blkOf ax ≠ some p := fun e => ht (by have := h.tag e; rw [hb.tag] at this; exact Option.some.inj this)
theorem BS.appP (h : BS w q W a n c iv ao no co lo ap np cp lp V) {a4 : Option Addr} {n4 c4 : Nat} {l4 : List UInt8} (ho : OwnB V' w.heap.size a4 n4 c4 l4) (hb : Below w.heap.size V V') (hg : V.grownBy V' (blkOf ap)) (hl : blkOf a4 = blkOf ap ∨ blkOf a4 = some V.heap.size) :
    (V'.cell? ⟨q + 1, 0, none⟩ = some (.slice ap np cp) ∧ V'.frozen? ⟨q + 1, 0, none⟩ = false) ∧ BS w q W a n c iv ao no co lo a4 n4 c4 l4 (V'.setCell ⟨q + 1, 0, none⟩ (.slice a4 n4 c4)) := by
  have k2 := h.x2.kept (hg.block _ h.x2.lt (fun e => h.op.apart h.x2 (by decide) e.symm))
  have k3 := h.x3.kept (hg.block _ h.x3.lt (fun e => h.op.apart h.x3 (by decide) e.symm))
  have ko := h.bo.kept (hg.block _ h.bo.lt (fun e => h.op.apart h.bo (by decide) e.symm))
  have kp := h.bp.kept (hg.block _ h.bp.lt (fun e => h.op.apart h.bp (by decide) e.symm))
  have oo' : OwnB V' w.heap.size ao no co lo := h.oo.kept fun k hk => hg.block k (tag_lt (h.oo.tag hk)) (fun e => h.off k hk e.symm)
  have hle := h.le
  refine ⟨⟨kp.cell 0, kp.soft 0⟩, ⟨(h.base.trans hb).setCell (by show w.heap.size ≤ q + 1; omega) _, h.le, (h.rk.trans (RK.app h.op h.base.size hg hb h.x2 h.x3 (by decide) (by decide))).trans (RK.set _ _ _ _ (by omega) (by omega) (by omega)), k2.other (by omega) 0 _, k3.other (by omega) 0 _, ko.other (by omega) 0 _, (kp.set 0 _).eq (by simp), oo'.kept fun k hk => Below.heap_setCell _ _ _ _ (fun e => oo'.apart kp (by decide) (hk.trans (congrArg some e))), ho.kept fun k hk => Below.heap_setCell _ _ _ _ (fun e => ho.apart kp (by decide) (hk.trans (congrArg some e))), fun k hk he => ?_⟩⟩
  rcases hl with hl | hl
  · exact h.off k hk (hl ▸ he)
  · have := tag_lt (h.oo.tag hk)
    rw [he] at hl
    have := Option.some.inj hl
    omega
theorem BS.appO (h : BS w q W a n c iv ao no co lo ap np cp lp V) {a4 : Option Addr} {n4 c4 : Nat} {l4 : List UInt8} (ho : OwnB V' w.heap.size a4 n4 c4 l4) (hb : Below w.heap.size V V') (hg : V.grownBy V' (blkOf ao)) (hl : blkOf a4 = blkOf ao ∨ blkOf a4 = some V.heap.size) :
    (V'.cell? ⟨q, 0, none⟩ = some (.slice ao no co) ∧ V'.frozen? ⟨q, 0, none⟩ = false) ∧ BS w q W a n c iv a4 n4 c4 l4 ap np cp lp (V'.setCell ⟨q, 0, none⟩ (.slice a4 n4 c4)) := by
  have k2 := h.x2.kept (hg.block _ h.x2.lt (fun e => h.oo.apart h.x2 (by decide) e.symm))
  have k3 := h.x3.kept (hg.block _ h.x3.lt (fun e => h.oo.apart h.x3 (by decide) e.symm))
  have ko := h.bo.kept (hg.block _ h.bo.lt (fun e => h.oo.apart h.bo (by decide) e.symm))
  have kp := h.bp.kept (hg.block _ h.bp.lt (fun e => h.oo.apart h.bp (by decide) e.symm))
  have op' : OwnB V' w.heap.size ap np cp lp := h.op.kept fun k hk => hg.block k (tag_lt (h.op.tag hk)) (fun e => h.off k e.symm hk)
  have hle := h.le
  refine ⟨⟨ko.cell 0, ko.soft 0⟩, ⟨(h.base.trans hb).setCell (by show w.heap.size ≤ q; omega) _, h.le, (h.rk.trans (RK.app h.oo h.base.size hg hb h.x2 h.x3 (by decide) (by decide))).trans (RK.set _ _ _ _ (by omega) (by omega) (by omega)), k2.other (by omega) 0 _, k3.other (by omega) 0 _, (ko.set 0 _).eq (by simp), kp.other (by omega) 0 _, ho.kept fun k hk => Below.heap_setCell _ _ _ _ (fun e => ho.apart ko (by decide) (hk.trans (congrArg some e))), op'.kept fun k hk => Below.heap_setCell _ _ _ _ (fun e => op'.apart ko (by decide) (hk.trans (congrArg some e))), fun k hk he => ?_⟩⟩
  rcases hl with hl | hl
  · exact h.off k (hl ▸ hk) he
  · have := tag_lt (h.op.tag he)
    rw [hk] at hl
    have := Option.some.inj hl
    omega
end
end Go.Proofs.YtgegjcnjlibfdaaGreat
/- The contract of block's Build. -/
namespace Go.Proofs.YtgegjcnjlibfdaaGreat
open Go.RowKit Go.Shelf
attribute [local go_sem] Oper.semAt_some
set_option linter.unusedVariables false
set_option linter.unusedSimpArgs false
set_option maxRecDepth 100000 in
set_option maxHeartbeats 40000000 in
theorem build_yes (a : Option Addr) (n c : Nat) (l : List KV) (iv : Nat) (hi1 : 1 ≤ iv) (hi16 : iv ≤ 16) (w : World) (h : KsAt w a n c l) (hbare : a = none → c = 0) (hspot : ∀ x, a = some x → x.spot = none) (hn : n ≤ 1000000) (hw : WfL l) (he : chkL l = 0) :
    Calls Tryz.prog 24 #[.slice a n c, .int .i64 (iv : Int)] w fun r w' => ∃ a' c', r = .returned (.tuple #[.slice a' (layP iv l).length c', .int .i64 0]) ∧ OwnB w' w.heap.size a' (layP iv l).length c' (layP iv l) ∧ Below w.heap.size w w' := by
  have hc := bcheck_any a n c l w h hw
  rw [he] at hc
  have HH : Hid (KsAt w a n c l ∧ (a = none → c = 0) ∧ (∀ x, a = some x → x.spot = none) ∧ ∀ e ∈ l, EOk e) := ⟨h, hbare, hspot, (chkL_zero.1 he).1⟩
  have hmix : Tryz.prog.follows Departure.mixedOrders = true := by kernel_rfl
  clear h hbare hspot he
  refine (callsIn_wide (n := 6)).1 ?_
  refine callsIn_of_wp_marks Tryz.func24 rfl trivial ?_ rfl
  simp only [Tryz.ntmps24, List.size_toArray, List.length_cons, List.length_nil, Nat.reduceAdd, Nat.reduceSub, Array.replicate_succ, Array.replicate_zero, List.push_toArray, List.append_toArray, List.nil_append, List.cons_append]
  gi_wp2_with (first
    | (refine ⟨trivial, ?_⟩; gi_at_call 57; refine (callsIn_wide.2 (mayBe_yes _ (by omega) _)).mono ?_; rintro e w1 ⟨rfl, rfl⟩)
    | (refine ⟨trivial, ?_⟩; gi_at_call 58; refine (callsIn_wide.2 hc).mono ?_; rintro e w1 ⟨rfl, hb1⟩)
    | (refine ⟨trivial, ?_⟩; gi_at_call 59; refine (callsIn_wide.2 (chunk_any a n c iv hi1 _)).mono ?_; rintro e w2 ⟨rfl, rfl⟩))
  generalize hw2 : (((w1.alloc (.cells #[.slice none 0 0] 27)).alloc (.cells #[.slice none 0 0] 27)).alloc (.cells #[.slice a n c] 23)).alloc (.cells #[.int .i64 (iv : Int)] 3) = w2
  have W4 : Hid (Below w.heap.size w w2 ∧ w.heap.size ≤ w1.heap.size ∧ w2.heap.size = w1.heap.size + 4 ∧ Box w2 w1.heap.size TBs #[.slice none 0 0] ∧ Box w2 (w1.heap.size + 1) TBs #[.slice none 0 0] ∧ Boxed w2 (w1.heap.size + 2) 23 (.slice a n c) ∧ Boxed w2 (w1.heap.size + 3) 3 (.int .i64 (iv : Int))) := by
    subst hw2
    have hs := hb1.size
    refine ⟨(((hb1.alloc hs _).alloc (by simp; omega) _).alloc (by simp; omega) _).alloc (by simp; omega) _, hs, by simp, (((Box.new _ _ _).alloc _).alloc _).alloc _, ?_, ?_, ?_⟩
    · have := ((Box.new (w1.alloc (.cells #[.slice none 0 0] TBs)) TBs #[.slice none 0 0]).alloc (.cells #[.slice a n c] 23)).alloc (.cells #[.int .i64 (iv : Int)] 3)
      simpa using this
    · have := (Boxed.new ((w1.alloc (.cells #[.slice none 0 0] TBs)).alloc (.cells #[.slice none 0 0] TBs)) 23 (.slice a n c)).alloc (.cells #[.int .i64 (iv : Int)] 3)
      simpa [Nat.add_assoc] using this
    · have := Boxed.new (((w1.alloc (.cells #[.slice none 0 0] TBs)).alloc (.cells #[.slice none 0 0] TBs)).alloc (.cells #[.slice a n c] 23)) 3 (.int .i64 (iv : Int))
      simpa [Nat.add_assoc] using this
  clear hw2
  simp only [Nat.add_assoc, Nat.reduceAdd] at *
  generalize hq : w1.heap.size = q at *
  have hlen4 := W4.out.2.2.1
  refine wpIn_rangeFunc_ownG (F := Fence.wide) rfl (by omega) (gf := 97) (lb := #[.pointer (some ⟨q + 2, 0, none⟩), .pointer (some ⟨q + 3, 0, none⟩)]) rfl trivial (enters_of Tryz.func97 (by kernel_rfl) rfl)
    (chunk_stops 5 (by omega) w a n c iv l HH.out.1 HH.out.2.1 HH.out.2.2.1 (by omega) hi1 hi16 HH.out.2.2.2 (q + 2) w2 W4.out.2.2.2.2.2.1 W4.out.2.2.2.2.2.2) Kp4.trans (Kp4.put W4.out.1.size (by omega)) (Below.refl _ _) (fun _ => rfl)
    (BI w q a n c iv) (BX w) (BI.own w q a n c iv _ (W4.out.1.size)) (fun c pre W W' row h => h.elim) ⟨W4.out.1, W4.out.2.1, W4.out.2.2.2.2.2.1, W4.out.2.2.2.2.2.2, none, none, 0, 0, 0, 0, W4.out.2.2.2.1, W4.out.2.2.2.2.1, OwnB.nil _ _, OwnB.nil _ _, by simp [blkOf]⟩
    (fun x => { tmps := #[.slice a n c, .int .i64 (iv : Int), undef, undef, .slice none 0 0, .int .i64 0, .int .i64 0, .pointer (some ⟨q, 0, none⟩), .pointer (some ⟨q + 1, 0, none⟩), .slice x.1.1 x.1.2.length x.1.2.length, .int .i64 (iv : Int), .bool true, .bool false, .slice a n c, .int .i64 0, .int .i64 0, .bool false, undef, .slice a n c, .int .i64 (iv : Int),
        .func (.func 97) #[] #[.pointer (some ⟨q + 2, 0, none⟩), .pointer (some ⟨q + 3, 0, none⟩)], .slice x.1.1 x.1.2.length x.1.2.length, undef, undef, undef, undef, undef, undef, undef, undef, undef, undef, undef, undef, undef, undef, undef, undef, undef, undef, undef, undef, undef, undef, undef, undef, undef], defers := [] }) ?assign ?body ?done ?stop
  case assign =>
    intro lb x W K hK
    simp only [ChX.vals]
    gi_wp2
    exact hK
  case body =>
    rintro lb pre x W ⟨g1, g2, x2, x3, ao, ap, no, co, np, cp, g3, g4, g5, g6, g7⟩ hpl
    have c0 : W.cell? ⟨q, 0, none⟩ = some (.slice ao no co) := g3.cell 0
    have c1 : W.cell? ⟨q + 1, 0, none⟩ = some (.slice ap np cp) := g4.cell 0
    -- BODY
    obtain ⟨hks, hxl, hxok⟩ := x.2
    dsimp only
    generalize x.1.1 = xa at hks ⊢
    generalize hxe : x.1.2 = xl at hks hxl hxok ⊢
    have HXE : Hid (x.1.2 = xl) := hxe
    clear hxe
    have hplen : pre.length < 1000000 := Nat.lt_of_lt_of_le hpl (Nat.le_trans (chunks_len_le hi1 l) (by rw [HH.out.1.size]; exact hn))
    have hno : no ≤ 17632000000 := by have h1 := out_len pre; have h2 := g5.size; omega
    have hnp2 : np ≤ 4000000 := by have h1 := pl_len pre; have h2 := g6.size; omega
    have G : Hid (BS w q W a n c iv ao no co (((ChX.ls pre).map (strB [])).flatten) ap np cp (placesB 0 ((ChX.ls pre).map (strB []))) W) := ⟨g1, g2, ⟨KeepsOthers.refl _, Below.refl _ _, rfl, rfl⟩, x2, x3, g3, g4, g5, g6, g7⟩
    have HNO : Hid ((((ChX.ls pre).map (strB [])).flatten).length = no) := g5.size
    have HPF : Hid (∀ V : World, Calls Tryz.prog 60 #[.slice none 0 0, .int .u64 (no : Int), .int .i64 4] V fun e w' => ∃ a' c', e = .returned (.slice a' 4 c') ∧ BsAt w' a' 4 c' (fxEnc no 4) ∧ Below V.heap.size V w') := fun V => putFixed_nil no 4 4 V (by omega) (by simp [fxPut, fxEnc_length])
    have hcv := conv_int_u64 no (by omega)
    have HKS : Hid (KsAt w xa xl.length xl.length xl ∧ (∀ e ∈ xl, EOk e)) := ⟨hks, hxok⟩
    have HSL : Hid ((strB [] xl).length ≤ 17632) := by have := strB_len xl [] hxok; show (strB [] xl).length ≤ 17632; omega
    clear hks hxok g1 g2 x2 x3 g3 g4 g5 g6 g7
    generalize hxln : xl.length = xn at hxl HKS ⊢
    clear hxln
    generalize hlo : ((ChX.ls pre).map (strB [])).flatten = lo at G HNO
    generalize hlp : placesB 0 ((ChX.ls pre).map (strB [])) = lp at G
    have HLL : Hid (((ChX.ls pre).map (strB [])).flatten = lo ∧ placesB 0 ((ChX.ls pre).map (strB [])) = lp) := ⟨hlo, hlp⟩
    clear hlo hlp
    gi_wp2
    rename_i K9 hK9
    have HEND : Hid (∀ (a3 : Option Addr) (c3 : Nat) (a4 : Option Addr) (c4 : Nat) (w4 : World), BS w q W a n c iv ao no co lo a4 (np + 4) c4 (lp ++ fxEnc no 4) w4 → K9 { tmps := #[.slice a n c, .int .i64 (iv : Int), undef, undef, .slice none 0 0, .int .i64 0, .int .i64 0, .pointer (some ⟨q, 0, none⟩), .pointer (some ⟨q + 1, 0, none⟩), .slice xa xn xn, .int .i64 (iv : Int), .bool true, .bool false, .slice a n c, .int .i64 0, .int .i64 0, .bool false, undef, .slice a n c, .int .i64 (iv : Int), .func (.func 97) #[] #[.pointer (some ⟨q + 2, 0, none⟩), .pointer (some ⟨q + 3, 0, none⟩)], .slice xa xn xn, .slice ap np cp, .slice ao no co, .int .i64 (no : Int), .int .u64 (no : Int), .slice a3 4 c3, .slice a4 (np + 4) c4, undef, undef, undef, undef, undef, undef, undef, undef, undef, undef, undef, undef, undef, undef, undef, undef, undef, undef, undef], defers := [] } w4) := by
      intro a3 c3 a4 c4 w4 hb4
      have B4 : Hid (BS w q W a n c iv ao no co lo a4 (np + 4) c4 (lp ++ fxEnc no 4) w4) := hb4
      have c0 : w4.cell? ⟨q, 0, none⟩ = some (.slice ao no co) := hb4.bo.cell 0
      have HST : Hid (∀ V : World, Below w4.heap.size w4 V → Calls Tryz.prog 61 #[.slice xa xn xn] V fun e w' => ∃ a' c', e = .returned (.slice a' (strB [] xl).length c') ∧ BsAt w' a' (strB [] xl).length c' (strB [] xl) ∧ Below V.heap.size V w') := fun V hV => (stretch_any xa xn xn xl V (HKS.out.1.below (B4.out.base.trans (hV.mono B4.out.base.size))) HKS.out.2 (by omega)).mono fun r w' ⟨a', c', h1, h2, h3⟩ => ⟨a', c', h1, h2.bs, h3⟩
      have hsl := HSL.out
      generalize hsn : (strB [] xl).length = sn at HST hsl
      clear hb4 hsn HPF hcv
      refine hK9 _ _ ?_
      clear hK9
      refine wpIn_region_any (by assumption) ?_
      try (change wpAnyIn _ _ _ _ _ _ _ _ _ (World.drew _))
      refine wpAnyIn_ready (rs := [0, 1]) (by kernel_rfl) (by simp) ?_
      refine AllReadyIn.cons rfl (fun K hK => ?_) ?_
      · skip
        go_simp
        refine hK _ _ ?_
        clear hK K
        try simp only [Act.put, List.setIfInBounds_toArray, List.set_cons_zero, List.set_cons_succ]
        refine wpAnyIn_ready (rs := [1]) (by kernel_rfl) (by simp) ?_
        refine AllReadyIn.cons rfl (fun K hK => ?_) ?_
        · skip
          go_simp
          refine hK _ _ ?_
          clear hK K
          try simp only [Act.put, List.setIfInBounds_toArray, List.set_cons_zero, List.set_cons_succ]
          refine wpAnyIn_ready (rs := [2]) (by kernel_rfl) (by simp) ?_
          refine AllReadyIn.cons rfl (fun K hK => ?_) ?_
          · skip
            go_simp
            refine ⟨trivial, ?_⟩
            refine (CallsIn.inRound lb (callsIn_wide.2 (HST.out _ (Below.refl _ _).drew))).mono ?_
            rintro e w5 ⟨a5, c5, rfl, hbs5, hb5⟩
            have B5 : Hid (BS w q W a n c iv ao no co lo a4 (np + 4) c4 (lp ++ fxEnc no 4) w5 ∧ BsAt w5 a5 sn c5 (strB [] xl)) := ⟨B4.out.call (((Below.refl _ w4).drew).trans hb5), hbs5⟩
            have c0 : w5.cell? ⟨q, 0, none⟩ = some (.slice ao no co) := B5.out.1.bo.cell 0
            clear hbs5 hb5
            refine hK _ _ ?_
            clear hK K
            try simp only [Act.put, List.setIfInBounds_toArray, List.set_cons_zero, List.set_cons_succ]
            refine wpAnyIn_ready (rs := [3]) (by kernel_rfl) (by simp) ?_
            refine AllReadyIn.cons rfl (fun K hK => ?_) ?_
            · skip
              refine stepIn_appAt rfl (.tmp 28) (.tmp 30) rfl w.heap.size ao no co _ rfl B5.out.1.oo a5 sn c5 _ rfl B5.out.2 (by omega) B5.out.1.base.size ?_
              intro a6 c6 w6 ho6 hb6 hg6 hl6
              obtain ⟨⟨f0, f1⟩, hB6⟩ := B5.out.1.appO ho6 hb6 hg6 hl6
              have B6 : Hid (BS w q W a n c iv a6 (no + sn) c6 (lo ++ strB [] xl) a4 (np + 4) c4 (lp ++ fxEnc no 4) (w6.setCell ⟨q, 0, none⟩ (.slice a6 (no + sn) c6))) := hB6
              clear ho6 hb6 hg6 hl6 hB6
              refine hK _ _ ?_
              clear hK K
              try simp only [Act.put, List.setIfInBounds_toArray, List.set_cons_zero, List.set_cons_succ]
              refine wpAnyIn_ready (rs := [4]) (by kernel_rfl) (by simp) ?_
              refine AllReadyIn.cons rfl (fun K hK => ?_) ?_
              · skip
                go_simp
                refine hK _ _ ?_
                clear hK K
                try simp only [Act.put, List.setIfInBounds_toArray, List.set_cons_zero, List.set_cons_succ]
                refine wpAnyIn_done (by kernel_rfl) ?_ _
                obtain ⟨z1, z2, z3, z4, z5, z6, z7, z8, z9, z10⟩ := B6.out
                refine ⟨z3.ko.from _, z3.kp, z1, z2, z4, z5, a6, a4, no + sn, c6, np + 4, c4, z6, z7, ?_, ?_, z10⟩
                · rw [ls_snoc, List.map_append, List.flatten_append, HLL.out.1, HXE.out]
                  simpa using z8
                · rw [ls_snoc, List.map_append]
                  show OwnB _ _ _ _ _ (placesB 0 (_ ++ [strB [] x.1.2]))
                  rw [places_snoc, HLL.out.1, HLL.out.2, HNO.out, Nat.zero_add]
                  exact z9
              exact AllReadyIn.nil
            exact AllReadyIn.nil
          exact AllReadyIn.nil
        exact AllReadyIn.nil
      refine AllReadyIn.cons rfl (fun K hK => ?_) ?_
      · skip
        go_simp
        refine hK _ _ ?_
        clear hK K
        try simp only [Act.put, List.setIfInBounds_toArray, List.set_cons_zero, List.set_cons_succ]
        refine wpAnyIn_ready (rs := [0, 2]) (by kernel_rfl) (by simp) ?_
        refine AllReadyIn.cons rfl (fun K hK => ?_) ?_
        · skip
          go_simp
          refine hK _ _ ?_
          clear hK K
          try simp only [Act.put, List.setIfInBounds_toArray, List.set_cons_zero, List.set_cons_succ]
          refine wpAnyIn_ready (rs := [2]) (by kernel_rfl) (by simp) ?_
          refine AllReadyIn.cons rfl (fun K hK => ?_) ?_
          · skip
            go_simp
            refine ⟨trivial, ?_⟩
            refine (CallsIn.inRound lb (callsIn_wide.2 (HST.out _ (Below.refl _ _).drew))).mono ?_
            rintro e w5 ⟨a5, c5, rfl, hbs5, hb5⟩
            have B5 : Hid (BS w q W a n c iv ao no co lo a4 (np + 4) c4 (lp ++ fxEnc no 4) w5 ∧ BsAt w5 a5 sn c5 (strB [] xl)) := ⟨B4.out.call (((Below.refl _ w4).drew).trans hb5), hbs5⟩
            have c0 : w5.cell? ⟨q, 0, none⟩ = some (.slice ao no co) := B5.out.1.bo.cell 0
            clear hbs5 hb5
            refine hK _ _ ?_
            clear hK K
            try simp only [Act.put, List.setIfInBounds_toArray, List.set_cons_zero, List.set_cons_succ]
            refine wpAnyIn_ready (rs := [3]) (by kernel_rfl) (by simp) ?_
            refine AllReadyIn.cons rfl (fun K hK => ?_) ?_
            · skip
              refine stepIn_appAt rfl (.tmp 28) (.tmp 30) rfl w.heap.size ao no co _ rfl B5.out.1.oo a5 sn c5 _ rfl B5.out.2 (by omega) B5.out.1.base.size ?_
              intro a6 c6 w6 ho6 hb6 hg6 hl6
              obtain ⟨⟨f0, f1⟩, hB6⟩ := B5.out.1.appO ho6 hb6 hg6 hl6
              have B6 : Hid (BS w q W a n c iv a6 (no + sn) c6 (lo ++ strB [] xl) a4 (np + 4) c4 (lp ++ fxEnc no 4) (w6.setCell ⟨q, 0, none⟩ (.slice a6 (no + sn) c6))) := hB6
              clear ho6 hb6 hg6 hl6 hB6
              refine hK _ _ ?_
              clear hK K
              try simp only [Act.put, List.setIfInBounds_toArray, List.set_cons_zero, List.set_cons_succ]
              refine wpAnyIn_ready (rs := [4]) (by kernel_rfl) (by simp) ?_
              refine AllReadyIn.cons rfl (fun K hK => ?_) ?_
              · skip
                go_simp
                refine hK _ _ ?_
                clear hK K
                try simp only [Act.put, List.setIfInBounds_toArray, List.set_cons_zero, List.set_cons_succ]
                refine wpAnyIn_done (by kernel_rfl) ?_ _
                obtain ⟨z1, z2, z3, z4, z5, z6, z7, z8, z9, z10⟩ := B6.out
                refine ⟨z3.ko.from _, z3.kp, z1, z2, z4, z5, a6, a4, no + sn, c6, np + 4, c4, z6, z7, ?_, ?_, z10⟩
                · rw [ls_snoc, List.map_append, List.flatten_append, HLL.out.1, HXE.out]
                  simpa using z8
                · rw [ls_snoc, List.map_append]
                  show OwnB _ _ _ _ _ (placesB 0 (_ ++ [strB [] x.1.2]))
                  rw [places_snoc, HLL.out.1, HLL.out.2, HNO.out, Nat.zero_add]
                  exact z9
              exact AllReadyIn.nil
            exact AllReadyIn.nil
          exact AllReadyIn.nil
        refine AllReadyIn.cons rfl (fun K hK => ?_) ?_
        · skip
          go_simp
          refine ⟨trivial, ?_⟩
          refine (CallsIn.inRound lb (callsIn_wide.2 (HST.out _ (Below.refl _ _).drew))).mono ?_
          rintro e w5 ⟨a5, c5, rfl, hbs5, hb5⟩
          have B5 : Hid (BS w q W a n c iv ao no co lo a4 (np + 4) c4 (lp ++ fxEnc no 4) w5 ∧ BsAt w5 a5 sn c5 (strB [] xl)) := ⟨B4.out.call (((Below.refl _ w4).drew).trans hb5), hbs5⟩
          have c0 : w5.cell? ⟨q, 0, none⟩ = some (.slice ao no co) := B5.out.1.bo.cell 0
          clear hbs5 hb5
          refine hK _ _ ?_
          clear hK K
          try simp only [Act.put, List.setIfInBounds_toArray, List.set_cons_zero, List.set_cons_succ]
          refine wpAnyIn_ready (rs := [0]) (by kernel_rfl) (by simp) ?_
          refine AllReadyIn.cons rfl (fun K hK => ?_) ?_
          · skip
            go_simp
            refine hK _ _ ?_
            clear hK K
            try simp only [Act.put, List.setIfInBounds_toArray, List.set_cons_zero, List.set_cons_succ]
            refine wpAnyIn_ready (rs := [3]) (by kernel_rfl) (by simp) ?_
            refine AllReadyIn.cons rfl (fun K hK => ?_) ?_
            · skip
              refine stepIn_appAt rfl (.tmp 28) (.tmp 30) rfl w.heap.size ao no co _ rfl B5.out.1.oo a5 sn c5 _ rfl B5.out.2 (by omega) B5.out.1.base.size ?_
              intro a6 c6 w6 ho6 hb6 hg6 hl6
              obtain ⟨⟨f0, f1⟩, hB6⟩ := B5.out.1.appO ho6 hb6 hg6 hl6
              have B6 : Hid (BS w q W a n c iv a6 (no + sn) c6 (lo ++ strB [] xl) a4 (np + 4) c4 (lp ++ fxEnc no 4) (w6.setCell ⟨q, 0, none⟩ (.slice a6 (no + sn) c6))) := hB6
              clear ho6 hb6 hg6 hl6 hB6
              refine hK _ _ ?_
              clear hK K
              try simp only [Act.put, List.setIfInBounds_toArray, List.set_cons_zero, List.set_cons_succ]
              refine wpAnyIn_ready (rs := [4]) (by kernel_rfl) (by simp) ?_
              refine AllReadyIn.cons rfl (fun K hK => ?_) ?_
              · skip
                go_simp
                refine hK _ _ ?_
                clear hK K
                try simp only [Act.put, List.setIfInBounds_toArray, List.set_cons_zero, List.set_cons_succ]
                refine wpAnyIn_done (by kernel_rfl) ?_ _
                obtain ⟨z1, z2, z3, z4, z5, z6, z7, z8, z9, z10⟩ := B6.out
                refine ⟨z3.ko.from _, z3.kp, z1, z2, z4, z5, a6, a4, no + sn, c6, np + 4, c4, z6, z7, ?_, ?_, z10⟩
                · rw [ls_snoc, List.map_append, List.flatten_append, HLL.out.1, HXE.out]
                  simpa using z8
                · rw [ls_snoc, List.map_append]
                  show OwnB _ _ _ _ _ (placesB 0 (_ ++ [strB [] x.1.2]))
                  rw [places_snoc, HLL.out.1, HLL.out.2, HNO.out, Nat.zero_add]
                  exact z9
              exact AllReadyIn.nil
            exact AllReadyIn.nil
          exact AllReadyIn.nil
        exact AllReadyIn.nil
      exact AllReadyIn.nil
    refine wpIn_region_any (by assumption) ?_
    try (change wpAnyIn _ _ _ _ _ _ _ _ _ (World.drew _))
    refine wpAnyIn_ready (rs := [0, 1]) (by kernel_rfl) (by simp) ?_
    refine AllReadyIn.cons rfl (fun K hK => ?_) ?_
    · skip
      go_simp
      refine hK _ _ ?_
      clear hK K
      try simp only [Act.put, List.setIfInBounds_toArray, List.set_cons_zero, List.set_cons_succ]
      refine wpAnyIn_ready (rs := [1]) (by kernel_rfl) (by simp) ?_
      refine AllReadyIn.cons rfl (fun K hK => ?_) ?_
      · skip
        go_simp
        refine hK _ _ ?_
        clear hK K
        try simp only [Act.put, List.setIfInBounds_toArray, List.set_cons_zero, List.set_cons_succ]
        refine wpAnyIn_ready (rs := [2]) (by kernel_rfl) (by simp) ?_
        refine AllReadyIn.cons rfl (fun K hK => ?_) ?_
        · skip
          go_simp
          refine hK _ _ ?_
          clear hK K
          try simp only [Act.put, List.setIfInBounds_toArray, List.set_cons_zero, List.set_cons_succ]
          refine wpAnyIn_ready (rs := [3]) (by kernel_rfl) (by simp) ?_
          refine AllReadyIn.cons rfl (fun K hK => ?_) ?_
          · skip
            go_simp
            refine hK _ _ ?_
            clear hK K
            try simp only [Act.put, List.setIfInBounds_toArray, List.set_cons_zero, List.set_cons_succ]
            refine wpAnyIn_ready (rs := [4]) (by kernel_rfl) (by simp) ?_
            refine AllReadyIn.cons rfl (fun K hK => ?_) ?_
            · skip
              go_simp
              refine ⟨trivial, ?_⟩
              refine (CallsIn.inRound lb (callsIn_wide.2 (HPF.out _))).mono ?_
              rintro e w3 ⟨a3, c3, rfl, hbs3, hb3⟩
              have B3 : Hid (BS w q W a n c iv ao no co lo ap np cp lp w3 ∧ BsAt w3 a3 4 c3 (fxEnc no 4)) := ⟨G.out.call (((Below.refl _ W).drew).trans hb3), hbs3⟩
              have c1 : w3.cell? ⟨q + 1, 0, none⟩ = some (.slice ap np cp) := B3.out.1.bp.cell 0
              clear hbs3 hb3
              refine hK _ _ ?_
              clear hK K
              try simp only [Act.put, List.setIfInBounds_toArray, List.set_cons_zero, List.set_cons_succ]
              refine wpAnyIn_ready (rs := [5]) (by kernel_rfl) (by simp) ?_
              refine AllReadyIn.cons rfl (fun K hK => ?_) ?_
              · skip
                refine stepIn_appAt rfl (.tmp 22) (.tmp 26) rfl w.heap.size ap np cp _ rfl B3.out.1.op a3 4 c3 _ rfl B3.out.2 (by omega) B3.out.1.base.size ?_
                intro a4 c4 w4 ho4 hb4 hg4 hl4
                obtain ⟨⟨f0, f1⟩, hB4⟩ := B3.out.1.appP ho4 hb4 hg4 hl4
                have B4 : Hid (BS w q W a n c iv ao no co lo a4 (np + 4) c4 (lp ++ fxEnc no 4) (w4.setCell ⟨q + 1, 0, none⟩ (.slice a4 (np + 4) c4))) := hB4
                clear ho4 hb4 hg4 hl4 hB4
                refine hK _ _ ?_
                clear hK K
                try simp only [Act.put, List.setIfInBounds_toArray, List.set_cons_zero, List.set_cons_succ]
                refine wpAnyIn_ready (rs := [6]) (by kernel_rfl) (by simp) ?_
                refine AllReadyIn.cons rfl (fun K hK => ?_) ?_
                · skip
                  go_simp
                  refine hK _ _ ?_
                  clear hK K
                  try simp only [Act.put, List.setIfInBounds_toArray, List.set_cons_zero, List.set_cons_succ]
                  refine wpAnyIn_done (by kernel_rfl) ?_ _
                  exact HEND.out _ _ _ _ _ B4.out
                exact AllReadyIn.nil
              exact AllReadyIn.nil
            exact AllReadyIn.nil
          exact AllReadyIn.nil
        exact AllReadyIn.nil
      exact AllReadyIn.nil
    refine AllReadyIn.cons rfl (fun K hK => ?_) ?_
    · skip
      go_simp
      refine hK _ _ ?_
      clear hK K
      try simp only [Act.put, List.setIfInBounds_toArray, List.set_cons_zero, List.set_cons_succ]
      refine wpAnyIn_ready (rs := [0, 2]) (by kernel_rfl) (by simp) ?_
      refine AllReadyIn.cons rfl (fun K hK => ?_) ?_
      · skip
        go_simp
        refine hK _ _ ?_
        clear hK K
        try simp only [Act.put, List.setIfInBounds_toArray, List.set_cons_zero, List.set_cons_succ]
        refine wpAnyIn_ready (rs := [2]) (by kernel_rfl) (by simp) ?_
        refine AllReadyIn.cons rfl (fun K hK => ?_) ?_
        · skip
          go_simp
          refine hK _ _ ?_
          clear hK K
          try simp only [Act.put, List.setIfInBounds_toArray, List.set_cons_zero, List.set_cons_succ]
          refine wpAnyIn_ready (rs := [3]) (by kernel_rfl) (by simp) ?_
          refine AllReadyIn.cons rfl (fun K hK => ?_) ?_
          · skip
            go_simp
            refine hK _ _ ?_
            clear hK K
            try simp only [Act.put, List.setIfInBounds_toArray, List.set_cons_zero, List.set_cons_succ]
            refine wpAnyIn_ready (rs := [4]) (by kernel_rfl) (by simp) ?_
            refine AllReadyIn.cons rfl (fun K hK => ?_) ?_
            · skip
              go_simp
              refine ⟨trivial, ?_⟩
              refine (CallsIn.inRound lb (callsIn_wide.2 (HPF.out _))).mono ?_
              rintro e w3 ⟨a3, c3, rfl, hbs3, hb3⟩
              have B3 : Hid (BS w q W a n c iv ao no co lo ap np cp lp w3 ∧ BsAt w3 a3 4 c3 (fxEnc no 4)) := ⟨G.out.call (((Below.refl _ W).drew).trans hb3), hbs3⟩
              have c1 : w3.cell? ⟨q + 1, 0, none⟩ = some (.slice ap np cp) := B3.out.1.bp.cell 0
              clear hbs3 hb3
              refine hK _ _ ?_
              clear hK K
              try simp only [Act.put, List.setIfInBounds_toArray, List.set_cons_zero, List.set_cons_succ]
              refine wpAnyIn_ready (rs := [5]) (by kernel_rfl) (by simp) ?_
              refine AllReadyIn.cons rfl (fun K hK => ?_) ?_
              · skip
                refine stepIn_appAt rfl (.tmp 22) (.tmp 26) rfl w.heap.size ap np cp _ rfl B3.out.1.op a3 4 c3 _ rfl B3.out.2 (by omega) B3.out.1.base.size ?_
                intro a4 c4 w4 ho4 hb4 hg4 hl4
                obtain ⟨⟨f0, f1⟩, hB4⟩ := B3.out.1.appP ho4 hb4 hg4 hl4
                have B4 : Hid (BS w q W a n c iv ao no co lo a4 (np + 4) c4 (lp ++ fxEnc no 4) (w4.setCell ⟨q + 1, 0, none⟩ (.slice a4 (np + 4) c4))) := hB4
                clear ho4 hb4 hg4 hl4 hB4
                refine hK _ _ ?_
                clear hK K
                try simp only [Act.put, List.setIfInBounds_toArray, List.set_cons_zero, List.set_cons_succ]
                refine wpAnyIn_ready (rs := [6]) (by kernel_rfl) (by simp) ?_
                refine AllReadyIn.cons rfl (fun K hK => ?_) ?_
                · skip
                  go_simp
                  refine hK _ _ ?_
                  clear hK K
                  try simp only [Act.put, List.setIfInBounds_toArray, List.set_cons_zero, List.set_cons_succ]
                  refine wpAnyIn_done (by kernel_rfl) ?_ _
                  exact HEND.out _ _ _ _ _ B4.out
                exact AllReadyIn.nil
              exact AllReadyIn.nil
            exact AllReadyIn.nil
          exact AllReadyIn.nil
        exact AllReadyIn.nil
      refine AllReadyIn.cons rfl (fun K hK => ?_) ?_
      · skip
        go_simp
        refine hK _ _ ?_
        clear hK K
        try simp only [Act.put, List.setIfInBounds_toArray, List.set_cons_zero, List.set_cons_succ]
        refine wpAnyIn_ready (rs := [0, 3]) (by kernel_rfl) (by simp) ?_
        refine AllReadyIn.cons rfl (fun K hK => ?_) ?_
        · skip
          go_simp
          refine hK _ _ ?_
          clear hK K
          try simp only [Act.put, List.setIfInBounds_toArray, List.set_cons_zero, List.set_cons_succ]
          refine wpAnyIn_ready (rs := [3]) (by kernel_rfl) (by simp) ?_
          refine AllReadyIn.cons rfl (fun K hK => ?_) ?_
          · skip
            go_simp
            refine hK _ _ ?_
            clear hK K
            try simp only [Act.put, List.setIfInBounds_toArray, List.set_cons_zero, List.set_cons_succ]
            refine wpAnyIn_ready (rs := [4]) (by kernel_rfl) (by simp) ?_
            refine AllReadyIn.cons rfl (fun K hK => ?_) ?_
            · skip
              go_simp
              refine ⟨trivial, ?_⟩
              refine (CallsIn.inRound lb (callsIn_wide.2 (HPF.out _))).mono ?_
              rintro e w3 ⟨a3, c3, rfl, hbs3, hb3⟩
              have B3 : Hid (BS w q W a n c iv ao no co lo ap np cp lp w3 ∧ BsAt w3 a3 4 c3 (fxEnc no 4)) := ⟨G.out.call (((Below.refl _ W).drew).trans hb3), hbs3⟩
              have c1 : w3.cell? ⟨q + 1, 0, none⟩ = some (.slice ap np cp) := B3.out.1.bp.cell 0
              clear hbs3 hb3
              refine hK _ _ ?_
              clear hK K
              try simp only [Act.put, List.setIfInBounds_toArray, List.set_cons_zero, List.set_cons_succ]
              refine wpAnyIn_ready (rs := [5]) (by kernel_rfl) (by simp) ?_
              refine AllReadyIn.cons rfl (fun K hK => ?_) ?_
              · skip
                refine stepIn_appAt rfl (.tmp 22) (.tmp 26) rfl w.heap.size ap np cp _ rfl B3.out.1.op a3 4 c3 _ rfl B3.out.2 (by omega) B3.out.1.base.size ?_
                intro a4 c4 w4 ho4 hb4 hg4 hl4
                obtain ⟨⟨f0, f1⟩, hB4⟩ := B3.out.1.appP ho4 hb4 hg4 hl4
                have B4 : Hid (BS w q W a n c iv ao no co lo a4 (np + 4) c4 (lp ++ fxEnc no 4) (w4.setCell ⟨q + 1, 0, none⟩ (.slice a4 (np + 4) c4))) := hB4
                clear ho4 hb4 hg4 hl4 hB4
                refine hK _ _ ?_
                clear hK K
                try simp only [Act.put, List.setIfInBounds_toArray, List.set_cons_zero, List.set_cons_succ]
                refine wpAnyIn_ready (rs := [6]) (by kernel_rfl) (by simp) ?_
                refine AllReadyIn.cons rfl (fun K hK => ?_) ?_
                · skip
                  go_simp
                  refine hK _ _ ?_
                  clear hK K
                  try simp only [Act.put, List.setIfInBounds_toArray, List.set_cons_zero, List.set_cons_succ]
                  refine wpAnyIn_done (by kernel_rfl) ?_ _
                  exact HEND.out _ _ _ _ _ B4.out
                exact AllReadyIn.nil
              exact AllReadyIn.nil
            exact AllReadyIn.nil
          exact AllReadyIn.nil
        refine AllReadyIn.cons rfl (fun K hK => ?_) ?_
        · skip
          go_simp
          refine hK _ _ ?_
          clear hK K
          try simp only [Act.put, List.setIfInBounds_toArray, List.set_cons_zero, List.set_cons_succ]
          refine wpAnyIn_ready (rs := [0, 4]) (by kernel_rfl) (by simp) ?_
          refine AllReadyIn.cons rfl (fun K hK => ?_) ?_
          · skip
            go_simp
            refine hK _ _ ?_
            clear hK K
            try simp only [Act.put, List.setIfInBounds_toArray, List.set_cons_zero, List.set_cons_succ]
            refine wpAnyIn_ready (rs := [4]) (by kernel_rfl) (by simp) ?_
            refine AllReadyIn.cons rfl (fun K hK => ?_) ?_
            · skip
              go_simp
              refine ⟨trivial, ?_⟩
              refine (CallsIn.inRound lb (callsIn_wide.2 (HPF.out _))).mono ?_
              rintro e w3 ⟨a3, c3, rfl, hbs3, hb3⟩
              have B3 : Hid (BS w q W a n c iv ao no co lo ap np cp lp w3 ∧ BsAt w3 a3 4 c3 (fxEnc no 4)) := ⟨G.out.call (((Below.refl _ W).drew).trans hb3), hbs3⟩
              have c1 : w3.cell? ⟨q + 1, 0, none⟩ = some (.slice ap np cp) := B3.out.1.bp.cell 0
              clear hbs3 hb3
              refine hK _ _ ?_
              clear hK K
              try simp only [Act.put, List.setIfInBounds_toArray, List.set_cons_zero, List.set_cons_succ]
              refine wpAnyIn_ready (rs := [5]) (by kernel_rfl) (by simp) ?_
              refine AllReadyIn.cons rfl (fun K hK => ?_) ?_
              · skip
                refine stepIn_appAt rfl (.tmp 22) (.tmp 26) rfl w.heap.size ap np cp _ rfl B3.out.1.op a3 4 c3 _ rfl B3.out.2 (by omega) B3.out.1.base.size ?_
                intro a4 c4 w4 ho4 hb4 hg4 hl4
                obtain ⟨⟨f0, f1⟩, hB4⟩ := B3.out.1.appP ho4 hb4 hg4 hl4
                have B4 : Hid (BS w q W a n c iv ao no co lo a4 (np + 4) c4 (lp ++ fxEnc no 4) (w4.setCell ⟨q + 1, 0, none⟩ (.slice a4 (np + 4) c4))) := hB4
                clear ho4 hb4 hg4 hl4 hB4
                refine hK _ _ ?_
                clear hK K
                try simp only [Act.put, List.setIfInBounds_toArray, List.set_cons_zero, List.set_cons_succ]
                refine wpAnyIn_ready (rs := [6]) (by kernel_rfl) (by simp) ?_
                refine AllReadyIn.cons rfl (fun K hK => ?_) ?_
                · skip
                  go_simp
                  refine hK _ _ ?_
                  clear hK K
                  try simp only [Act.put, List.setIfInBounds_toArray, List.set_cons_zero, List.set_cons_succ]
                  refine wpAnyIn_done (by kernel_rfl) ?_ _
                  exact HEND.out _ _ _ _ _ B4.out
                exact AllReadyIn.nil
              exact AllReadyIn.nil
            exact AllReadyIn.nil
          refine AllReadyIn.cons rfl (fun K hK => ?_) ?_
          · skip
            go_simp
            refine ⟨trivial, ?_⟩
            refine (CallsIn.inRound lb (callsIn_wide.2 (HPF.out _))).mono ?_
            rintro e w3 ⟨a3, c3, rfl, hbs3, hb3⟩
            have B3 : Hid (BS w q W a n c iv ao no co lo ap np cp lp w3 ∧ BsAt w3 a3 4 c3 (fxEnc no 4)) := ⟨G.out.call (((Below.refl _ W).drew).trans hb3), hbs3⟩
            have c1 : w3.cell? ⟨q + 1, 0, none⟩ = some (.slice ap np cp) := B3.out.1.bp.cell 0
            clear hbs3 hb3
            refine hK _ _ ?_
            clear hK K
            try simp only [Act.put, List.setIfInBounds_toArray, List.set_cons_zero, List.set_cons_succ]
            refine wpAnyIn_ready (rs := [0]) (by kernel_rfl) (by simp) ?_
            refine AllReadyIn.cons rfl (fun K hK => ?_) ?_
            · skip
              go_simp
              refine hK _ _ ?_
              clear hK K
              try simp only [Act.put, List.setIfInBounds_toArray, List.set_cons_zero, List.set_cons_succ]
              refine wpAnyIn_ready (rs := [5]) (by kernel_rfl) (by simp) ?_
              refine AllReadyIn.cons rfl (fun K hK => ?_) ?_
              · skip
                refine stepIn_appAt rfl (.tmp 22) (.tmp 26) rfl w.heap.size ap np cp _ rfl B3.out.1.op a3 4 c3 _ rfl B3.out.2 (by omega) B3.out.1.base.size ?_
                intro a4 c4 w4 ho4 hb4 hg4 hl4
                obtain ⟨⟨f0, f1⟩, hB4⟩ := B3.out.1.appP ho4 hb4 hg4 hl4
                have B4 : Hid (BS w q W a n c iv ao no co lo a4 (np + 4) c4 (lp ++ fxEnc no 4) (w4.setCell ⟨q + 1, 0, none⟩ (.slice a4 (np + 4) c4))) := hB4
                clear ho4 hb4 hg4 hl4 hB4
                refine hK _ _ ?_
                clear hK K
                try simp only [Act.put, List.setIfInBounds_toArray, List.set_cons_zero, List.set_cons_succ]
                refine wpAnyIn_ready (rs := [6]) (by kernel_rfl) (by simp) ?_
                refine AllReadyIn.cons rfl (fun K hK => ?_) ?_
                · skip
                  go_simp
                  refine hK _ _ ?_
                  clear hK K
                  try simp only [Act.put, List.setIfInBounds_toArray, List.set_cons_zero, List.set_cons_succ]
                  refine wpAnyIn_done (by kernel_rfl) ?_ _
                  exact HEND.out _ _ _ _ _ B4.out
                exact AllReadyIn.nil
              exact AllReadyIn.nil
            exact AllReadyIn.nil
          exact AllReadyIn.nil
        exact AllReadyIn.nil
      exact AllReadyIn.nil
    exact AllReadyIn.nil
  case done =>
    rintro D xs W hD hS ⟨g1, g2, x2, x3, ao, ap, no, co, np, cp, g3, g4, g5, g6, g7⟩ hK
    have hxs : xs.length = (chunks iv l).length := by rw [← hS]; simp [ChX.ls]
    have hcl := Nat.le_trans (chunks_len_le hi1 l) (by rw [HH.out.1.size]; exact hn : l.length ≤ 1000000)
    have hno : no ≤ 17632000000 := by have h1 := out_len xs; have h2 := g5.size; omega
    have hnp4 : np = 4 * (chunks iv l).length := by rw [← g6.size, pl_len, hxs]
    have HNP : Hid (np = 4 * (chunks iv l).length) := hnp4
    have hnp2 : np ≤ 4000000 := by omega
    have G : Hid (BS w q W a n c iv ao no co ((strs iv l).flatten) ap np cp (placesB 0 (strs iv l)) W) := by
      unfold strs
      rw [← hS]
      exact ⟨g1, g2, ⟨KeepsOthers.refl _, Below.refl _ _, rfl, rfl⟩, x2, x3, g3, g4, g5, g6, g7⟩
    have c0 : W.cell? ⟨q, 0, none⟩ = some (.slice ao no co) := g3.cell 0
    have c1 : W.cell? ⟨q + 1, 0, none⟩ = some (.slice ap np cp) := g4.cell 0
    have HKD : Hid _ := hK
    clear hS g1 g2 x2 x3 g3 g4 g5 g6 g7 hnp4 hK
    gi_wp2_with (first
      | (gi_at_builtin; refine wpListIn_appAt _ rfl _ _ rfl w.heap.size a5 (no + np) c5 _ rfl B6.out.1.oo (some ⟨w5.heap.size, 0, none⟩) 1 1 _ rfl B6.out.2 (by omega) B6.out.1.base.size ?_; intro a7 c7 w7 ho7 hb7 hg7 hl7
         obtain ⟨⟨h0, h1⟩, hB7⟩ := B6.out.1.appO ho7 hb7 hg7 hl7
         have B7 : Hid (BS w q W a n c iv a7 (no + np + 1) c7 ((strs iv l).flatten ++ placesB 0 (strs iv l) ++ [loByte iv]) ap np cp (placesB 0 (strs iv l)) (w7.setCell ⟨q, 0, none⟩ (.slice a7 (no + np + 1) c7))) := hB7
         clear ho7 hb7 hg7 hl7 hB7)
      | (gi_at_builtin; refine wpListIn_appAt W rfl _ _ rfl w.heap.size ao no co _ rfl G.out.oo ap np cp _ rfl G.out.op.bs (by omega) G.out.base.size ?_; intro a5 c5 w5 ho5 hb5 hg5 hl5
         obtain ⟨⟨f0, f1⟩, hB5⟩ := G.out.appO ho5 hb5 hg5 hl5
         have B5 : Hid (BS w q W a n c iv a5 (no + np) c5 ((strs iv l).flatten ++ placesB 0 (strs iv l)) ap np cp (placesB 0 (strs iv l)) (w5.setCell ⟨q, 0, none⟩ (.slice a5 (no + np) c5))) := hB5
         have B6 : Hid (BS w q W a n c iv a5 (no + np) c5 ((strs iv l).flatten ++ placesB 0 (strs iv l)) ap np cp (placesB 0 (strs iv l)) ((w5.setCell ⟨q, 0, none⟩ (.slice a5 (no + np) c5)).alloc (.cells #[.int .u8 (iv : Int)] 5)) ∧ BsAt ((w5.setCell ⟨q, 0, none⟩ (.slice a5 (no + np) c5)).alloc (.cells #[.int .u8 (iv : Int)] 5)) (some ⟨w5.heap.size, 0, none⟩) 1 1 [loByte iv]) := by
           refine ⟨B5.out.call ((Below.refl _ _).alloc (Nat.le_refl _) _), ?_⟩
           have := BsAt.one (w := w5.setCell ⟨q, 0, none⟩ (.slice a5 (no + np) c5)) (e := 5) (x := (iv : Int)) (b := loByte iv) (by rw [loByte_toNat]; omega)
           simpa using this
         clear ho5 hb5 hg5 hl5 hB5))
    generalize w7.setCell ⟨q, 0, none⟩ (.slice a7 (no + np + 1) c7) = w8 at B7 ⊢
    have e0 : w8.cell? ⟨q, 0, none⟩ = some (.slice a7 (no + np + 1) c7) := B7.out.bo.cell 0
    have e1 : w8.cell? ⟨q + 1, 0, none⟩ = some (.slice ap np cp) := B7.out.bp.cell 0
    -- LAST
    have HPF : Hid (∀ V : World, Calls Tryz.prog 60 #[.slice none 0 0, .int .u64 ((np : Int) / 4), .int .i64 4] V fun e w' => ∃ a' c', e = .returned (.slice a' 4 c') ∧ BsAt w' a' 4 c' (fxEnc (np / 4) 4) ∧ Below V.heap.size V w') := fun V => by
      have := putFixed_nil (np / 4) 4 4 V (by omega) (by simp [fxPut, fxEnc_length])
      rw [show ((np / 4 : Nat) : Int) = (np : Int) / 4 by omega] at this
      exact this
    have hcv := conv_int_u64 (np / 4) (by omega)
    rw [show ((np / 4 : Nat) : Int) = (np : Int) / 4 by omega] at hcv
    have hnp0 : (0 : Int) ≤ (np : Int) := by omega
    have hwq : IntKind.i64.wrap ((np : Int) / 4) = (np : Int) / 4 := by rw [IntKind.wrap_i64]; omega
    have hwu : IntKind.u64.wrap ((np : Int) / 4) = (np : Int) / 4 := by
      simp [IntKind.wrap, IntKind.bits, IntKind.signed]
      omega
    have HFIN : Hid (∀ (a10 : Option Addr) (c10 : Nat) (w10 : World), (OwnB w10 w.heap.size a10 (no + np + 1 + 4) c10 ((strs iv l).flatten ++ placesB 0 (strs iv l) ++ [loByte iv] ++ fxEnc (np / 4) 4) ∧ Below w.heap.size w w10 ∧ KeepsOthers W w10) → ∃ a' c', Ending.returned (.tuple #[.slice a10 (no + np + 1 + 4) c10, .int .i64 0]) = .returned (.tuple #[.slice a' (layP iv l).length c', .int .i64 0]) ∧ OwnB (w10.putObj D (.deferred none)) w.heap.size a' (layP iv l).length c' (layP iv l) ∧ Below w.heap.size w (w10.putObj D (.deferred none))) := by
      intro a10 c10 w10 ⟨k1, k2, k3⟩
      have HKX := k3.same D _ HKD.out rfl
      have hle : (strs iv l).flatten ++ placesB 0 (strs iv l) ++ [loByte iv] ++ fxEnc (np / 4) 4 = layP iv l := by
        rw [show np / 4 = (strs iv l).length by rw [strs_len]; have := HNP.out; omega]
        unfold layP
        simp
      rw [hle] at k1
      have hsz := k1.size
      refine ⟨a10, c10, by rw [hsz], ?_, k2.trans (belowK_b (w := w) (Nat.le_refl _) _ D _ _ (by have := W4.out.1.size; omega) HKX rfl rfl)⟩
      rw [hsz]
      refine k1.kept fun k hk => World.putObj_heap_other (fun e => ?_)
      have ht := k1.tag hk
      unfold tag at ht
      rw [e, HKX] at ht
      cases ht
    clear f0 f1 h0 h1 B5 B6 G c0 c1
    refine wpIn_region_any (by assumption) ?_
    try (change wpAnyIn _ _ _ _ _ _ _ _ _ (World.drew _))
    refine wpAnyIn_ready (rs := [0, 1]) (by kernel_rfl) (by simp) ?_
    refine AllReadyIn.cons rfl (fun K hK => ?_) ?_
    · skip
      go_simp
      refine hK _ _ ?_
      clear hK K
      try simp only [Act.put, List.setIfInBounds_toArray, List.set_cons_zero, List.set_cons_succ]
      refine wpAnyIn_ready (rs := [1]) (by kernel_rfl) (by simp) ?_
      refine AllReadyIn.cons rfl (fun K hK => ?_) ?_
      · skip
        go_simp
        refine hK _ _ ?_
        clear hK K
        try simp only [Act.put, List.setIfInBounds_toArray, List.set_cons_zero, List.set_cons_succ]
        refine wpAnyIn_ready (rs := [2]) (by kernel_rfl) (by simp) ?_
        refine AllReadyIn.cons rfl (fun K hK => ?_) ?_
        · skip
          go_simp
          refine hK _ _ ?_
          clear hK K
          try simp only [Act.put, List.setIfInBounds_toArray, List.set_cons_zero, List.set_cons_succ]
          refine wpAnyIn_ready (rs := [3]) (by kernel_rfl) (by simp) ?_
          refine AllReadyIn.cons rfl (fun K hK => ?_) ?_
          · skip
            go_simp
            refine hK _ _ ?_
            clear hK K
            try simp only [Act.put, List.setIfInBounds_toArray, List.set_cons_zero, List.set_cons_succ]
            refine wpAnyIn_ready (rs := [4]) (by kernel_rfl) (by simp) ?_
            refine AllReadyIn.cons rfl (fun K hK => ?_) ?_
            · skip
              go_simp
              refine hK _ _ ?_
              clear hK K
              try simp only [Act.put, List.setIfInBounds_toArray, List.set_cons_zero, List.set_cons_succ]
              refine wpAnyIn_ready (rs := [5]) (by kernel_rfl) (by simp) ?_
              refine AllReadyIn.cons rfl (fun K hK => ?_) ?_
              · skip
                go_simp
                refine ⟨trivial, ?_⟩
                refine (callsIn_wide.2 (HPF.out _)).mono ?_
                rintro e w9 ⟨a9, c9, rfl, hbs9, hb9⟩
                have B9 : Hid (BS w q W a n c iv a7 (no + np + 1) c7 ((strs iv l).flatten ++ placesB 0 (strs iv l) ++ [loByte iv]) ap np cp (placesB 0 (strs iv l)) w9 ∧ BsAt w9 a9 4 c9 (fxEnc (np / 4) 4)) := ⟨B7.out.call (((Below.refl _ w8).drew).trans hb9), hbs9⟩
                have e0 : w9.cell? ⟨q, 0, none⟩ = some (.slice a7 (no + np + 1) c7) := B9.out.1.bo.cell 0
                clear hbs9 hb9
                refine hK _ _ ?_
                clear hK K
                try simp only [Act.put, List.setIfInBounds_toArray, List.set_cons_zero, List.set_cons_succ]
                refine wpAnyIn_ready (rs := [6]) (by kernel_rfl) (by simp) ?_
                refine AllReadyIn.cons rfl (fun K hK => ?_) ?_
                · skip
                  refine stepIn_appAt rfl (.tmp 40) (.tmp 45) rfl w.heap.size a7 (no + np + 1) c7 _ rfl B9.out.1.oo a9 4 c9 _ rfl B9.out.2 (by omega) B9.out.1.base.size ?_
                  intro a10 c10 w10 ho10 hb10 hg10 hl10
                  have B10 : Hid (OwnB w10 w.heap.size a10 (no + np + 1 + 4) c10 ((strs iv l).flatten ++ placesB 0 (strs iv l) ++ [loByte iv] ++ fxEnc (np / 4) 4) ∧ Below w.heap.size w w10 ∧ KeepsOthers W w10) := ⟨ho10, B9.out.1.base.trans hb10, (B9.out.1.rk.trans (RK.app B9.out.1.oo B9.out.1.base.size hg10 hb10 B9.out.1.x2 B9.out.1.x3 (by decide) (by decide))).ko⟩
                  clear ho10 hb10 hg10 hl10
                  refine hK _ _ ?_
                  clear hK K
                  try simp only [Act.put, List.setIfInBounds_toArray, List.set_cons_zero, List.set_cons_succ]
                  refine wpAnyIn_ready (rs := [7]) (by kernel_rfl) (by simp) ?_
                  refine AllReadyIn.cons rfl (fun K hK => ?_) ?_
                  · skip
                    go_simp
                    refine hK _ _ ?_
                    clear hK K
                    try simp only [Act.put, List.setIfInBounds_toArray, List.set_cons_zero, List.set_cons_succ]
                    refine wpAnyIn_ready (rs := [8]) (by kernel_rfl) (by simp) ?_
                    refine AllReadyIn.cons rfl (fun K hK => ?_) ?_
                    · skip
                      go_simp
                      refine hK _ _ ?_
                      clear hK K
                      try simp only [Act.put, List.setIfInBounds_toArray, List.set_cons_zero, List.set_cons_succ]
                      refine wpAnyIn_done (by kernel_rfl) ?_ _
                      gi_wp2
                      refine ⟨by simp, .inl ⟨_, _, rfl, run_takeDeferred (B10.out.2.2.same D _ HKD.out rfl), ?_⟩⟩
                      exact ⟨.tuple #[.slice a10 (no + np + 1 + 4) c10, .int .i64 0], by simp [results, Tryz.results24, go_sem], HFIN.out _ _ _ B10.out⟩
                    exact AllReadyIn.nil
                  exact AllReadyIn.nil
                exact AllReadyIn.nil
              exact AllReadyIn.nil
            exact AllReadyIn.nil
          exact AllReadyIn.nil
        exact AllReadyIn.nil
      exact AllReadyIn.nil
    refine AllReadyIn.cons rfl (fun K hK => ?_) ?_
    · skip
      go_simp
      refine hK _ _ ?_
      clear hK K
      try simp only [Act.put, List.setIfInBounds_toArray, List.set_cons_zero, List.set_cons_succ]
      refine wpAnyIn_ready (rs := [0, 2]) (by kernel_rfl) (by simp) ?_
      refine AllReadyIn.cons rfl (fun K hK => ?_) ?_
      · skip
        go_simp
        refine hK _ _ ?_
        clear hK K
        try simp only [Act.put, List.setIfInBounds_toArray, List.set_cons_zero, List.set_cons_succ]
        refine wpAnyIn_ready (rs := [2]) (by kernel_rfl) (by simp) ?_
        refine AllReadyIn.cons rfl (fun K hK => ?_) ?_
        · skip
          go_simp
          refine hK _ _ ?_
          clear hK K
          try simp only [Act.put, List.setIfInBounds_toArray, List.set_cons_zero, List.set_cons_succ]
          refine wpAnyIn_ready (rs := [3]) (by kernel_rfl) (by simp) ?_
          refine AllReadyIn.cons rfl (fun K hK => ?_) ?_
          · skip
            go_simp
            refine hK _ _ ?_
            clear hK K
            try simp only [Act.put, List.setIfInBounds_toArray, List.set_cons_zero, List.set_cons_succ]
            refine wpAnyIn_ready (rs := [4]) (by kernel_rfl) (by simp) ?_
            refine AllReadyIn.cons rfl (fun K hK => ?_) ?_
            · skip
              go_simp
              refine hK _ _ ?_
              clear hK K
              try simp only [Act.put, List.setIfInBounds_toArray, List.set_cons_zero, List.set_cons_succ]
              refine wpAnyIn_ready (rs := [5]) (by kernel_rfl) (by simp) ?_
              refine AllReadyIn.cons rfl (fun K hK => ?_) ?_
              · skip
                go_simp
                refine ⟨trivial, ?_⟩
                refine (callsIn_wide.2 (HPF.out _)).mono ?_
                rintro e w9 ⟨a9, c9, rfl, hbs9, hb9⟩
                have B9 : Hid (BS w q W a n c iv a7 (no + np + 1) c7 ((strs iv l).flatten ++ placesB 0 (strs iv l) ++ [loByte iv]) ap np cp (placesB 0 (strs iv l)) w9 ∧ BsAt w9 a9 4 c9 (fxEnc (np / 4) 4)) := ⟨B7.out.call (((Below.refl _ w8).drew).trans hb9), hbs9⟩
                have e0 : w9.cell? ⟨q, 0, none⟩ = some (.slice a7 (no + np + 1) c7) := B9.out.1.bo.cell 0
                clear hbs9 hb9
                refine hK _ _ ?_
                clear hK K
                try simp only [Act.put, List.setIfInBounds_toArray, List.set_cons_zero, List.set_cons_succ]
                refine wpAnyIn_ready (rs := [6]) (by kernel_rfl) (by simp) ?_
                refine AllReadyIn.cons rfl (fun K hK => ?_) ?_
                · skip
                  refine stepIn_appAt rfl (.tmp 40) (.tmp 45) rfl w.heap.size a7 (no + np + 1) c7 _ rfl B9.out.1.oo a9 4 c9 _ rfl B9.out.2 (by omega) B9.out.1.base.size ?_
                  intro a10 c10 w10 ho10 hb10 hg10 hl10
                  have B10 : Hid (OwnB w10 w.heap.size a10 (no + np + 1 + 4) c10 ((strs iv l).flatten ++ placesB 0 (strs iv l) ++ [loByte iv] ++ fxEnc (np / 4) 4) ∧ Below w.heap.size w w10 ∧ KeepsOthers W w10) := ⟨ho10, B9.out.1.base.trans hb10, (B9.out.1.rk.trans (RK.app B9.out.1.oo B9.out.1.base.size hg10 hb10 B9.out.1.x2 B9.out.1.x3 (by decide) (by decide))).ko⟩
                  clear ho10 hb10 hg10 hl10
                  refine hK _ _ ?_
                  clear hK K
                  try simp only [Act.put, List.setIfInBounds_toArray, List.set_cons_zero, List.set_cons_succ]
                  refine wpAnyIn_ready (rs := [7]) (by kernel_rfl) (by simp) ?_
                  refine AllReadyIn.cons rfl (fun K hK => ?_) ?_
                  · skip
                    go_simp
                    refine hK _ _ ?_
                    clear hK K
                    try simp only [Act.put, List.setIfInBounds_toArray, List.set_cons_zero, List.set_cons_succ]
                    refine wpAnyIn_ready (rs := [8]) (by kernel_rfl) (by simp) ?_
                    refine AllReadyIn.cons rfl (fun K hK => ?_) ?_
                    · skip
                      go_simp
                      refine hK _ _ ?_
                      clear hK K
                      try simp only [Act.put, List.setIfInBounds_toArray, List.set_cons_zero, List.set_cons_succ]
                      refine wpAnyIn_done (by kernel_rfl) ?_ _
                      gi_wp2
                      refine ⟨by simp, .inl ⟨_, _, rfl, run_takeDeferred (B10.out.2.2.same D _ HKD.out rfl), ?_⟩⟩
                      exact ⟨.tuple #[.slice a10 (no + np + 1 + 4) c10, .int .i64 0], by simp [results, Tryz.results24, go_sem], HFIN.out _ _ _ B10.out⟩
                    exact AllReadyIn.nil
                  exact AllReadyIn.nil
                exact AllReadyIn.nil
              exact AllReadyIn.nil
            exact AllReadyIn.nil
          exact AllReadyIn.nil
        exact AllReadyIn.nil
      refine AllReadyIn.cons rfl (fun K hK => ?_) ?_
      · skip
        go_simp
        refine hK _ _ ?_
        clear hK K
        try simp only [Act.put, List.setIfInBounds_toArray, List.set_cons_zero, List.set_cons_succ]
        refine wpAnyIn_ready (rs := [0, 3]) (by kernel_rfl) (by simp) ?_
        refine AllReadyIn.cons rfl (fun K hK => ?_) ?_
        · skip
          go_simp
          refine hK _ _ ?_
          clear hK K
          try simp only [Act.put, List.setIfInBounds_toArray, List.set_cons_zero, List.set_cons_succ]
          refine wpAnyIn_ready (rs := [3]) (by kernel_rfl) (by simp) ?_
          refine AllReadyIn.cons rfl (fun K hK => ?_) ?_
          · skip
            go_simp
            refine hK _ _ ?_
            clear hK K
            try simp only [Act.put, List.setIfInBounds_toArray, List.set_cons_zero, List.set_cons_succ]
            refine wpAnyIn_ready (rs := [4]) (by kernel_rfl) (by simp) ?_
            refine AllReadyIn.cons rfl (fun K hK => ?_) ?_
            · skip
              go_simp
              refine hK _ _ ?_
              clear hK K
              try simp only [Act.put, List.setIfInBounds_toArray, List.set_cons_zero, List.set_cons_succ]
              refine wpAnyIn_ready (rs := [5]) (by kernel_rfl) (by simp) ?_
              refine AllReadyIn.cons rfl (fun K hK => ?_) ?_
              · skip
                go_simp
                refine ⟨trivial, ?_⟩
                refine (callsIn_wide.2 (HPF.out _)).mono ?_
                rintro e w9 ⟨a9, c9, rfl, hbs9, hb9⟩
                have B9 : Hid (BS w q W a n c iv a7 (no + np + 1) c7 ((strs iv l).flatten ++ placesB 0 (strs iv l) ++ [loByte iv]) ap np cp (placesB 0 (strs iv l)) w9 ∧ BsAt w9 a9 4 c9 (fxEnc (np / 4) 4)) := ⟨B7.out.call (((Below.refl _ w8).drew).trans hb9), hbs9⟩
                have e0 : w9.cell? ⟨q, 0, none⟩ = some (.slice a7 (no + np + 1) c7) := B9.out.1.bo.cell 0
                clear hbs9 hb9
                refine hK _ _ ?_
                clear hK K
                try simp only [Act.put, List.setIfInBounds_toArray, List.set_cons_zero, List.set_cons_succ]
                refine wpAnyIn_ready (rs := [6]) (by kernel_rfl) (by simp) ?_
                refine AllReadyIn.cons rfl (fun K hK => ?_) ?_
                · skip
                  refine stepIn_appAt rfl (.tmp 40) (.tmp 45) rfl w.heap.size a7 (no + np + 1) c7 _ rfl B9.out.1.oo a9 4 c9 _ rfl B9.out.2 (by omega) B9.out.1.base.size ?_
                  intro a10 c10 w10 ho10 hb10 hg10 hl10
                  have B10 : Hid (OwnB w10 w.heap.size a10 (no + np + 1 + 4) c10 ((strs iv l).flatten ++ placesB 0 (strs iv l) ++ [loByte iv] ++ fxEnc (np / 4) 4) ∧ Below w.heap.size w w10 ∧ KeepsOthers W w10) := ⟨ho10, B9.out.1.base.trans hb10, (B9.out.1.rk.trans (RK.app B9.out.1.oo B9.out.1.base.size hg10 hb10 B9.out.1.x2 B9.out.1.x3 (by decide) (by decide))).ko⟩
                  clear ho10 hb10 hg10 hl10
                  refine hK _ _ ?_
                  clear hK K
                  try simp only [Act.put, List.setIfInBounds_toArray, List.set_cons_zero, List.set_cons_succ]
                  refine wpAnyIn_ready (rs := [7]) (by kernel_rfl) (by simp) ?_
                  refine AllReadyIn.cons rfl (fun K hK => ?_) ?_
                  · skip
                    go_simp
                    refine hK _ _ ?_
                    clear hK K
                    try simp only [Act.put, List.setIfInBounds_toArray, List.set_cons_zero, List.set_cons_succ]
                    refine wpAnyIn_ready (rs := [8]) (by kernel_rfl) (by simp) ?_
                    refine AllReadyIn.cons rfl (fun K hK => ?_) ?_
                    · skip
                      go_simp
                      refine hK _ _ ?_
                      clear hK K
                      try simp only [Act.put, List.setIfInBounds_toArray, List.set_cons_zero, List.set_cons_succ]
                      refine wpAnyIn_done (by kernel_rfl) ?_ _
                      gi_wp2
                      refine ⟨by simp, .inl ⟨_, _, rfl, run_takeDeferred (B10.out.2.2.same D _ HKD.out rfl), ?_⟩⟩
                      exact ⟨.tuple #[.slice a10 (no + np + 1 + 4) c10, .int .i64 0], by simp [results, Tryz.results24, go_sem], HFIN.out _ _ _ B10.out⟩
                    exact AllReadyIn.nil
                  exact AllReadyIn.nil
                exact AllReadyIn.nil
              exact AllReadyIn.nil
            exact AllReadyIn.nil
          exact AllReadyIn.nil
        refine AllReadyIn.cons rfl (fun K hK => ?_) ?_
        · skip
          go_simp
          refine hK _ _ ?_
          clear hK K
          try simp only [Act.put, List.setIfInBounds_toArray, List.set_cons_zero, List.set_cons_succ]
          refine wpAnyIn_ready (rs := [0, 4]) (by kernel_rfl) (by simp) ?_
          refine AllReadyIn.cons rfl (fun K hK => ?_) ?_
          · skip
            go_simp
            refine hK _ _ ?_
            clear hK K
            try simp only [Act.put, List.setIfInBounds_toArray, List.set_cons_zero, List.set_cons_succ]
            refine wpAnyIn_ready (rs := [4]) (by kernel_rfl) (by simp) ?_
            refine AllReadyIn.cons rfl (fun K hK => ?_) ?_
            · skip
              go_simp
              refine hK _ _ ?_
              clear hK K
              try simp only [Act.put, List.setIfInBounds_toArray, List.set_cons_zero, List.set_cons_succ]
              refine wpAnyIn_ready (rs := [5]) (by kernel_rfl) (by simp) ?_
              refine AllReadyIn.cons rfl (fun K hK => ?_) ?_
              · skip
                go_simp
                refine ⟨trivial, ?_⟩
                refine (callsIn_wide.2 (HPF.out _)).mono ?_
                rintro e w9 ⟨a9, c9, rfl, hbs9, hb9⟩
                have B9 : Hid (BS w q W a n c iv a7 (no + np + 1) c7 ((strs iv l).flatten ++ placesB 0 (strs iv l) ++ [loByte iv]) ap np cp (placesB 0 (strs iv l)) w9 ∧ BsAt w9 a9 4 c9 (fxEnc (np / 4) 4)) := ⟨B7.out.call (((Below.refl _ w8).drew).trans hb9), hbs9⟩
                have e0 : w9.cell? ⟨q, 0, none⟩ = some (.slice a7 (no + np + 1) c7) := B9.out.1.bo.cell 0
                clear hbs9 hb9
                refine hK _ _ ?_
                clear hK K
                try simp only [Act.put, List.setIfInBounds_toArray, List.set_cons_zero, List.set_cons_succ]
                refine wpAnyIn_ready (rs := [6]) (by kernel_rfl) (by simp) ?_
                refine AllReadyIn.cons rfl (fun K hK => ?_) ?_
                · skip
                  refine stepIn_appAt rfl (.tmp 40) (.tmp 45) rfl w.heap.size a7 (no + np + 1) c7 _ rfl B9.out.1.oo a9 4 c9 _ rfl B9.out.2 (by omega) B9.out.1.base.size ?_
                  intro a10 c10 w10 ho10 hb10 hg10 hl10
                  have B10 : Hid (OwnB w10 w.heap.size a10 (no + np + 1 + 4) c10 ((strs iv l).flatten ++ placesB 0 (strs iv l) ++ [loByte iv] ++ fxEnc (np / 4) 4) ∧ Below w.heap.size w w10 ∧ KeepsOthers W w10) := ⟨ho10, B9.out.1.base.trans hb10, (B9.out.1.rk.trans (RK.app B9.out.1.oo B9.out.1.base.size hg10 hb10 B9.out.1.x2 B9.out.1.x3 (by decide) (by decide))).ko⟩
                  clear ho10 hb10 hg10 hl10
                  refine hK _ _ ?_
                  clear hK K
                  try simp only [Act.put, List.setIfInBounds_toArray, List.set_cons_zero, List.set_cons_succ]
                  refine wpAnyIn_ready (rs := [7]) (by kernel_rfl) (by simp) ?_
                  refine AllReadyIn.cons rfl (fun K hK => ?_) ?_
                  · skip
                    go_simp
                    refine hK _ _ ?_
                    clear hK K
                    try simp only [Act.put, List.setIfInBounds_toArray, List.set_cons_zero, List.set_cons_succ]
                    refine wpAnyIn_ready (rs := [8]) (by kernel_rfl) (by simp) ?_
                    refine AllReadyIn.cons rfl (fun K hK => ?_) ?_
                    · skip
                      go_simp
                      refine hK _ _ ?_
                      clear hK K
                      try simp only [Act.put, List.setIfInBounds_toArray, List.set_cons_zero, List.set_cons_succ]
                      refine wpAnyIn_done (by kernel_rfl) ?_ _
                      gi_wp2
                      refine ⟨by simp, .inl ⟨_, _, rfl, run_takeDeferred (B10.out.2.2.same D _ HKD.out rfl), ?_⟩⟩
                      exact ⟨.tuple #[.slice a10 (no + np + 1 + 4) c10, .int .i64 0], by simp [results, Tryz.results24, go_sem], HFIN.out _ _ _ B10.out⟩
                    exact AllReadyIn.nil
                  exact AllReadyIn.nil
                exact AllReadyIn.nil
              exact AllReadyIn.nil
            exact AllReadyIn.nil
          refine AllReadyIn.cons rfl (fun K hK => ?_) ?_
          · skip
            go_simp
            refine hK _ _ ?_
            clear hK K
            try simp only [Act.put, List.setIfInBounds_toArray, List.set_cons_zero, List.set_cons_succ]
            refine wpAnyIn_ready (rs := [0, 5]) (by kernel_rfl) (by simp) ?_
            refine AllReadyIn.cons rfl (fun K hK => ?_) ?_
            · skip
              go_simp
              refine hK _ _ ?_
              clear hK K
              try simp only [Act.put, List.setIfInBounds_toArray, List.set_cons_zero, List.set_cons_succ]
              refine wpAnyIn_ready (rs := [5]) (by kernel_rfl) (by simp) ?_
              refine AllReadyIn.cons rfl (fun K hK => ?_) ?_
              · skip
                go_simp
                refine ⟨trivial, ?_⟩
                refine (callsIn_wide.2 (HPF.out _)).mono ?_
                rintro e w9 ⟨a9, c9, rfl, hbs9, hb9⟩
                have B9 : Hid (BS w q W a n c iv a7 (no + np + 1) c7 ((strs iv l).flatten ++ placesB 0 (strs iv l) ++ [loByte iv]) ap np cp (placesB 0 (strs iv l)) w9 ∧ BsAt w9 a9 4 c9 (fxEnc (np / 4) 4)) := ⟨B7.out.call (((Below.refl _ w8).drew).trans hb9), hbs9⟩
                have e0 : w9.cell? ⟨q, 0, none⟩ = some (.slice a7 (no + np + 1) c7) := B9.out.1.bo.cell 0
                clear hbs9 hb9
                refine hK _ _ ?_
                clear hK K
                try simp only [Act.put, List.setIfInBounds_toArray, List.set_cons_zero, List.set_cons_succ]
                refine wpAnyIn_ready (rs := [6]) (by kernel_rfl) (by simp) ?_
                refine AllReadyIn.cons rfl (fun K hK => ?_) ?_
                · skip
                  refine stepIn_appAt rfl (.tmp 40) (.tmp 45) rfl w.heap.size a7 (no + np + 1) c7 _ rfl B9.out.1.oo a9 4 c9 _ rfl B9.out.2 (by omega) B9.out.1.base.size ?_
                  intro a10 c10 w10 ho10 hb10 hg10 hl10
                  have B10 : Hid (OwnB w10 w.heap.size a10 (no + np + 1 + 4) c10 ((strs iv l).flatten ++ placesB 0 (strs iv l) ++ [loByte iv] ++ fxEnc (np / 4) 4) ∧ Below w.heap.size w w10 ∧ KeepsOthers W w10) := ⟨ho10, B9.out.1.base.trans hb10, (B9.out.1.rk.trans (RK.app B9.out.1.oo B9.out.1.base.size hg10 hb10 B9.out.1.x2 B9.out.1.x3 (by decide) (by decide))).ko⟩
                  clear ho10 hb10 hg10 hl10
                  refine hK _ _ ?_
                  clear hK K
                  try simp only [Act.put, List.setIfInBounds_toArray, List.set_cons_zero, List.set_cons_succ]
                  refine wpAnyIn_ready (rs := [7]) (by kernel_rfl) (by simp) ?_
                  refine AllReadyIn.cons rfl (fun K hK => ?_) ?_
                  · skip
                    go_simp
                    refine hK _ _ ?_
                    clear hK K
                    try simp only [Act.put, List.setIfInBounds_toArray, List.set_cons_zero, List.set_cons_succ]
                    refine wpAnyIn_ready (rs := [8]) (by kernel_rfl) (by simp) ?_
                    refine AllReadyIn.cons rfl (fun K hK => ?_) ?_
                    · skip
                      go_simp
                      refine hK _ _ ?_
                      clear hK K
                      try simp only [Act.put, List.setIfInBounds_toArray, List.set_cons_zero, List.set_cons_succ]
                      refine wpAnyIn_done (by kernel_rfl) ?_ _
                      gi_wp2
                      refine ⟨by simp, .inl ⟨_, _, rfl, run_takeDeferred (B10.out.2.2.same D _ HKD.out rfl), ?_⟩⟩
                      exact ⟨.tuple #[.slice a10 (no + np + 1 + 4) c10, .int .i64 0], by simp [results, Tryz.results24, go_sem], HFIN.out _ _ _ B10.out⟩
                    exact AllReadyIn.nil
                  exact AllReadyIn.nil
                exact AllReadyIn.nil
              exact AllReadyIn.nil
            refine AllReadyIn.cons rfl (fun K hK => ?_) ?_
            · skip
              go_simp
              refine ⟨trivial, ?_⟩
              refine (callsIn_wide.2 (HPF.out _)).mono ?_
              rintro e w9 ⟨a9, c9, rfl, hbs9, hb9⟩
              have B9 : Hid (BS w q W a n c iv a7 (no + np + 1) c7 ((strs iv l).flatten ++ placesB 0 (strs iv l) ++ [loByte iv]) ap np cp (placesB 0 (strs iv l)) w9 ∧ BsAt w9 a9 4 c9 (fxEnc (np / 4) 4)) := ⟨B7.out.call (((Below.refl _ w8).drew).trans hb9), hbs9⟩
              have e0 : w9.cell? ⟨q, 0, none⟩ = some (.slice a7 (no + np + 1) c7) := B9.out.1.bo.cell 0
              clear hbs9 hb9
              refine hK _ _ ?_
              clear hK K
              try simp only [Act.put, List.setIfInBounds_toArray, List.set_cons_zero, List.set_cons_succ]
              refine wpAnyIn_ready (rs := [0]) (by kernel_rfl) (by simp) ?_
              refine AllReadyIn.cons rfl (fun K hK => ?_) ?_
              · skip
                go_simp
                refine hK _ _ ?_
                clear hK K
                try simp only [Act.put, List.setIfInBounds_toArray, List.set_cons_zero, List.set_cons_succ]
                refine wpAnyIn_ready (rs := [6]) (by kernel_rfl) (by simp) ?_
                refine AllReadyIn.cons rfl (fun K hK => ?_) ?_
                · skip
                  refine stepIn_appAt rfl (.tmp 40) (.tmp 45) rfl w.heap.size a7 (no + np + 1) c7 _ rfl B9.out.1.oo a9 4 c9 _ rfl B9.out.2 (by omega) B9.out.1.base.size ?_
                  intro a10 c10 w10 ho10 hb10 hg10 hl10
                  have B10 : Hid (OwnB w10 w.heap.size a10 (no + np + 1 + 4) c10 ((strs iv l).flatten ++ placesB 0 (strs iv l) ++ [loByte iv] ++ fxEnc (np / 4) 4) ∧ Below w.heap.size w w10 ∧ KeepsOthers W w10) := ⟨ho10, B9.out.1.base.trans hb10, (B9.out.1.rk.trans (RK.app B9.out.1.oo B9.out.1.base.size hg10 hb10 B9.out.1.x2 B9.out.1.x3 (by decide) (by decide))).ko⟩
                  clear ho10 hb10 hg10 hl10
                  refine hK _ _ ?_
                  clear hK K
                  try simp only [Act.put, List.setIfInBounds_toArray, List.set_cons_zero, List.set_cons_succ]
                  refine wpAnyIn_ready (rs := [7]) (by kernel_rfl) (by simp) ?_
                  refine AllReadyIn.cons rfl (fun K hK => ?_) ?_
                  · skip
                    go_simp
                    refine hK _ _ ?_
                    clear hK K
                    try simp only [Act.put, List.setIfInBounds_toArray, List.set_cons_zero, List.set_cons_succ]
                    refine wpAnyIn_ready (rs := [8]) (by kernel_rfl) (by simp) ?_
                    refine AllReadyIn.cons rfl (fun K hK => ?_) ?_
                    · skip
                      go_simp
                      refine hK _ _ ?_
                      clear hK K
                      try simp only [Act.put, List.setIfInBounds_toArray, List.set_cons_zero, List.set_cons_succ]
                      refine wpAnyIn_done (by kernel_rfl) ?_ _
                      gi_wp2
                      refine ⟨by simp, .inl ⟨_, _, rfl, run_takeDeferred (B10.out.2.2.same D _ HKD.out rfl), ?_⟩⟩
                      exact ⟨.tuple #[.slice a10 (no + np + 1 + 4) c10, .int .i64 0], by simp [results, Tryz.results24, go_sem], HFIN.out _ _ _ B10.out⟩
                    exact AllReadyIn.nil
                  exact AllReadyIn.nil
                exact AllReadyIn.nil
              exact AllReadyIn.nil
            exact AllReadyIn.nil
          exact AllReadyIn.nil
        exact AllReadyIn.nil
      exact AllReadyIn.nil
    exact AllReadyIn.nil
  case stop =>
    rintro D c pre W hD _ h
    exact h.elim
end Go.Proofs.YtgegjcnjlibfdaaGreat
