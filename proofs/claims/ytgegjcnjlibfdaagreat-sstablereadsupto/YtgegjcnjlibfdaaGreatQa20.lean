/- A range over a function that lays new memory for each round: the law; what is yielded is there in the world of its round. -/
import Derived.RangeFuncNested
import Derived.RangeFuncBound
import Derived.RangeFuncCalls
import Derived.RangeFuncLeaves
import Derived.RangeFuncWrites
import Derived.RangeFuncBox
import Derived.Test.YtgegjcnjlibfdaaGreatQa06
import Derived.Shelf.Abstract
import Derived.Shelf.RegionOpen
import Derived.OwnWalkIn
import Derived.TacticsInMore
import Derived.LoopNIn
import Derived.LoopIn
import Derived.Test.YtgegjcnjlibfdaaGreatQa18
namespace Go.Proofs.YtgegjcnjlibfdaaGreat
open Go.RowKit
set_option linter.unusedVariables false
/-- An iterator's contract: what each round is told lies in that round's world (Pre), and is a beginning of what there is (Sp). -/
def SeqP {α : Type} (n : Nat) (P : Program) (g : Nat) (lb : Array Value) (encs : α → Array Value) (Pre : Nat → α → World → Prop) (Kp : World → World → Prop) (S Sp : List α → Prop) (w : World) : Prop :=
  ∀ (l : Nat) (J Jx : List α → World → Prop) (W : World), Below w.heap.size w W → AbidesFrom W.heap.size J →
    (∀ pre x W1, J pre W1 → Pre W.heap.size x W1 → Sp (pre ++ [x]) → YieldAt Fence.wide (n - 1) P l (encs x) W1 fun e W' =>
      (e = .returned (.bool true) ∧ J (pre ++ [x]) W' ∧ Kp W1 W') ∨ (e = .returned (.bool false) ∧ Jx (pre ++ [x]) W')) →
    J [] W →
    CallsIn Fence.wide n P g (#[.func (.yield l) #[] #[]] ++ lb) W fun e W' => (∃ v, e = .returned v) ∧ ((∃ xs, S xs ∧ J xs W') ∨ (∃ pre, Sp pre ∧ Jx pre W'))
/-- How a round's body may be left: at its end, or by a return. -/
def postP {α : Type} (B : Nat) (Kp : World → World → Prop) (I Ix : List α → World → Prop) (xs : List α) (W : World) : Exit → Act → World → Prop
  | .normal, _, W' => KeepsFrom B W W' ∧ Kp W W' ∧ I xs W'
  | .ret, _, W' => KeepsFrom B W W' ∧ Ix xs W'
  | .exit _, _, _ => False
  | .goto _, _, _ => False
  | .panic _, _, _ => False
  | .outgrown, _, _ => False
theorem wpIn_rangeP {α : Type} {n : Nat} {P : Program} {g : Operand} {ps : Array Tmp} {assign body : Code} {Q : Exit → Act → World → Prop} {a : Act} {w : World}
    (h1 : 1 ≤ n) {gf : Nat} {lb : Array Value} (hg : a.eval g = .func (.func gf) #[] lb) (eg : ∀ args w, (callFunc gf args).run P w = .ok (.enter gf args) w)
    {encs : α → Array Value} {Pre : Nat → α → World → Prop} {Kp : World → World → Prop} {S Sp : List α → Prop} {w0 : World} (hseq : SeqP (n - 1) P gf lb encs Pre Kp S Sp w0)
    (hPre : ∀ (b : Nat) (x : α) (W : World) (l : Nat) (o o' : Obj), l < b → W.heap[l]? = some o → o.isCells = false → Pre b x W → Pre b x (W.putObj l o'))
    (hKt : ∀ {A B C : World}, Kp A B → Kp B C → Kp A C) (hKb : ∀ (W : World) (l : Nat) (o o' : Obj), w.heap.size ≤ l → W.heap[l]? = some o → o.isCells = false → o.isWalk = false → Kp W (W.putObj l o')) (hb0 : Below w0.heap.size w0 w) (hps : ∀ x, (encs x).size = ps.size)
    (I Ix : List α → World → Prop) (hI : OwnFrom w.heap.size I) (hIx : OwnFrom w.heap.size Ix) (h0 : I [] w) (Ax : α → Act → World → Prop) (hAx : ∀ x a', OwnFrom w.heap.size (fun (_ : Unit) W => Ax x a' W))
    (hassign : ∀ (l : Nat) (pre : List α) (x : α) (W : World) (K : Act → World → Prop), I pre W → Pre (w.heap.size + 2) x W → (∀ a' W', KeepsFrom w.heap.size W W' → Kp W W' → I pre W' → Ax x a' W' → Pre (w.heap.size + 2) x W' → K a' W') →
      assign.wpIn (Fence.wide.inRound l) (n - 1 - 1) P (Exit.then K (fun _ _ _ => False)) { tmps := (ps.zip (encs x)).foldl (fun t (p, v) => t.setIfInBounds p v) a.tmps, defers := [] } W)
    (hbody : ∀ (l : Nat) (pre : List α) (x : α) (a' : Act) (W : World), I pre W → Ax x a' W → Pre (w.heap.size + 2) x W → Sp (pre ++ [x]) → body.wpIn (Fence.wide.inRound l) (n - 1 - 1) P (postP w.heap.size Kp I Ix (pre ++ [x]) W) a' W)
    (hdone : ∀ (D : Nat) (xs : List α) (W : World), w.heap.size ≤ D → S xs → I xs W → W.heap[D]? = some (.deferred (some [])) → Q .normal { a with defers := { target := .collected D, args := #[] } :: a.defers } W)
    (hstop : ∀ (D : Nat) (pre : List α) (W : World), w.heap.size ≤ D → Sp pre → Ix pre W → W.heap[D]? = some (.deferred (some [])) → Code.ret.wpIn Fence.wide n P Q { a with defers := { target := .collected D, args := #[] } :: a.defers } W) :
    (Code.rangeFunc g ps assign body).wpIn Fence.wide n P Q a w := by
  refine wpIn_rangeFunc fun fn hfn => ?_
  obtain ⟨L, hL⟩ : ∃ L : LoopState → Option Code → Loop, L = fun st pe => { state := st, pending := pe, fn, tmps := a.tmps, params := ps, assign, body, defers := w.heap.size } := ⟨_, rfl⟩
  obtain ⟨V, hV⟩ : ∃ V, (w.alloc (.deferred (some []))).alloc (.loop (L .ready none)) = V := ⟨_, rfl⟩
  have vs : V.heap.size = w.heap.size + 2 := by rw [← hV]; simp
  have v1 : V.heap[w.heap.size + 1]? = some (.loop (L .ready none)) := by
    have := World.alloc_heap_new (w.alloc (.deferred (some []))) (.loop (L .ready none))
    rw [World.size_alloc] at this
    rw [← hV]
    exact this
  have v0 : V.heap[w.heap.size]? = some (.deferred (some [])) := by
    rw [← hV]
    exact (Below.heap_alloc _ _ _ (by simp)).trans (World.alloc_heap_new w _)
  have vI : I [] V := by rw [← hV]; exact hI.alloc _ (hI.alloc _ h0)
  have vb : Below w0.heap.size w0 V := by
    rw [← hV]
    exact hb0.trans ((((Below.refl _ w).alloc (Nat.le_refl _) _).alloc (by simp) _).mono hb0.size)
  have hen : (Instr.enterLoop fn a.tmps ps assign body Fence.wide.round).run P w = .ok (w.heap.size + 1, [{ target := .collected w.heap.size, args := #[] }]) V := by
    rw [← hV, hL]
    exact run_enterLoop_outer _ _ _ _ _
  refine ⟨w.heap.size + 1, _, V, { target := .fn (.func gf) lb, args := #[.func (.yield (w.heap.size + 1)) #[] #[]] }, V, gf, #[.func (.yield (w.heap.size + 1)) #[] #[]] ++ lb, V, hen, ?_, fun _ _ => trivial, ?_, fun _ => h1, ?_⟩
  · simp only [resolve, hg]
    simp [go_sem]
  · simp [invoke, go_sem, eg]
  have cells : ∀ {A : World} {row : Option Nat}, (∀ r, row = some r → V.heap.size ≤ r ∧ ∃ o : Obj, A.heap[r]? = some o ∧ o.isWalk = true) → ∀ r, row = some r → w.heap.size ≤ r ∧ ∃ o : Obj, A.heap[r]? = some o ∧ o.isCells = false := fun hr r e => by
    obtain ⟨hB, o, ho, hw⟩ := hr r e
    exact ⟨by omega, o, ho, Obj.not_cells_of_walk hw⟩
  refine (hseq (w.heap.size + 1) (fun pre W => I pre W ∧ W.heap[w.heap.size + 1]? = some (.loop (L .ready none)) ∧ W.heap[w.heap.size]? = some (.deferred (some [])))
    (fun pre W => Ix pre W ∧ W.heap[w.heap.size + 1]? = some (.loop (L .done (some .ret))) ∧ W.heap[w.heap.size]? = some (.deferred (some []))) V vb ?_ ?_ ⟨vI, v1, v0⟩).mono ?_
  · intro s A B row hs hg' hr
    exact ⟨hI s A B row hs.1 hg' (cells hr), (grownBy_keeps hg' (fun r e => (hr r e).2) hs.2.1 rfl).trans hs.2.1, (grownBy_keeps hg' (fun r e => (hr r e).2) hs.2.2 rfl).trans hs.2.2⟩
  · rintro pre x W ⟨hi, hl, hk⟩ hpre hsp
    rw [vs] at hpre
    have hlt : w.heap.size + 1 < W.heap.size := (Array.getElem?_eq_some_iff.1 hl).1
    have hy := run_yield (P := P) (args := encs x) hl (by rw [hL]; exact hps x)
    rw [hL] at hy
    refine ⟨fn, _, assign, body, hy, roundIn_of_wpIn hfn (hassign _ pre x W _ hi hpre ?_)⟩
    intro a' W' hkf hkp hi' hax hpre'
    have hl' : W'.heap[w.heap.size + 1]? = some (.loop (L .ready none)) := hkf.same _ _ (by omega) hl rfl
    have hk' : W'.heap[w.heap.size]? = some (.deferred (some [])) := hkf.same _ _ (Nat.le_refl _) hk rfl
    have hlt' : w.heap.size + 1 < W'.heap.size := (Array.getElem?_eq_some_iff.1 hl').1
    refine ⟨_, run_beginRound hl' (by rw [hL]), ?_⟩
    obtain ⟨U, hU⟩ : ∃ U, W'.putObj (w.heap.size + 1) (.loop { L .ready none with state := .busy }) = U := ⟨_, rfl⟩
    have u1 : U.heap[w.heap.size + 1]? = some (.loop { L .ready none with state := .busy }) := by rw [← hU]; exact World.putObj_heap_same hlt'
    have u0 : U.heap[w.heap.size]? = some (.deferred (some [])) := by rw [← hU]; exact (World.putObj_heap_other (by omega)).trans hk'
    have ukp : Kp W U := by rw [← hU]; exact hKt hkp (hKb _ _ _ _ (by omega) hl' rfl rfl)
    have uI : I pre U := by rw [← hU]; exact hI.putObj _ hi' (by omega) hl' rfl
    have uA : Ax x a' U := by rw [← hU]; exact (hAx x a').putObj (s := ()) _ hax (by omega) hl' rfl
    have uP : Pre (w.heap.size + 2) x U := by rw [← hU]; exact hPre _ _ _ _ _ _ (by omega) hl' rfl hpre'
    rw [hU]
    refine wpIn_mono (hbody _ pre x a' U uI uA uP hsp) ?_
    have fin : ∀ (jump : Option Code) (W3 : World), KeepsFrom w.heap.size U W3 →
        (Instr.endRound (w.heap.size + 1) jump).run P W3 = .ok (.bool jump.isNone) (W3.putObj (w.heap.size + 1) (.loop (L (if jump.isNone then .ready else .done) jump))) ∧
        (∃ o : Obj, W3.heap[w.heap.size + 1]? = some o ∧ o.isCells = false ∧ o.isWalk = false) ∧
        (W3.putObj (w.heap.size + 1) (.loop (L (if jump.isNone then .ready else .done) jump))).heap[w.heap.size + 1]? = some (.loop (L (if jump.isNone then .ready else .done) jump)) ∧
        (W3.putObj (w.heap.size + 1) (.loop (L (if jump.isNone then .ready else .done) jump))).heap[w.heap.size]? = some (.deferred (some [])) := fun jump W3 hk3 => by
      have hl3 := hk3.same _ _ (by omega) u1 rfl
      have hr := run_endRound (P := P) jump hl3
      rw [hL] at hr ⊢
      exact ⟨hr, ⟨_, hl3, rfl, rfl⟩, World.putObj_heap_same (Array.getElem?_eq_some_iff.1 hl3).1, (World.putObj_heap_other (by omega)).trans (hk3.same _ _ (Nat.le_refl _) u0 rfl)⟩
    rintro e a3 W3 hp
    cases e with
    | normal =>
      obtain ⟨hk3, hkp3, hi3⟩ := hp
      obtain ⟨hr, ⟨o, ho, h2, h3⟩, hl4, hk4⟩ := fin none W3 hk3
      exact ⟨_, _, hr, .inl ⟨rfl, ⟨hI.putObj _ hi3 (by omega) ho h2, hl4, hk4⟩, hKt (hKt ukp hkp3) (hKb _ _ _ _ (by omega) ho h2 h3)⟩⟩
    | ret =>
      obtain ⟨hk3, hi3⟩ := hp
      obtain ⟨hr, ⟨o, ho, h2, h3⟩, hl4, hk4⟩ := fin (some .ret) W3 hk3
      exact ⟨_, _, hr, .inr ⟨rfl, hIx.putObj _ hi3 (by omega) ho h2, hl4, hk4⟩⟩
    | exit id => exact hp.elim
    | goto t => exact hp.elim
    | panic ch => exact hp.elim
    | outgrown => exact hp.elim
  · rintro e W2 ⟨⟨v, rfl⟩, (⟨xs, hS, hi, hl, hk⟩ | ⟨pre, hSp, hi, hl, hk⟩)⟩
    · have hend := run_endLoop (P := P) hl (by rw [hL]; simp)
      rw [hL] at hend
      exact ⟨none, _, hend, hdone _ xs _ (Nat.le_refl _) hS (hI.putObj _ hi (by omega) hl rfl) ((World.putObj_heap_other (by omega)).trans hk)⟩
    · have hend := run_endLoop (P := P) hl (by rw [hL]; simp)
      rw [hL] at hend
      exact ⟨some .ret, _, hend, hstop _ pre _ (Nat.le_refl _) hSp (hIx.putObj _ hi (by omega) hl rfl) ((World.putObj_heap_other (by omega)).trans hk)⟩
end Go.Proofs.YtgegjcnjlibfdaaGreat
/- A table's blocks, each as it is read: the iterator that All ranges over. -/
namespace Go.Proofs.YtgegjcnjlibfdaaGreat
set_option maxRecDepth 100000
open Go.RowKit Go.Shelf
attribute [local go_sem] Oper.semAt_some
set_option linter.unusedVariables false
set_option linter.unusedSimpArgs false
/-- What a round is told: the block's number, and what was read. -/
abbrev RdX := Nat × Except Nat (List KV)
def RdX.vals (x : RdX) : Array Value := match x.2 with
  | .error e => #[.pointer none, .int .i64 (e : Int)]
  | .ok _ => #[at_ x.1, .int .i64 0]
def rdS (x : List UInt8 × IK) : Except Nat (List KV) := readS x.1 x.2
def RdX.rs (l : List RdX) : List (Except Nat (List KV)) := l.map (·.2)
theorem rs_snoc (l : List RdX) (x : RdX) : RdX.rs (l ++ [x]) = RdX.rs l ++ [x.2] := by simp [RdX.rs]
def SpR (T : TD) (pre : List RdX) : Prop := ∃ t, RdX.rs pre ++ t = T.blocks.map rdS
def PreR (b : Nat) (x : RdX) (W : World) : Prop := match x.2 with
  | .error e => e ≠ 0
  | .ok l => 0 < l.length ∧ ∃ iv, GB W b x.1 iv l
theorem PreR.put (b : Nat) (x : RdX) (W : World) (l : Nat) (o o' : Obj) (hl : l < b) (h : W.heap[l]? = some o) (ho : o.isCells = false) (hp : PreR b x W) : PreR b x (W.putObj l o') := by
  unfold PreR at hp ⊢
  split at hp
  · exact hp
  · obtain ⟨h0, iv, hg⟩ := hp
    exact ⟨h0, iv, hg.keep fun k hk _ => World.putObj_heap_other (by omega)⟩
theorem grown_noneR {W W' : World} (h : Below W.heap.size W W') : W.grownBy W' none := ⟨h.os, h.tape, h.output, h.size, fun k hk _ => h.block k hk⟩
theorem GB.less12 {W : World} {B B' p iv : Nat} {l : List KV} (h : GB W B p iv l) (hB : B' ≤ B) : GB W B' p iv l := ⟨h.bk.less hB, h.ok, h.one, h.top, h.small⟩
set_option maxHeartbeats 4000000 in
theorem read1_in (f : Nat) (hf : 2 ≤ f) (w : World) {B p : Nat} {T : TD} (h : TbAt w B p T) (lb Bs : Nat) (J Jx : List RdX → World → Prop) (W : World) (hWw : Below w.heap.size w W)
    (hJ : AbidesFrom W.heap.size J)
    (hY : ∀ pre x W1, J pre W1 → PreR W.heap.size x W1 → SpR T (pre ++ [x]) → YieldAt Fence.wide (f - 1) Tryz.prog lb (RdX.vals x) W1 fun e W' =>
      (e = .returned (.bool true) ∧ J (pre ++ [x]) W' ∧ Below w.heap.size W1 W') ∨ (e = .returned (.bool false) ∧ Jx (pre ++ [x]) W'))
    (hB0 : Boxed W Bs TPT (at_ p)) (h0 : J [] W) :
    CallsIn Fence.wide f Tryz.prog 83 #[.func (.yield lb) #[] #[], .pointer (some ⟨Bs, 0, none⟩)] W fun e W' => (∃ v, e = .returned v) ∧
      ((∃ xs, RdX.rs xs = T.blocks.map rdS ∧ J xs W') ∨ (∃ pre, SpR T pre ∧ Jx pre W')) := by
  have HK : Hid (TbAt w B p T) := h
  have hx0 := hB0.cell
  have hsm := h.small.2
  obtain ⟨af, ar, cf, cr, c0, c1, c2, _, hall⟩ := (h.below hWw).slots
  obtain ⟨m, HNM⟩ : ∃ m, Hid (T.blocks.length = m) := ⟨_, (rfl : T.blocks.length = T.blocks.length)⟩
  have HW0 : Hid (Below w.heap.size w W) := hWw
  have HA : Hid (∀ i (hi : i < T.blocks.length), ∃ (b : Nat) (ai : Option Addr) (n : Nat), ar = some ⟨b, 0, none⟩ ∧ ∀ V, Below w.heap.size w V → V.cell? ⟨b, i * 4, none⟩ = some (.slice ai n n) ∧ V.cell? ⟨b, i * 4 + 1, none⟩ = some (.string T.blocks[i].2.user) ∧ V.cell? ⟨b, i * 4 + 2, none⟩ = some (.int .u64 (T.blocks[i].2.seq : Int)) ∧ V.cell? ⟨b, i * 4 + 3, none⟩ = some (.int .i64 T.blocks[i].2.kind) ∧ BsAt V ai n n T.blocks[i].1 ∧ 4 ≤ n ∧ n ≤ 3000000) := by
    intro i hi
    obtain ⟨af', ar', cf', cr', e0, e1, e2, _, hal⟩ := h.slots
    obtain ⟨b, ai, n, har, d0, d1, d2, d3, hbs, hn4, hn3⟩ := hal i hi
    have hee : ar' = ar := by
      rw [hWw.cell (World.block_lt_of_cell? w _ e1), e1] at c1
      cases c1
      rfl
    refine ⟨b, ai, n, hee ▸ har, fun V hV => ?_⟩
    have tr : ∀ {a : Addr} {v : Value}, w.cell? a = some v → V.cell? a = some v := fun {a v} hv => by rw [hV.cell (World.block_lt_of_cell? w _ hv)]; exact hv
    exact ⟨tr d0, tr d1, tr d2, tr d3, hbs.below (Nat.le_refl _) hV, hn4, hn3⟩
  have HC1 : Hid (W.cell? ⟨p, 1, none⟩ = some (.slice ar T.blocks.length cr)) := c1
  rw [HNM.out] at c1 hsm
  clear h hWw hall c0 c2
  refine callsIn_of_wp Tryz.func83 rfl trivial ?_ rfl
  simp only [Tryz.ntmps83, List.size_toArray, List.length_cons, List.length_nil, Nat.reduceAdd, Nat.reduceSub, Array.replicate_succ, Array.replicate_zero, List.push_toArray, List.append_toArray, List.nil_append, List.cons_append]
  gi_wp2
  clear c1 hx0
  gi_loopw [10] (fun x wr => ∃ (k : Nat) (pre : List RdX), k ≤ m ∧ x = .int .i64 (k : Int) ∧ Hid (RdX.rs pre = (T.blocks.map rdS).take k ∧ J pre wr ∧ Below w.heap.size w wr ∧ W.heap.size ≤ wr.heap.size)) (fun x _ => m - (intOf x).toNat)
  case atStart => exact ⟨0, [], Nat.zero_le _, rfl, rfl, h0, HW0.out, Nat.le_refl _⟩
  case round =>
    obtain ⟨k, pre, hk, rfl, HR⟩ := hrel
    by_cases hlt : k < m
    · have hkb : k < T.blocks.length := by rw [HNM.out]; exact hlt
      obtain ⟨b, ai, n, har, hcs⟩ := HA.out k hkb
      have HSN : Hid ((T.blocks.map rdS).take (k + 1) = (T.blocks.map rdS).take k ++ [rdS T.blocks[k]]) := by
        have hl2 : k < (T.blocks.map rdS).length := by rw [List.length_map]; exact hkb
        unfold Hid
        rw [List.take_succ_eq_append_getElem hl2]
        simp
      have HCS : Hid (∀ V, Below w.heap.size w V → V.cell? ⟨b, k * 4, none⟩ = some (.slice ai n n) ∧ V.cell? ⟨b, k * 4 + 1, none⟩ = some (.string T.blocks[k].2.user) ∧ V.cell? ⟨b, k * 4 + 2, none⟩ = some (.int .u64 (T.blocks[k].2.seq : Int)) ∧ V.cell? ⟨b, k * 4 + 3, none⟩ = some (.int .i64 T.blocks[k].2.kind) ∧ BsAt V ai n n T.blocks[k].1 ∧ 4 ≤ n ∧ n ≤ 3000000) := hcs
      obtain ⟨d0, d1, d2, d3, hbs, hn4, hn3⟩ := hcs wr HR.out.2.2.1
      have hix := fun V => idxD V (a := ar) (b := b) (off := 0) (n := m) (c := cr) har hlt
      simp only [Nat.zero_add] at hix
      generalize T.blocks[k] = z at *
      obtain ⟨zp, zk⟩ := z
      dsimp only at d1 d2 d3 hbs
      have hbb : b < wr.heap.size := World.block_lt_of_cell? wr _ d0
      have HA1 : Hid (Below w.heap.size w (wr.alloc (.cells #[.slice ai n n, .string zk.user, .int .u64 (zk.seq : Int), .int .i64 zk.kind] TSt)) ∧ J pre (wr.alloc (.cells #[.slice ai n n, .string zk.user, .int .u64 (zk.seq : Int), .int .i64 zk.kind] TSt)) ∧ W.heap.size ≤ (wr.alloc (.cells #[.slice ai n n, .string zk.user, .int .u64 (zk.seq : Int), .int .i64 zk.kind] TSt)).heap.size) := ⟨HR.out.2.2.1.alloc HR.out.2.2.1.size _, hJ pre _ _ none HR.out.2.1 (World.grownBy_alloc _ _ _) (fun r e => by cases e), by have := HR.out.2.2.2; rw [World.size_alloc]; omega⟩
      have hrd := read_any (hbs.alloc (.cells #[.slice ai n n, .string zk.user, .int .u64 (zk.seq : Int), .int .i64 zk.kind] TSt)) hn4 (by omega) zk
      unfold stA at hrd
      clear hbs har
      gi_wp2
      refine ⟨trivial, fun _ => (by omega), (callsIn_wide.2 hrd).mono ?_⟩
      rintro e w1 ⟨hb1, ⟨er, her, rfl, hne0⟩ | ⟨l, q, hok, hl0, rfl, hgb⟩⟩
      · have HP1 : Hid (J pre w1 ∧ Below w.heap.size w w1 ∧ W.heap.size ≤ w1.heap.size ∧ rdS (zp, zk) = .error er) := ⟨hJ pre _ _ none HA1.out.2.1 (grown_noneR hb1) (fun r e => by cases e), HA1.out.1.trans (hb1.mono HA1.out.1.size), Nat.le_trans HA1.out.2.2 hb1.size, her⟩
        have hSp : SpR T (pre ++ [(0, .error er)]) := ⟨(T.blocks.map rdS).drop (k + 1), by rw [rs_snoc, HR.out.1]; show _ ++ [Except.error er] ++ _ = _; rw [← HP1.out.2.2.2, ← HSN.out, List.take_append_drop]⟩
        have HSP : Hid (SpR T (pre ++ [(0, .error er)])) := hSp
        obtain ⟨fn, tmps, assign, body, hy, hR⟩ := hY pre (0, .error er) w1 HP1.out.1 hne0 hSp
        simp only [RdX.vals] at hy
        clear hb1 hrd hne0 her hSp d0 d1 d2 d3
        gi_wp2
        refine ⟨fun _ => (by omega), hR.mono ?_⟩
        rintro e W3 (⟨rfl, hJ3, hk3⟩ | ⟨rfl, hJx3⟩)
        · have H3 : Hid (J (pre ++ [(0, .error er)]) W3 ∧ Below w.heap.size w W3 ∧ W.heap.size ≤ W3.heap.size) := ⟨hJ3, HP1.out.2.1.trans hk3, Nat.le_trans HP1.out.2.2.1 hk3.size⟩
          clear hJ3 hk3
          gi_wp2
          refine ⟨⟨k + 1, pre ++ [(0, .error er)], hlt, by go_num, ?_, H3.out.1, H3.out.2.1, H3.out.2.2⟩, ?_⟩
          · rw [rs_snoc, HSN.out, HR.out.1, HP1.out.2.2.2]
          · simp [intOf]
            omega
        · gi_wp2
          refine bodyPost_ret (results_none rfl _ _ _) rfl ?_
          exact ⟨⟨_, rfl⟩, .inr ⟨_, HSP.out, hJx3⟩⟩
      · have HP1 : Hid (J pre w1 ∧ Below w.heap.size w w1 ∧ W.heap.size ≤ w1.heap.size ∧ rdS (zp, zk) = .ok l) := ⟨hJ pre _ _ none HA1.out.2.1 (grown_noneR hb1) (fun r e => by cases e), HA1.out.1.trans (hb1.mono HA1.out.1.size), Nat.le_trans HA1.out.2.2 hb1.size, hok⟩
        have hSp : SpR T (pre ++ [(q, .ok l)]) := ⟨(T.blocks.map rdS).drop (k + 1), by rw [rs_snoc, HR.out.1]; show _ ++ [Except.ok l] ++ _ = _; rw [← HP1.out.2.2.2, ← HSN.out, List.take_append_drop]⟩
        have HSP : Hid (SpR T (pre ++ [(q, .ok l)])) := hSp
        obtain ⟨fn, tmps, assign, body, hy, hR⟩ := hY pre (q, .ok l) w1 HP1.out.1 ⟨hl0, _, hgb.less12 HA1.out.2.2⟩ hSp
        simp only [RdX.vals] at hy
        clear hb1 hrd hok hgb hSp d0 d1 d2 d3
        gi_wp2
        refine ⟨fun _ => (by omega), hR.mono ?_⟩
        rintro e W3 (⟨rfl, hJ3, hk3⟩ | ⟨rfl, hJx3⟩)
        · have H3 : Hid (J (pre ++ [(q, .ok l)]) W3 ∧ Below w.heap.size w W3 ∧ W.heap.size ≤ W3.heap.size) := ⟨hJ3, HP1.out.2.1.trans hk3, Nat.le_trans HP1.out.2.2.1 hk3.size⟩
          clear hJ3 hk3
          gi_wp2
          refine ⟨⟨k + 1, pre ++ [(q, .ok l)], hlt, by go_num, ?_, H3.out.1, H3.out.2.1, H3.out.2.2⟩, ?_⟩
          · rw [rs_snoc, HSN.out, HR.out.1, HP1.out.2.2.2]
          · simp [intOf]
            omega
        · gi_wp2
          refine bodyPost_ret (results_none rfl _ _ _) rfl ?_
          exact ⟨⟨_, rfl⟩, .inr ⟨_, HSP.out, hJx3⟩⟩
    · gi_wp2
      go_end0
      refine ⟨⟨_, rfl⟩, .inl ⟨pre, ?_, HR.out.2.1⟩⟩
      rw [HR.out.1, List.take_of_length_le (by rw [List.length_map, HNM.out]; omega)]
theorem read_stops (f : Nat) (hf : 2 ≤ f) (w : World) {B p : Nat} {T : TD} (h : TbAt w B p T) (Bs : Nat) (w0 : World) (hw0 : Below w.heap.size w w0) (hB0 : Boxed w0 Bs TPT (at_ p)) :
    SeqP f Tryz.prog 83 #[.pointer (some ⟨Bs, 0, none⟩)] RdX.vals PreR (Below w.heap.size) (fun xs => RdX.rs xs = T.blocks.map rdS) (SpR T) w0 :=
  fun lb J Jx W hW hJ hY h0 => read1_in f hf w h lb Bs J Jx W (hw0.trans (hW.mono hw0.size)) hJ hY ((hW.block _ hB0.lt).trans hB0) h0
theorem readf_any (p : Nat) (w : World) : Calls Tryz.prog 41 #[at_ p] w fun e w' =>
    e = .returned (.func (.func 83) #[] #[.pointer (some ⟨w.heap.size, 0, none⟩)]) ∧ w' = w.alloc (.cells #[at_ p] TPT) := by
  have hmf : ∀ (fn : Fn) (first cap : Array Value) (w : World), (Instr.makeFunc fn first cap).run Tryz.prog w = .ok (.func fn first cap) w := fun _ _ _ _ => rfl
  go_enter Tryz.func41, Tryz.ntmps41
  go_wp2
  go_ret
  exact ⟨ret1 rfl, rfl⟩
end Go.Proofs.YtgegjcnjlibfdaaGreat
