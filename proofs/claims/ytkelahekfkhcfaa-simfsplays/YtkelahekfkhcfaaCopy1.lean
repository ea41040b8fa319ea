/- The contract of Copy. -/
import Derived.Test.YtkelahekfkhcfaaCopyStep
import Derived.Maps.RangeWalk
import Derived.Laws.IdiomRangeMap
namespace Go.Proofs.Ytkelahekfkhcfaa
open Go.RowKit Go.Maps
/-- What the copy's maps tell while names are taken over. -/
def XD (S : PFs) (D : List PName) : PFs := { S with names := D, lasts := D, since := [] }
def XK (S : PFs) (k : Nat) : PFs := { S with names := (S.since.take k).foldl changedN S.lasts, lasts := S.lasts, since := S.since.take k }
theorem FsU.start {w : World} {p : Nat} {S : PFs} {U : Int} (h : FsB w p { cellsOf (XD S []) gh0 with u := U }) : FsU w p (XD S []) gh0 U := by
  refine ⟨h, ⟨?_, rfl, rfl, (fun _ e => by cases e), World.ownsRow_nil _ _ _ 3, (fun _ e => e.elim), (fun _ _ e => e.elim), (fun _ e => by cases e), (fun _ e => by cases e), (fun _ e => by cases e)⟩⟩
  refine Box.eq (Box.set h 1 _) ?_
  simp [cellsOf, FsC.arr]
def ptrV : Option Nat → Value
  | some b => at_ b
  | none => .pointer none
theorem ptrV_inv (v : Value) (y : DataW Unit × List MemPlace) (h : ptrElem v = some y) : ∃ c, v = ptrV c := by
  unfold ptrElem at h
  split at h
  · exact ⟨none, rfl⟩
  · exact ⟨some _, rfl⟩
  · cases h
theorem has_names (blk : Nat → Nat) (l : List PName) (name : List UInt8) : Maps.has (mapOf blk l) (.string name) = true ↔ ∃ x ∈ l, x.name = name := by
  unfold mapOf
  rw [Maps.has_eq, List.any_map, List.any_eq_true]
  constructor
  · rintro ⟨x, hx, e⟩
    exact ⟨x, hx, by simpa [Function.comp, Lit.sameKey] using e⟩
  · rintro ⟨x, hx, e⟩
    exact ⟨x, hx, by simp [Function.comp, Lit.sameKey, e]⟩
/-- A range over names is under way. -/
def Rg (w : World) (mo : Option Nat) (r : Nat) (blk : Nat → Nat) (L : List PName) (left : Lit → Bool) (cnt : Nat) : Prop := match mo with
  | none => L = [] ∧ w.heap[r]? = some (.mapIter none 0 #[] 0) ∧ (∀ kl, left kl = false) ∧ cnt = 0
  | some m => w.ranges Try.prog 9 ptrElem m r L.length (mapOf blk L) left cnt
def rgLeft (w : World) (mo : Option Nat) (r : Nat) : Nat := match mo with
  | none => 0
  | some m => w.rangeLeft m r
theorem Rg.left_eq {w : World} {mo : Option Nat} {r : Nat} {blk : Nat → Nat} {L : List PName} {left : Lit → Bool} {cnt : Nat} (h : Rg w mo r blk L left cnt) : rgLeft w mo r = cnt := by
  cases mo with
  | none => exact h.2.2.2.symm
  | some m => exact World.ranges.left_eq h
theorem Rg.tag {w : World} {mo : Option Nat} {r : Nat} {blk : Nat → Nat} {L : List PName} {left : Lit → Bool} {cnt : Nat} (h : Rg w mo r blk L left cnt) : tag w r = some 2000 := by
  cases mo with
  | none =>
    unfold Go.Proofs.Ytkelahekfkhcfaa.tag
    rw [h.2.1]
    rfl
  | some m => exact ranges_tag h
theorem Rg.same {w w' : World} {mo : Option Nat} {r : Nat} {blk : Nat → Nat} {L : List PName} {left : Lit → Bool} {cnt : Nat} (h : Rg w mo r blk L left cnt) (h1 : ∀ m, mo = some m → w'.heap[m]? = w.heap[m]?) (h2 : w'.heap[r]? = w.heap[r]?) : Rg w' mo r blk L left cnt := by
  cases mo with
  | none => exact ⟨h.1, h2.trans h.2.1, h.2.2⟩
  | some m => exact ranges_same h (h1 m rfl) h2
theorem wpList_range_rg {w : World} {ops : Array Oper} {rest : List Oper} {o : Oper} {a : Act} {Q : Exit → Act → World → Prop} (hg : o.guard = none) (x : Operand) (hop : o.op = Op.range 61 x) (mo : Option Nat) (blk : Nat → Nat) (L : List PName) (r : Nat) (hr : r = w.heap.size) (hm : a.eval x = .map mo) (hn : NmAt w mo blk L)
    (hK : ∀ w' left, Rg w' mo r blk L left L.length → (∀ name, left (.string name) = true ↔ ∃ x ∈ L, x.name = name) → Below w.heap.size w w' → w'.heap.size = w.heap.size + 1 → wpList Try.prog ops Q rest (a.put o.dst (.pointer (some ⟨r, 0, none⟩))) w') :
    wpList Try.prog ops Q (o :: rest) a w := by
  subst hr
  cases mo with
  | none =>
    obtain rfl : L = [] := hn
    refine wpList_plain hg fun K' hK' => ?_
    have hrun := run_range_nilMap (P := Try.prog) w 61 9 70 Try.underlying61
    unfold Oper.wp
    simp [execOp, hop, hm, hrun, Result.andThen]
    exact hK' _ _ (hK _ (fun _ => false) ⟨rfl, heap_alloc_new w _, fun _ => rfl, rfl⟩ (fun name => by simp) ((Below.refl _ _).alloc (Nat.le_refl _) _) (by simp))
  | some m =>
    refine wpList_range_own w hg x _ hop 9 70 lawS Try.underlying61 ptrElem m L.length (mapOf blk L) hm hn ?_
    intro w' h1 h2 h3
    rw [mapOf_size] at h1
    exact hK w' _ h1 (fun name => has_names blk L name) ((Below.refl _ _).grown h2 (Nat.le_refl _) (fun k e => by cases e)) h3
theorem wpList_next_rg {w : World} {ops : Array Oper} {rest : List Oper} {o : Oper} {a : Act} {Q : Exit → Act → World → Prop} (hg : o.guard = none) (it : Operand) (hop : o.op = Op.next it false) (mo : Option Nat) (r : Nat) (blk : Nat → Nat) (L : List PName) (left : Lit → Bool) (cnt : Nat)
    (hit : a.eval it = .pointer (some ⟨r, 0, none⟩)) (h : Rg w mo r blk L left cnt) (hL : (L.map (·.name)).Nodup)
    (hDone : (∀ kl, left kl = false) → wpList Try.prog ops Q rest (a.put o.dst (.tuple #[.bool false])) w)
    (hMore : ∀ (x : PName) (w' : World) (cnt' : Nat), x ∈ L → left (.string x.name) = true → Rg w' mo r blk L (fun z => left z && !z.sameKey (.string x.name)) cnt' → cnt' < cnt → w.grownBy w' (some r) → w'.heap.size = w.heap.size →
      (Instr.entry (.pointer (some ⟨r, 0, none⟩))).run Try.prog w' = .ok (.tuple #[.string (strOf x.name), at_ (blk x.file)]) w' → wpList Try.prog ops Q rest (a.put o.dst (.tuple #[.bool true, .string (strOf x.name), at_ (blk x.file)])) w') :
    wpList Try.prog ops Q (o :: rest) a w := by
  cases mo with
  | none =>
    obtain ⟨h1, h2, h3, h4⟩ := h
    refine wpList_plain hg fun K' hK' => ?_
    have hrun : (Instr.next (.pointer (some ⟨r, 0, none⟩)) false o.type).run Try.prog w = .ok (.tuple #[.bool false]) w := by
      simp only [Instr.next, getObj, Sem.run_bind, Sem.run, h2, Result.andThen]
      rfl
    unfold Oper.wp
    simp [execOp, hop, hit, hrun, Result.andThen]
    exact hK' _ _ (hDone h3)
  | some m =>
    refine wpList_next_ranges w hg it hop 9 lawS ptrElem Go.Proofs.encStr ptrV (fun key kl hk => by obtain ⟨x, hx, _⟩ := Maps.keyOf_str Try.underlying9 hk; exact ⟨x, hx⟩) ptrV_inv m r L.length (mapOf blk L) left cnt hit h (fun _ h => hDone h) ?_
    intro x c kl y w' cnt' hkey hlk hv hat hrg hlt hgr hsz hen
    obtain ⟨x', ex, rfl, _⟩ := Maps.keyOf_str Try.underlying9 hkey
    obtain rfl : x = x' := encStr_inj ex
    have hh : Maps.has (mapOf blk L) (.string x) = true := by
      have h0 := hat .nil
      have h1 := hat (.lit (.bool true))
      cases hf : Maps.has (mapOf blk L) (.string x) with
      | true => rfl
      | false =>
        rw [atKey_of_not_has hf] at h0 h1
        rw [← h0] at h1
        cases h1
    obtain ⟨z, hz, rfl⟩ := (has_names blk L x).1 hh
    have hat0 := hat .nil
    rw [mapOf_at, find_of hL hz] at hat0
    have hc : ptrV c = at_ (blk z.file) := by
      obtain ⟨y1, y2⟩ := y
      simp only at hat0
      rw [← hat0] at hv
      exact ptrElem_inv hv
    rw [hc] at hen ⊢
    exact hMore z w' cnt' hz hlk hrg hlt hgr hsz hen
/-- The first loop: what has been taken over, and what is still to come. -/
structure L1 (w : World) (S : PFs) (g : Gh) (U : Int) (wr : World) (left : Lit → Bool) (cnt : Nat) (D : List PName) (gC : Gh) : Prop where
  rg : Rg wr g.ml (w.heap.size + 1) g.blk S.lasts left cnt
  mem : ∀ x, x ∈ D ↔ x ∈ S.lasts ∧ left (.string x.name) = false
  nice : Nice S.files.length D
  len : D.length + cnt ≤ S.lasts.length
  fs : FsU wr w.heap.size (XD S D) gC U
  live : ∀ j, gC.live j → ∃ x ∈ D, x.file = j
  inner : ∀ i, Inner gC i → w.heap.size ≤ i ∧ i ≠ w.heap.size + 1
  below : Below w.heap.size w wr
  big : w.heap.size + 2 ≤ wr.heap.size
section
variable {w wr w2 w3 w4 w5 : World} {S : PFs} {g gC : Gh} {U : Int} {left : Lit → Bool} {cnt cnt' m1 m2 : Nat} {D : List PName} {x : PName} {f : FG} {p : Nat}
theorem L1.absent (h : L1 w S g U wr left cnt D gC) (hx : x ∈ S.lasts) (hl : left (.string x.name) = true) (hN : Nice S.files.length S.lasts) : ¬ gC.live x.file ∧ OkC S.files.length D ⟨1, x.name, [], x.file⟩ := by
  have hno : ∀ y ∈ D, y.name ≠ x.name ∧ y.file ≠ x.file := fun y hy => by
    obtain ⟨h1, h2⟩ := (h.mem y).1 hy
    refine ⟨fun e => ?_, fun e => ?_⟩
    · rw [e, hl] at h2
      cases h2
    · obtain rfl := inj_of_nodup hN.files y h1 x hx e
      rw [hl] at h2
      cases h2
  refine ⟨fun hlv => ?_, ⟨.inl rfl, fun _ => ⟨(hN.good x hx).1, ?_, (hN.good x hx).2, fun y hy => (hno y hy).2⟩, fun e => by simp at e, fun e => by simp at e⟩⟩
  · obtain ⟨y, hy, e⟩ := h.live _ hlv
    exact (hno y hy).2 e
  · unfold findN
    rw [List.find?_eq_none.2, Option.map_none]
    intro y hy e
    exact (hno y hy).1 (by simpa using e)
/-- The copy's blocks behind a step of the range. -/
theorem L1.next (h : L1 w S g U wr left cnt D gC) (hg : wr.grownBy w2 (some (w.heap.size + 1))) : FsU w2 w.heap.size (XD S D) gC U ∧ Below w.heap.size w w2 := by
  refine ⟨h.fs.below fun k hk => ?_, h.below.grown hg (by have := h.big; omega) (fun k e => by cases e; omega)⟩
  have hlt : k < wr.heap.size := by
    rcases hk with rfl | hk
    · have := h.big
      omega
    · exact (h.fs.inner hk).1
  refine hg.block k hlt (fun e => ?_)
  obtain rfl := Option.some.inj e
  rcases hk with e | hk
  · omega
  · exact (h.inner _ hk).2 rfl
theorem L1.adopted (h : L1 w S g U wr left cnt D gC) (hx : x ∈ S.lasts) (hl : left (.string x.name) = true) (hN : Nice S.files.length S.lasts) (hg : wr.grownBy w2 (some (w.heap.size + 1))) (hf : FileAt w3 f (S.fileOf x.file)) (h1 : w2.heap.size ≤ f.blk) (h2 : ∀ b, f.row = some b → w2.heap.size ≤ b) (hb : Below w2.heap.size w2 w3) : FsU w3 w.heap.size (XD S D) (gC.adopt x.file f) U :=
  (h.next hg).1.adopt (h.absent hx hl hN).1 hb hf h1 h2
theorem L1.step (h : L1 w S g U wr left cnt D gC) (hx : x ∈ S.lasts) (hl : left (.string x.name) = true) (hN : Nice S.files.length S.lasts) (hlm : ∀ m, g.ml = some m → m < w.heap.size) (hg : wr.grownBy w2 (some (w.heap.size + 1))) (hrg : Rg w2 g.ml (w.heap.size + 1) g.blk S.lasts (fun z => left z && !z.sameKey (.string x.name)) cnt') (hcnt : cnt' < cnt) (hsz2 : w2.heap.size = wr.heap.size)
    (hf : FileAt w3 f (S.fileOf x.file)) (h1 : w2.heap.size ≤ f.blk) (h2 : ∀ b, f.row = some b → w2.heap.size ≤ b) (hb : Below w2.heap.size w2 w3)
    (l1 : (gC.adopt x.file f).ml = some m1 ∨ ((gC.adopt x.file f).ml = none ∧ w3.heap.size ≤ m1)) (n1 : NmAt w4 (some m1) (gC.adopt x.file f).blk (withN D x)) (c1 : Chg (fun i => (gC.adopt x.file f).ml = some i ∨ ((gC.adopt x.file f).ml = none ∧ i = w.heap.size)) w3 w4)
    (l2 : (gC.adopt x.file f).mn = some m2 ∨ ((gC.adopt x.file f).mn = none ∧ w4.heap.size ≤ m2)) (n2 : NmAt w5 (some m2) (gC.adopt x.file f).blk (withN D x)) (b2 : Box w5 w.heap.size 64 (((({ cellsOf (XD S D) (gC.adopt x.file f) with u := U } : FsC).arr).setIfInBounds 8 (.map (some m1))).setIfInBounds 7 (.map (some m2)))) (c2 : Chg (fun i => (gC.adopt x.file f).mn = some i ∨ ((gC.adopt x.file f).mn = none ∧ i = w.heap.size)) w4 w5) :
    L1 w S g U w5 (fun z => left z && !z.sameKey (.string x.name)) cnt' (withN D x) { gC.adopt x.file f with mn := some m2, ml := some m1 } := by
  have hA := h.adopted hx hl hN hg hf h1 h2 hb
  have hlive : ∀ y ∈ withN D x, (gC.adopt x.file f).live y.file := fun y hy => by
    rcases mem_with.1 hy with rfl | hy
    · exact .inr rfl
    · exact .inl (h.fs.at_.liveN y hy.1)
  obtain ⟨hU, hin, hch⟩ := hA.both (X' := XD S (withN D x)) rfl rfl hlive l1 n1 c1 l2 n2 b2 c2
  have hb2 := (h.next hg).2
  have hbig := h.big
  have hs3 := hb.size
  have hin3 : ∀ i, Inner (gC.adopt x.file f) i → w.heap.size ≤ i ∧ i ≠ w.heap.size + 1 := fun i hi => by
    rcases Inner.adopt hi with hi | hi | hi
    · exact h.inner i hi
    · rw [hi]
      exact ⟨by omega, by omega⟩
    · have := h2 i hi
      exact ⟨by omega, by omega⟩
  have hb3 : Below w.heap.size w w3 := hb2.trans (hb.mono (by omega))
  have hch' : Below w.heap.size w3 w5 := ⟨hch.os, hch.tape, hch.output, hch.size, fun k hk => hch.block k (by omega) (fun e => by
    rcases e with e | e | e
    · omega
    · have := (hin3 k (.inl e)).1
      omega
    · have := (hin3 k (.inr (.inl e))).1
      omega)⟩
  refine ⟨?_, fun y => ?_, ?_, ?_, hU, fun j hj => ?_, fun i hi => ?_, hb3.trans hch', ?_⟩
  · refine hrg.same (fun m e => ?_) ?_
    · have hm := hlm m e
      rw [(hb3.trans hch').block m hm, hb2.block m hm]
    · have hr3 : w3.heap[w.heap.size + 1]? = w2.heap[w.heap.size + 1]? := hb.block _ (by omega)
      rw [← hr3]
      refine hch.block _ (by omega) ?_
      rintro (e | e | e)
      · omega
      · exact (hin3 _ (.inl e)).2 rfl
      · exact (hin3 _ (.inr (.inl e))).2 rfl
  · rw [mem_with]
    have hsk : (Lit.string y.name).sameKey (.string x.name) = (y.name == x.name) := rfl
    simp only [hsk]
    constructor
    · rintro (rfl | ⟨hy, hne⟩)
      · exact ⟨hx, by simp⟩
      · obtain ⟨a1, a2⟩ := (h.mem y).1 hy
        exact ⟨a1, by rw [a2]; rfl⟩
    · rintro ⟨a1, a2⟩
      by_cases e : y.name = x.name
      · exact .inl (inj_of_nodup hN.names y a1 x hx e)
      · refine .inr ⟨(h.mem y).2 ⟨a1, ?_⟩, e⟩
        have : (y.name == x.name) = false := by simpa using e
        rw [this] at a2
        simpa using a2
  · exact h.nice.with x (hN.good x hx).1 (hN.good x hx).2 (fun y hy _ => ((h.absent hx hl hN).2.one rfl).2.2.2 y hy)
  · have := with_le D x
    have := h.len
    omega
  · rcases hj with hj | hj
    · obtain ⟨y, hy, e⟩ := h.live j hj
      exact ⟨y, mem_with.2 (.inr ⟨hy, fun e' => by
        have h3 := ((h.mem y).1 hy).2
        rw [e', hl] at h3
        cases h3⟩), e⟩
    · exact ⟨x, mem_with.2 (.inl rfl), hj.symm⟩
  · rcases hin i hi with hi | hi
    · exact hin3 i hi
    · exact ⟨by omega, by omega⟩
  · have := hch.size
    omega
end
theorem L1.all {w wr : World} {S : PFs} {g gC : Gh} {U : Int} {left : Lit → Bool} {cnt : Nat} {D : List PName} (h : L1 w S g U wr left cnt D gC) (hl : ∀ kl, left kl = false) (hn : NmAt w g.ml g.blk S.lasts) : D = S.lasts := by
  have hm : ∀ x, x ∈ D ↔ x ∈ S.lasts := fun x => by rw [h.mem x]; simp [hl]
  cases hD : D with
  | nil =>
    cases hS : S.lasts with
    | nil => rfl
    | cons y r =>
      have := (hm y).2 (by rw [hS]; exact List.mem_cons_self ..)
      rw [hD] at this
      cases this
  | cons y r =>
    have hy : y ∈ D := by rw [hD]; exact List.mem_cons_self ..
    rw [← hD]
    have h1 := h.fs.lm
    cases hm1 : gC.ml with
    | none =>
      rw [hm1] at h1
      have : D = [] := h1
      rw [this] at hy
      cases hy
    | some m1 =>
      rw [hm1] at h1
      cases hm2 : g.ml with
      | none =>
        rw [hm2] at hn
        have h2 : S.lasts = [] := hn
        have := (hm y).1 hy
        rw [h2] at this
        cases this
      | some m2 =>
        rw [hm2] at hn
        exact names_one h1 hn hm
/-- The second loop: changes that have been done anew. -/
structure L2 (w : World) (S : PFs) (U : Int) (wr : World) (k : Nat) (gC : Gh) : Prop where
  fs : FsU wr w.heap.size (XK S k) gC U
  live : ∀ j, gC.live j → (∃ x ∈ S.lasts, x.file = j) ∨ j ∈ news (S.since.take k)
  inner : ∀ i, Inner gC i → w.heap.size ≤ i
  below : Below w.heap.size w wr
  big : w.heap.size < wr.heap.size
theorem news_append (a b : List PChange) : news (a ++ b) = news a ++ news b := by unfold news; rw [List.filter_append, List.map_append]
theorem news_cons (c : PChange) (r : List PChange) : news (c :: r) = if c.kind = 1 then c.file :: news r else news r := by
  unfold news
  rw [List.filter_cons]
  by_cases e : c.kind = 1
  · simp [e]
  · simp [e]
theorem XK_zero (S : PFs) : XK S 0 = XD S S.lasts := by simp [XK, XD]
theorem XK_succ (S : PFs) (k : Nat) (hk : k < S.since.length) : (XK S k).change (S.since.getD k chg0) = XK S (k + 1) := by
  unfold XK PFs.change
  rw [take_ch S.since k hk, List.foldl_append]
  rfl
theorem XK_all {S : PFs} (hI : Inv S) (k : Nat) (hk : k = S.since.length) : XK S k = S := by
  unfold XK
  rw [hk, List.take_length, ← Chain.fold hI.chain]
section
variable {w wr wA wB wC w' : World} {S : PFs} {gC g' : Gh} {U : Int} {k : Nat} {f : FG}
theorem L2.ok (hI : Inv S) (hk : k < S.since.length) : Nice (XK S k).files.length (XK S k).names ∧ (XK S k).names.length ≤ 1000000 ∧ (XK S k).since.length ≤ 1000000 ∧ OkC (XK S k).files.length (XK S k).names (S.since.getD k chg0) := by
  have hc := Chain.take k hI.chain
  have hl : (S.since.take k).length ≤ S.since.length := by simp; omega
  have h1 := Chain.length hc
  have h2 := hI.count
  have h3 := hI.asked
  exact ⟨Chain.nice hI.lasts hc, by show ((S.since.take k).foldl changedN S.lasts).length ≤ _; omega, by show (S.since.take k).length ≤ _; omega, Chain.at_ k hI.chain hk⟩
theorem L2.absent (h : L2 w S U wr k gC) (hI : Inv S) (hk : k < S.since.length) (h1 : (S.since.getD k chg0).kind = 1) : ¬ gC.live (S.since.getD k chg0).file := by
  intro hl
  have hf := hI.fresh
  have e : S.since = S.since.take k ++ (S.since.getD k chg0 :: S.since.drop (k + 1)) := by
    have h2 : S.since.drop k = S.since.getD k chg0 :: S.since.drop (k + 1) := by
      rw [List.drop_eq_getElem_cons hk]
      simp [List.getD, hk]
    rw [← h2, List.take_append_drop]
  have hn : news S.since = news (S.since.take k) ++ ((S.since.getD k chg0).file :: news (S.since.drop (k + 1))) := by
    rw [show news S.since = news (S.since.take k ++ (S.since.getD k chg0 :: S.since.drop (k + 1))) from congrArg news e, news_append, news_cons, if_pos h1]
  rw [hn, List.nodup_append] at hf
  obtain ⟨_, hf2, hf3⟩ := hf
  rw [List.nodup_append] at hf2
  rcases h.live _ hl with ⟨x, hx, e⟩ | hm
  · exact hf3 x.file (List.mem_map.2 ⟨x, hx, rfl⟩) (S.since.getD k chg0).file (List.mem_append.2 (.inr (List.mem_cons_self ..))) e
  · exact hf2.2.2 _ hm _ (List.mem_cons_self ..) rfl
theorem L2.box (h : L2 w S U wr k gC) (o : Obj) : FsU (wr.alloc o) w.heap.size (XK S k) gC U := h.fs.below fun i hi => Below.heap_alloc _ _ _ (by
  rcases hi with rfl | hi
  · exact h.big
  · exact (h.fs.inner hi).1)
theorem L2.adopted (h : L2 w S U wr k gC) (hI : Inv S) (hk : k < S.since.length) (h1 : (S.since.getD k chg0).kind = 1) (o : Obj) (hf : FileAt wB f (S.fileOf (S.since.getD k chg0).file)) (hb1 : (wr.alloc o).heap.size ≤ f.blk) (hb2 : ∀ b, f.row = some b → (wr.alloc o).heap.size ≤ b) (hb : Below (wr.alloc o).heap.size (wr.alloc o) wB) (v : Value) :
    FsU (wB.setCell ⟨wr.heap.size, 2, none⟩ v) w.heap.size (XK S k) (gC.adopt (S.since.getD k chg0).file f) U := by
  have hA := (h.box o).adopt (h.absent hI hk h1) hb hf hb1 hb2
  have hbig := h.big
  refine hA.below fun i hi => Below.heap_setCell _ _ _ _ ?_
  rcases hi with rfl | hi
  · show w.heap.size ≠ wr.heap.size
    omega
  · show i ≠ wr.heap.size
    rcases Inner.adopt hi with hi | hi | hi
    · have := (h.fs.inner hi).1
      omega
    · simp at hb1
      omega
    · have := hb2 i hi
      simp at this
      omega
theorem L2.step (h : L2 w S U wr k gC) (hk : k < S.since.length) {gD : Gh} (hD : ∀ j, gD.live j → gC.live j ∨ ((S.since.getD k chg0).kind = 1 ∧ j = (S.since.getD k chg0).file)) (hiD : ∀ i, Inner gD i → Inner gC i ∨ wr.heap.size ≤ i) (hbC : Below w.heap.size w wC) (hszC : wr.heap.size ≤ wC.heap.size) (hf : FsU w' w.heap.size ((XK S k).change (S.since.getD k chg0)) g' U) (hl : g'.live = gD.live) (hi : ∀ i, Inner g' i → Inner gD i ∨ wC.heap.size ≤ i) (hc : Chg (fun i => i = w.heap.size ∨ Inner gD i) wC w') : L2 w S U w' (k + 1) g' := by
  have hinD : ∀ i, Inner gD i → w.heap.size ≤ i := fun i hi => (hiD i hi).elim (h.inner i) (fun e => by have := h.big; omega)
  refine ⟨by rw [← XK_succ S k hk]; exact hf, fun j hj => ?_, fun i hi' => ?_, hbC.trans ⟨hc.os, hc.tape, hc.output, hc.size, fun i hi' => hc.block i (by have := h.big; omega) (fun e => by
    rcases e with e | e
    · omega
    · have := hinD i e
      omega)⟩, by have := hc.size; have := h.big; omega⟩
  · rw [hl] at hj
    rw [take_ch S.since k hk, news_snoc]
    rcases hD j hj with hj | ⟨h1, rfl⟩
    · rcases h.live j hj with hx | hx
      · exact .inl hx
      · right
        split
        · exact List.mem_append.2 (.inl hx)
        · exact hx
    · right
      rw [if_pos h1]
      exact List.mem_append.2 (.inr (List.mem_singleton.2 rfl))
  · rcases hi i hi' with e | e
    · exact hinD i e
    · have := h.big
      omega
end
theorem copyF_new {w : World} {f : FG} {x : PFile} (h : FileAt w f x) (hl : x.b.length ≤ 1048576) (o : Obj) : Calls Try.prog 42 #[at_ f.blk] (w.alloc o) fun e w' => ∃ f', e = .returned (at_ f'.blk) ∧ FileAt w' f' x ∧ (w.alloc o).heap.size ≤ f'.blk ∧ (∀ b, f'.row = some b → (w.alloc o).heap.size ≤ b) ∧ Below (w.alloc o).heap.size (w.alloc o) w' := by
  have h' : FileAt (w.alloc o) f x := h.kept (Below.heap_alloc _ _ _ h.box.lt) fun b e => Below.heap_alloc _ _ _ (tag_lt (row_tag h.own.row (by rw [FG.row_eq]; exact e)))
  refine (copyF_any (w.alloc o) f x h' hl).mono ?_
  rintro e w' ⟨rfl, hf, hb⟩
  exact ⟨_, rfl, hf, Nat.le_succ _, fun b e => by obtain rfl := Option.some.inj (show some (w.alloc o).heap.size = some b from e); exact Nat.le_refl _, hb⟩
set_option maxRecDepth 100000 in
set_option maxHeartbeats 2000000 in
theorem copy_at {w : World} {p : Nat} {S : PFs} {g : Gh} (h : FsAt w p S g) (hI : Inv S) : Calls Try.prog 14 #[at_ p] w fun e w' => e = .returned (at_ w.heap.size) ∧ ∃ gC, FsAt w' w.heap.size S gC ∧ (∀ i, Inner gC i → w.heap.size ≤ i) ∧ Below w.heap.size w w' := by
  obtain ⟨q0, q1, q2, q3, q4, q5, q6, q7, q8, q9⟩ := h.fs.cells
  have hplt := tag_lt h.tagP
  obtain ⟨c, HCc⟩ : ∃ c, Hid (c = cellsOf S g) := ⟨_, rfl⟩
  rw [← HCc.out] at q0 q1 q2 q3 q4 q5 q6 q7 q8 q9
  have HF : Hid (FsAt w p S g) := h
  clear h
  have ml8 : c.ml = g.ml := by rw [HCc.out]; rfl
  rw [ml8] at q8
  obtain ⟨c0, hc0⟩ : ∃ c0 : Obj, c0 = .cells #[.int .i64 c.q, .int .i64 c.u, .int .i64 c.o, .bool c.fs, .int .i64 c.fn, .bool c.ss, .int .i64 c.sn, .map none, .map none, .slice none 0 0] 64 := ⟨_, rfl⟩
  have hB0 : FsB (w.alloc c0) w.heap.size { cellsOf (XD S []) gh0 with u := c.u } := by
    rw [hc0]
    refine Box.eq (Box.new w _ _) ?_
    rw [HCc.out]
    rfl
  have HU0 : Hid (FsU (w.alloc c0) w.heap.size (XD S []) gh0 c.u) := FsU.start hB0
  have HB0 : Hid (Below w.heap.size w (w.alloc c0)) := (Below.refl _ _).alloc (Nat.le_refl _) _
  have hlm0 : NmAt (w.alloc c0) g.ml g.blk S.lasts := HF.out.lm.kept fun m e => HB0.out.block m (tag_lt (HF.out.tagL e))
  have HC0 : Hid (c0 = _) := hc0
  rw [hc0] at hlm0
  clear hB0 hc0
  go_enter Try.func14, Try.ntmps14
  go_wp2_with (first
    | (at_range; refine wpList_range_rg rfl _ rfl g.ml g.blk S.lasts (w.heap.size + 1) (by simp) rfl hlm0 ?_; intro w1 left1 hrg1 hlf1 hb1 hs1)
    | fail)
  go_frame
  have hsz0 : (w.alloc c0).heap.size = w.heap.size + 1 := by simp
  have hlL : S.lasts.length ≤ 1000000 := by have := hI.count; have := hI.asked; omega
  have hL1 : L1 w S g c.u w1 left1 S.lasts.length [] gh0 := by
    have hx1 : Below (w.alloc c0).heap.size (w.alloc c0) w1 := by rw [HC0.out]; exact hb1
    have hy1 : w1.heap.size = w.heap.size + 2 := by rw [hs1]; simp
    refine ⟨hrg1, fun x => ⟨(fun h => by cases h), fun h => ?_⟩, Nice.nil _, by simp, HU0.out.below fun k hk => hx1.block k ?_, fun j hj => hj.elim, fun i hi => ?_, HB0.out.trans (hx1.mono (by rw [hsz0]; omega)), by omega⟩
    · have := (hlf1 x.name).2 ⟨x, h.1, rfl⟩
      rw [h.2] at this
      cases this
    · rcases hk with rfl | hk
      · rw [hsz0]; omega
      · rcases hk with e | e | e | ⟨j, hj, _⟩
        · cases e
        · cases e
        · cases e
        · exact hj.elim
    · rcases hi with e | e | e | ⟨j, hj, _⟩
      · cases e
      · cases e
      · cases e
      · exact hj.elim
  have HL1 : Hid (L1 w S g c.u w1 left1 S.lasts.length [] gh0) := hL1
  clear hL1 hrg1 hlf1 hb1 hlm0
  have hmlt : ∀ m, g.ml = some m → m < w.heap.size := fun m e => tag_lt (HF.out.tagL e)
  have HML : Hid (∀ m, g.ml = some m → m < w.heap.size) := hmlt
  clear hmlt
  go_loopw [22] (fun _ wr => ∃ (left : Lit → Bool) (cnt : Nat) (D : List PName) (gC : Gh), Hid (L1 w S g c.u wr left cnt D gC)) (fun _ wr => rgLeft wr g.ml (w.heap.size + 1))
  case atStart => exact ⟨_, _, _, _, HL1.out⟩
  case round =>
    obtain ⟨left, cnt, D, gC, HR⟩ := hrel
    go_wp2_with (first
      | (at_next; refine wpList_next_rg rfl _ rfl g.ml (w.heap.size + 1) g.blk S.lasts left cnt rfl HR.out.rg hI.lasts.names ?_ ?_)
      | fail)
    · intro hl0
      have hDL := HR.out.all hl0 HF.out.lm
      have HL2 : Hid (L2 w S c.u wr 0 gC) := by
        have hR := HR.out
        rw [hDL] at hR
        exact ⟨by rw [XK_zero]; exact hR.fs, fun j hj => .inl (hR.live j hj), fun i hi => (hR.inner i hi).1, hR.below, by have := hR.big; omega⟩
      have HBr : Hid (Below w.heap.size w wr) := HR.out.below
      clear hDL hl0 HR
      have q9r : wr.cell? ⟨p, 9, none⟩ = some (.slice c.sa c.sl c.sc) := (HBr.out.cell hplt).trans q9
      have hN0 : c.sl ≤ 1000000 := by rw [HCc.out]; exact hI.fewS
      have HNl : Hid (c.sl = S.since.length) := by rw [HCc.out]; rfl
      have HRow : Hid (w.ownsRow 0 74 3 (.slice c.sa c.sl c.sc) c.sl (cellsC g.blk S.since)) := by rw [HCc.out]; exact HF.out.sn
      go_wp2_with fail
      go_loopw [44] (fun i wz => ∃ (k : Nat) (gD : Gh), k ≤ c.sl ∧ i = .int .i64 (k : Int) ∧ Hid (L2 w S c.u wz k gD)) (fun i _ => c.sl - (intOf i).toNat)
      case atStart => exact ⟨0, gC, Nat.zero_le _, rfl, HL2.out⟩
      case round =>
        obtain ⟨k, gD, hk, rfl, HR⟩ := hrel
        by_cases hlt : k < c.sl
        · have hks : k < S.since.length := by have := HNl.out; omega
          have hrk : wr.ownsRow 0 74 3 (.slice c.sa c.sl c.sc) c.sl (cellsC g.blk S.since) := row_same HRow.out (fun b e => HR.out.below.block b (tag_lt (row_tag HRow.out e)))
          obtain ⟨gr, hsa⟩ : ∃ gr, c.sa = some ⟨gr, 0, none⟩ := by
            rcases hrk.2 with ⟨hv, h0⟩ | ⟨g', cp, cur, hv, _⟩
            · simp only [Value.slice.injEq] at hv
              omega
            · simp only [Value.slice.injEq] at hv
              exact ⟨_, hv.1⟩
          have hsc : c.sl ≤ c.sc ∧ c.sc ≤ maxLen := by
            rcases hrk.2 with ⟨hv, h0⟩ | ⟨g', cp, cur, hv, _, _, h1, h2, _⟩
            · simp only [Value.slice.injEq] at hv
              omega
            · simp only [Value.slice.injEq, true_and] at hv
              obtain ⟨h3, h5⟩ := hv
              omega
          rw [hsa] at hrk
          have p0 := World.ownsRow.cellAt hrk (k * 3 + 0) (by omega)
          have p1 := World.ownsRow.cellAt hrk (k * 3 + 1) (by omega)
          have p2 := World.ownsRow.cellAt hrk (k * 3 + 2) (by omega)
          rw [cellsC_at g.blk S.since k _ hks (by omega)] at p0 p1 p2
          rw [hsa]
          have hk1 : (0 : Int) ≤ (k : Int) := by omega
          have hk2 : (k : Int) < (c.sl : Int) := by omega
          obtain ⟨hKN, hK1, hK2, hKO⟩ := L2.ok hI hks
          have HKN : Hid (Nice (XK S k).files.length (XK S k).names) := hKN
          have HK1 : Hid ((XK S k).names.length ≤ 1000000) := hK1
          have HK2 : Hid ((XK S k).since.length ≤ 1000000) := hK2
          have HKO : Hid (OkC (XK S k).files.length (XK S k).names (S.since.getD k chg0)) := hKO
          have HSA : Hid (c.sa = some ⟨gr, 0, none⟩) := hsa
          clear hKN hK1 hK2 hKO hrk hsa
          have HKS : Hid (k < S.since.length) := hks
          clear hks
          obtain ⟨ch, HCH⟩ : ∃ ch, Hid (ch = S.since.getD k chg0) := ⟨_, rfl⟩
          rw [← HCH.out] at p0 p1 p2
          have HKO' : Hid (OkC (XK S k).files.length (XK S k).names ch) := by rw [HCH.out]; exact HKO.out
          by_cases h1 : ch.kind = 1
          · have ev : cellsC1 g.blk ch = [.string ByteArray.empty, .string (strOf ch.name), at_ (g.fl ch.file).blk] := by
              unfold cellsC1
              rw [if_pos h1]
              rfl
            have hlv : g.live ch.file := HF.out.liveS _ (by
              have hk' := HKS.out
              rw [HCH.out]
              simp [List.getD, hk']) h1
            have H1 : Hid (ch.kind = 1) := h1
            rw [ev] at p0 p1 p2
            simp at p0 p1 p2
            clear ev h1
            have HF2 : Hid (FileAt wr (g.fl ch.file) (S.fileOf ch.file)) := (HF.out.files ch.file hlv).kept (HR.out.below.block _ (tag_lt (HF.out.tagF hlv))) fun b e => HR.out.below.block b (tag_lt (HF.out.tagR hlv e))
            clear hlv
            go_wp2_with fail
            refine (copyF_new HF2.out (hI.lens _) _).mono ?_
            rintro e wB ⟨f', rfl, hfB, hb1, hb2, hbB⟩
            have HFB : Hid (FileAt wB f' (S.fileOf ch.file)) := hfB
            have HBX : Hid (Box wB wr.heap.size 74 #[.string ByteArray.empty, .string (strOf ch.name), at_ (g.fl ch.file).blk]) := Box.kept (Box.new wr _ _) (hbB.block _ (by simp))
            have d0 := HBX.out.cell 0
            have d1 := HBX.out.cell 1
            have d2 := HBX.out.cell 2
            have d3 := HBX.out.soft 2
            simp at d0 d1 d2
            have HA : Hid (FsU (wB.setCell ⟨wr.heap.size, 2, none⟩ (at_ f'.blk)) w.heap.size (XK S k) (gD.adopt ch.file f') c.u) := by
              have h1 := H1.out
              have h2 := HFB.out
              rw [HCH.out] at h1 h2 ⊢
              exact HR.out.adopted hI HKS.out h1 _ h2 hb1 hb2 hbB _
            have HBC : Hid (Below w.heap.size w (wB.setCell ⟨wr.heap.size, 2, none⟩ (at_ f'.blk)) ∧ wr.heap.size ≤ (wB.setCell ⟨wr.heap.size, 2, none⟩ (at_ f'.blk)).heap.size) := by
              have hbig := HR.out.big
              have hsB := hbB.size
              simp at hsB
              exact ⟨((HR.out.below.alloc (by omega) _).trans (hbB.mono (by simp; omega))).setCell (by show w.heap.size ≤ wr.heap.size; omega) _, by simp; omega⟩
            have HIN : Hid (∀ i, Inner (gD.adopt ch.file f') i → Inner gD i ∨ wr.heap.size ≤ i) := fun i hi => by
              rcases Inner.adopt hi with hi | hi | hi
              · exact .inl hi
              · simp at hb1
                exact .inr (by omega)
              · have := hb2 i hi
                simp at this
                exact .inr (by omega)
            have ev : cellsC1 (gD.adopt ch.file f').blk ch = [.string ByteArray.empty, .string (strOf ch.name), at_ f'.blk] := by
              unfold cellsC1
              rw [if_pos H1.out]
              show [_, _, at_ ((gD.adopt ch.file f').fl ch.file).blk] = _
              rw [Gh.adopt_same]
            have hrn := HA.out.rename HKN.out HK1.out HK2.out ch HKO'.out (fun _ => .inr rfl)
            rw [ev] at hrn
            clear hb1 hb2 hbB hfB ev
            go_wp2_with fail
            refine hrn.mono ?_
            rintro e w' ⟨rfl, g', hU, hfl, hlv', hin, hchg⟩
            go_wp2_with fail
            go_roundw
            case rel =>
              refine ⟨k + 1, g', by omega, by go_num, ?_⟩
              refine HR.out.step HKS.out (gD := gD.adopt ch.file f') (fun j hj => ?_) HIN.out HBC.out.1 HBC.out.2 (by rw [← HCH.out]; exact hU) hlv' hin hchg
              rw [← HCH.out]
              exact hj.imp id (fun e => ⟨H1.out, e⟩)
            case measure => simp [intOf]; omega
          · obtain ⟨s0, u0, ev⟩ : ∃ s0 u0, ∀ blk, cellsC1 blk ch = [.string s0, .string u0, .pointer none] := by
              by_cases h2 : ch.kind = 2
              · exact ⟨_, _, fun blk => by unfold cellsC1; rw [if_neg h1, if_pos h2]⟩
              · exact ⟨_, _, fun blk => by unfold cellsC1; rw [if_neg h1, if_neg h2]⟩
            have H1 : Hid (¬ ch.kind = 1) := h1
            rw [ev] at p0 p1 p2
            simp at p0 p1 p2
            clear h1
            have hrn := fun o => (HR.out.box o).rename HKN.out HK1.out HK2.out ch HKO'.out (fun e => absurd e H1.out)
            simp only [ev] at hrn
            have HBC : Hid (∀ o, Below w.heap.size w (wr.alloc o) ∧ wr.heap.size ≤ (wr.alloc o).heap.size) := by
              have hbig := HR.out.big
              exact fun o => ⟨HR.out.below.alloc (by omega) _, by simp⟩
            clear ev
            go_wp2_with fail
            refine (hrn _).mono ?_
            rintro e w' ⟨rfl, g', hU, hfl, hlv', hin, hchg⟩
            go_wp2_with fail
            go_roundw
            case rel =>
              refine ⟨k + 1, g', by omega, by go_num, ?_⟩
              exact HR.out.step HKS.out (gD := gD) (fun j hj => .inl hj) (fun i hi => .inl hi) (HBC.out _).1 (HBC.out _).2 (by rw [← HCH.out]; exact hU) hlv' hin hchg
            case measure => simp [intOf]; omega
        · have HE : Hid (k = S.since.length) := by
            unfold Hid
            have := HNl.out
            omega
          go_wp2
          go_returns
          have hR := HR.out
          have hX := XK_all hI k HE.out
          refine ⟨rfl, gD, ?_, hR.inner, hR.below⟩
          have hf := hR.fs
          rw [hX] at hf
          exact hf.done (by rw [HCc.out]; rfl)
    · intro x w2 cnt2 hx hlk hrg2 hlt hg2 hsz2 hen
      have HSZ : Hid (w2.heap.size = wr.heap.size) := hsz2
      have HG2 : Hid (wr.grownBy w2 (some (w.heap.size + 1))) := hg2
      have HRG : Hid (Rg w2 g.ml (w.heap.size + 1) g.blk S.lasts (fun z => left z && !z.sameKey (.string x.name)) cnt2) := hrg2
      clear hsz2 hg2 hrg2
      have hb2 := (HR.out.next HG2.out).2
      have hlv := HF.out.liveL x hx
      have hF2 : FileAt w2 (g.fl x.file) (S.fileOf x.file) := (HF.out.files x.file hlv).kept (hb2.block _ (tag_lt (HF.out.tagF hlv))) fun b e => hb2.block b (tag_lt (HF.out.tagR hlv e))
      have HF2 : Hid (FileAt w2 (g.fl x.file) (S.fileOf x.file)) := hF2
      have HLK : Hid (left (.string x.name) = true) := hlk
      clear hb2 hF2 hlk
      rw [show g.blk x.file = (g.fl x.file).blk from rfl] at hen ⊢
      go_wp2_with fail
      refine (copyF_any w2 (g.fl x.file) (S.fileOf x.file) HF2.out (hI.lens _)).mono ?_
      rintro e w3 ⟨rfl, hf3, hb3⟩
      obtain ⟨f3, hf3e⟩ : ∃ f3 : FG, f3 = ⟨w2.heap.size + 1, some ⟨w2.heap.size, 0, none⟩, (S.fileOf x.file).b.length⟩ := ⟨_, rfl⟩
      rw [← hf3e] at hf3
      have hfb : w2.heap.size ≤ f3.blk := by rw [hf3e]; exact Nat.le_succ _
      have hfr : ∀ b, f3.row = some b → w2.heap.size ≤ b := fun b e => by
        rw [hf3e] at e
        obtain rfl := Option.some.inj (show some w2.heap.size = some b from e)
        exact Nat.le_refl _
      have hfe : f3.blk = w2.heap.size + 1 := by rw [hf3e]
      have HA : Hid (FsU w3 w.heap.size (XD S D) (gC.adopt x.file f3) c.u) := HR.out.adopted hx HLK.out hI.lasts HG2.out hf3 hfb hfr hb3
      have hok := (HR.out.absent hx HLK.out hI.lasts).2
      have hDl : D.length ≤ 1000000 := by have := HR.out.len; omega
      have ev : cellsC1 (gC.adopt x.file f3).blk ⟨1, x.name, [], x.file⟩ = [.string ByteArray.empty, .string (strOf x.name), at_ (w2.heap.size + 1)] := by
        unfold cellsC1
        rw [if_pos rfl]
        show [_, _, at_ ((gC.adopt x.file f3).fl x.file).blk] = _
        rw [Gh.adopt_same, hfe]
      have hd1 := do_any w3 w.heap.size 8 64 ({ cellsOf (XD S D) (gC.adopt x.file f3) with u := c.u } : FsC).arr (gC.adopt x.file f3).ml (gC.adopt x.file f3).blk D ⟨1, x.name, [], x.file⟩ HA.out.fs rfl (fun m e => (HA.out.inner (.inr (.inl e))).2) HA.out.lm HR.out.nice hok hDl
      rw [ev] at hd1
      have HD1 : Hid (Calls Try.prog 43 #[.pointer (some ⟨w.heap.size, 8, none⟩), .agg #[.string ByteArray.empty, .string (strOf x.name), at_ (w2.heap.size + 1)]] w3 fun e w' => e = .returned (.tuple #[]) ∧ ∃ m, ((gC.adopt x.file f3).ml = some m ∨ ((gC.adopt x.file f3).ml = none ∧ w3.heap.size ≤ m)) ∧ NmAt w' (some m) (gC.adopt x.file f3).blk (changedN D ⟨1, x.name, [], x.file⟩) ∧ Box w' w.heap.size 64 ((({ cellsOf (XD S D) (gC.adopt x.file f3) with u := c.u } : FsC).arr).setIfInBounds 8 (.map (some m))) ∧ Chg (fun i => (gC.adopt x.file f3).ml = some i ∨ ((gC.adopt x.file f3).ml = none ∧ i = w.heap.size)) w3 w') := hd1
      have HEV : Hid (cellsC1 (gC.adopt x.file f3).blk ⟨1, x.name, [], x.file⟩ = [.string ByteArray.empty, .string (strOf x.name), at_ (w2.heap.size + 1)]) := ev
      clear hd1 hf3e hfe ev
      go_wp2_with fail
      refine HD1.out.mono ?_
      rintro e w4 ⟨rfl, m1, l1, n1, b1, ch1⟩
      have hn4 : NmAt w4 (gC.adopt x.file f3).mn (gC.adopt x.file f3).blk D := NmAt.kept HA.out.nm fun m e => ch1.block m (HA.out.inner (.inl e)).1 (by
        rintro (e' | ⟨_, e'⟩)
        · exact HA.out.at_.apart m e e'
        · exact (HA.out.inner (.inl e)).2 e')
      have hd2 := do_any w4 w.heap.size 7 64 ((({ cellsOf (XD S D) (gC.adopt x.file f3) with u := c.u } : FsC).arr).setIfInBounds 8 (.map (some m1))) (gC.adopt x.file f3).mn (gC.adopt x.file f3).blk D ⟨1, x.name, [], x.file⟩ b1 rfl (fun m e => (HA.out.inner (.inl e)).2) hn4 HR.out.nice hok hDl
      rw [HEV.out] at hd2
      go_wp2_with fail
      refine hd2.mono ?_
      rintro e w5 ⟨rfl, m2, l2, n2, b2, ch2⟩
      go_wp2_with fail
      go_roundw
      case rel => exact ⟨_, cnt2, withN D x, _, HR.out.step hx HLK.out hI.lasts HML.out HG2.out HRG.out hlt HSZ.out hf3 hfb hfr hb3 l1 n1 ch1 l2 n2 b2 ch2⟩
      case measure =>
        have := (HR.out.step hx HLK.out hI.lasts HML.out HG2.out HRG.out hlt HSZ.out hf3 hfb hfr hb3 l1 n1 ch1 l2 n2 b2 ch2).rg.left_eq
        rw [this, HR.out.rg.left_eq]
        exact hlt
end Go.Proofs.Ytkelahekfkhcfaa
