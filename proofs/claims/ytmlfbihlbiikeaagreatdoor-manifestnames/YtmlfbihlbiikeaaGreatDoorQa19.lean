/- A region that draws its order, whose first operations leave the world alone (loads, addresses, calls of fixed answers), and whose others wait for all of these: the first ones in their own order, then the others in whatever order. -/
import Derived.Deep.RegionHeld3
import Derived.Deep.QuietTactic
import Derived.BigQuiet
import Derived.Test.YtmlfbihlbiikeaaGreatDoorQa02
import Derived.Test.YtmlfbihlbiikeaaGreatDoorQa05
namespace Go.Proofs.YtmlfbihlbiikeaaGreatDoor
open Go
set_option linter.unusedVariables false
set_option linter.unusedSimpArgs false
def waitsB (md : Region.Mode) (l : List Oper) (j : Nat) : List Nat := match l[j]? with
  | none => []
  | some o => (o.after.toList.filter (fun e => Region.binds md e)).map (·.on)
def cloB (md : Region.Mode) (l : List Oper) : Nat → List Nat → List Nat
  | 0, acc => acc
  | k + 1, acc => cloB md l k (if acc.contains k then acc ++ waitsB md l k else acc)
def stagedB (md : Region.Mode) (n : Nat) (l : List Oper) : Bool :=
  (List.range l.length).all fun j => match l[j]? with
    | none => true
    | some o => if j < n then o.guard.isNone && o.after.toList.all (fun e => !Region.binds md e || decide (e.on < j))
      else (waitsB md l j).any (fun x => decide (n ≤ x)) || (List.range n).all (fun i => (cloB md l n (waitsB md l j)).contains i)
theorem staged_fst {md : Region.Mode} {n : Nat} {l : List Oper} (h : stagedB md n l = true) {j : Nat} {o : Oper} (ho : l[j]? = some o) (hj : j < n) : o.guard = none ∧ ∀ e ∈ o.after, Region.binds md e = true → e.on < j := by
  have hlt : j < l.length := (List.getElem?_eq_some_iff.1 ho).1
  have := List.all_eq_true.1 h j (List.mem_range.2 hlt)
  simp only [ho, if_pos hj, Bool.and_eq_true, Option.isNone_iff_eq_none] at this
  refine ⟨this.1, fun e he hb => ?_⟩
  have h2 := List.all_eq_true.1 this.2 e (by simpa using he)
  simp only [hb, Bool.not_true, Bool.false_or, decide_eq_true_eq] at h2
  exact h2
theorem staged_snd {md : Region.Mode} {n : Nat} {l : List Oper} (h : stagedB md n l = true) {j : Nat} {o : Oper} (ho : l[j]? = some o) (hj : n ≤ j) : (∃ x ∈ waitsB md l j, n ≤ x) ∨ ∀ i, i < n → i ∈ cloB md l n (waitsB md l j) := by
  have hlt : j < l.length := (List.getElem?_eq_some_iff.1 ho).1
  have := List.all_eq_true.1 h j (List.mem_range.2 hlt)
  simp only [ho, if_neg (Nat.not_lt.2 hj), Bool.or_eq_true] at this
  rcases this with h1 | h1
  · obtain ⟨x, hx, hn⟩ := List.any_eq_true.1 h1
    exact .inl ⟨x, hx, of_decide_eq_true hn⟩
  · exact .inr fun i hi => by simpa using List.all_eq_true.1 h1 i (List.mem_range.2 hi)
theorem clo_in {md : Region.Mode} {l : List Oper} {T : Nat → Prop} (hT : ∀ k, T k → ∀ x ∈ waitsB md l k, T x) : ∀ (k : Nat) (acc : List Nat), (∀ x ∈ acc, T x) → ∀ x ∈ cloB md l k acc, T x
  | 0, acc, h => h
  | k + 1, acc, h => by
    unfold cloB
    refine clo_in hT k _ (fun x hx => ?_)
    split at hx
    · rename_i hc
      rcases List.mem_append.1 hx with hx | hx
      · exact h x hx
      · exact hT k (h k (by simpa using hc)) x hx
    · exact h x hx
theorem mem_waits {md : Region.Mode} {l : List Oper} {j x : Nat} {o : Oper} (ho : l[j]? = some o) (hx : x ∈ waitsB md l j) : ∃ e ∈ o.after, Region.binds md e = true ∧ e.on = x := by
  unfold waitsB at hx
  rw [ho] at hx
  obtain ⟨e, he, hex⟩ := List.mem_map.1 hx
  obtain ⟨h1, h2⟩ := List.mem_filter.1 he
  exact ⟨e, by simpa using h1, h2, hex⟩
section
variable {P : Program} {Q : Exit → Act → World → Prop} {md : Region.Mode} {C : World → Prop}
theorem wpAny_more {ops : Array Oper} : ∀ (k : Nat) (listed : Array Bool) (a : Act) (w : World), wpAny P md ops Q k listed a w → wpAny P md ops Q (k + 1) listed a w
  | 0, listed, a, w, h => ⟨fun _ => h.2, fun i hi => by rw [h.1] at hi; cases hi⟩
  | k + 1, listed, a, w, h => ⟨h.1, fun i hi => wpOp_mono (fun a' w' h' => wpAny_more k _ a' w' h') (h.2 i hi)⟩
def padB (l : Array Bool) (m : Nat) : Array Bool := l ++ Array.replicate m false
theorem padB_lt {l : Array Bool} {m i : Nat} (h : i < l.size) (d : Bool) : (padB l m).getD i d = l.getD i d := by
  unfold padB
  simp [Array.getD, h]
  omega
theorem padB_set {l : Array Bool} {m i : Nat} (h : i < l.size) : (padB l m).setIfInBounds i true = padB (l.setIfInBounds i true) m := by
  unfold padB
  rw [Array.setIfInBounds_append_left h]
theorem getD_any {l : Array Bool} {i : Nat} (h : i < l.size) (d d' : Bool) : l.getD i d = l.getD i d' := by simp [Array.getD, h]
def downB (md : Region.Mode) (l : List Oper) (listed : Array Bool) : Prop := ∀ i o, l[i]? = some o → listed.getD i false = true → ∀ e ∈ o.after, Region.binds md e = true → listed.getD e.on false = true
theorem staged_go {l : List Oper} {n m : Nat} (hl : l.length = n + m) (hB : stagedB md n l = true) {Qp : Act → Prop} {k : Nat}
    (hend : ∀ a w, C w → Qp a → wpAny P md l.toArray Q k (padB (Array.replicate n true) m) a w) :
    ∀ (fuel : Nat) (listed : Array Bool) (a : Act) (w : World), listed.size = n → downB md l listed → C w → wpAnyQ P md (l.take n).toArray C Qp fuel listed a → wpAny P md l.toArray Q (fuel + k) (padB listed m) a w := by
  have hget : ∀ i, i < n → (l.take n).toArray[i]? = l.toArray[i]? := fun i hi => by
    rw [List.getElem?_toArray, List.getElem?_toArray, List.getElem?_take, if_pos hi]
  have hall : ∀ listed : Array Bool, listed.size = n → Region.ready md (l.take n).toArray listed = [] → listed = Array.replicate n true := fun listed hs hr => by
    have key : ∀ i, i < n → listed.getD i true = true := fun i => by
      induction i using Nat.strongRecOn with
      | _ i ih =>
        intro hi
        cases e : listed.getD i true with
        | true => rfl
        | false =>
          have ho : l[i]? = some (l[i]'(by omega)) := List.getElem?_eq_getElem (by omega)
          have : i ∈ Region.ready md (l.take n).toArray listed := by
            refine mem_ready.2 ⟨e, l[i]'(by omega), by rw [hget i hi, List.getElem?_toArray, ho], fun e he hb => ?_⟩
            have hlt := (staged_fst hB ho hi).2 e he hb
            rw [getD_any (by omega) false true]
            exact ih e.on hlt (by omega)
          rw [hr] at this
          cases this
    refine Array.ext (by simp [hs]) (fun i h1 h2 => ?_)
    have := key i (by omega)
    simp only [Array.getD, h1, dif_pos] at this
    simpa using this
  have hdone : ∀ (fuel : Nat) (a : Act) (w : World), C w → Qp a → wpAny P md l.toArray Q (fuel + k) (padB (Array.replicate n true) m) a w := fun fuel => by
    induction fuel with
    | zero =>
      intro a w hw hq
      rw [Nat.zero_add]
      exact hend a w hw hq
    | succ f ih =>
      intro a w hw hq
      rw [show f + 1 + k = (f + k) + 1 by omega]
      exact wpAny_more _ _ _ _ (ih a w hw hq)
  intro fuel
  induction fuel with
  | zero =>
    intro listed a w hs hdn hw h
    rw [hall listed hs h.1]
    exact hdone 0 a w hw h.2
  | succ f ih =>
    intro listed a w hs hdn hw h
    by_cases hr : Region.ready md (l.take n).toArray listed = []
    · rw [hall listed hs hr]
      exact hdone (f + 1) a w hw (h.1 hr)
    · have hex : ∃ i, i < n ∧ listed.getD i true = false := by
        obtain ⟨i, hi⟩ := List.exists_mem_of_ne_nil _ hr
        obtain ⟨h1, o, ho, _⟩ := mem_ready.1 hi
        refine ⟨i, ?_, h1⟩
        have := (Array.getElem?_eq_some_iff.1 ho).1
        simp at this
        omega
      have hsub : ∀ i, i ∈ Region.ready md l.toArray (padB listed m) → i < n ∧ i ∈ Region.ready md (l.take n).toArray listed := fun i hi => by
        obtain ⟨h1, o, ho, h2⟩ := mem_ready.1 hi
        rw [List.getElem?_toArray] at ho
        have hin : i < n := by
          by_cases hin : i < n
          · exact hin
          · obtain ⟨x, hx, hxf⟩ := hex
            have hbig : ∀ y, (padB listed m).getD y false = true → y < n := fun y hy => by
              by_cases hyn : y < n
              · exact hyn
              · exfalso
                unfold padB at hy
                simp only [Array.getD] at hy
                split at hy
                · rename_i h3
                  rw [Array.getInternal_eq_getElem, Array.getElem_append_right (by omega)] at hy
                  simp at hy
                · cases hy
            have hw0 : ∀ y ∈ waitsB md l i, (padB listed m).getD y false = true := fun y hy => by
              obtain ⟨e, he, hb, rfl⟩ := mem_waits ho hy
              exact h2 e he hb
            have hclo : ∀ i', i' < n → i' ∈ cloB md l n (waitsB md l i) := by
              rcases staged_snd hB ho (by omega) with ⟨y, hy, hny⟩ | h4
              · exact absurd (hbig y (hw0 y hy)) (by omega)
              · exact h4
            have hT : ∀ y ∈ cloB md l n (waitsB md l i), (padB listed m).getD y false = true := by
              refine clo_in (T := fun y => (padB listed m).getD y false = true) (fun y hy z hz => ?_) n _ (fun y hy => ?_)
              · have hyn : y < n := hbig y hy
                cases hy2 : l[y]? with
                | none =>
                  unfold waitsB at hz
                  rw [hy2] at hz
                  cases hz
                | some oy =>
                  obtain ⟨e, he, hb, rfl⟩ := mem_waits hy2 hz
                  rw [padB_lt (by omega)] at hy
                  have hlt := (staged_fst hB hy2 hyn).2 e he hb
                  rw [padB_lt (by omega)]
                  exact hdn y oy hy2 hy e he hb
              · exact hw0 y hy
            have := hT x (hclo x hx)
            rw [padB_lt (by omega), getD_any (by omega) false true, hxf] at this
            cases this
        refine ⟨hin, mem_ready.2 ⟨by rw [← padB_lt (m := m) (by omega)]; exact h1, o, by rw [hget i hin, List.getElem?_toArray]; exact ho, fun e he hb => ?_⟩⟩
        have h3 := h2 e he hb
        have hlt := (staged_fst hB ho hin).2 e he hb
        rw [padB_lt (by omega)] at h3
        exact h3
      rw [show f + 1 + k = (f + k) + 1 by omega]
      refine ⟨fun h0 => ?_, fun i hi => ?_⟩
      · exfalso
        obtain ⟨i, hi⟩ := List.exists_mem_of_ne_nil _ hr
        obtain ⟨h1, o, ho, h2⟩ := mem_ready.1 hi
        have hin : i < n := by
          have := (Array.getElem?_eq_some_iff.1 ho).1
          simp at this
          omega
        rw [hget i hin] at ho
        have : i ∈ Region.ready md l.toArray (padB listed m) := by
          refine mem_ready.2 ⟨by rw [padB_lt (by omega)]; exact h1, o, ho, fun e he hb => ?_⟩
          rw [List.getElem?_toArray] at ho
          have hlt := (staged_fst hB ho hin).2 e he hb
          rw [padB_lt (by omega)]
          exact h2 e he hb
        rw [h0] at this
        cases this
      · obtain ⟨hin, hi'⟩ := hsub i hi
        have hq := h.2 i hi'
        have ho : l[i]? = some (l[i]'(by omega)) := List.getElem?_eq_getElem (by omega)
        have hg := (staged_fst hB ho hin).1
        have hq2 : qOp P l.toArray C i (wpAnyQ P md (l.take n).toArray C Qp f (listed.setIfInBounds i true)) a := by
          unfold qOp at hq ⊢
          rw [hget i hin] at hq
          rw [List.getElem?_toArray, ho] at hq ⊢
          simp only at hq ⊢
          have hw : ∀ y, Region.wanted (l[i]'(by omega)) y = true := fun y => by simp [Region.wanted, hg]
          rw [if_pos (hw _)] at hq ⊢
          exact hq
        refine wpOp_of_qOp hw (fun a' w' hw' hk => ?_) hq2
        rw [padB_set (by omega)]
        refine ih _ a' w' (by simp [hs]) (fun y oy hy1 hy2 e he hb => ?_) hw' hk
        by_cases hyi : i = y
        · subst hyi
          obtain ⟨_, o2, ho2, h2⟩ := mem_ready.1 hi'
          rw [hget i hin, List.getElem?_toArray, hy1] at ho2
          obtain rfl := Option.some.inj ho2
          have h3 := h2 e he hb
          have hlt := (staged_fst hB hy1 hin).2 e he hb
          rw [getD_set_ne false (by omega)]
          exact h3
        · rw [getD_set_ne false hyi] at hy2
          have h3 := hdn y oy hy1 hy2 e he hb
          by_cases hei : i = e.on
          · rw [← hei]
            simp [Array.getD, hs, hin]
          · rw [getD_set_ne false hei]
            exact h3
theorem wp_region_staged {id : Nat} {a : Act} {w : World} {l : List Oper} (n m : Nat) (hl : l.length = n + m) (hm : P.follows .mixedOrders = true) (hx : Region.lexB .any (l.take n).toArray = true) (hB : stagedB .any n l = true) (hC : C w.drew)
    (h : wpQuiet P (l.take n).toArray C (fun a' => ∀ w', C w' → wpAnyH P .any l.toArray Q (fun _ => True) m (padB (Array.replicate n true) m) a' w') (l.take n) a) : (Code.region id l.toArray true).wp P Q a w := by
  refine wp_region_any hm ?_
  simp only [Region.lexB, Bool.and_eq_true] at hx
  have hq := wpAnyQ_lex (C := C) (md := .any) hx.1 (l.take n) 0 (Array.replicate n false) a (by simp) (by simpa [List.length_take, hl, show min n (n + m) = n by omega] using hx.2) h
  rw [List.length_take, hl, show min n (n + m) = n by omega] at hq
  have hgo := staged_go (P := P) (Q := Q) (md := .any) (C := C) hl hB (k := m) (fun a' w' hw' hq' => wpAny_of_held _ _ _ _ (hq' w' hw')) n (Array.replicate n false) a w.drew (by simp) (fun i o _ h => by simp only [Array.getD, Array.size_replicate] at h; split at h <;> simp at h) hC hq
  have e : padB (Array.replicate n false) m = Array.replicate l.toArray.size false := by
    unfold padB
    rw [List.size_toArray, hl, Array.replicate_append_replicate]
  rw [e] at hgo
  rw [List.size_toArray, hl] at hgo ⊢
  exact hgo
end
end Go.Proofs.YtmlfbihlbiikeaaGreatDoor
namespace Go.Proofs.YtmlfbihlbiikeaaGreatDoor
end Go.Proofs.YtmlfbihlbiikeaaGreatDoor
namespace Go.Proofs.YtmlfbihlbiikeaaGreatDoor
end Go.Proofs.YtmlfbihlbiikeaaGreatDoor
namespace Go.Proofs.YtmlfbihlbiikeaaGreatDoor
set_option linter.unusedVariables false
set_option linter.unusedSimpArgs false
structure Kn where
  quota : Nat
  fused : Bool
  fuse : Int
  fails : Bool
  fail : Int
  asked : Nat
structure Cr where
  files : List PFile
  names : List PName
  lasts : List PName
  since : List PChange
def pf (c : Cr) (k : Kn) : PFs := ⟨c.files, c.names, c.lasts, c.since, k.quota, k.fused, k.fuse, k.fails, k.fail, k.asked⟩
def Kn.quiet (k : Kn) : Prop := k.fused = false ∧ k.fails = false
def Kn.ask (k : Kn) : Kn × Nat :=
  if (k.fused && (k.fuse == 0)) = true then ({ k with asked := k.asked + 1 }, 44)
  else if k.fails = true then
    (if k.fail = 0 then ({ k with asked := k.asked + 1, fuse := if k.fused then k.fuse - 1 else k.fuse, fails := false }, 45)
     else ({ k with asked := k.asked + 1, fuse := if k.fused then k.fuse - 1 else k.fuse, fail := k.fail - 1 }, 0))
  else ({ k with asked := k.asked + 1, fuse := if k.fused then k.fuse - 1 else k.fuse }, 0)
theorem pf_ask (c : Cr) (k : Kn) : (pf c k).ask = (pf c k.ask.1, k.ask.2) := by
  unfold PFs.ask Kn.ask PFs.off pf
  split <;> (try split) <;> (try split) <;> simp_all
theorem Kn.ask_quiet {k : Kn} (h : k.quiet) : k.ask.2 = 0 ∧ k.ask.1.quiet := by
  obtain ⟨h1, h2⟩ := h
  unfold Kn.ask Kn.quiet
  rw [h1, h2]
  simp
theorem Kn.ask_asked (k : Kn) : k.ask.1.asked = k.asked + 1 ∧ k.ask.1.quota = k.quota := by
  unfold Kn.ask
  split <;> (try split) <;> (try split) <;> simp_all
abbrev FStep := PFs → PFs × Nat
def removedF (name : List UInt8) : FStep := fun S => if (S.read name).2 = 0 then S.remove name else if (S.read name).2 = 42 then (S, 0) else (S, (S.read name).2)
def runF : List FStep → PFs → PFs × Nat
  | [], S => (S, 0)
  | f :: r, S => if (f S).2 = 0 then runF r (f S).1 else f S
def Moves (q : Nat) (f : FStep) (c d : Cr) : Prop :=
  ∀ k : Kn, k.quota = q → ∃ k', k'.quota = q ∧ k'.asked ≤ k.asked + 1 ∧ ((f (pf c k) = (pf d k', 0) ∧ (k.quiet → k'.quiet)) ∨ (¬ k.quiet ∧ ∃ e, e ≠ 0 ∧ e < 100 ∧ f (pf c k) = (pf c k', e)))
theorem Moves.of {q : Nat} {f : FStep} {c d : Cr} (h : ∀ k : Kn, k.quota = q → f (pf c k) = if k.ask.2 ≠ 0 then (pf c k.ask.1, k.ask.2) else (pf d k.ask.1, 0)) (he : ∀ k : Kn, k.ask.2 < 100) : Moves q f c d := fun k hq => by
  obtain ⟨a1, a2⟩ := k.ask_asked
  refine ⟨k.ask.1, by rw [a2, hq], by omega, ?_⟩
  by_cases h0 : k.ask.2 = 0
  · left
    rw [h k hq, if_neg (by omega)]
    exact ⟨rfl, fun hk => (Kn.ask_quiet hk).2⟩
  · right
    refine ⟨fun hk => h0 (Kn.ask_quiet hk).1, k.ask.2, h0, he k, ?_⟩
    rw [h k hq, if_pos h0]
theorem Kn.ask_small (k : Kn) : k.ask.2 < 100 := by
  unfold Kn.ask
  split <;> (try split) <;> (try split) <;> simp
def Cr.change (c : Cr) (ch : PChange) : Cr := ⟨c.files, changedN c.names ch, c.lasts, c.since ++ [ch]⟩
def Cr.create (c : Cr) (name : List UInt8) : Cr := (⟨c.files ++ [file0], c.names, c.lasts, c.since⟩ : Cr).change ⟨1, name, [], c.files.length⟩
def Cr.put (c : Cr) (i : Nat) (f : PFile) : Cr := { c with files := c.files.set i f }
def Cr.bulk (c : Cr) (l : List PName) : Nat := match l with
  | [] => 0
  | n :: r => (c.files.getD n.file file0).b.length + c.bulk r
theorem bulk_pf (c : Cr) (k : Kn) : ∀ l, (pf c k).bulk l = c.bulk l
  | [] => rfl
  | n :: r => by
    show ((pf c k).fileOf n.file).b.length + (pf c k).bulk r = _
    rw [bulk_pf c k r]
    rfl
theorem create_moves (q : Nat) {c : Cr} {name : List UInt8} (hg : goodN name = true) (hn : findN c.names name = none) : Moves q (fun S => S.create name) c (c.create name) :=
  Moves.of (fun k hq => by
    show PFs.create (pf c k) name = _
    unfold PFs.create
    rw [pf_ask]
    by_cases h0 : k.ask.2 = 0
    · rw [if_neg (by simp [h0]), if_neg (by rw [hg]; decide), if_neg (by rw [show (pf c k).names = c.names from rfl, hn]; decide), if_neg (by simp [h0])]
      rfl
    · rw [if_pos h0, if_pos h0]) Kn.ask_small
theorem append_moves {q : Nat} {c : Cr} {name : List UInt8} (b : List UInt8) {i : Nat} (hn : findN c.names name = some i) (hb : b.length + c.bulk c.names ≤ q) :
    Moves q (fun S => S.append name b) c (c.put i ⟨(c.files.getD i file0).b ++ b, (c.files.getD i file0).last⟩) :=
  Moves.of (fun k hq => by
    show PFs.append (pf c k) name b = _
    unfold PFs.append
    rw [pf_ask, bulk_pf, show (pf c k).names = c.names from rfl, hn]
    by_cases h0 : k.ask.2 = 0
    · rw [if_neg (by simp [h0]), if_neg (by simp [h0])]
      show (if (pf c k).quota < b.length + c.bulk c.names then _ else _) = _
      rw [if_neg (by rw [show (pf c k).quota = k.quota from rfl, hq]; omega)]
      rfl
    · rw [if_pos h0, if_pos h0]) Kn.ask_small
theorem sync_moves (q : Nat) {c : Cr} {name : List UInt8} {i : Nat} (hn : findN c.names name = some i) :
    Moves q (fun S => S.sync name) c (c.put i ⟨(c.files.getD i file0).b, (c.files.getD i file0).b.length⟩) :=
  Moves.of (fun k hq => by
    show PFs.sync (pf c k) name = _
    unfold PFs.sync
    rw [pf_ask, show (pf c k).names = c.names from rfl, hn]
    by_cases h0 : k.ask.2 = 0
    · rw [if_neg (by simp [h0]), if_neg (by simp [h0])]
      rfl
    · rw [if_pos h0, if_pos h0]) Kn.ask_small
theorem rename_moves (q : Nat) {c : Cr} {a b : List UInt8} {i : Nat} (hn : findN c.names a = some i) (hb : goodN b = true) :
    Moves q (fun S => S.rename a b) c (c.change ⟨2, a, b, i⟩) :=
  Moves.of (fun k hq => by
    show PFs.rename (pf c k) a b = _
    unfold PFs.rename
    rw [pf_ask, show (pf c k).names = c.names from rfl, hn]
    by_cases h0 : k.ask.2 = 0
    · rw [if_neg (by simp [h0]), if_neg (by simp [h0])]
      show (if goodN b = false then _ else _) = _
      rw [if_neg (by rw [hb]; decide)]
      rfl
    · rw [if_pos h0, if_pos h0]) Kn.ask_small
theorem syncDir_moves (q : Nat) (c : Cr) : Moves q (fun S => S.syncDir) c ⟨c.files, c.names, c.names, []⟩ :=
  Moves.of (fun k hq => by
    show PFs.syncDir (pf c k) = _
    unfold PFs.syncDir
    rw [pf_ask]
    by_cases h0 : k.ask.2 = 0
    · rw [if_neg (by simp [h0]), if_neg (by simp [h0])]
      rfl
    · rw [if_pos h0, if_pos h0]) Kn.ask_small
theorem off_quiet {c : Cr} {k : Kn} (h : k.quiet) : (pf c k).off = false := by
  unfold PFs.off
  rw [show (pf c k).fused = k.fused from rfl, h.1]
  rfl
theorem removed_moves (q : Nat) {c : Cr} {name : List UInt8} (hn : findN c.names name = none) : Moves q (removedF name) c c := fun k hq => by
  refine ⟨k, hq, by omega, ?_⟩
  unfold removedF PFs.read
  rw [show (pf c k).names = c.names from rfl, hn]
  by_cases h0 : (pf c k).off = true
  · right
    refine ⟨fun hk => absurd h0 (by rw [off_quiet hk]; decide), 44, by decide, by decide, ?_⟩
    rw [if_pos h0]
    rfl
  · left
    rw [if_neg h0]
    exact ⟨rfl, id⟩
def Ch (q : Nat) : Cr → List (FStep × Cr) → Prop
  | _, [] => True
  | c, (f, d) :: r => Moves q f c d ∧ Ch q d r
theorem Ch.run {q : Nat} : ∀ (l : List (FStep × Cr)) (c : Cr), Ch q c l → ∀ k : Kn, k.quota = q → ∃ j e k', j ≤ l.length ∧ e < 100 ∧ (e = 0 ↔ j = l.length) ∧ (k.quiet → e = 0 ∧ k'.quiet) ∧ k'.quota = q ∧ k'.asked ≤ k.asked + l.length ∧ runF (l.map (·.1)) (pf c k) = (pf ((c :: l.map (·.2)).getD j c) k', e)
  | [], c, _, k, hq => ⟨0, 0, k, Nat.le_refl _, by decide, by simp, fun h => ⟨rfl, h⟩, hq, by simp, rfl⟩
  | (f, d) :: r, c, h, k, hq => by
    obtain ⟨h1, h2⟩ := h
    obtain ⟨k1, hq1, ha1, hm⟩ := h1 k hq
    rcases hm with ⟨hm, hk1⟩ | ⟨hk, e, he, he2, hm⟩
    · obtain ⟨j, e, k', hj, he1, he, hk', hq', ha', hr⟩ := Ch.run r d h2 k1 hq1
      refine ⟨j + 1, e, k', by rw [List.length_cons]; omega, he1, by rw [he, List.length_cons]; omega, fun h => hk' (hk1 h), hq', by rw [List.length_cons]; omega, ?_⟩
      show (if (f (pf c k)).2 = 0 then runF (r.map (·.1)) (f (pf c k)).1 else f (pf c k)) = _
      rw [hm, if_pos rfl]
      show runF (r.map (·.1)) (pf d k1) = _
      rw [hr]
      have e1 : ((d :: r.map (·.2)).getD j d) = ((c :: ((f, d) :: r).map (·.2)).getD (j + 1) c) := by
        show _ = ((d :: r.map (·.2)).getD j c)
        rw [List.getD_eq_getElem?_getD, List.getD_eq_getElem?_getD, List.getElem?_eq_getElem (by rw [List.length_cons, List.length_map]; omega)]
        rfl
      rw [e1]
    · refine ⟨0, e, k1, Nat.zero_le _, he2, by rw [List.length_cons]; omega, fun h => absurd h hk, hq1, by rw [List.length_cons]; omega, ?_⟩
      show (if (f (pf c k)).2 = 0 then runF (r.map (·.1)) (f (pf c k)).1 else f (pf c k)) = _
      rw [hm, if_neg he]
      rfl
theorem read_pf {c : Cr} {k : Kn} (hk : k.quiet) (name : List UInt8) : (pf c k).read name = match findN c.names name with
    | none => ([], 42)
    | some i => ((c.files.getD i file0).b, 0) := by
  unfold PFs.read
  rw [off_quiet hk, if_neg (by decide)]
  rfl
end Go.Proofs.YtmlfbihlbiikeaaGreatDoor
namespace Go.Proofs.YtmlfbihlbiikeaaGreatDoor
set_option maxRecDepth 100000
open Go.RowKit
set_option linter.unusedVariables false
set_option linter.unusedSimpArgs false
theorem strOf_data (l : List UInt8) : (strOf l).data.toList = l := rfl
theorem Kp.refl (R : Nat → Prop) (w : World) : Kp R w w := ⟨rfl, rfl, rfl, Nat.le_refl _, fun _ _ _ => rfl⟩
theorem Kp.trans {R : Nat → Prop} {a b c : World} (h : Kp R a b) (k : Kp R b c) : Kp R a c := ⟨k.os.trans h.os, k.tape.trans h.tape, k.output.trans h.output, Nat.le_trans h.size k.size, fun i hi hlt => (k.block i hi (Nat.lt_of_lt_of_le hlt h.size)).trans (h.block i hi hlt)⟩
theorem Kp.less {R R' : Nat → Prop} {a b : World} (h : Kp R a b) (hR : ∀ k, R' k → R k) : Kp R' a b := ⟨h.os, h.tape, h.output, h.size, fun i hi hlt => h.block i (hR i hi) hlt⟩
theorem Kp.of {R : Nat → Prop} {a b : World} (h : Below a.heap.size a b) : Kp R a b := ⟨h.os, h.tape, h.output, h.size, fun i _ hlt => h.block i hlt⟩
structure Held (C : Nat → Prop) (W0 : World) (R : Nat → Prop) (w : World) : Prop where
  mine : ∀ k, C k → R k
  old : ∀ k, C k → k < W0.heap.size
  size : W0.heap.size ≤ w.heap.size
  same : ∀ k, C k → w.heap[k]? = W0.heap[k]?
theorem Held.kp {C : Nat → Prop} {W0 : World} {R : Nat → Prop} {w w' : World} (h : Held C W0 R w) (k : Kp R w w') : Held C W0 R w' := ⟨h.mine, h.old, Nat.le_trans h.size k.size, fun i hi => (k.block i (h.mine i hi) (Nat.lt_of_lt_of_le (h.old i hi) h.size)).trans (h.same i hi)⟩
theorem Held.box {C : Nat → Prop} {W0 : World} {R : Nat → Prop} {w : World} {p : Nat} {t : TypeId} {arr : Array Value} (h : Held C W0 R w) (hp : C p) (hb : Box W0 p t arr) : Box w p t arr := hb.kept (h.same p hp)
def Does (J : Face) (i p : Nat) (C : Nat → Prop) (W0 : World) (v : Value) (f : FStep) : Prop :=
  ∃ (K : Nat) (pre cap : Array Value), v = .func (.func K) pre cap ∧ (∀ W, (callFunc K (pre ++ cap)).run Tryz.prog W = .ok (.enter K (pre ++ cap)) W) ∧
    ∀ {w : World} {R : Nat → Prop} {l r : Fss} {S : PFs}, Held C W0 R w → J w R l r → l[i]? = some (p, S) → S.asked < 1000000 →
      Calls Tryz.prog K (pre ++ cap) w fun e w' => e = .returned (.int .i64 ((f S).2 : Nat)) ∧ J w' R (l.set i (p, (f S).1)) r ∧ Kp R w w'
def DoneR (J : Face) (i p : Nat) (R : Nat → Prop) (l r : Fss) (w : World) (o : PFs × Nat) (e : Ending) (w' : World) : Prop :=
  e = .returned (.int .i64 (o.2 : Nat)) ∧ J w' R (l.set i (p, o.1)) r ∧ Kp R w w'
theorem idxSt (b : Nat) {j n c : Nat} (hj : j < n) (W : World) : (Instr.indexAt 122 (.slice (some ⟨b, 0, none⟩) n c) (.int .i64 (j : Int))).run Tryz.prog W = .ok (.pointer (some ⟨b, j, none⟩)) W := by
  have h1 : (0 : Int) ≤ (j : Int) ∧ (j : Int) < (n : Int) := by omega
  have hsz : (sizeOf (Tryz.prog.elem 122)).run Tryz.prog W = .ok 1 W := by kernel_rfl
  rw [run_indexAt_slice (P := Tryz.prog) (h := (by kernel_rfl : Tryz.prog.underlying 122 = some (.slice (Tryz.prog.elem 122)))), if_pos (by exact h1), hsz]
  simp [Result.andThen, Addr.add_lit]
theorem set_set_at {l : Fss} {i : Nat} (x y : Nat × PFs) : (l.set i x).set i y = l.set i y := by simp
theorem get_set_at {l : Fss} {i : Nat} {x z : Nat × PFs} (h : l[i]? = some z) : (l.set i x)[i]? = some x := by
  have := (List.getElem?_eq_some_iff.1 h).1
  simp [this]
theorem set_self_at {l : Fss} {i : Nat} {z : Nat × PFs} (h : l[i]? = some z) : l.set i z = l := by
  obtain ⟨h1, h2⟩ := List.getElem?_eq_some_iff.1 h
  subst h2
  simp
theorem runF_drop {fs : List FStep} {j : Nat} (hj : j < fs.length) (S : PFs) : runF (fs.drop j) S = if (fs[j] S).2 = 0 then runF (fs.drop (j + 1)) (fs[j] S).1 else fs[j] S := by
  rw [List.drop_eq_getElem_cons hj]
  rfl
set_option maxHeartbeats 2000000 in
theorem done_any {J : Face} (i p : Nat) (C : Nat → Prop) (W0 : World) (fs : List FStep) (vs : List Value) (b n c : Nat) (hn : fs.length = n) (hn1 : n ≤ 100) (hCb : C b) (hcell : ∀ j, j < n → W0.cell? ⟨b, j, none⟩ = vs[j]?)
    (hd : ∀ j (h : j < n) (h' : j < fs.length), ∃ v, vs[j]? = some v ∧ Does J i p C W0 v fs[j]) (ha : ∀ f ∈ fs, ∀ S, (f S).1.asked ≤ S.asked + 1)
    {w : World} {R : Nat → Prop} {l r : Fss} {S : PFs} (hH : Held C W0 R w) (hJ : J w R l r) (hl : l[i]? = some (p, S)) (hS : S.asked < 900000) :
    Calls Tryz.prog 57 #[.slice (some ⟨b, 0, none⟩) n c] w (DoneR J i p R l r w (runF fs S)) := by
  have HD : Hid (∀ j (h : j < n) (h' : j < fs.length), ∃ v, vs[j]? = some v ∧ Does J i p C W0 v fs[j]) := hd
  have HA : Hid (∀ f ∈ fs, ∀ S, (f S).1.asked ≤ S.asked + 1) := ha
  have HC : Hid (C b ∧ (∀ j, j < n → W0.cell? ⟨b, j, none⟩ = vs[j]?) ∧ fs.length = n ∧ l[i]? = some (p, S)) := ⟨hCb, hcell, hn, hl⟩
  have HW : Hid (Held C W0 R w ∧ J w R l r) := ⟨hH, hJ⟩
  clear hd ha hcell hCb hH hJ hl hn
  go_enter Tryz.func57, Tryz.ntmps57
  go_wp2_with fail
  go_step3
  go_wp2_with fail
  go_step3
  go_wp2_with fail
  go_loopw [2, 7] (fun x2 x7 wr => ∃ (j : Nat) (T : PFs), j ≤ n ∧ x7 = .int .i64 (j : Int) ∧ x2 = .int .i64 0 ∧ Hid (Held C W0 R wr ∧ J wr R (l.set i (p, T)) r ∧ Kp R w wr ∧ runF fs S = runF (fs.drop j) T ∧ T.asked ≤ S.asked + j)) (fun _ x7 _ => n - (intOf x7).toNat)
  case atStart => exact ⟨0, S, Nat.zero_le _, rfl, rfl, HW.out.1, by rw [set_self_at HC.out.2.2.2]; exact HW.out.2, Kp.refl _ _, rfl, Nat.le_refl _⟩
  case round =>
    obtain ⟨j, T, hj, rfl, rfl, HI⟩ := hrel
    by_cases hjn : j < n
    · have hjf : j < fs.length := by rw [HC.out.2.2.1]; exact hjn
      obtain ⟨v, hv, K, pre, cap, rfl, hcf, hdo⟩ := HD.out j hjn hjf
      have hix := fun W => idxSt b (c := c) hjn W
      have c0 : wr.cell? ⟨b, j, none⟩ = some (.func (.func K) pre cap) := by
        rw [← hv, ← HC.out.2.1 j hjn]
        simp only [World.cell?]
        rw [HI.out.1.same b HC.out.1]
      have HST := runF_drop hjf T
      have hTa : T.asked < 1000000 := by have := HI.out.2.2.2.2; omega
      have HDO := hdo HI.out.1 HI.out.2.1 (get_set_at HC.out.2.2.2) hTa
      have HAS := HA.out _ (List.getElem_mem hjf) T
      generalize fs[j] T = o at HST HDO HAS
      have HX : Hid (runF (fs.drop j) T = if o.2 = 0 then runF (fs.drop (j + 1)) o.1 else o) := HST
      have HAS' : Hid (o.1.asked ≤ T.asked + 1) := HAS
      clear hv hdo HST HAS
      go_wp2_with fail
      refine HDO.mono ?_
      rintro _ w2 ⟨rfl, hJ2, hk2⟩
      obtain ⟨T1, er⟩ := o
      have H2 : Hid (Held C W0 R w2 ∧ J w2 R (l.set i (p, T1)) r ∧ Kp R w w2) := ⟨HI.out.1.kp hk2, by rw [set_set_at] at hJ2; exact hJ2, HI.out.2.2.1.trans hk2⟩
      clear hJ2 hk2 HDO c0 hix hcf
      dsimp only
      by_cases h0 : er = 0
      · subst h0
        have HN : Hid (runF fs S = runF (fs.drop (j + 1)) T1) := by
          unfold Hid
          rw [HI.out.2.2.2.1, HX.out]
          rfl
        go_wp2
        go_roundw
        case rel => exact ⟨j + 1, T1, hjn, by go_num, rfl, H2.out.1, H2.out.2.1, H2.out.2.2, HN.out, by have h1 := HAS'.out; have h2 := HI.out.2.2.2.2; dsimp only at h1; omega⟩
        case measure => simp only [intOf]; omega
      · have hb : ((er : Int) != 0) = true := by simp; omega
        have HN : Hid (runF fs S = (T1, er)) := by
          unfold Hid
          rw [HI.out.2.2.2.1, HX.out, if_neg h0]
        go_wp2_with fail
        try rw [Exit.noGoto_ret]
        go_ret
        rw [HN.out]
        exact ⟨rfl, H2.out.2.1, H2.out.2.2⟩
    · obtain rfl : j = n := by omega
      have HN : Hid (runF fs S = (T, 0)) := by
        unfold Hid
        rw [HI.out.2.2.2.1, List.drop_eq_nil_of_le (by rw [HC.out.2.2.1]; exact Nat.le_refl _)]
        rfl
      go_wp2_with fail
      try rw [Exit.noGoto_ret]
      go_ret
      rw [HN.out]
      exact ⟨rfl, HI.out.2.1, HI.out.2.2.1⟩
end Go.Proofs.YtmlfbihlbiikeaaGreatDoor
