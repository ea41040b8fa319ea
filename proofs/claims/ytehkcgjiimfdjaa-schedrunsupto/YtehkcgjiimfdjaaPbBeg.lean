/- sched's board and the document's own world go alike, plainly. -/
import Derived.Test.YtehkcgjiimfdjaaR5End
import Derived.Test.YtehkcgjiimfdjaaLkPlain
import Derived.Test.YtehkcgjiimfdjaaR5One
import Derived.Test.YtehkcgjiimfdjaaSMem
import Derived.Test.YtehkcgjiimfdjaaBegPlain
import Derived.Test.YtehkcgjiimfdjaaAwake5
import Derived.Deep.AppendLies
namespace Go.Proofs.Ytehkcgjiimfdjaa
open Go.RowKit
def encO : Option Nat → Int
  | none => -1
  | some k => (k : Int)
/-- A task, told by both, ahead of ends. -/
structure SimT (t : PTask) (x : RT) : Prop where
  r : x.r = t.r
  go : t.ph = 0 → x.pl = t.place ∧ x.en = false ∧ x.bd = false ∧ x.cd = -1 ∧ x.wt = -1
  waits : t.ph = 1 → x.pl = t.place ∧ x.en = false ∧ x.bd = false ∧ x.cd = t.ins.a ∧ x.wt = t.ins.b
  told : t.ph = 2 → x.pl = t.place ∧ x.en = false ∧ x.bd = false ∧ x.cd = -1 ∧ x.wt = t.ins.b
  ended : t.ph = 3 → (x.en = true ∨ t.code.length ≤ x.pl) ∧ x.bd = false ∧ x.cd = -1
  bad : t.ph = 4 → x.bd = true ∧ x.cd = -1
structure Sim (code : List (List Ins)) (B : PB) (G : RW) : Prop where
  cells : G.cells = B.cells
  has : G.has = B.own.map encO
  em : G.em = B.em
  len : G.ts.length = B.ts.length
  cl : code.length = B.ts.length
  code : ∀ i, i < B.ts.length → (B.t i).code = code.getD i []
  ts : ∀ i, i < B.ts.length → SimT (B.t i) (G.t i)
/-- Behind ends: who is behind its last instruction has ended. -/
def Ends (B : PB) (G : RW) : Prop := ∀ i, i < B.ts.length → (B.t i).ph = 3 → (G.t i).en = true
theorem Sim.setT {code : List (List Ins)} {B : PB} {G : RW} (h : Sim code B G) {i : Nat} (hi : i < B.ts.length) {t : PTask} {x : RT} (hc : t.code = (B.t i).code) (hs : SimT t x) : Sim code (B.setT i t) (G.setT i x) := by
  have hl : (B.setT i t).ts.length = B.ts.length := by simp [PB.setT]
  have hB : ∀ k, (B.setT i t).t k = if k = i then t else B.t k := fun k => by
    unfold PB.t PB.setT
    by_cases e : k = i
    · subst e
      rw [if_pos rfl]
      simp [List.getD, hi]
    · rw [if_neg e]
      simp [List.getD, List.getElem?_set_ne (Ne.symm e)]
  have hG : ∀ k, (G.setT i x).t k = if k = i then x else G.t k := fun k => by
    unfold RW.t RW.setT
    by_cases e : k = i
    · subst e
      rw [if_pos rfl]
      simp [List.getD, h.len, hi]
    · rw [if_neg e]
      simp [List.getD, List.getElem?_set_ne (Ne.symm e)]
  refine ⟨h.cells, h.has, h.em, by rw [hl]; simpa [RW.setT] using h.len, by rw [hl]; exact h.cl, fun k hk => ?_, fun k hk => ?_⟩
  · rw [hl] at hk
    rw [hB]
    by_cases e : k = i
    · subst e
      rw [if_pos rfl, hc]
      exact h.code k hk
    · rw [if_neg e]
      exact h.code k hk
  · rw [hl] at hk
    rw [hB, hG]
    by_cases e : k = i
    · rw [if_pos e, if_pos e]
      exact hs
    · rw [if_neg e, if_neg e]
      exact h.ts k hk
theorem Sim.put {code : List (List Ins)} {B : PB} {G : RW} (h : Sim code B G) (a v : Int) : Sim code (B.put a v) (G.put_ a.toNat v) :=
  ⟨by show G.cells.set _ _ = B.cells.set _ _; rw [h.cells], h.has, h.em, h.len, h.cl, h.code, h.ts⟩
theorem Sim.own {code : List (List Ins)} {B : PB} {G : RW} (h : Sim code B G) (m : Int) (o : Option Nat) : Sim code (B.has m o) (G.has_ m.toNat (encO o)) :=
  ⟨h.cells, by show G.has.set _ _ = (B.own.set _ _).map encO; rw [h.has, List.map_set], h.em, h.len, h.cl, h.code, h.ts⟩
theorem next_set {B : PB} {i n : Nat} (hi : i < B.ts.length) {t : PTask} (hp : t.ph = 0) : (B.setT i t).next i n = B.setT i (t.goTo n) := by
  have e : (B.setT i t).t i = t := getD_set_same _ _ _ hi
  unfold PB.next
  rw [e, if_pos hp]
  simp [PB.setT]
theorem next_self {B : PB} {i n : Nat} (hp : (B.t i).ph = 0) : B.next i n = B.setT i ((B.t i).goTo n) := by
  unfold PB.next
  rw [if_pos hp]
theorem simT_goTo {t : PTask} {x : RT} {n : Nat} (hp : t.ph = 0) (hr : x.r = t.r) (hpl : x.pl = n) (he : x.en = false) (hb : x.bd = false) (hc : x.cd = -1) (hw : x.wt = -1) : SimT (t.goTo n) x := by
  have hph : (t.goTo n).ph = if n = t.code.length then 3 else 0 := by simp [PTask.goTo, hp]
  by_cases e : n = t.code.length
  · rw [if_pos e] at hph
    refine ⟨hr, fun h => ?_, fun h => ?_, fun h => ?_, fun _ => ⟨.inr (by rw [hpl, e]; exact Nat.le_refl _), hb, hc⟩, fun h => ?_⟩ <;> (rw [hph] at h; cases h)
  · rw [if_neg e] at hph
    refine ⟨hr, fun _ => ⟨hpl, he, hb, hc, hw⟩, fun h => ?_, fun h => ?_, fun h => ?_, fun h => ?_⟩ <;> (rw [hph] at h; cases h)
theorem sim_can {code : List (List Ins)} {B : PB} {G : RW} (h : Sim code B G) (hE : Ends B G) (hk : B.Ok) {i : Nat} (hi : i < B.ts.length) : G.can code i = B.canGo (B.t i) := by
  have hs := h.ts i hi
  have hT := hk.tasks i hi
  have hfree : ∀ m : Nat, m < 16 → decide (G.has.getD m 0 < 0) = (B.own.getD m none).isNone := fun m hm => by
    rw [h.has]
    have e : (B.own.map encO).getD m 0 = encO (B.own.getD m none) := by simp [List.getD, hk.own, hm]
    rw [e]
    cases B.own.getD m none with
    | none => rfl
    | some k => exact decide_eq_false (by show ¬ (k : Int) < 0; omega)
  have hins : insAt code i (B.t i).place = (B.t i).ins := by unfold insAt PTask.ins; rw [h.code i hi]
  unfold RW.can PB.canGo
  rcases (by have := hT.ph; omega : (B.t i).ph = 0 ∨ (B.t i).ph = 1 ∨ (B.t i).ph = 2 ∨ (B.t i).ph = 3 ∨ (B.t i).ph = 4) with e | e | e | e | e
  · obtain ⟨h1, h2, h3, h4, h5⟩ := hs.go e
    rw [h1, h2, h3, h4, h5, hins, e]
    have hw : (B.t i).wants = if (B.t i).ins.op = 8 then some (B.t i).ins.a.toNat else none := by unfold PTask.wants; rw [e, if_neg (by decide)]
    rw [hw]
    by_cases h8 : (B.t i).ins.op = 8
    · have ha := ins_lock (hT.insOk (hT.place (by omega))) h8
      rw [if_pos h8, PB.free, ← hfree _ (by omega)]
      simp [h8]
    · simp [h8, PB.free]
  · obtain ⟨h1, h2, h3, h4, h5⟩ := hs.waits e
    have ha : 0 ≤ (B.t i).ins.a ∧ (B.t i).ins.a < 16 := by
      have := (insReg (hT.insOk (hT.place (by omega)))).2.2.2.2.2.2.2 (hT.waits (.inl e))
      exact this.2
    rw [h2, h3, h4, e]
    simp [ha.1]
  · obtain ⟨h1, h2, h3, h4, h5⟩ := hs.told e
    have hb : 0 ≤ (B.t i).ins.b ∧ (B.t i).ins.b < 16 := by
      have := (insReg (hT.insOk (hT.place (by omega)))).2.2.2.2.2.2.2 (hT.waits (.inr e))
      exact this.1
    rw [h2, h3, h4, h5, e]
    have hw : (B.t i).wants = some (B.t i).ins.b.toNat := by unfold PTask.wants; rw [e, if_pos rfl]
    rw [hw, PB.free, ← hfree _ (by omega)]
    simp [hb.1]
  · rw [hE i hi e, e]
    simp
  · rw [(hs.bad e).1, e]
    simp
theorem getD_enc {own : List (Option Nat)} {m : Nat} (hm : m < own.length) : (own.map encO).getD m 0 = encO (own.getD m none) := by simp [List.getD, hm]
theorem enc_some {o : Option Nat} {i : Nat} : encO o = (i : Int) ↔ o = some i := by
  cases o with
  | none => simp [encO]
  | some k =>
    simp [encO]
    omega
/-- Those that wait are told alike. -/
theorem sim_wake {c : Int} {all : Bool} (hc : 0 ≤ c) : ∀ {l : List PTask} {m : List RT}, l.length = m.length → (∀ i, i < l.length → SimT (l.getD i task0) (m.getD i rt0) ∧ (l.getD i task0).ph ≤ 4) → (tellL c all l).length = l.length ∧ (wakeL c all m).length = m.length ∧ ∀ i, i < l.length → SimT ((tellL c all l).getD i task0) ((wakeL c all m).getD i rt0) ∧ ((tellL c all l).getD i task0).code = (l.getD i task0).code
  | [], [], _, _ => ⟨rfl, rfl, fun i h => by simp at h⟩
  | [], _ :: _, h, _ => by simp at h
  | _ :: _, [], h, _ => by simp at h
  | t :: l, x :: m, h, hs => by
    have hlen : l.length = m.length := by simpa using h
    have hrest : ∀ i, i < l.length → SimT (l.getD i task0) (m.getD i rt0) ∧ (l.getD i task0).ph ≤ 4 := fun i hi => by
      have := hs (i + 1) (by simpa using hi)
      simpa [List.getD] using this
    obtain ⟨g1, g2, g3⟩ := sim_wake (c := c) (all := all) hc hlen hrest
    obtain ⟨ht, hp4⟩ : SimT t x ∧ t.ph ≤ 4 := by
      have := hs 0 (by simp)
      simpa [List.getD] using this
    have hiff : (t.ph = 1 ∧ t.ins.a = c) ↔ x.cd = c := by
      constructor
      · rintro ⟨e, e2⟩
        rw [(ht.waits e).2.2.2.1, e2]
      · intro e
        rcases (by omega : t.ph = 0 ∨ t.ph = 1 ∨ t.ph = 2 ∨ t.ph = 3 ∨ t.ph = 4) with k | k | k | k | k
        · have := (ht.go k).2.2.2.1; omega
        · exact ⟨k, by rw [← (ht.waits k).2.2.2.1]; exact e⟩
        · have := (ht.told k).2.2.2.1; omega
        · have := (ht.ended k).2.2; omega
        · have := (ht.bad k).2; omega
    by_cases e : x.cd = c
    · have e1 := hiff.2 e
      have hnew : SimT (t.at 2) { x with cd := -1 } := by
        obtain ⟨a1, a2, a3, a4, a5⟩ := ht.waits e1.1
        refine ⟨ht.r, fun h => ?_, fun h => ?_, fun _ => ⟨a1, a2, a3, rfl, a5⟩, fun h => ?_, fun h => ?_⟩ <;> (simp [PTask.at] at h)
      unfold tellL wakeL
      rw [if_pos e1, if_pos e]
      cases all with
      | true =>
        refine ⟨by simp [g1], by simp [g2], fun i hi => ?_⟩
        cases i with
        | zero => exact ⟨hnew, rfl⟩
        | succ i => have := g3 i (by simpa using hi); simpa [List.getD] using this
      | false =>
        refine ⟨by simp, by simp, fun i hi => ?_⟩
        cases i with
        | zero => exact ⟨hnew, rfl⟩
        | succ i => have := (hrest i (by simpa using hi)).1; exact ⟨by simpa [List.getD] using this, by simp [List.getD]⟩
    · have e1 : ¬ (t.ph = 1 ∧ t.ins.a = c) := fun h => e (hiff.1 h)
      unfold tellL wakeL
      rw [if_neg e1, if_neg e]
      refine ⟨by simp [g1], by simp [g2], fun i hi => ?_⟩
      cases i with
      | zero => exact ⟨by simpa [List.getD] using ht, rfl⟩
      | succ i => have := g3 i (by simpa using hi); simpa [List.getD] using this
theorem simT_ph {t : PTask} {x : RT} (hr : x.r = t.r) (hb : x.bd = true) (hc : x.cd = -1) : SimT (t.at 4) x := by
  refine ⟨hr, fun h => ?_, fun h => ?_, fun h => ?_, fun h => ?_, fun _ => ⟨hb, hc⟩⟩ <;> (simp [PTask.at] at h)
theorem act_10a {B : PB} {i : Nat} {a b c : Int} (h : (B.t i).ins = ⟨10, a, b, c⟩) (e : (B.t i).ph = 0) : B.act i = B.release i b 1 := by simp [PB.act, h, e]
theorem act_10b {B : PB} {i : Nat} {a b c : Int} (h : (B.t i).ins = ⟨10, a, b, c⟩) (e : (B.t i).ph = 2) : B.act i = ((B.setT i ((B.t i).at 0)).has b (some i)).next i ((B.t i).place + 1) := by simp [PB.act, h, e]
theorem act_11 {B : PB} {i : Nat} {a b c : Int} (h : (B.t i).ins = ⟨11, a, b, c⟩) : B.act i = ({ B with ts := tellL a false B.ts } : PB).next i ((B.t i).place + 1) := by simp [PB.act, h]
theorem act_12 {B : PB} {i : Nat} {a b c : Int} (h : (B.t i).ins = ⟨12, a, b, c⟩) : B.act i = ({ B with ts := tellL a true B.ts } : PB).next i ((B.t i).place + 1) := by simp [PB.act, h]
theorem Sim.told {code : List (List Ins)} {B : PB} {G : RW} (h : Sim code B G) (hk : B.Ok) {c : Int} (hc : 0 ≤ c) (all : Bool) : Sim code ({ B with ts := tellL c all B.ts } : PB) (G.wake c all) := by
  obtain ⟨g1, g2, g3⟩ := sim_wake (c := c) (all := all) hc (l := B.ts) (m := G.ts) h.len.symm (fun i hi => ⟨h.ts i hi, (hk.tasks i hi).ph⟩)
  refine ⟨h.cells, h.has, h.em, ?_, ?_, fun i hi => ?_, fun i hi => ?_⟩
  · show (wakeL c all G.ts).length = (tellL c all B.ts).length
    rw [g1, g2, h.len]
  · show code.length = (tellL c all B.ts).length
    rw [g1]
    exact h.cl
  · have hi' : i < B.ts.length := by rw [← g1]; exact hi
    exact ((g3 i hi').2).trans (h.code i hi')
  · have hi' : i < B.ts.length := by rw [← g1]; exact hi
    exact (g3 i hi').1
theorem sim_act {code : List (List Ins)} {B : PB} {G : RW} (h : Sim code B G) (hk : B.Ok) {i : Nat} (hi : i < B.ts.length) (hgo : (B.t i).ph = 0 ∨ (B.t i).ph = 2) : Sim code (B.act i) (G.one code i) := by
  have hs := h.ts i hi
  have hT := hk.tasks i hi
  have hpl := hT.place (by omega)
  have hok := hT.insOk hpl
  have hins : insAt code i (B.t i).place = (B.t i).ins := by unfold insAt PTask.ins; rw [h.code i hi]
  have hreg := insReg hok
  have hr := hs.r
  have hwait := hT.waits
  have hown : ∀ m : Int, 0 ≤ m → m < 16 → (G.has.getD m.toNat 0 = (i : Int) ↔ B.own.getD m.toNat none = some i) := fun m h0 h1 => by
    rw [h.has, getD_enc (by rw [hk.own]; omega)]
    exact enc_some
  rcases hgo with e | e
  · obtain ⟨h1, h2, h3, h4, h5⟩ := hs.go e
    have hI : insAt code i (G.t i).pl = (B.t i).ins := by rw [h1]; exact hins
    have hnw : ¬ 0 ≤ (G.t i).wt := by rw [h5]; decide
    have hpl1 : (G.t i).next.pl = (B.t i).place + 1 := by show (G.t i).pl + 1 = _; rw [h1]
    unfold RW.one
    rw [if_neg hnw, hI]
    have hop := ins_op hok
    generalize hX : (B.t i).ins = X at *
    obtain ⟨xo, xa, xb, xc⟩ := X
    simp only at hop hreg ⊢
    rcases hop with o | o | o | o | o | o | o | o | o | o | o | o | o | o
    · subst o
      rw [if_pos rfl, act_1 hX, next_set hi (by exact e)]
      refine h.setT hi rfl (simT_goTo e ?_ hpl1 h2 h3 h4 h5)
      show (G.t i).r.set xa.toNat (G.cells.getD xb.toNat 0) = (B.t i).r.set xa.toNat (B.cells.getD xb.toNat 0)
      rw [hr, h.cells]
    · subst o
      rw [if_neg (by decide), if_pos rfl, act_2 hX, next_self (by exact e), hr]
      exact (h.put xa ((B.t i).get xb)).setT (i := i) hi rfl (simT_goTo e hr hpl1 h2 h3 h4 h5)
    · subst o
      rw [if_neg (by decide), if_neg (by decide), if_pos rfl, act_3 hX, hr, h.cells]
      unfold PB.swap
      by_cases z : B.cells.getD xa.toNat 0 = (B.t i).r.getD xb.toNat 0
      · rw [if_pos z, if_pos (by exact z), next_set (by exact hi) (by exact e)]
        refine (h.put xa ((B.t i).get xc)).setT (i := i) hi rfl (simT_goTo e ?_ hpl1 h2 h3 h4 h5)
        show (G.t i).r.set 3 1 = (B.t i).r.set 3 1
        rw [hr]
      · rw [if_neg z, if_neg (by exact z), next_set hi (by exact e)]
        refine h.setT hi rfl (simT_goTo e ?_ hpl1 h2 h3 h4 h5)
        show (G.t i).r.set 3 0 = (B.t i).r.set 3 0
        rw [hr]
    · subst o
      rw [if_neg (by decide), if_neg (by decide), if_neg (by decide), if_pos rfl, act_4 hX, next_set hi (by exact e)]
      refine h.setT hi rfl (simT_goTo e ?_ hpl1 h2 h3 h4 h5)
      show (G.t i).r.set xa.toNat xb = (B.t i).r.set xa.toNat xb
      rw [hr]
    · subst o
      rw [if_neg (by decide), if_neg (by decide), if_neg (by decide), if_neg (by decide), if_pos rfl, act_5 hX, next_set hi (by exact e)]
      refine h.setT hi rfl (simT_goTo e ?_ hpl1 h2 h3 h4 h5)
      show (G.t i).r.set xa.toNat (wrap64 ((G.t i).r.getD xa.toNat 0 + xb)) = (B.t i).r.set xa.toNat (wrap64 ((B.t i).get xa + xb))
      rw [hr]
      rfl
    · subst o
      rw [if_neg (by decide), if_neg (by decide), if_neg (by decide), if_neg (by decide), if_neg (by decide), if_pos rfl, act_6 hX, next_self e, hr, h1]
      exact h.setT hi rfl (simT_goTo e rfl rfl h2 h3 h4 h5)
    · subst o
      rw [if_neg (by decide), if_neg (by decide), if_neg (by decide), if_neg (by decide), if_neg (by decide), if_neg (by decide), if_pos rfl, act_7 hX, next_self e]
      exact h.setT hi rfl (simT_goTo e hr rfl h2 h3 h4 h5)
    · subst o
      rw [if_neg (by decide), if_neg (by decide), if_neg (by decide), if_neg (by decide), if_neg (by decide), if_neg (by decide), if_neg (by decide), if_pos rfl, act_8 hX, next_self (by exact e)]
      exact (h.own xa (some i)).setT (i := i) hi rfl (simT_goTo e hr hpl1 h2 h3 h4 h5)
    · subst o
      have hm := hreg.2.2.2.2.2.2.1 (.inr (.inl rfl))
      rw [if_neg (by decide), if_neg (by decide), if_neg (by decide), if_neg (by decide), if_neg (by decide), if_neg (by decide), if_neg (by decide), if_neg (by decide), if_pos rfl, act_9 hX]
      unfold PB.release
      by_cases z : B.own.getD xa.toNat none = some i
      · have ea : ((B.has xa none).t i).at 0 = B.t i := by
          show (B.t i).at 0 = B.t i
          unfold PTask.at
          rw [← e]
        rw [if_pos ((hown xa hm.1 hm.2).2 z), if_pos z]
        have ea' : (B.t i).at 0 = B.t i := ea
        rw [ea', next_set (by exact hi) e]
        exact (h.own xa none).setT (i := i) hi rfl (simT_goTo e hr hpl1 h2 h3 h4 h5)
      · rw [if_neg (fun c => z ((hown xa hm.1 hm.2).1 c)), if_neg z]
        have en : (B.setT i ((B.t i).at 4)).next i ((B.t i).place + 1) = B.setT i ((B.t i).at 4) := by
          have e4 : (B.setT i ((B.t i).at 4)).t i = (B.t i).at 4 := getD_set_same _ _ _ hi
          unfold PB.next
          rw [e4, if_neg (by simp [PTask.at])]
        rw [en]
        exact h.setT hi rfl (simT_ph hr rfl h4)
    · subst o
      have hm := (hreg.2.2.2.2.2.2.2 rfl).1
      rw [if_neg (by decide), if_neg (by decide), if_neg (by decide), if_neg (by decide), if_neg (by decide), if_neg (by decide), if_neg (by decide), if_neg (by decide), if_neg (by decide), if_pos rfl, act_10a hX e]
      unfold PB.release
      by_cases z : B.own.getD xb.toNat none = some i
      · rw [if_pos ((hown xb hm.1 hm.2).2 z), if_pos z]
        refine (h.own xb none).setT (i := i) hi rfl ⟨hr, fun c => ?_, fun _ => ⟨h1, h2, h3, ?_, ?_⟩, fun c => ?_, fun c => ?_, fun c => ?_⟩
        · simp [PTask.at] at c
        · show xa = ((B.t i).ins).a
          rw [hX]
        · show xb = ((B.t i).ins).b
          rw [hX]
        · simp [PTask.at] at c
        · simp [PTask.at] at c
        · simp [PTask.at] at c
      · rw [if_neg (fun c => z ((hown xb hm.1 hm.2).1 c)), if_neg z]
        exact h.setT hi rfl (simT_ph hr rfl h4)
    · subst o
      have hm := hreg.2.2.2.2.2.2.1 (.inr (.inr (.inl rfl)))
      have et : ({ B with ts := tellL xa false B.ts } : PB).t i = B.t i := tellL_at xa false B.ts i (by show (B.t i).ph ≠ 1; rw [e]; decide)
      have hw := h.told hk (c := xa) hm.1 false
      have hi2 : i < ({ B with ts := tellL xa false B.ts } : PB).ts.length := by have := hw.len; have h9 : (wakeL xa false G.ts).length = G.ts.length := wakeL_len _ _ _; rw [← this]; show i < (wakeL xa false G.ts).length; rw [h9, h.len]; exact hi
      rw [if_neg (by decide), if_neg (by decide), if_neg (by decide), if_neg (by decide), if_neg (by decide), if_neg (by decide), if_neg (by decide), if_neg (by decide), if_neg (by decide), if_neg (by decide), if_pos rfl, act_11 hX, next_self (by rw [et]; exact e), et]
      exact hw.setT hi2 (by rw [et]; rfl) (simT_goTo e hr hpl1 h2 h3 h4 h5)
    · subst o
      have hm := hreg.2.2.2.2.2.2.1 (.inr (.inr (.inr rfl)))
      have et : ({ B with ts := tellL xa true B.ts } : PB).t i = B.t i := tellL_at xa true B.ts i (by show (B.t i).ph ≠ 1; rw [e]; decide)
      have hw := h.told hk (c := xa) hm.1 true
      have hi2 : i < ({ B with ts := tellL xa true B.ts } : PB).ts.length := by have := hw.len; have h9 : (wakeL xa true G.ts).length = G.ts.length := wakeL_len _ _ _; rw [← this]; show i < (wakeL xa true G.ts).length; rw [h9, h.len]; exact hi
      rw [if_neg (by decide), if_neg (by decide), if_neg (by decide), if_neg (by decide), if_neg (by decide), if_neg (by decide), if_neg (by decide), if_neg (by decide), if_neg (by decide), if_neg (by decide), if_neg (by decide), if_pos rfl, act_12 hX, next_self (by rw [et]; exact e), et]
      exact hw.setT hi2 (by rw [et]; rfl) (simT_goTo e hr hpl1 h2 h3 h4 h5)
    · subst o
      rw [if_neg (by decide), if_neg (by decide), if_neg (by decide), if_neg (by decide), if_neg (by decide), if_neg (by decide), if_neg (by decide), if_neg (by decide), if_neg (by decide), if_neg (by decide), if_neg (by decide), if_neg (by decide), if_pos rfl, act_13 hX, next_self (by exact e), hr]
      have hem : Sim code ({ B with em := B.em ++ [(i, (B.t i).get xa)] } : PB) ({ G with em := G.em ++ [(i, (B.t i).r.getD xa.toNat 0)] } : RW) := ⟨h.cells, h.has, by show G.em ++ _ = B.em ++ _; rw [h.em]; rfl, h.len, h.cl, h.code, h.ts⟩
      exact hem.setT (i := i) hi rfl (simT_goTo e hr hpl1 h2 h3 h4 h5)
    · subst o
      rw [if_neg (by decide), if_neg (by decide), if_neg (by decide), if_neg (by decide), if_neg (by decide), if_neg (by decide), if_neg (by decide), if_neg (by decide), if_neg (by decide), if_neg (by decide), if_neg (by decide), if_neg (by decide), if_neg (by decide), act_14 hX]
      refine h.setT hi rfl ⟨hr, fun c => ?_, fun c => ?_, fun c => ?_, fun _ => ⟨.inl rfl, h3, h4⟩, fun c => ?_⟩ <;> (simp [PTask.at] at c)
  · obtain ⟨h1, h2, h3, h4, h5⟩ := hs.told e
    have o := hwait (.inr e)
    generalize hX : (B.t i).ins = X at *
    obtain ⟨xo, xa, xb, xc⟩ := X
    simp only at o hreg h5
    subst o
    have hm := (hreg.2.2.2.2.2.2.2 rfl).1
    have hpl1 : (G.t i).next.pl = (B.t i).place + 1 := by show (G.t i).pl + 1 = _; rw [h1]
    unfold RW.one
    rw [h5, if_pos hm.1, act_10b hX e]
    have e0 : ((B.setT i ((B.t i).at 0)).has xb (some i)) = (B.has xb (some i)).setT i ((B.t i).at 0) := rfl
    rw [e0, next_set (by exact hi) rfl]
    exact (h.own xb (some i)).setT (i := i) hi rfl (simT_goTo rfl hr hpl1 h2 h3 h4 rfl)
theorem ends_t {code : List (List Ins)} {G : RW} {i : Nat} (hi : i < G.ts.length) : (G.ends code).t i = (G.t i).ends (code.getD i []) := by
  show (endsTo code G.ts G.ts.length).getD i rt0 = _
  rw [endsTo_at code G.ts _ i hi, if_pos hi]
  rfl
theorem sim_ends {code : List (List Ins)} {B : PB} {G : RW} (h : Sim code B G) (hk : B.Ok) : Sim code B (G.ends code) ∧ Ends B (G.ends code) := by
  have hl : (G.ends code).ts.length = G.ts.length := endsTo_len _ _ _
  have key : ∀ i, i < B.ts.length → SimT (B.t i) ((G.ends code).t i) ∧ ((B.t i).ph = 3 → ((G.ends code).t i).en = true) := fun i hi => by
    have hs := h.ts i hi
    have hT := hk.tasks i hi
    have hc := h.code i hi
    rw [ends_t (by rw [h.len]; exact hi)]
    unfold RT.ends
    rw [← hc]
    by_cases z : (B.t i).code.length ≤ (G.t i).pl
    · rw [if_pos z]
      have no : ∀ k, (B.t i).ph = k → k < 3 → (G.t i).pl = (B.t i).place → False := fun k e1 e2 e3 => by
        have := hT.place (by omega)
        omega
      refine ⟨⟨hs.r, fun c => (no 0 c (by decide) (hs.go c).1).elim, fun c => (no 1 c (by decide) (hs.waits c).1).elim, fun c => (no 2 c (by decide) (hs.told c).1).elim, fun c => ⟨.inl rfl, (hs.ended c).2⟩, fun c => hs.bad c⟩, fun _ => rfl⟩
    · rw [if_neg z]
      exact ⟨hs, fun c => (hs.ended c).1.elim id (fun c2 => absurd c2 z)⟩
  exact ⟨⟨h.cells, h.has, h.em, by rw [hl]; exact h.len, h.cl, h.code, fun i hi => (key i hi).1⟩, fun i hi => (key i hi).2⟩
/-- What the contracts of can and of one ask, out of what goes alike. -/
theorem Sim.gok {code : List (List Ins)} {B : PB} {G : RW} (h : Sim code B G) (hE : Ends B G) (hk : B.Ok) : Gok code G := by
  refine ⟨by rw [h.cl, h.len], fun i hi => ?_, fun i hi => ?_⟩
  · rw [h.cl] at hi
    rw [← h.code i hi]
    exact (hk.tasks i hi).code
  · rw [h.cl] at hi
    have hs := h.ts i hi
    have hT := hk.tasks i hi
    intro e1 e2
    rw [← h.code i hi]
    rcases (by have := hT.ph; omega : (B.t i).ph = 0 ∨ (B.t i).ph = 1 ∨ (B.t i).ph = 2 ∨ (B.t i).ph = 3 ∨ (B.t i).ph = 4) with e | e | e | e | e
    · obtain ⟨a1, _, _, _, a5⟩ := hs.go e
      rw [a1, a5]
      exact ⟨by decide, hT.place (by omega)⟩
    · obtain ⟨a1, _, _, _, a5⟩ := hs.waits e
      have hb := ((insReg (hT.insOk (hT.place (by omega)))).2.2.2.2.2.2.2 (hT.waits (.inl e))).1
      rw [a1, a5]
      exact ⟨by omega, hT.place (by omega)⟩
    · obtain ⟨a1, _, _, _, a5⟩ := hs.told e
      have hb := ((insReg (hT.insOk (hT.place (by omega)))).2.2.2.2.2.2.2 (hT.waits (.inr e))).1
      rw [a1, a5]
      exact ⟨by omega, hT.place (by omega)⟩
    · rw [hE i hi e] at e1
      cases e1
    · rw [(hs.bad e).1] at e2
      cases e2
end Go.Proofs.Ytehkcgjiimfdjaa
/- Both worlds begin alike, and tell the same states. -/
namespace Go.Proofs.Ytehkcgjiimfdjaa
open Go.RowKit
def rinit (code : List (List Ins)) (cs : List Int) : RW := ⟨cs ++ List.replicate (16 - cs.length) 0, List.replicate 16 (-1), code.map (fun _ => ⟨0, [0, 0, 0, 0], false, false, -1, -1⟩), [], 0, none, 0⟩
theorem sim_begins (code : List (List Ins)) (cs : List Int) : Sim code (begins code cs) (rinit code cs) := by
  have hb : ∀ i, i < code.length → (begins code cs).t i = fresh (code.getD i []) := fun i hi => by
    show (code.map fresh).getD i task0 = _
    simp [List.getD, hi]
  have hg : ∀ i, i < code.length → (rinit code cs).t i = ⟨0, [0, 0, 0, 0], false, false, -1, -1⟩ := fun i hi => by
    show (code.map _).getD i rt0 = _
    simp [List.getD, hi]
  have hl : (begins code cs).ts.length = code.length := by simp [begins]
  refine ⟨rfl, by simp [begins, rinit, encO], rfl, by simp [begins, rinit], hl.symm, fun i hi => ?_, fun i hi => ?_⟩
  · rw [hl] at hi
    rw [hb i hi]
    rfl
  · rw [hl] at hi
    rw [hb i hi, hg i hi]
    exact simT_goTo (t := ⟨code.getD i [], 0, [0, 0, 0, 0], 0⟩) rfl rfl rfl rfl rfl rfl rfl
/-- The state that the document's own run tells of a task. -/
def rstate (can en bd : Bool) : Int := if bd then 3 else if en then 2 else if can then 0 else 1
theorem sim_state {code : List (List Ins)} {B : PB} {G : RW} (h : Sim code B G) (hE : Ends B G) (hk : B.Ok) {i : Nat} (hi : i < B.ts.length) : rstate (G.can code i) (G.t i).en (G.t i).bd = B.state (B.t i) := by
  have hs := h.ts i hi
  have hT := hk.tasks i hi
  rw [sim_can h hE hk hi]
  unfold rstate PB.state
  rcases (by have := hT.ph; omega : (B.t i).ph = 0 ∨ (B.t i).ph = 1 ∨ (B.t i).ph = 2 ∨ (B.t i).ph = 3 ∨ (B.t i).ph = 4) with e | e | e | e | e
  · obtain ⟨_, h2, h3, _⟩ := hs.go e
    rw [h2, h3, e]
    simp
  · obtain ⟨_, h2, h3, _⟩ := hs.waits e
    rw [h2, h3, e]
    simp
  · obtain ⟨_, h2, h3, _⟩ := hs.told e
    rw [h2, h3, e]
    simp
  · rw [hE i hi e, (hs.ended e).2.1, e]
    simp
  · rw [(hs.bad e).1, e]
    simp
/-- The list of those that can go, as the document's own run makes it. -/
def rableTo (code : List (List Ins)) (G : RW) : Nat → List Int
  | 0 => []
  | k + 1 => rableTo code G k ++ (if G.can code k then [(k : Int)] else [])
theorem rable_eq {code : List (List Ins)} {B : PB} {G : RW} (h : Sim code B G) (hE : Ends B G) (hk : B.Ok) : ∀ k, k ≤ B.ts.length → rableTo code G k = (ableL B.canGo (B.ts.take k) 0).map Int.ofNat
  | 0, _ => by simp [rableTo, ableL]
  | k + 1, hl => by
    have ih := rable_eq h hE hk k (by omega)
    have hi : k < B.ts.length := by omega
    rw [rableTo, ih, ableL_snoc B.canGo B.ts 0 k hi, sim_can h hE hk hi, List.map_append]
    have e : B.ts.getD k task0 = B.t k := rfl
    rw [e]
    cases B.canGo (B.t k) <;> simp
theorem rable_all {code : List (List Ins)} {B : PB} {G : RW} (h : Sim code B G) (hE : Ends B G) (hk : B.Ok) : rableTo code G B.ts.length = B.able.map Int.ofNat := by
  rw [rable_eq h hE hk _ (Nat.le_refl _), List.take_length]
  rfl
theorem Sim.steps {code : List (List Ins)} {B : PB} {G : RW} (h : Sim code B G) (n m : Nat) : Sim code { B with steps := n } { G with steps := m } := ⟨h.cells, h.has, h.em, h.len, h.cl, h.code, h.ts⟩
theorem Sim.where_ {code : List (List Ins)} {B : PB} {G : RW} (h : Sim code B G) (ea : Option Addr) (ec : Nat) : Sim code B { G with ea := ea, ec := ec } := ⟨h.cells, h.has, h.em, h.len, h.cl, h.code, h.ts⟩
end Go.Proofs.Ytehkcgjiimfdjaa
/- The contract of the document's own Ints: the same list twice is the same. -/
namespace Go.Proofs.Ytehkcgjiimfdjaa
open Go.RowKit
/-- The slice value reads as these ints. -/
structure IvAt (w : World) (a : Option Addr) (len cap : Nat) (l : List Int) : Prop where
  size : l.length = len
  le : len ≤ cap
  max : cap ≤ maxLen
  here : 0 < len → ∃ b off, a = some ⟨b, off, none⟩ ∧ ∀ j, j < len → w.cell? ⟨b, off + j, none⟩ = some (.int .i64 (l.getD j 0))
theorem IvAt.below {w w' : World} {a : Option Addr} {len cap : Nat} {l : List Int} (h : IvAt w a len cap l) (hb : Below w.heap.size w w') : IvAt w' a len cap l :=
  ⟨h.size, h.le, h.max, fun hp => by
    obtain ⟨b, off, ha, hc⟩ := h.here hp
    refine ⟨b, off, ha, fun j hj => ?_⟩
    rw [hb.cell (World.block_lt_of_cell? w _ (hc j hj))]
    exact hc j hj⟩
set_option maxRecDepth 100000 in
set_option maxHeartbeats 1000000 in
theorem rints_same (a : Option Addr) (len ca : Nat) (b : Option Addr) (cb : Nat) (l : List Int) (w : World) (ha : IvAt w a len ca l) (hb : IvAt w b len cb l) :
    Calls Try.prog 23 #[.slice a len ca, .slice b len cb] w fun e w' => e = .returned (.bool true) ∧ Below w.heap.size w w' := by
  have h1 := ha.le
  have h2 := hb.le
  have h3 := ha.max
  have h4 := hb.max
  unfold maxLen at h3 h4
  have HA : Hid (IvAt w a len ca l) := ha
  have HB : Hid (IvAt w b len cb l) := hb
  clear ha hb
  go_enter Try.func23, Try.ntmps23
  go_wp2_with fail
  go_loopw [5] (fun ix wr => ∃ k : Nat, k ≤ len ∧ ix = .int .i64 (k : Int) ∧ Hid (Below w.heap.size w wr)) (fun ix _ => len - (intOf ix).toNat)
  case atStart => exact ⟨0, Nat.zero_le _, rfl, Below.refl _ _⟩
  case round =>
    obtain ⟨k, hk, rfl, HW⟩ := hrel
    by_cases hlt : k < len
    · obtain ⟨x, xo, rfl, hx⟩ := (HA.out.below HW.out).here (by omega)
      obtain ⟨y, yo, rfl, hy⟩ := (HB.out.below HW.out).here (by omega)
      have c1 := hx k hlt
      have c2 := hy k hlt
      clear hx hy
      generalize l.getD k 0 = v at c1 c2
      have hx1 : (0 : Int) ≤ (k : Int) := by omega
      have hx2 : (k : Int) < (len : Int) := by omega
      go_wp2
      go_region
      go_wp2
      go_roundw
      case rel => exact ⟨k + 1, by omega, by go_num, HW.out.drew⟩
      case measure => simp [intOf]; omega
    · obtain rfl : k = len := by omega
      go_wp2
      go_returns
      exact ⟨rfl, HW.out⟩
end Go.Proofs.Ytehkcgjiimfdjaa
/- The contract of the document's own Same: two runs that tell the same. -/
namespace Go.Proofs.Ytehkcgjiimfdjaa
open Go.RowKit
/-- A slice that reads as emits. -/
structure EmAt (w : World) (a : Option Addr) (len cap : Nat) (l : List (Nat × Int)) : Prop where
  size : l.length = len
  le : len ≤ cap
  max : cap ≤ maxLen
  here : 0 < len → ∃ b, a = some ⟨b, 0, none⟩ ∧ ∀ j, j < len → w.cell? ⟨b, j * 2, none⟩ = some (.int .i64 ((l.getD j (0, 0)).1 : Int)) ∧ w.cell? ⟨b, j * 2 + 1, none⟩ = some (.int .i64 (l.getD j (0, 0)).2)
theorem EmAt.below {w w' : World} {a : Option Addr} {len cap : Nat} {l : List (Nat × Int)} (h : EmAt w a len cap l) (hb : Below w.heap.size w w') : EmAt w' a len cap l :=
  ⟨h.size, h.le, h.max, fun hp => by
    obtain ⟨b, ha, hc⟩ := h.here hp
    refine ⟨b, ha, fun j hj => ?_⟩
    obtain ⟨c1, c2⟩ := hc j hj
    rw [hb.cell (World.block_lt_of_cell? w _ c1), hb.cell (World.block_lt_of_cell? w _ c2)]
    exact ⟨c1, c2⟩⟩
set_option maxRecDepth 100000 in
set_option maxHeartbeats 1000000 in
theorem rsame_any (c1 : Option Addr) (n1 k1 : Nat) (l1 : List Int) (c2 : Option Addr) (k2 : Nat) (e1 : Option Addr) (ne m1 : Nat) (em : List (Nat × Int)) (e2 : Option Addr) (m2 : Nat) (s1 : Option Addr) (ns j1 : Nat) (ls : List Int) (s2 : Option Addr) (j2 : Nat) (st : Int) (w : World)
    (h1 : IvAt w c1 n1 k1 l1) (h2 : IvAt w c2 n1 k2 l1) (h3 : EmAt w e1 ne m1 em) (h4 : EmAt w e2 ne m2 em) (h5 : IvAt w s1 ns j1 ls) (h6 : IvAt w s2 ns j2 ls) :
    Calls Try.prog 12 #[.agg #[.slice c1 n1 k1, .slice e1 ne m1, .slice s1 ns j1, .int .i64 st], .agg #[.slice c2 n1 k2, .slice e2 ne m2, .slice s2 ns j2, .int .i64 st]] w fun e w' => e = .returned (.bool true) ∧ Below w.heap.size w w' := by
  have H1 : Hid (IvAt w c1 n1 k1 l1) := h1
  have H2 : Hid (IvAt w c2 n1 k2 l1) := h2
  have H3 : Hid (EmAt w e1 ne m1 em) := h3
  have H4 : Hid (EmAt w e2 ne m2 em) := h4
  have H5 : Hid (IvAt w s1 ns j1 ls) := h5
  have H6 : Hid (IvAt w s2 ns j2 ls) := h6
  have g3 := h3.le
  have g4 := h4.le
  have g5 := h3.max
  have g6 := h4.max
  unfold maxLen at g5 g6
  obtain ⟨W, HWe⟩ : ∃ W, Hid (W = (w.alloc (.cells #[.slice c1 n1 k1, .slice e1 ne m1, .slice s1 ns j1, .int .i64 st] 27)).alloc (.cells #[.slice c2 n1 k2, .slice e2 ne m2, .slice s2 ns j2, .int .i64 st] 27)) := ⟨_, rfl⟩
  have HB : Hid (Below w.heap.size w W) := by unfold Hid; rw [HWe.out]; exact ((Below.refl _ _).alloc (Nat.le_refl _) _).alloc (by simp) _
  have HX1 : Hid (Box W w.heap.size 27 #[.slice c1 n1 k1, .slice e1 ne m1, .slice s1 ns j1, .int .i64 st]) := by unfold Hid; rw [HWe.out]; exact (Box.new w _ _).alloc _
  have HX2 : Hid (Box W (w.heap.size + 1) 27 #[.slice c2 n1 k2, .slice e2 ne m2, .slice s2 ns j2, .int .i64 st]) := by
    unfold Hid
    rw [HWe.out]
    have := Box.new (w.alloc (.cells #[.slice c1 n1 k1, .slice e1 ne m1, .slice s1 ns j1, .int .i64 st] 27)) 27 #[.slice c2 n1 k2, .slice e2 ne m2, .slice s2 ns j2, .int .i64 st]
    rw [show (w.alloc (.cells #[.slice c1 n1 k1, .slice e1 ne m1, .slice s1 ns j1, .int .i64 st] 27)).heap.size = w.heap.size + 1 by simp] at this
    exact this
  clear h1 h2 h3 h4 h5 h6
  go_enter Try.func12, Try.ntmps12
  go_wp2_with fail
  rw [← HWe.out]
  refine (rints_same c1 n1 k1 c2 k2 l1 W (H1.out.below HB.out) (H2.out.below HB.out)).mono ?_
  rintro e W1 ⟨rfl, hb1⟩
  have HB1 : Hid (Below w.heap.size w W1) := HB.out.trans (hb1.mono HB.out.size)
  have hx1 := HX1.out.kept (hb1.block _ HX1.out.lt)
  have hx2 := HX2.out.kept (hb1.block _ HX2.out.lt)
  have HY1 : Hid (Box W1 w.heap.size 27 #[.slice c1 n1 k1, .slice e1 ne m1, .slice s1 ns j1, .int .i64 st]) := hx1
  have HY2 : Hid (Box W1 (w.heap.size + 1) 27 #[.slice c2 n1 k2, .slice e2 ne m2, .slice s2 ns j2, .int .i64 st]) := hx2
  have a2 := hx1.cell 2
  have b2 := hx2.cell 2
  simp at a2 b2
  clear hb1 hx1 hx2 HWe
  go_wp2_with fail
  refine (rints_same s1 ns j1 s2 j2 ls W1 (H5.out.below HB1.out) (H6.out.below HB1.out)).mono ?_
  rintro e W2 ⟨rfl, hb2⟩
  have HB2 : Hid (Below w.heap.size w W2) := HB1.out.trans (hb2.mono HB1.out.size)
  have hx1 := HY1.out.kept (hb2.block _ HY1.out.lt)
  have hx2 := HY2.out.kept (hb2.block _ HY2.out.lt)
  have HZ1 : Hid (∀ wr, Below W2.heap.size W2 wr → wr.cell? ⟨w.heap.size, 1, none⟩ = some (.slice e1 ne m1) ∧ wr.cell? ⟨w.heap.size + 1, 1, none⟩ = some (.slice e2 ne m2)) := fun wr hb => ⟨(hb.cell hx1.lt).trans (hx1.cell 1), (hb.cell hx2.lt).trans (hx2.cell 1)⟩
  have a1 := hx1.cell 1
  have b1 := hx2.cell 1
  have a3 := hx1.cell 3
  have b3 := hx2.cell 3
  simp at a1 b1 a3 b3
  clear hb2 hx1 hx2 a2 b2
  go_wp2
  go_loopw [7] (fun ix wr => ∃ k : Nat, k ≤ ne ∧ ix = .int .i64 (k : Int) ∧ Hid (Below W2.heap.size W2 wr)) (fun ix _ => ne - (intOf ix).toNat)
  case atStart => exact ⟨0, Nat.zero_le _, rfl, Below.refl _ _⟩
  case round =>
    obtain ⟨k, hk, rfl, HR⟩ := hrel
    obtain ⟨y1, y2⟩ := HZ1.out wr HR.out
    have HBr : Hid (Below w.heap.size w wr) := HB2.out.trans (HR.out.mono HB2.out.size)
    by_cases hlt : k < ne
    · obtain ⟨x, rfl, hx⟩ := (H3.out.below HBr.out).here (by omega)
      obtain ⟨y, rfl, hy⟩ := (H4.out.below HBr.out).here (by omega)
      obtain ⟨p0, p1⟩ := hx k hlt
      obtain ⟨p2, p3⟩ := hy k hlt
      clear hx hy
      generalize em.getD k (0, 0) = v at p0 p1 p2 p3
      have hcmp : ∀ W : World, (binOp .neq 34 (.agg #[.int .i64 (v.1 : Int), .int .i64 v.2]) (.agg #[.int .i64 (v.1 : Int), .int .i64 v.2])).run Try.prog W = .ok (.bool false) W := fun W => by rw [run_neq_emit]; simp
      have hx5 : (0 : Int) ≤ (k : Int) := by omega
      have hx6 : (k : Int) < (ne : Int) := by omega
      go_wp2
      go_quiet (fail)
      go_wp2
      go_roundw
      case rel => exact ⟨k + 1, by omega, by go_num, Below.drewN HR.out _⟩
      case measure => simp [intOf]; omega
    · obtain rfl : k = ne := by omega
      go_wp2
      go_returns
      exact ⟨rfl, HBr.out⟩
end Go.Proofs.Ytehkcgjiimfdjaa
/- Appends to a call's own rows: ints, instructions, slices of instructions. -/
namespace Go.Proofs.Ytehkcgjiimfdjaa
open Go.RowKit
theorem slice_of_row {w : World} {B : Nat} {e : TypeId} {size n : Nat} {v : Value} {xs : List Value} (h : w.ownsRow B e size v n xs) : ∃ a c, v = .slice a n c := by
  rcases h.2 with ⟨rfl, rfl⟩ | ⟨g, c, cur, rfl, _⟩
  · exact ⟨none, 0, rfl⟩
  · exact ⟨_, c, rfl⟩
theorem wpList_appV (w : World) {ops : Array Oper} {rest : List Oper} {o : Oper} {a : Act} {Q : Exit → Act → World → Prop} (hgd : o.guard = none) (s x : Operand) (t e : TypeId)
    (ho : o.op = .call { callee := .builtin .append, args := #[s, x], argTypes := #[t, t] }) (ht : Try.prog.underlying t = some (.slice e)) (z : Value) (size bytes : Nat) (hinfo : (Try.prog.info? e).map (fun i => (i.zero, i.size, i.bytes)) = some (some z, size, bytes)) (hzs : z.cells.size = size) (hsz : 0 < size)
    (B : Nat) (a1 : Option Addr) (n1 c1 : Nat) (xs : List Value) (hs : a.eval s = .slice a1 n1 c1) (hown : w.ownsRow B e size (.slice a1 n1 c1) n1 xs)
    (a2 : Option Addr) (n2 c2 : Nat) (news : List Value) (hx : a.eval x = .slice a2 n2 c2) (hbare : a2 = none → n2 = 0 ∧ c2 = 0) (hl : news.length = n2 * size) (hnews : ∀ ad, a2 = some ad → ∀ j u, news[j]? = some u → w.cell? (ad.add j) = some u) (h1 : ∀ u ∈ news, u.oneCell' = true)
    (h63 : n1 + n2 ≤ maxLen) (hbytes : (n1 + n2) * bytes ≤ 140737488355328) (hB : B ≤ w.heap.size)
    (h : ∀ a' c' w', w'.ownsRow B e size (.slice a' (n1 + n2) c') (n1 + n2) (xs ++ news) → Below B w w' → w.grownBy w' (blkOf a1) → wpList Try.prog ops Q rest (a.put o.dst (.slice a' (n1 + n2) c')) w') :
    wpList Try.prog ops Q (o :: rest) a w := by
  obtain ⟨i, hi, hz0, hz1, hz2⟩ := info_parts hinfo
  have fin : ∀ v' w', w'.ownsRow B e size v' (n1 + n2) (xs ++ news) → w.grownBy w' (Value.slice a1 n1 c1).ownBlock → wpList Try.prog ops Q rest (a.put o.dst v') w' := by
    intro v' w' hr hg
    obtain ⟨a', c', rfl⟩ := slice_of_row hr
    exact h a' c' w' hr ((Below.refl B w).grown hg hB (fun k hk => (hown.lt k hk).1)) (by rw [← own_blk a1 n1 c1]; exact hg)
  cases a2 with
  | none =>
    obtain ⟨rfl, rfl⟩ := hbare rfl
    obtain rfl := List.eq_nil_of_length_eq_zero (by rw [hl]; simp : news.length = 0)
    refine wpList_append_own_none hgd s x _ ho B e i size ht hi _ n1 _ hs hown hx ?_
    exact fin _ w (by simpa using hown) (World.grownBy.refl _ _)
  | some ad => exact wpList_append_own w hgd s x _ ho B e i z size bytes ht hi hz0 hz1 hz2 hzs hsz _ n1 _ hs hown ad n2 c2 news hx hl (hnews ad rfl) h1 h63 hbytes hB (fun v' w' hr hg _ => fin v' w' hr hg)
def cellsN (l : List Int) : List Value := l.map (Value.int .i64)
theorem cellsN_one (l : List Int) : ∀ u ∈ cellsN l, u.oneCell' = true := by
  intro u hu
  obtain ⟨_, _, rfl⟩ := List.mem_map.1 hu
  rfl
theorem cellsN_get (l : List Int) (j : Nat) (h : j < l.length) : (cellsN l)[j]? = some (.int .i64 (l.getD j 0)) := by simp [cellsN, List.getD, h]
theorem insL_append : ∀ l m : List Ins, insL (l ++ m) = insL l ++ insL m
  | [], _ => rfl
  | x :: r, m => by simp [insL, insL_append r m]
theorem insL_len : ∀ l : List Ins, (insL l).length = l.length * 4
  | [] => rfl
  | x :: r => by simp [insL, insL_len r]; omega
theorem insL_one : ∀ (l : List Ins), ∀ u ∈ insL l, u.oneCell' = true
  | [], u, h => by cases h
  | x :: r, u, h => by
    simp only [insL, List.mem_cons] at h
    rcases h with rfl | rfl | rfl | rfl | h
    · rfl
    · rfl
    · rfl
    · rfl
    · exact insL_one r u h
def in64I (x : Ins) : Prop := in64 x.op ∧ in64 x.a ∧ in64 x.b ∧ in64 x.c
/-- A row of ints of the call's own. -/
structure OwnN (w : World) (B : Nat) (a : Option Addr) (len cap : Nat) (l : List Int) : Prop where
  size : l.length = len
  row : w.ownsRow B 3 1 (.slice a len cap) len (cellsN l)
  wf : ∀ n ∈ l, in64 n
/-- A row of instructions of the call's own. -/
structure OwnI (w : World) (B : Nat) (a : Option Addr) (len cap : Nat) (l : List Ins) : Prop where
  size : l.length = len
  row : w.ownsRow B 37 4 (.slice a len cap) len (insL l)
  wf : ∀ x ∈ l, in64I x
theorem row_addr {w : World} {B : Nat} {e : TypeId} {size n cap : Nat} {a : Option Addr} {xs : List Value} (h : w.ownsRow B e size (.slice a n cap) n xs) : n ≤ cap ∧ cap ≤ maxLen ∧ (a = none → cap = 0) ∧ (0 < n → ∃ g, a = some ⟨g, 0, none⟩) := by
  rcases h.2 with ⟨hv, hn⟩ | ⟨g, c, cur, hv, _, _, hn, hc, _⟩
  · simp only [Value.slice.injEq] at hv
    obtain ⟨rfl, rfl, rfl⟩ := hv
    exact ⟨Nat.le_refl _, Nat.zero_le _, fun _ => rfl, fun h0 => absurd h0 (Nat.lt_irrefl _)⟩
  · simp only [Value.slice.injEq, true_and] at hv
    obtain ⟨rfl, rfl⟩ := hv
    exact ⟨hn, hc, fun h0 => by simp at h0, fun _ => ⟨g, rfl⟩⟩
theorem OwnN.is {w : World} {B : Nat} {a : Option Addr} {len cap : Nat} {l : List Int} (h : OwnN w B a len cap l) : IsAt w a len cap l := by
  obtain ⟨h1, h2, h3, h4⟩ := row_addr h.row
  have hs := h.size
  refine ⟨hs, h1, h2, h3, fun j hj => h.wf _ (by simp [List.getD, hs, hj]), fun hp => ?_⟩
  obtain ⟨g, rfl⟩ := h4 hp
  refine ⟨g, 0, rfl, fun j hj => ?_⟩
  rw [Nat.zero_add, h.row.cellAt j (by omega), cellsN_get l j (by omega)]
theorem OwnI.is {w : World} {B : Nat} {a : Option Addr} {len cap : Nat} {l : List Ins} (h : OwnI w B a len cap l) : IcAt w a len cap l := by
  obtain ⟨h1, h2, h3, h4⟩ := row_addr h.row
  have hs := h.size
  refine ⟨hs, h1, h2, h3, fun j hj => h.wf _ (by simp [List.getD, hs, hj]), fun hp => ?_⟩
  obtain ⟨g, rfl⟩ := h4 hp
  refine ⟨g, 0, rfl, fun j hj => ?_⟩
  obtain ⟨c0, c1, c2, c3⟩ := insL_at l j (by omega)
  rw [Nat.zero_add, h.row.cellAt _ (by omega), h.row.cellAt _ (by omega), h.row.cellAt _ (by omega), h.row.cellAt _ (by omega)]
  exact ⟨c0, c1, c2, c3⟩
theorem row_below {w w' : World} {B : Nat} {e : TypeId} {size n : Nat} {v : Value} {xs : List Value} (h : w.ownsRow B e size v n xs) (hb : Below w.heap.size w w') : w'.ownsRow B e size v n xs :=
  row_same h fun b e => hb.block b (tag_lt (row_tag h e))
theorem OwnN.below {w w' : World} {B : Nat} {a : Option Addr} {len cap : Nat} {l : List Int} (h : OwnN w B a len cap l) (hb : Below w.heap.size w w') : OwnN w' B a len cap l := ⟨h.size, row_below h.row hb, h.wf⟩
theorem OwnI.below {w w' : World} {B : Nat} {a : Option Addr} {len cap : Nat} {l : List Ins} (h : OwnI w B a len cap l) (hb : Below w.heap.size w w') : OwnI w' B a len cap l := ⟨h.size, row_below h.row hb, h.wf⟩
theorem OwnI.nil (w : World) (B : Nat) : OwnI w B none 0 0 [] := ⟨rfl, World.ownsRow_nil _ _ _ 4, by simp⟩
theorem OwnN.made (w : World) : OwnN (w.alloc (.cells #[] 3)) w.heap.size (some ⟨w.heap.size, 0, none⟩) 0 0 [] := ⟨rfl, World.ownsRow_made w #[] 0 (Nat.le_refl _) (Nat.zero_le _) rfl, by simp⟩
theorem infoI64 : (Try.prog.info? 3).map (fun i => (i.zero, i.size, i.bytes)) = some (some (.int .i64 0), 1, 8) := by kernel_rfl
theorem infoInst : (Try.prog.info? 37).map (fun i => (i.zero, i.size, i.bytes)) = some (some (.agg #[.int .i64 0, .int .i64 0, .int .i64 0, .int .i64 0]), 4, 32) := by kernel_rfl
/-- Ints appended to a row of the call's own. -/
theorem wpList_appN (w : World) {ops : Array Oper} {rest : List Oper} {o : Oper} {a : Act} {Q : Exit → Act → World → Prop} (hgd : o.guard = none) (s x : Operand)
    (ho : o.op = .call { callee := .builtin .append, args := #[s, x], argTypes := #[24, 24] })
    (B : Nat) (a1 : Option Addr) (n1 c1 : Nat) (l : List Int) (hs : a.eval s = .slice a1 n1 c1) (hown : OwnN w B a1 n1 c1 l)
    (a2 : Option Addr) (n2 c2 : Nat) (m : List Int) (hx : a.eval x = .slice a2 n2 c2) (hsrc : IsAt w a2 n2 c2 m)
    (hb : n1 + n2 ≤ 17592186044416) (hB : B ≤ w.heap.size)
    (h : ∀ a' c' w', OwnN w' B a' (n1 + n2) c' (l ++ m) → Below B w w' → w.grownBy w' (blkOf a1) → wpList Try.prog ops Q rest (a.put o.dst (.slice a' (n1 + n2) c')) w') :
    wpList Try.prog ops Q (o :: rest) a w := by
  have hm := hsrc.size
  have hl := hown.size
  refine wpList_appV w hgd s x _ 3 ho Try.underlying24 _ 1 8 infoI64 rfl (by decide) B a1 n1 c1 _ hs hown.row a2 n2 c2 (cellsN m) hx (fun e => ?_) (by simp [cellsN]; exact hm) (fun ad e j u hu => ?_) (cellsN_one m) (by unfold maxLen; omega) (by omega) hB (fun a' c' w' hr hb hg => h a' c' w' ⟨by rw [List.length_append]; omega, by rw [cellsN, List.map_append]; exact hr, fun k hk => ?_⟩ hb hg)
  · have := hsrc.bare e
    have := hsrc.le
    omega
  · have hj : j < m.length := by have := (List.getElem?_eq_some_iff.1 hu).1; simpa [cellsN] using this
    obtain ⟨b, off, he, hc⟩ := hsrc.here (by omega)
    rw [e] at he
    obtain rfl := Option.some.inj he
    rw [cellsN_get m j hj] at hu
    obtain rfl := Option.some.inj hu
    rw [Addr.add_lit]
    exact hc j (by omega)
  · rcases List.mem_append.1 hk with hk | hk
    · exact hown.wf k hk
    · obtain ⟨j, hj, rfl⟩ := List.getElem_of_mem hk
      have := hsrc.wf j (by omega)
      simpa [List.getD, hj, in64] using this
/-- Instructions of a block appended to a row of the call's own. -/
theorem wpList_appI (w : World) {ops : Array Oper} {rest : List Oper} {o : Oper} {a : Act} {Q : Exit → Act → World → Prop} (hgd : o.guard = none) (s x : Operand)
    (ho : o.op = .call { callee := .builtin .append, args := #[s, x], argTypes := #[38, 38] })
    (B : Nat) (a1 : Option Addr) (n1 c1 : Nat) (l : List Ins) (hs : a.eval s = .slice a1 n1 c1) (hown : OwnI w B a1 n1 c1 l)
    (b n2 c2 : Nat) (m : List Ins) (hx : a.eval x = .slice (some ⟨b, 0, none⟩) n2 c2) (hsrc : Box w b 37 (insL m).toArray) (hm : m.length = n2) (hw : ∀ x ∈ m, in64I x)
    (hb : n1 + n2 ≤ 1000000) (hB : B ≤ w.heap.size)
    (h : ∀ a' c' w', OwnI w' B a' (n1 + n2) c' (l ++ m) → Below B w w' → w.grownBy w' (blkOf a1) → wpList Try.prog ops Q rest (a.put o.dst (.slice a' (n1 + n2) c')) w') :
    wpList Try.prog ops Q (o :: rest) a w := by
  have hl := hown.size
  refine wpList_appV w hgd s x _ 37 ho Try.underlying38 _ 4 32 infoInst rfl (by decide) B a1 n1 c1 _ hs hown.row (some ⟨b, 0, none⟩) n2 c2 (insL m) hx (fun e => by cases e) (by rw [insL_len, hm]) (fun ad e j u hu => ?_) (insL_one m) (by unfold maxLen; omega) (by omega) hB (fun a' c' w' hr hb hg => h a' c' w' ⟨by rw [List.length_append]; omega, by rw [insL_append]; exact hr, fun k hk => ?_⟩ hb hg)
  · obtain rfl := Option.some.inj e
    rw [Addr.add_lit, Nat.zero_add, hsrc.cell]
    simpa using hu
  · rcases List.mem_append.1 hk with hk | hk
    · exact hown.wf k hk
    · exact hw k hk
/-- Rows of the same slice: the code of tasks that are all alike. -/
structure OwnC (w : World) (B : Nat) (a : Option Addr) (len cap : Nat) (u : Value) : Prop where
  row : w.ownsRow B 38 1 (.slice a len cap) len (List.replicate len u)
theorem OwnC.nil (w : World) (B : Nat) (u : Value) : OwnC w B none 0 0 u := ⟨World.ownsRow_nil _ _ _ 1⟩
theorem OwnC.below {w w' : World} {B : Nat} {a : Option Addr} {len cap : Nat} {u : Value} (h : OwnC w B a len cap u) (hb : Below w.heap.size w w') : OwnC w' B a len cap u := ⟨row_below h.row hb⟩
theorem OwnC.is {w : World} {B : Nat} {a : Option Addr} {len cap : Nat} {ai : Option Addr} {ni ci : Nat} {l : List Ins} (h : OwnC w B a len cap (.slice ai ni ci)) (hi : IcAt w ai ni ci l) : CdAt w a len cap (List.replicate len l) := by
  obtain ⟨h1, h2, h3, h4⟩ := row_addr h.row
  have e := hi.size
  refine ⟨by simp, h1, h2, h3, fun hp => ?_⟩
  obtain ⟨g, rfl⟩ := h4 hp
  refine ⟨g, 0, rfl, fun j hj => ⟨ai, ci, ?_, ?_⟩⟩
  · rw [Nat.zero_add, h.row.cellAt j (by omega)]
    simp [List.getD, hj, e]
  · simp [List.getD, hj, e]
    exact hi
theorem infoSl : (Try.prog.info? 38).map (fun i => (i.zero, i.size, i.bytes)) = some (some (.slice none 0 0), 1, 24) := by kernel_rfl
theorem wpList_appC (w : World) {ops : Array Oper} {rest : List Oper} {o : Oper} {a : Act} {Q : Exit → Act → World → Prop} (hgd : o.guard = none) (s x : Operand)
    (ho : o.op = .call { callee := .builtin .append, args := #[s, x], argTypes := #[23, 23] })
    (B : Nat) (a1 : Option Addr) (n1 c1 : Nat) (u : Value) (hs : a.eval s = .slice a1 n1 c1) (hown : OwnC w B a1 n1 c1 u) (hu : u.oneCell' = true)
    (b c2 : Nat) (hx : a.eval x = .slice (some ⟨b, 0, none⟩) 1 c2) (hsrc : w.cell? ⟨b, 0, none⟩ = some u)
    (hb : n1 ≤ 1000) (hB : B ≤ w.heap.size)
    (h : ∀ a' c' w', OwnC w' B a' (n1 + 1) c' u → Below B w w' → w.grownBy w' (blkOf a1) → wpList Try.prog ops Q rest (a.put o.dst (.slice a' (n1 + 1) c')) w') :
    wpList Try.prog ops Q (o :: rest) a w := by
  refine wpList_appV w hgd s x _ 38 ho Try.underlying23 _ 1 24 infoSl rfl (by decide) B a1 n1 c1 _ hs hown.row (some ⟨b, 0, none⟩) 1 c2 [u] hx (fun e => by cases e) rfl (fun ad e j y hy => ?_) (by simpa using hu) (by unfold maxLen; omega) (by omega) hB (fun a' c' w' hr hb hg => h a' c' w' ⟨by rw [List.replicate_succ']; exact hr⟩ hb hg)
  obtain rfl := Option.some.inj e
  have hj : j = 0 := by have := (List.getElem?_eq_some_iff.1 hy).1; simpa using this
  subst hj
  simp at hy
  rw [Addr.add_lit, hsrc, hy]
end Go.Proofs.Ytehkcgjiimfdjaa
/- What the document's own run tells: rows of ints, one behind the other. -/
namespace Go.Proofs.Ytehkcgjiimfdjaa
open Go.RowKit
/-- One int appended to a row of ints of the call's own. -/
theorem wpList_app1 (w : World) {ops : Array Oper} {rest : List Oper} {o : Oper} {a : Act} {Q : Exit → Act → World → Prop} (v : Int) (hgd : o.guard = none) (s x : Operand)
    (ho : o.op = .call { callee := .builtin .append, args := #[s, x], argTypes := #[24, 24] })
    (B : Nat) (a1 : Option Addr) (n1 c1 : Nat) (xs : List Value) (hs : a.eval s = .slice a1 n1 c1) (hown : w.ownsRow B 3 1 (.slice a1 n1 c1) n1 xs)
    (hx : a.eval x = .slice (some ⟨w.heap.size, 0, none⟩) 1 1) (hb : n1 + 1 ≤ 17592186044416) (hB : B ≤ w.heap.size)
    (h : ∀ a' c' w', w'.ownsRow B 3 1 (.slice a' (n1 + 1) c') (n1 + 1) (xs ++ [.int .i64 v]) → Below B w w' → (w.alloc (.cells #[.int .i64 v] 3)).grownBy w' (blkOf a1) → wpList Try.prog ops Q rest (a.put o.dst (.slice a' (n1 + 1) c')) w') :
    wpList Try.prog ops Q (o :: rest) a (w.alloc (.cells #[.int .i64 v] 3)) := by
  have hA : Below w.heap.size w (w.alloc (.cells #[.int .i64 v] 3)) := (Below.refl _ _).alloc (Nat.le_refl _) _
  refine wpList_appV _ hgd s x _ 3 ho Try.underlying24 _ 1 8 infoI64 rfl (by decide) B a1 n1 c1 xs hs (row_below hown hA) (some ⟨w.heap.size, 0, none⟩) 1 1 [.int .i64 v] hx (fun e => by cases e) rfl (fun ad e => ?_) (fun u hu => by rw [List.mem_singleton.1 hu]; rfl) (by unfold maxLen; omega) (by omega) (by simp; omega) (fun a' c' w' hr hb hg => h a' c' w' hr ((hA.mono hB).trans hb) hg)
  obtain rfl := Option.some.inj e
  exact World.news_of_block (heap_alloc_new w _)
theorem IvAt.row {w : World} {B n c : Nat} {a : Option Addr} {l : List Int} (h : w.ownsRow B 3 1 (.slice a n c) n (cellsN l)) (hl : l.length = n) : IvAt w a n c l := by
  obtain ⟨h1, h2, _, h4⟩ := row_addr h
  refine ⟨hl, h1, h2, fun hp => ?_⟩
  obtain ⟨g, rfl⟩ := h4 hp
  refine ⟨g, 0, rfl, fun j hj => ?_⟩
  rw [Nat.zero_add, h.cellAt j (by omega), cellsN_get l j (by omega)]
theorem EmAt.row {w : World} {B n c : Nat} {a : Option Addr} {l : List (Nat × Int)} (h : w.ownsRow B 34 2 (.slice a n c) n (cellsE l)) (hl : l.length = n) : EmAt w a n c l := by
  obtain ⟨h1, h2, _, h4⟩ := row_addr h
  refine ⟨hl, h1, h2, fun hp => ?_⟩
  obtain ⟨g, rfl⟩ := h4 hp
  refine ⟨g, rfl, fun j hj => ?_⟩
  obtain ⟨c0, c1⟩ := cellsE_at l j (by omega)
  rw [h.cellAt _ (by omega), h.cellAt _ (by omega)]
  exact ⟨c0, c1⟩
/-- What is told, with some of the states there. -/
structure Rm (W wr : World) (ob : Nat) (x0 x1 x3 : Value) (sa : Option Addr) (sc k : Nat) (ss : List Int) : Prop where
  chg : Chg (fun b => b = ob) W wr
  box : Box wr ob 27 #[x0, x1, .slice sa k sc, x3]
  st : wr.ownsRow W.heap.size 3 1 (.slice sa k sc) k (cellsN (ss.take k))
theorem Rm.below {W wr w' : World} {ob : Nat} {x0 x1 x3 : Value} {sa : Option Addr} {sc k : Nat} {ss : List Int} (h : Rm W wr ob x0 x1 x3 sa sc k ss) (hb : Below wr.heap.size wr w') : Rm W w' ob x0 x1 x3 sa sc k ss :=
  ⟨h.chg.andThen (Chg.of (R := fun _ => False) hb) (fun _ _ h => h.elim), h.box.kept (hb.block _ h.box.lt), row_below h.st hb⟩
theorem Rm.grown {W wr w6 : World} {ob : Nat} {x0 x1 x3 : Value} {sa : Option Addr} {sc k : Nat} {ss : List Int} (h : Rm W wr ob x0 x1 x3 sa sc k ss) {o : Obj} (hg : (wr.alloc o).grownBy w6 (blkOf sa)) : Chg (fun b => b = ob) W w6 ∧ Box w6 ob 27 #[x0, x1, .slice sa k sc, x3] := by
  have h1 := h.below (w' := wr.alloc o) ((Below.refl _ _).alloc (Nat.le_refl _) _)
  refine ⟨h1.chg.andThen (Chg.grown hg) (fun b hb e => ?_), h1.box.kept (hg.block ob h1.box.lt (fun e => ?_))⟩
  · have := (h1.st.lt b (by rw [own_blk]; exact e)).1
    omega
  · exact tag_ne h1.box.tag (row_tag h1.st (by rw [own_blk]; exact e.symm)) (by decide) rfl
theorem Rm.next {W wr w6 : World} {ob : Nat} {x0 x1 x3 : Value} {sa : Option Addr} {sc k : Nat} {ss : List Int} (h : Rm W wr ob x0 x1 x3 sa sc k ss) (hk : k < ss.length) {v : Int} (hv : ss.getD k 0 = v) {o : Obj} {a' : Option Addr} {c' : Nat} (hr : w6.ownsRow W.heap.size 3 1 (.slice a' (k + 1) c') (k + 1) (cellsN (ss.take k) ++ [.int .i64 v])) (hg : (wr.alloc o).grownBy w6 (blkOf sa)) :
    Rm W (w6.setCell ⟨ob, 2, none⟩ (.slice a' (k + 1) c')) ob x0 x1 x3 a' c' (k + 1) ss := by
  obtain ⟨g1, g2⟩ := h.grown hg
  refine ⟨g1.set (fun _ => rfl) _ _, Box.eq (g2.set 2 _) (by simp), ?_⟩
  have e : cellsN (ss.take (k + 1)) = cellsN (ss.take k) ++ [.int .i64 v] := by
    rw [List.take_add_one, List.getElem?_eq_getElem hk, ← hv]
    show List.map _ _ = _
    rw [List.map_append]
    congr 1
    simp [List.getD, hk]
  rw [e]
  exact row_same hr fun b e => Below.heap_setCell _ _ _ _ (fun e2 => tag_ne g2.tag (row_tag hr e) (by decide) e2.symm)
end Go.Proofs.Ytehkcgjiimfdjaa
