/- sched, told plainly: tasks, the board, and what a pick does. -/
import Derived.WalkKit
namespace Go.Proofs.Ytehkcgjiimfdjaa
open Go.RowKit
structure Ins where
  op : Int
  a : Int
  b : Int
  c : Int
def ins0 : Ins := ⟨0, 0, 0, 0⟩
def isReg (n : Int) : Bool := decide (0 ≤ n) && decide (n < 4)
def isSh (n : Int) : Bool := decide (0 ≤ n) && decide (n < 16)
/-- May an instruction be, in a task of so many? -/
def insOk (x : Ins) (many : Nat) : Bool :=
  if x.op = 1 then isReg x.a && isSh x.b
  else if x.op = 2 then isSh x.a && isReg x.b
  else if x.op = 3 then isSh x.a && (isReg x.b && isReg x.c)
  else if x.op = 4 ∨ x.op = 5 ∨ x.op = 13 then isReg x.a
  else if x.op = 6 then isReg x.a && (decide (0 ≤ x.b) && decide (x.b ≤ (many : Int)))
  else if x.op = 7 then decide (0 ≤ x.b) && decide (x.b ≤ (many : Int))
  else if x.op = 10 then isSh x.b && isSh x.a
  else if x.op = 8 ∨ x.op = 9 ∨ x.op = 11 ∨ x.op = 12 then isSh x.a
  else decide (x.op = 14)
def codeOk (c : List Ins) : Bool := decide (c.length ≤ 64) && c.all fun x => insOk x c.length
def allOk (code : List (List Ins)) (cells : List Int) : Bool := decide (code.length ≤ 8) && decide (cells.length ≤ 16) && code.all codeOk
structure PTask where
  code : List Ins
  place : Nat
  r : List Int
  ph : Nat
def task0 : PTask := ⟨[], 0, [], 0⟩
def PTask.ins (t : PTask) : Ins := t.code.getD t.place ins0
structure PB where
  cells : List Int
  own : List (Option Nat)
  ts : List PTask
  em : List (Nat × Int)
  steps : Nat
def PTask.wants (t : PTask) : Option Nat := if t.ph = 2 then some t.ins.b.toNat else if t.ins.op = 8 then some t.ins.a.toNat else none
def PB.free (B : PB) : Option Nat → Bool
  | none => true
  | some m => (B.own.getD m none).isNone
def PB.canGo (B : PB) (t : PTask) : Bool := (t.ph == 0 || t.ph == 2) && B.free t.wants
def PB.t (B : PB) (i : Nat) : PTask := B.ts.getD i task0
def PB.setT (B : PB) (i : Nat) (t : PTask) : PB := { B with ts := B.ts.set i t }
def ableL (f : PTask → Bool) : List PTask → Nat → List Nat
  | [], _ => []
  | t :: r, k => if f t then k :: ableL f r (k + 1) else ableL f r (k + 1)
def PB.able (B : PB) : List Nat := ableL B.canGo B.ts 0
def PTask.goTo (t : PTask) (n : Nat) : PTask := { t with place := n, ph := if n = t.code.length then 3 else t.ph }
def PTask.reg (t : PTask) (k : Nat) (v : Int) : PTask := { t with r := t.r.set k v }
def PTask.at (t : PTask) (ph : Nat) : PTask := { t with ph := ph }
def PTask.get (t : PTask) (k : Int) : Int := t.r.getD k.toNat 0
def PB.get (B : PB) (k : Int) : Int := B.cells.getD k.toNat 0
def PB.put (B : PB) (k : Int) (v : Int) : PB := { B with cells := B.cells.set k.toNat v }
def PB.has (B : PB) (m : Int) (o : Option Nat) : PB := { B with own := B.own.set m.toNat o }
/-- Behind an instruction: to the next place, if the task still goes. -/
def PB.next (B : PB) (i : Nat) (n : Nat) : PB := if (B.t i).ph = 0 then B.setT i ((B.t i).goTo n) else B
def PB.release (B : PB) (i : Nat) (m : Int) (ph : Nat) : PB :=
  if B.own.getD m.toNat none = some i then (B.has m none).setT i ((B.t i).at ph) else B.setT i ((B.t i).at 4)
def tellL (c : Int) (all : Bool) : List PTask → List PTask
  | [] => []
  | t :: r => if t.ph = 1 ∧ t.ins.a = c then t.at 2 :: (if all then tellL c all r else r) else t :: tellL c all r
def PB.swap (B : PB) (i : Nat) (x : Ins) : PB :=
  if B.get x.a = (B.t i).get x.b then (B.put x.a ((B.t i).get x.c)).setT i ((B.t i).reg 3 1) else B.setT i ((B.t i).reg 3 0)
def PB.act (B : PB) (i : Nat) : PB :=
  let t := B.t i
  let x := t.ins
  if x.op = 1 then (B.setT i (t.reg x.a.toNat (B.get x.b))).next i (t.place + 1)
  else if x.op = 2 then (B.put x.a (t.get x.b)).next i (t.place + 1)
  else if x.op = 3 then (B.swap i x).next i (t.place + 1)
  else if x.op = 4 then (B.setT i (t.reg x.a.toNat x.b)).next i (t.place + 1)
  else if x.op = 5 then (B.setT i (t.reg x.a.toNat (wrap64 (t.get x.a + x.b)))).next i (t.place + 1)
  else if x.op = 6 then B.next i (if t.get x.a = 0 then x.b.toNat else t.place + 1)
  else if x.op = 7 then B.next i x.b.toNat
  else if x.op = 8 then (B.has x.a (some i)).next i (t.place + 1)
  else if x.op = 9 then (B.release i x.a 0).next i (t.place + 1)
  else if x.op = 10 then (if t.ph = 0 then B.release i x.b 1 else ((B.setT i (t.at 0)).has x.b (some i)).next i (t.place + 1))
  else if x.op = 11 then ({ B with ts := tellL x.a false B.ts }).next i (t.place + 1)
  else if x.op = 12 then ({ B with ts := tellL x.a true B.ts }).next i (t.place + 1)
  else if x.op = 13 then ({ B with em := B.em ++ [(i, t.get x.a)] }).next i (t.place + 1)
  else B.setT i (t.at 3)
def fromZ (p : Int) : Int := if p < 0 then -1 - p else p
def PB.more (B : PB) : PB := { B with steps := B.steps + 1 }
def PB.step (B : PB) (pick : Int) : PB :=
  if B.able.length = 0 then B else B.more.act (B.able.getD ((fromZ pick).toNat % B.able.length) 0)
def PB.run (B : PB) (picks : List Int) : PB := picks.foldl PB.step B
def fresh (c : List Ins) : PTask := PTask.goTo ⟨c, 0, [0, 0, 0, 0], 0⟩ 0
def begins (code : List (List Ins)) (cells : List Int) : PB := ⟨cells ++ List.replicate (16 - cells.length) 0, List.replicate 16 none, code.map fresh, [], 0⟩
def PB.state (B : PB) (t : PTask) : Int := if t.ph = 4 then 3 else if t.ph = 3 then 2 else if B.canGo t then 0 else 1
def PB.states (B : PB) : List Int := B.ts.map B.state
/-- What every board keeps. -/
structure PTask.Ok (t : PTask) : Prop where
  code : codeOk t.code = true
  regs : t.r.length = 4
  ph : t.ph ≤ 4
  place : t.ph < 3 → t.place < t.code.length
  waits : t.ph = 1 ∨ t.ph = 2 → t.ins.op = 10
  max : t.place ≤ 64
structure PB.Ok (B : PB) : Prop where
  cells : B.cells.length = 16
  own : B.own.length = 16
  many : B.ts.length ≤ 8
  tasks : ∀ i, i < B.ts.length → (B.t i).Ok
  owns : ∀ m k, B.own.getD m none = some k → k < B.ts.length
end Go.Proofs.Ytehkcgjiimfdjaa
