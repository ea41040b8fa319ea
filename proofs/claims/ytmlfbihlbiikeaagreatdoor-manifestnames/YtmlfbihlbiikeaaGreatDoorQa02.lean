/- The map of names' forms, in memory; the contract of forms. -/
import Derived.Test.YtmlfbihlbiikeaaGreatDoorQa01
import Derived.Maps.OwnSet
import Derived.Maps.Views
import Derived.Maps.RangeWalk
import Derived.WalkKit
import Derived.Deep.RegionHeld3
import Derived.Laws.Concat
namespace Go.Proofs.YtmlfbihlbiikeaaGreatDoor
open Go.RowKit
set_option linter.unusedVariables false
set_option linter.unusedSimpArgs false
abbrev TFm : TypeId := 75
abbrev TMf : TypeId := 76
abbrev TIm : TypeId := 3
theorem ba_eq15 {a b : ByteArray} (h : a.data.toList = b.data.toList) : a = b := by
  cases a; cases b
  congr 1
  exact Array.toList_inj.1 h
def fmA (k : Int) : List UInt8 := if k = 3 then manB else if k = 4 then curB else if k = 5 then tmpB else []
def fmB (k : Int) : List UInt8 := if k = 1 then logB else if k = 2 then tabB else []
def fmN (k : Int) : Bool := decide (k = 1 ∨ k = 2 ∨ k = 3)
def fmV (k : Int) : Value := .agg #[.string (strOf (fmA k)), .string (strOf (fmB k)), .bool (fmN k)]
def fmD (k : Int) : DataW Unit := .agg [.lit (.string (fmA k)), .lit (.string (fmB k)), .lit (.bool (fmN k))]
def formE : Value → Option (DataW Unit × List MemPlace)
  | .agg cs => match cs.toList with
    | [.string a, .string b, .bool n] => some (.agg [.lit (.string a.data.toList), .lit (.string b.data.toList), .lit (.bool n)], [])
    | _ => none
  | _ => none
theorem formE_mk (a b : ByteArray) (n : Bool) : formE (.agg #[.string a, .string b, .bool n]) = some (.agg [.lit (.string a.data.toList), .lit (.string b.data.toList), .lit (.bool n)], []) := rfl
theorem formE_inv {v : Value} {z : DataW Unit × List MemPlace} (h : formE v = some z) : ∃ (a b : ByteArray) (n : Bool), v = .agg #[.string a, .string b, .bool n] ∧ z = (.agg [.lit (.string a.data.toList), .lit (.string b.data.toList), .lit (.bool n)], []) := by
  unfold formE at h
  split at h
  · rename_i cs
    split at h
    · rename_i a b n e
      refine ⟨a, b, n, ?_, (Option.some.inj h).symm⟩
      congr 1
      exact Array.toList_inj.1 e
    · cases h
  · cases h
theorem fmV_mk (k : Int) : formE (fmV k) = some (fmD k, []) := by
  unfold fmV fmD
  rw [formE_mk]
  simp [strOf]
theorem lawI : Maps.Keyed Tryz.prog TIm := Maps.int_keyed Tryz.underlying3
abbrev litI (q : Int) : Lit := .int .i64 q
def WfI (q : Int) : Prop := -9223372036854775808 ≤ q ∧ q ≤ 9223372036854775807
theorem keyI {q : Int} (h : WfI q) : keyOf Tryz.prog TIm (.int .i64 q) = some (litI q) := by
  refine Maps.keyOf_int_mk Tryz.underlying3 ?_
  unfold WfI at h
  simp [Lit.wf, IntKind.min, IntKind.max, IntKind.signed, IntKind.bits]
  omega
theorem zeroF (w : World) : (zeroValue TFm).run Tryz.prog w = .ok (.agg #[.string ⟨#[]⟩, .string ⟨#[]⟩, .bool false]) w := by kernel_rfl
def formD : DataW Unit := .map [(litI 1, fmD 1), (litI 2, fmD 2), (litI 3, fmD 3), (litI 4, fmD 4), (litI 5, fmD 5)]
def MpF (w : World) (b : Nat) : Prop := w.ownsMap Tryz.prog TIm formE b 5 formD
def MpG (w : World) (b n : Nat) (D : DataW Unit) : Prop := w.ownsMap Tryz.prog TIm formE b n D
theorem MpG.made (w : World) : MpG (w.alloc (.map #[] 0)) w.heap.size 0 (.map []) := World.ownsMap_made w Tryz.prog TIm formE
theorem MpG.store {w : World} {b n : Nat} {D : DataW Unit} (h : MpG w b n D) (q : Int) (hq : WfI q) (hn : n < 1000000) : ∃ w', (Instr.mapUpdate TMf (.map (some b)) (.int .i64 q) (fmV q)).run Tryz.prog w = .ok () w' ∧ MpG w' b (n + 1) (D.put (litI q) (fmD q)) ∧ Chg (fun k => k = b) w w' := by
  obtain ⟨w', hr, ho, ht⟩ := World.ownsMap.store h lawI Tryz.underlying76 (by unfold maxLen; omega) (keyI hq) (val := fmV q) (fmV_mk q)
  refine ⟨w', hr, ho, ?_⟩
  exact (Chg.grown ht.grown).wide (fun k _ e => (Option.some.inj e).symm)
theorem formD_at (k : Int) (z : DataW Unit) : formD.atKey (litI k) z = if 1 ≤ k ∧ k ≤ 5 then fmD k else z := by
  unfold formD DataW.atKey
  by_cases h1 : k = 1
  · subst h1; rfl
  by_cases h2 : k = 2
  · subst h2; rfl
  by_cases h3 : k = 3
  · subst h3; rfl
  by_cases h4 : k = 4
  · subst h4; rfl
  by_cases h5 : k = 5
  · subst h5; rfl
  have n1 : ¬ (1 ≤ k ∧ k ≤ 5) := by omega
  rw [if_neg n1]
  simp [Lit.sameKey, List.find?, show ¬ (1 : Int) = k by omega, show ¬ (2 : Int) = k by omega, show ¬ (3 : Int) = k by omega, show ¬ (4 : Int) = k by omega, show ¬ (5 : Int) = k by omega, beq_eq_false_iff_ne.2 (show (1 : Int) ≠ k by omega), beq_eq_false_iff_ne.2 (show (2 : Int) ≠ k by omega), beq_eq_false_iff_ne.2 (show (3 : Int) ≠ k by omega), beq_eq_false_iff_ne.2 (show (4 : Int) ≠ k by omega), beq_eq_false_iff_ne.2 (show (5 : Int) ≠ k by omega)]
theorem fmD_inj {a b : ByteArray} {n : Bool} {k : Int} (h : (.agg [.lit (.string a.data.toList), .lit (.string b.data.toList), .lit (.bool n)] : DataW Unit) = fmD k) : (.agg #[.string a, .string b, .bool n] : Value) = fmV k := by
  unfold fmD at h
  simp only [DataW.agg.injEq, List.cons.injEq, DataW.lit.injEq, Lit.string.injEq, Lit.bool.injEq, and_true] at h
  obtain ⟨h1, h2, h3⟩ := h
  unfold fmV
  have e1 : a = strOf (fmA k) := by
    exact ba_eq15 (by rw [h1]; simp [strOf])
  have e2 : b = strOf (fmB k) := by
    exact ba_eq15 (by rw [h2]; simp [strOf])
  rw [e1, e2, h3]
def fmX (k : Int) : Value := if 1 ≤ k ∧ k ≤ 5 then fmV k else .agg #[.string ⟨#[]⟩, .string ⟨#[]⟩, .bool false]
theorem fmX_eq (k : Int) : fmX k = fmV k := by
  unfold fmX
  split
  · rfl
  · unfold fmV fmA fmB fmN
    rw [if_neg (by omega), if_neg (by omega), if_neg (by omega), if_neg (by omega), if_neg (by omega), decide_eq_false (by omega)]
    rfl
theorem MpF.look {w : World} {b : Nat} (h : MpF w b) {k : Int} (hk : WfI k) : (Instr.lookup TMf (.map (some b)) (.int .i64 k) false).run Tryz.prog w = .ok (fmV k) w := by
  obtain ⟨v, ps, hr, hv⟩ := World.ownsMap.lookup h lawI Tryz.underlying76 (zeroF w) (formE_mk _ _ _) (keyI hk)
  obtain ⟨a, c, n, rfl, hz⟩ := formE_inv hv
  rw [hr]
  simp only [Prod.mk.injEq] at hz
  have h2 := hz.1
  rw [formD_at] at h2
  by_cases h1 : 1 ≤ k ∧ k ≤ 5
  · rw [if_pos h1] at h2
    rw [fmD_inj h2.symm]
  · rw [if_neg h1] at h2
    have e : (.agg [.lit (.string a.data.toList), .lit (.string c.data.toList), .lit (.bool n)] : DataW Unit) = fmD k := by
      rw [← h2]
      unfold fmD fmA fmB fmN
      rw [if_neg (by omega), if_neg (by omega), if_neg (by omega), if_neg (by omega), if_neg (by omega), decide_eq_false (by omega)]
    rw [fmD_inj e]
set_option maxRecDepth 100000 in
set_option maxHeartbeats 2000000 in
theorem forms_any (w : World) : Calls Tryz.prog 32 #[] w fun e w' => ∃ b, e = .returned (.map (some b)) ∧ MpF w' b ∧ w.heap.size ≤ b ∧ Below w.heap.size w w' := by
  obtain ⟨w1, r1, m1, c1⟩ := (MpG.made w).store 1 (by unfold WfI; omega) (by omega)
  obtain ⟨w2, r2, m2, c2⟩ := m1.store 2 (by unfold WfI; omega) (by omega)
  obtain ⟨w3, r3, m3, c3⟩ := m2.store 3 (by unfold WfI; omega) (by omega)
  obtain ⟨w4, r4, m4, c4⟩ := m3.store 4 (by unfold WfI; omega) (by omega)
  obtain ⟨w5, r5, m5, c5⟩ := m4.store 5 (by unfold WfI; omega) (by omega)
  have e5 : ((((((.map [] : DataW Unit).put (litI 1) (fmD 1)).put (litI 2) (fmD 2)).put (litI 3) (fmD 3)).put (litI 4) (fmD 4)).put (litI 5) (fmD 5)) = formD := rfl
  rw [e5] at m5
  have hb : Below w.heap.size w w5 := by
    have h0 : Below w.heap.size w (w.alloc (.map #[] 0)) := (Below.refl _ _).alloc (Nat.le_refl _) _
    have z : w.heap.size ≤ (w.alloc (.map #[] 0)).heap.size := h0.size
    have s1 := c1.size
    have s2 := c2.size
    have s3 := c3.size
    have s4 := c4.size
    exact h0.trans ((((c1.below (B := w.heap.size) (fun k hk => by omega) z).trans (c2.below (fun k hk => by omega) (by omega))).trans (c3.below (fun k hk => by omega) (by omega))).trans ((c4.below (fun k hk => by omega) (by omega)).trans (c5.below (fun k hk => by omega) (by omega))))
  have HE : Hid (MpF w5 w.heap.size ∧ Below w.heap.size w w5) := ⟨m5, hb⟩
  clear m1 m2 m3 m4 m5 c1 c2 c3 c4 c5 e5 hb
  have v1 : fmV 1 = .agg #[.string ⟨#[]⟩, .string ⟨#[46, 108, 111, 103]⟩, .bool true] := rfl
  have v2 : fmV 2 = .agg #[.string ⟨#[]⟩, .string ⟨#[46, 116, 97, 98]⟩, .bool true] := rfl
  have v3 : fmV 3 = .agg #[.string ⟨#[77, 65, 78, 73, 70, 69, 83, 84, 45]⟩, .string ⟨#[]⟩, .bool true] := rfl
  have v4 : fmV 4 = .agg #[.string ⟨#[67, 85, 82, 82, 69, 78, 84]⟩, .string ⟨#[]⟩, .bool false] := rfl
  have v5 : fmV 5 = .agg #[.string ⟨#[67, 85, 82, 82, 69, 78, 84, 46, 116, 109, 112]⟩, .string ⟨#[]⟩, .bool false] := rfl
  rw [v1] at r1
  rw [v2] at r2
  rw [v3] at r3
  rw [v4] at r4
  rw [v5] at r5
  have hmm : ∀ w : World, (Instr.makeMap TMf none).run Tryz.prog w = .ok (.map (some w.heap.size)) (w.alloc (.map #[] 0)) := fun w => by kernel_rfl
  go_enter Tryz.func32, Tryz.ntmps32
  go_wp2
  go_ret
  exact ⟨_, rfl, HE.out.1, Nat.le_refl _, HE.out.2⟩
end Go.Proofs.YtmlfbihlbiikeaaGreatDoor
namespace Go.Proofs.YtmlfbihlbiikeaaGreatDoor

structure PFile where
  b : List UInt8
  last : Nat
structure PName where
  name : List UInt8
  file : Nat
structure PChange where
  kind : Nat
  name : List UInt8
  «to» : List UInt8
  file : Nat
structure PFs where
  files : List PFile
  names : List PName
  lasts : List PName
  since : List PChange
  quota : Nat
  fused : Bool
  fuse : Int
  fails : Bool
  fail : Int
  asked : Nat
def file0 : PFile := ⟨[], 0⟩

def ltB : List UInt8 → List UInt8 → Bool
  | _, [] => false
  | [], _ :: _ => true
  | a :: r, b :: s => if a.toNat < b.toNat then true else if b.toNat < a.toNat then false else ltB r s
def without (l : List PName) (name : List UInt8) : List PName := l.filter (fun x => x.name != name)
def insN (n : PName) : List PName → List PName
  | [] => [n]
  | x :: r => if ltB n.name x.name then n :: x :: r else x :: insN n r
def withN (l : List PName) (n : PName) : List PName := insN n (without l n.name)
def findN (l : List PName) (name : List UInt8) : Option Nat := (l.find? (fun x => x.name == name)).map (·.file)
def changedN (l : List PName) (c : PChange) : List PName :=
  if c.kind = 1 then withN l ⟨c.name, c.file⟩ else if c.kind = 2 then withN (without l c.name) ⟨c.to, c.file⟩ else without l c.name
def goodN (name : List UInt8) : Bool := decide (0 < name.length) && decide (name.length ≤ 32)

namespace PFs
def new (quota : Nat) : PFs := ⟨[], [], [], [], quota, false, 0, false, 0, 0⟩
def off (S : PFs) : Bool := S.fused && (S.fuse == 0)
def ask (S : PFs) : PFs × Nat :=
  if S.off = true then ({ S with asked := S.asked + 1 }, 44)
  else if S.fails = true then
    (if S.fail = 0 then ({ S with asked := S.asked + 1, fuse := if S.fused then S.fuse - 1 else S.fuse, fails := false }, 45)
     else ({ S with asked := S.asked + 1, fuse := if S.fused then S.fuse - 1 else S.fuse, fail := S.fail - 1 }, 0))
  else ({ S with asked := S.asked + 1, fuse := if S.fused then S.fuse - 1 else S.fuse }, 0)
def change (S : PFs) (c : PChange) : PFs := { S with names := changedN S.names c, since := S.since ++ [c] }
def create (S : PFs) (name : List UInt8) : PFs × Nat :=
  if S.ask.2 ≠ 0 then S.ask
  else if goodN name = false then (S.ask.1, 40)
  else if (findN S.names name).isSome then (S.ask.1, 41)
  else (({ S.ask.1 with files := S.files ++ [file0] } : PFs).change ⟨1, name, [], S.files.length⟩, 0)
def fileOf (S : PFs) (k : Nat) : PFile := S.files.getD k file0
def bulk (S : PFs) (l : List PName) : Nat := match l with
  | [] => 0
  | n :: r => (S.fileOf n.file).b.length + S.bulk r
def append (S : PFs) (name b : List UInt8) : PFs × Nat :=
  if S.ask.2 ≠ 0 then S.ask
  else match findN S.names name with
    | none => (S.ask.1, 42)
    | some k => if S.quota < b.length + S.bulk S.names then (S.ask.1, 43)
      else ({ S.ask.1 with files := S.files.set k ⟨(S.fileOf k).b ++ b, (S.fileOf k).last⟩ }, 0)
def sync (S : PFs) (name : List UInt8) : PFs × Nat :=
  if S.ask.2 ≠ 0 then S.ask
  else match findN S.names name with
    | none => (S.ask.1, 42)
    | some k => ({ S.ask.1 with files := S.files.set k ⟨(S.fileOf k).b, (S.fileOf k).b.length⟩ }, 0)
def rename (S : PFs) (a b : List UInt8) : PFs × Nat :=
  if S.ask.2 ≠ 0 then S.ask
  else match findN S.names a with
    | none => (S.ask.1, 42)
    | some k => if goodN b = false then (S.ask.1, 40) else (S.ask.1.change ⟨2, a, b, k⟩, 0)
def remove (S : PFs) (name : List UInt8) : PFs × Nat :=
  if S.ask.2 ≠ 0 then S.ask
  else match findN S.names name with
    | none => (S.ask.1, 42)
    | some _ => (S.ask.1.change ⟨3, name, [], 0⟩, 0)
def syncDir (S : PFs) : PFs × Nat :=
  if S.ask.2 ≠ 0 then S.ask else ({ S.ask.1 with lasts := S.names, since := [] }, 0)
def read (S : PFs) (name : List UInt8) : List UInt8 × Nat :=
  if S.off = true then ([], 44) else match findN S.names name with
    | none => ([], 42)
    | some k => ((S.fileOf k).b, 0)
def list (S : PFs) : List (List UInt8) × Nat := if S.off = true then ([], 44) else (S.names.map (·.name), 0)
def setFuse (S : PFs) (n : Int) : PFs := { S with fused := decide (0 ≤ n), fuse := n }
def setFail (S : PFs) (n : Int) : PFs := { S with fails := decide (0 ≤ n), fail := n }
def pick (picks : List Int) (i most : Nat) : Nat :=
  ((if picks.getD i 0 < 0 then -1 - picks.getD i 0 else picks.getD i 0) % ((most : Int) + 1)).toNat
def cut (f : PFile) (n : Nat) : PFile := ⟨f.b.take n, n⟩
def crashFiles (picks : List Int) : List PName → Nat → List PFile → List PFile
  | [], _, fs => fs
  | n :: r, i, fs => crashFiles picks r (i + 1) (fs.set n.file (cut (fs.getD n.file file0) ((fs.getD n.file file0).last + pick picks (i + 1) ((fs.getD n.file file0).b.length - (fs.getD n.file file0).last))))
def stays (S : PFs) (picks : List Int) : List PName := (S.since.take (pick picks 0 S.since.length)).foldl changedN S.lasts
def crash (S : PFs) (picks : List Int) : PFs :=
  { S with names := S.stays picks, lasts := S.stays picks, since := [], files := crashFiles picks (S.stays picks) 0 S.files, fused := false, fails := false }
end PFs
end Go.Proofs.YtmlfbihlbiikeaaGreatDoor
namespace Go.Proofs.YtmlfbihlbiikeaaGreatDoor
open Go.RowKit

structure Kp (R : Nat → Prop) (w w' : World) : Prop where
  os : w'.os = w.os
  tape : w'.tape = w.tape
  output : w'.output = w.output
  size : w.heap.size ≤ w'.heap.size
  block : ∀ k, R k → k < w.heap.size → w'.heap[k]? = w.heap[k]?
theorem Kp.below {B : Nat} {R : Nat → Prop} {w w' : World} (h : Kp R w w') (hR : ∀ k, k < B → R k) (hB : B ≤ w.heap.size) : Below B w w' := ⟨h.os, h.tape, h.output, h.size, fun k hk => h.block k (hR k hk) (Nat.lt_of_lt_of_le hk hB)⟩

structure SsAt (w : World) (a : Option Addr) (len cap : Nat) (l : List (List UInt8)) : Prop where
  size : l.length = len
  le : len ≤ cap
  max : cap ≤ maxLen
  bare : a = none → cap = 0
  here : 0 < len → ∃ b off, a = some ⟨b, off, none⟩ ∧ ∀ j, j < len → w.cell? ⟨b, off + j, none⟩ = some (.string (strOf (l.getD j [])))
theorem SsAt.kept {R : Nat → Prop} {w w' : World} {a : Option Addr} {len cap : Nat} {l : List (List UInt8)} (h : SsAt w a len cap l) (hb : Kp R w w') (hR : ∀ ad, a = some ad → R ad.block) : SsAt w' a len cap l :=
  ⟨h.size, h.le, h.max, h.bare, fun hp => by
    obtain ⟨b, off, ha, hc⟩ := h.here hp
    refine ⟨b, off, ha, fun j hj => ?_⟩
    have e := hb.block b (hR _ ha) (World.block_lt_of_cell? w _ (hc j hj))
    have := hc j hj
    simp only [World.cell?] at this ⊢
    rw [e]
    exact this⟩
abbrev Fss := List (Nat × PFs)
abbrev Face := World → (Nat → Prop) → Fss → Fss → Prop
structure FsOk (J : Face) : Prop where
  zero : ∀ w, J w (fun k => k < w.heap.size) [] []
  turn : ∀ {w w' R l r}, J w R l r → Chg R w w' → J w' (fun k => R k ∨ (w.heap.size ≤ k ∧ k < w'.heap.size)) l r
  less : ∀ {w l r} {R R' : Nat → Prop}, J w R l r → (∀ k, R' k → R k) → J w R' l r
  new : ∀ {w R l r} (q : Int), (-9223372036854775808 ≤ q ∧ q ≤ 9223372036854775807) → J w R l r → Calls Tryz.prog 14 #[.int .i64 q] w fun e w' =>
    ((0 ≤ q ∧ q ≤ 1048576) ∧ ∃ p, e = .returned (.tuple #[at_ p, .int .i64 0]) ∧ J w' R (l ++ [(p, PFs.new q.toNat)]) r ∧ Kp R w w') ∨
    (¬ (0 ≤ q ∧ q ≤ 1048576) ∧ e = .returned (.tuple #[.pointer none, .int .i64 1]) ∧ J w' R l r ∧ Kp R w w')
  create : ∀ {w R l r p S} (i : Nat) (name : ByteArray), J w R l r → l[i]? = some (p, S) → S.asked < 1000000 → Calls Tryz.prog 16 #[at_ p, .string name] w fun e w' =>
    e = .returned (.int .i64 ((S.create name.data.toList).2 : Nat)) ∧ J w' R (l.set i (p, (S.create name.data.toList).1)) r ∧ Kp R w w'
  append : ∀ {w R l r p S} (i : Nat) (name : ByteArray) (a : Option Addr) (len cap : Nat) (bs : List UInt8), J w R l r → l[i]? = some (p, S) → S.asked < 1000000 → BsAt w a len cap bs → len ≤ 140737488355328 → Calls Tryz.prog 18 #[at_ p, .string name, .slice a len cap] w fun e w' =>
    e = .returned (.int .i64 ((S.append name.data.toList bs).2 : Nat)) ∧ J w' R (l.set i (p, (S.append name.data.toList bs).1)) r ∧ Kp R w w'
  sync : ∀ {w R l r p S} (i : Nat) (name : ByteArray), J w R l r → l[i]? = some (p, S) → S.asked < 1000000 → Calls Tryz.prog 74 #[at_ p, .string name] w fun e w' =>
    e = .returned (.int .i64 ((S.sync name.data.toList).2 : Nat)) ∧ J w' R (l.set i (p, (S.sync name.data.toList).1)) r ∧ Kp R w w'
  rename : ∀ {w R l r p S} (i : Nat) (a b : ByteArray), J w R l r → l[i]? = some (p, S) → S.asked < 1000000 → Calls Tryz.prog 103 #[at_ p, .string a, .string b] w fun e w' =>
    e = .returned (.int .i64 ((S.rename a.data.toList b.data.toList).2 : Nat)) ∧ J w' R (l.set i (p, (S.rename a.data.toList b.data.toList).1)) r ∧ Kp R w w'
  remove : ∀ {w R l r p S} (i : Nat) (name : ByteArray), J w R l r → l[i]? = some (p, S) → S.asked < 1000000 → Calls Tryz.prog 157 #[at_ p, .string name] w fun e w' =>
    e = .returned (.int .i64 ((S.remove name.data.toList).2 : Nat)) ∧ J w' R (l.set i (p, (S.remove name.data.toList).1)) r ∧ Kp R w w'
  syncDir : ∀ {w R l r p S} (i : Nat), J w R l r → l[i]? = some (p, S) → S.asked < 1000000 → Calls Tryz.prog 58 #[at_ p] w fun e w' =>
    e = .returned (.int .i64 (S.syncDir.2 : Nat)) ∧ J w' R (l.set i (p, S.syncDir.1)) r ∧ Kp R w w'
  read : ∀ {w R l r p S} (i : Nat) (name : ByteArray), J w R l r → l[i]? = some (p, S) → Calls Tryz.prog 31 #[at_ p, .string name] w fun e w' =>
    ∃ a c, e = .returned (.tuple #[.slice a (S.read name.data.toList).1.length c, .int .i64 ((S.read name.data.toList).2 : Nat)]) ∧ OwnB w' w.heap.size a (S.read name.data.toList).1.length c (S.read name.data.toList).1 ∧ J w' (fun k => R k ∨ (Value.slice a (S.read name.data.toList).1.length c).ownBlock = some k) l r ∧ Kp R w w'
  fuse : ∀ {w R l r p S} (i : Nat) (n : Int), (-9223372036854775808 ≤ n ∧ n ≤ 9223372036854775807) → J w R l r → l[i]? = some (p, S) → Calls Tryz.prog 28 #[at_ p, .int .i64 n] w fun e w' =>
    e = .returned (.tuple #[]) ∧ J w' R (l.set i (p, S.setFuse n)) r ∧ Kp R w w'
  fail : ∀ {w R l r p S} (i : Nat) (n : Int), (-9223372036854775808 ≤ n ∧ n ≤ 9223372036854775807) → J w R l r → l[i]? = some (p, S) → Calls Tryz.prog 30 #[at_ p, .int .i64 n] w fun e w' =>
    e = .returned (.tuple #[]) ∧ J w' R (l.set i (p, S.setFail n)) r ∧ Kp R w w'
  crash : ∀ {w R l r p S} (i : Nat) (a : Option Addr) (len cap : Nat) (picks : List Int), J w R l r → l[i]? = some (p, S) → IsAt w a len cap picks → (0 < len → ∀ ad, a = some ad → R ad.block) → Calls Tryz.prog 26 #[at_ p, .slice a len cap] w fun e w' =>
    e = .returned (.tuple #[]) ∧ J w' R (l.set i (p, S.crash picks)) r ∧ Kp R w w'
theorem FsOk.step {J : Face} (h : FsOk J) {w w' : World} {R : Nat → Prop} {l r : Fss} (hj : J w R l r) (hb : Below w.heap.size w w') : J w' R l r := h.less (h.turn hj (Chg.of hb)) (fun _ hk => .inl hk)
end Go.Proofs.YtmlfbihlbiikeaaGreatDoor
namespace Go.Proofs.YtmlfbihlbiikeaaGreatDoor
open Go.Shelf Go.RowKit Go.Lib
set_option linter.unusedVariables false
set_option linter.unusedSimpArgs false
structure Gl (w : World) : Prop where
  pow : Pow w
  syn : ∃ tp p, w.var? Tryz.prog "strconv.ErrSyntax" = some #[.iface tp p]
  rng : ∃ tp p, w.var? Tryz.prog "strconv.ErrRange" = some #[.iface tp p]
theorem gl_pow : Tryz.prog.globalNamed "internal/strconv.uint64pow10" = some 0 := by kernel_rfl
theorem gl_syn : Tryz.prog.globalNamed "strconv.ErrSyntax" = some 1 := by kernel_rfl
theorem gl_rng : Tryz.prog.globalNamed "strconv.ErrRange" = some 2 := by kernel_rfl
theorem var_same {w w' : World} {name : String} {g : Nat} (hg : Tryz.prog.globalNamed name = some g) (e : w'.heap[g]? = w.heap[g]?) : w'.var? Tryz.prog name = w.var? Tryz.prog name := by
  unfold World.var?
  rw [hg]
  simp [e]
theorem var_lt {w : World} {name : String} {g : Nat} {x : Array Value} (hg : Tryz.prog.globalNamed name = some g) (h : w.var? Tryz.prog name = some x) : g < w.heap.size := by
  unfold World.var? at h
  rw [hg] at h
  simp only [Option.bind_some] at h
  cases e : w.heap[g]? with
  | none => rw [e] at h; cases h
  | some o => exact (Array.getElem?_eq_some_iff.1 e).1
theorem Gl.below {B : Nat} {w w' : World} (h : Gl w) (hB : w.heap.size ≤ B) (hb : Below B w w') : Gl w' := by
  obtain ⟨t1, p1, h1⟩ := h.syn
  obtain ⟨t2, p2, h2⟩ := h.rng
  have l1 := var_lt gl_syn h1
  have l2 := var_lt gl_rng h2
  have l0 : 0 < w.heap.size := by
    have := h.pow
    unfold Pow Lib.TabIs at this
    exact var_lt gl_pow this
  refine ⟨?_, ⟨t1, p1, ?_⟩, ⟨t2, p2, ?_⟩⟩
  · have := h.pow
    unfold Pow Lib.TabIs at this ⊢
    rw [var_same gl_pow (hb.block _ (by omega))]
    exact this
  · rw [var_same gl_syn (hb.block _ (by omega))]
    exact h1
  · rw [var_same gl_rng (hb.block _ (by omega))]
    exact h2
theorem Gl.later {w w' : World} (h : Gl w) (hb : Below w.heap.size w w') : Gl w' := h.below (Nat.le_refl _) hb
theorem Gl.kp {R : Nat → Prop} {w w' : World} (h : Gl w) (hk : Kp R w w') (hR : ∀ g, g < 6 → R g) : Gl w' := by
  obtain ⟨t1, p1, h1⟩ := h.syn
  obtain ⟨t2, p2, h2⟩ := h.rng
  have l1 := var_lt gl_syn h1
  have l2 := var_lt gl_rng h2
  have l0 : 0 < w.heap.size := by
    have := h.pow
    unfold Pow Lib.TabIs at this
    exact var_lt gl_pow this
  refine ⟨?_, ⟨t1, p1, ?_⟩, ⟨t2, p2, ?_⟩⟩
  · have := h.pow
    unfold Pow Lib.TabIs at this ⊢
    rw [var_same gl_pow (hk.block _ (hR _ (by decide)) (by omega))]
    exact this
  · rw [var_same gl_syn (hk.block _ (hR _ (by decide)) (by omega))]
    exact h1
  · rw [var_same gl_rng (hk.block _ (hR _ (by decide)) (by omega))]
    exact h2
def mayN (n : Nat) : Bool := decide (1 ≤ n ∧ n ≤ 1099511627776)
theorem may_any (n : Nat) (w : World) : Calls Tryz.prog 33 #[.int .u64 (n : Int)] w fun e w' => e = .returned (.bool (mayN n)) ∧ w = w' := by
  go_enter Tryz.func33, Tryz.ntmps33
  by_cases h1 : (1 : Int) ≤ (n : Int)
  · by_cases h2 : (n : Int) ≤ 1099511627776
    · go_wp2
      go_ret
      exact ⟨ret1 (by unfold mayN; simp; omega), rfl⟩
    · go_wp2
      go_ret
      exact ⟨ret1 (by unfold mayN; simp; omega), rfl⟩
  · go_wp2
    go_ret
    exact ⟨ret1 (by unfold mayN; simp; omega), rfl⟩
def madeN (a b : List UInt8) (nb : Bool) (n : Nat) : List UInt8 := a ++ ((if nb then numB n else []) ++ b)
theorem strOf_size (l : List UInt8) : (strOf l).size = l.length := by
  show l.toArray.size = l.length
  simp
theorem strOf_add (a b : List UInt8) : strOf a ++ strOf b = strOf (a ++ b) := by
  unfold strOf
  exact ByteArray.mk_append_mk _ _
theorem dec_any (n : Nat) (h : n < 18446744073709551616) : (decDigits n).length ≤ 20 := dec_len 19 n (by omega)
theorem numB_any (n : Nat) (h : n < 18446744073709551616) : (numB n).length ≤ 26 := by
  have := dec_any n h
  unfold numB pad6
  rw [List.length_append, List.length_replicate]
  omega
theorem rep_eq (c : Nat) : Lib.repeatL [48] c = List.replicate c 48 := by
  induction c with
  | zero => rfl
  | succ c ih =>
    show [48] ++ Lib.repeatL [48] c = _
    rw [ih, List.replicate_succ]
    rfl
set_option maxRecDepth 100000 in
set_option maxHeartbeats 1000000 in
theorem fname_any (a b : List UInt8) (nb : Bool) (n : Nat) (ha : a.length ≤ 1000) (hb : b.length ≤ 1000) (hn : n < 18446744073709551616) (w : World) (hg : Gl w) :
    Calls Tryz.prog 34 #[.agg #[.string (strOf a), .string (strOf b), .bool nb], .int .u64 (n : Int)] w fun e w' => e = .returned (.string (strOf (madeN a b nb n))) ∧ Below w.heap.size w w' := by
  have HB : Hid (Below w.heap.size w (w.alloc (.cells #[.string (strOf a), .string (strOf b), .bool nb] TFm)) ∧ Gl w) := ⟨(Below.refl _ _).alloc (Nat.le_refl _) _, hg⟩
  have hdl := numB_any n hn
  have HD := dec_any n hn
  cases nb with
  | false =>
    have s1 : ∀ V : World, (Op.stringOp .add (strOf a) ⟨#[]⟩).run Tryz.prog V = .ok (.string (strOf a)) V := fun V => by
      have := run_string_add_sum (P := Tryz.prog) V (strOf a) (strOf []) (by rw [strOf_size, strOf_size]; simp; omega)
      rw [strOf_add, List.append_nil] at this
      exact this
    have s2 : ∀ V : World, (Op.stringOp .add (strOf a) (strOf b)).run Tryz.prog V = .ok (.string (strOf (a ++ b))) V := fun V => by
      rw [run_string_add_sum (P := Tryz.prog) V _ _ (by rw [strOf_size, strOf_size]; omega), strOf_add]
    have hE : madeN a b false n = a ++ b := rfl
    rw [hE]
    generalize strOf (a ++ b) = X at s2 ⊢
    generalize strOf a = A at *
    generalize strOf b = Bq at *
    clear hg
    go_enter Tryz.func34, Tryz.ntmps34
    go_wp2
    go_ret
    exact ⟨rfl, HB.out.1⟩
  | true =>
    have s1 : ∀ V : World, (Op.stringOp .add (strOf a) (strOf (numB n))).run Tryz.prog V = .ok (.string (strOf (a ++ numB n))) V := fun V => by
      rw [run_string_add_sum (P := Tryz.prog) V _ _ (by rw [strOf_size, strOf_size]; omega), strOf_add]
    have s2 : ∀ V : World, (Op.stringOp .add (strOf (a ++ numB n)) (strOf b)).run Tryz.prog V = .ok (.string (strOf (madeN a b true n))) V := fun V => by
      rw [run_string_add_sum (P := Tryz.prog) V _ _ (by rw [strOf_size, strOf_size, List.length_append]; omega), strOf_add, List.append_assoc]
      rfl
    obtain ⟨m, hm⟩ : ∃ m : Nat, m = 6 - (decDigits n).length := ⟨_, rfl⟩
    have HMX : Hid (max (0 : Int) (6 - ((decDigits n).length : Int)) = (m : Int)) := by unfold Hid; omega
    have s0 : ∀ V : World, (Op.stringOp .add (strOf (List.replicate m 48)) (strOf (decDigits n))).run Tryz.prog V = .ok (.string (strOf (numB n))) V := fun V => by
      rw [run_string_add_sum (P := Tryz.prog) V _ _ (by rw [strOf_size, strOf_size, List.length_replicate]; omega), strOf_add, hm]
      rfl
    have hrep : ∀ V : World, Calls Tryz.prog 77 #[.string ⟨#[48]⟩, .int .i64 (m : Int)] V fun e w' => e = .returned (.string (strOf (List.replicate m 48))) ∧ Below V.heap.size V w' := fun V => by
      have := Any.strings_Repeat repL repX ⟨#[48]⟩ m V (by omega) (by show 1 * m ≤ _; omega)
      have e : Lib.repeatL (⟨#[48]⟩ : ByteArray).data.toList m = List.replicate m 48 := rep_eq m
      rw [e] at this
      exact this
    have hsz : (strOf (decDigits n)).size = (decDigits n).length := strOf_size _
    have HFM := fun V (h : Gl V) => fmt_any n hn V h.pow
    have eS : ∀ l : List UInt8, (⟨l.toArray⟩ : ByteArray) = strOf l := fun l => rfl
    simp only [eS] at HFM
    generalize strOf (madeN a b true n) = X at s2 ⊢
    generalize strOf (a ++ numB n) = Y at s1 s2
    generalize strOf (numB n) = Z at s0 s1
    generalize strOf (decDigits n) = Dq at *
    generalize strOf (List.replicate m 48) = Rq at *
    generalize (decDigits n).length = d at *
    generalize strOf a = A at *
    generalize strOf b = Bq at *
    clear hg eS
    go_enter Tryz.func34, Tryz.ntmps34
    go_wp2_with fail
    refine (HFM _ (HB.out.2.later HB.out.1)).mono ?_
    rintro _ w2 ⟨rfl, hb2⟩
    have H2 : Hid (Below w.heap.size w w2 ∧ Box w2 w.heap.size TFm #[.string A, .string Bq, .bool true]) := ⟨HB.out.1.trans (hb2.mono HB.out.1.size), (Box.new _ _ _).kept (hb2.block _ (by simp))⟩
    have c0 := H2.out.2.cell 0
    have c1 := H2.out.2.cell 1
    clear hb2
    go_wp2_with fail
    rw [HMX.out]
    refine (hrep _).mono ?_
    rintro _ w3 ⟨rfl, hb3⟩
    have H3 : Hid (Below w.heap.size w w3 ∧ Box w3 w.heap.size TFm #[.string A, .string Bq, .bool true]) := ⟨H2.out.1.trans (hb3.mono H2.out.1.size), H2.out.2.kept (hb3.block _ H2.out.2.lt)⟩
    have d0 := H3.out.2.cell 0
    have d1 := H3.out.2.cell 1
    clear hb3
    go_wp2
    go_ret
    exact ⟨rfl, H3.out.1⟩
theorem made_name (k : Int) (n : Nat) : (if fmN k = true ∧ mayN n = false then [] else madeN (fmA k) (fmB k) (fmN k) n) = nameP k n := by
  unfold nameP
  by_cases h4 : k = 4
  · subst h4; rfl
  rw [if_neg h4]
  by_cases h5 : k = 5
  · subst h5; rfl
  rw [if_neg h5]
  by_cases hk : k = 1 ∨ k = 2 ∨ k = 3
  · have hN : fmN k = true := decide_eq_true hk
    by_cases hm : n < 1 ∨ 1099511627776 < n
    · rw [if_pos hm, if_pos ⟨hN, decide_eq_false (by omega)⟩]
    · rw [if_neg hm, if_neg (fun h => by have := h.2; unfold mayN at this; rw [decide_eq_true (by omega)] at this; cases this)]
      rcases hk with rfl | rfl | rfl
      · rfl
      · rfl
      · show manB ++ (numB n ++ []) = _
        rw [List.append_nil]
        rfl
  · have hN : fmN k = false := decide_eq_false hk
    rw [if_neg (fun h => by rw [hN] at h; cases h.1)]
    have e : madeN (fmA k) (fmB k) (fmN k) n = [] := by
      unfold madeN fmA fmB
      rw [hN, if_neg (show ¬ k = 3 by omega), if_neg h4, if_neg h5, if_neg (show ¬ k = 1 by omega), if_neg (show ¬ k = 2 by omega)]
      rfl
    rw [e]
    split
    · rfl
    · rw [if_neg (by omega), if_neg (by omega), if_neg (by omega)]
theorem fmA_len (k : Int) : (fmA k).length ≤ 1000 := by
  unfold fmA
  split
  · decide
  · split
    · decide
    · split <;> decide
theorem fmB_len (k : Int) : (fmB k).length ≤ 1000 := by
  unfold fmB
  split
  · decide
  · split <;> decide
set_option maxRecDepth 100000 in
set_option maxHeartbeats 1000000 in
theorem name_any (k : Int) (hk : WfI k) (n : Nat) (hn : n < 18446744073709551616) (w : World) (hg : Gl w) :
    Calls Tryz.prog 10 #[.int .i64 k, .int .u64 (n : Int)] w fun e w' => e = .returned (.string (strOf (nameP k n))) ∧ Below w.heap.size w w' := by
  have HL := fun (W : World) (b : Nat) (h : MpF W b) => MpF.look h hk
  have HM := fun (W : World) => may_any n W
  have HNM := fun (W : World) (h : Gl W) => fname_any (fmA k) (fmB k) (fmN k) n (fmA_len k) (fmB_len k) hn W h
  have HG : Hid (Gl w) := hg
  have HP := made_name k n
  unfold fmV at HL
  generalize nameP k n = Y at *
  generalize strOf (fmA k) = A at *
  generalize strOf (fmB k) = Bq at *
  generalize hX : madeN (fmA k) (fmB k) (fmN k) n = X at *
  clear hX hg hk
  cases hN : fmN k with
  | false =>
    rw [hN] at HP HL HNM
    rw [if_neg (by simp)] at HP
    subst HP
    go_enter Tryz.func10, Tryz.ntmps10
    go_wp2_with fail
    refine (forms_any _).mono ?_
    rintro _ w2 ⟨b, rfl, hF, hbb, hb2⟩
    have hl := HL w2 b hF
    have H2 : Hid (Below w.heap.size w (w2.alloc (.cells #[.string A, .string Bq, .bool false] TFm))) := hb2.alloc (by have := hb2.size; omega) _
    clear hF hbb hb2
    go_wp2_with fail
    refine (HNM _ (HG.out.later H2.out)).mono ?_
    rintro _ w3 ⟨rfl, hb3⟩
    have H3 : Hid (Below w.heap.size w w3) := H2.out.trans (hb3.mono H2.out.size)
    go_wp2
    go_ret
    exact ⟨rfl, H3.out⟩
  | true =>
    rw [hN] at HP HL HNM
    go_enter Tryz.func10, Tryz.ntmps10
    go_wp2_with fail
    refine (forms_any _).mono ?_
    rintro _ w2 ⟨b, rfl, hF, hbb, hb2⟩
    have hl := HL w2 b hF
    have H2 : Hid (Below w.heap.size w (w2.alloc (.cells #[.string A, .string Bq, .bool true] TFm))) := hb2.alloc (by have := hb2.size; omega) _
    clear hF hbb hb2
    go_wp2_with fail
    refine (HM _).mono ?_
    rintro _ w3 ⟨rfl, rfl⟩
    cases hm : mayN n with
    | false =>
      rw [if_pos ⟨trivial, hm⟩] at HP
      subst HP
      go_wp2
      go_ret
      exact ⟨rfl, H2.out⟩
    | true =>
      rw [if_neg (fun h => by rw [hm] at h; cases h.2)] at HP
      subst HP
      go_wp2_with fail
      refine (HNM _ (HG.out.later H2.out)).mono ?_
      rintro _ w3 ⟨rfl, hb3⟩
      have H3 : Hid (Below w.heap.size w w3) := H2.out.trans (hb3.mono H2.out.size)
      go_wp2
      go_ret
      exact ⟨rfl, H3.out⟩
end Go.Proofs.YtmlfbihlbiikeaaGreatDoor
