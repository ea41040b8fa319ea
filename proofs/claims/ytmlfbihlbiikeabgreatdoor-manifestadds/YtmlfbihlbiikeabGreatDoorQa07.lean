/- The contract of strconv.FormatUint at base 10. -/
import Derived.Test.YtmlfbihlbiikeabGreatDoorQa06
import Derived.Test.YtmlfbihlbiikeabGreatDoorQa01
import Derived.Test.YtmlfbihlbiikeabGreatDoorQa02
import Derived.Maps.OwnSet
import Derived.Maps.Views
import Derived.Maps.RangeWalk
import Derived.WalkKit
namespace Go.Proofs.YtmlfbihlbiikeabGreatDoor
open Go.Shelf Go.RowKit Go.Sort Go.Lib
set_option linter.unusedVariables false
set_option linter.unusedSimpArgs false
abbrev Pow (w : World) : Prop := Lib.TabIs Tryz.prog w "internal/strconv.uint64pow10" .u64 Lib.pow10Tab
theorem below_grow (w : World) (k : Nat) (os : Array Obj) : Below w.heap.size w (grow (w.drewN k) os) := by
  refine ⟨rfl, rfl, rfl, ?_, fun b hb => ?_⟩
  · show w.heap.size ≤ (w.heap ++ os).size
    rw [Array.size_append]
    omega
  · show (w.heap ++ os)[b]? = w.heap[b]?
    rw [Array.getElem?_append_left hb]
set_option maxHeartbeats 6400000 in
set_option maxRecDepth 100000 in
theorem ifmt_any (u : Nat) (h : u < 18446744073709551616) (w : World) (htab : Pow w) :
    Calls Tryz.prog 123 #[.int .u64 (u : Int), .int .i64 10] w fun e w' => e = .returned (.string ⟨(decDigits u).toArray⟩) ∧ Below w.heap.size w w' := by
  by_cases hs : u < 100
  · have hcv : ∀ W : World, (convert 23 3 (.int .u64 (u : Int))).run Tryz.prog W = .ok (.int .i64 (u : Int)) W := fun W => conv_u64_int u (by omega) W
    have hlt : decide ((u : Int) < 100) = true := decide_eq_true (by omega)
    have hi : (u : Int) < 100 := by omega
    go_enter Tryz.func123, Tryz.ntmps123
    go_wp2_with fail
    refine (Any.internal_strconv_small smallL u hs _).mono ?_
    rintro e w' ⟨rfl, rfl⟩
    go_wp2
    go_ret
    exact ⟨rfl, Below.refl _ _⟩
  · have hu1 : 1 ≤ u := by omega
    have hnd20 : Lib.nDigits u ≤ 20 := by have := Lib.numDigits_eq u hu1 h; split at this <;> omega
    have hal : Tryz.prog.arrayLen 215 = 24 := by kernel_rfl
    have hge : decide ((u : Int) < 100) = false := decide_eq_false (by omega)
    have hn : ¬ (u : Int) < 100 := by omega
    have hsl : ∀ W, (Instr.sliceAt 215 (.pointer (some ⟨w.heap.size, 0, none⟩)) none (some (.int .i64 (Lib.nDigits u : Int))) none).run Tryz.prog W = .ok (.slice (some ⟨w.heap.size, 0, none⟩) (Lib.nDigits u) 24) W := fun W => by
      rw [run_sliceAt_array_h W 215 ⟨w.heap.size, 0, none⟩ (by simp [Program.arrayLen, Program.elem, Tryz.underlying215]) .i64 (Lib.nDigits u : Int) (by omega) (by rw [hal]; omega)]
      go_simp
    have hH0 : Holds (fun (b : UInt8) => Value.int .u8 (b.toNat : Int)) (w.alloc (.cells Lib.zeros24 215)) w.heap.size 0 (Array.replicate (Lib.nDigits u) 0) := fun j hj => by
      have hj' : j < Lib.nDigits u := by simpa using hj
      refine ⟨?_, World.frozen?_alloc_new _ _ _ _⟩
      rw [World.cell?_alloc_new, Lib.zeros24_at _ (by omega), getElem!_pos _ j hj]
      simp
    have hfmt := Any.internal_strconv_formatBase10 fmtL w.heap.size 0 24 u (Array.replicate (Lib.nDigits u) 0) (w.alloc (.cells Lib.zeros24 215)) hH0 (by rw [Array.size_replicate]; exact Lib.lt_pow_nDigits u) h (by rw [Array.size_replicate]; omega)
    rw [Array.size_replicate] at hfmt
    have HH0 := Lib.hid hH0
    clear hH0 hal
    go_enter Tryz.func123, Tryz.ntmps123
    go_wp2_with fail
    refine (Any.internal_strconv_numDigits ndL u hu1 h _ (Lib.tabIs_alloc htab _)).mono ?_
    rintro e w' ⟨rfl, rfl⟩
    go_wp2_with fail
    refine hfmt.mono ?_
    rintro e w' ⟨rfl, k, v', dk, rfl, hF⟩
    have hcv : (convert 40 9 (.slice (some ⟨w.heap.size, 0, none⟩) (Lib.nDigits u) 24)).run Tryz.prog ((putRow (fun (b : UInt8) => Value.int .u8 (b.toNat : Int)) (w.alloc (.cells Lib.zeros24 215)) w.heap.size 0 dk).drewN k) = .ok (.string ⟨(Lib.decDigits u).toArray⟩) ((putRow (fun (b : UInt8) => Value.int .u8 (b.toNat : Int)) (w.alloc (.cells Lib.zeros24 215)) w.heap.size 0 dk).drewN k) := by
      have h := run_convert_bytes_back (P := Tryz.prog) ((putRow (fun (b : UInt8) => Value.int .u8 (b.toNat : Int)) (w.alloc (.cells Lib.zeros24 215)) w.heap.size 0 dk).drewN k) 40 9 5 ⟨w.heap.size, 0, none⟩ 24 (Lib.decDigits u) Tryz.underlying40 Tryz.underlying5 Tryz.underlying9 (fun j hj => by
        rw [Lib.row_is_numeral hF j hj, Lib.add_plain, World.cell?_drewN]
        exact cell?_putRow (fun (b : UInt8) => Value.int .u8 (b.toNat : Int)) _ w.heap.size 0 _ dk HH0.out (by rw [hF.size, Array.size_replicate]) j (by rw [hF.size]; rw [Lib.decDigits_length] at hj; exact hj))
      rw [Lib.decDigits_length] at h
      exact h
    go_wp2
    go_ret
    refine ⟨rfl, ?_⟩
    rw [alloc_eq_grow]
    obtain ⟨os', _, e⟩ := putRow_grow_new (fun (b : UInt8) => Value.int .u8 (b.toNat : Int)) w #[.cells Lib.zeros24 215] w.heap.size 0 dk (Nat.le_refl _)
    rw [e]
    exact below_grow w k os'
theorem fmt_any (u : Nat) (h : u < 18446744073709551616) (w : World) (htab : Pow w) :
    Calls Tryz.prog 92 #[.int .u64 (u : Int), .int .i64 10] w fun e w' => e = .returned (.string ⟨(decDigits u).toArray⟩) ∧ Below w.heap.size w w' := by
  go_enter Tryz.func92, Tryz.ntmps92
  go_wp2_with fail
  refine (ifmt_any u h _ htab).mono ?_
  rintro e w' ⟨rfl, hb⟩
  go_wp2
  go_ret
  exact ⟨rfl, hb⟩
end Go.Proofs.YtmlfbihlbiikeabGreatDoor
namespace Go.Proofs.YtmlfbihlbiikeabGreatDoor
open Go.RowKit
set_option linter.unusedVariables false
set_option linter.unusedSimpArgs false
abbrev TFm : TypeId := 108
abbrev TMf : TypeId := 105
abbrev TIm : TypeId := 3
theorem ba_eq15 {a b : ByteArray} (h : a.data.toList = b.data.toList) : a = b := by
  cases a; cases b
  congr 1
  exact Array.toList_inj.1 h
def fmA (k : Int) : List UInt8 := if k = 3 then manB else if k = 4 then curB else if k = 5 then tmpB else []
def fmB (k : Int) : List UInt8 := if k = 1 then logB else if k = 2 then tabB else []
def fmN (k : Int) : Bool := decide (k = 1 ∨ k = 2 ∨ k = 3)
def fmV (k : Int) : Value := .agg #[.string (strOf (fmA k)), .string (strOf (fmB k)), .bool (fmN k)]
def fmD (k : Int) : DataW Unit := .agg [.lit (.string (fmA k)), .lit (.string (fmB k)), .lit (.bool (fmN k))]
def formE : Value → Option (DataW Unit × List MemPlace)
  | .agg cs => match cs.toList with
    | [.string a, .string b, .bool n] => some (.agg [.lit (.string a.data.toList), .lit (.string b.data.toList), .lit (.bool n)], [])
    | _ => none
  | _ => none
theorem formE_mk (a b : ByteArray) (n : Bool) : formE (.agg #[.string a, .string b, .bool n]) = some (.agg [.lit (.string a.data.toList), .lit (.string b.data.toList), .lit (.bool n)], []) := rfl
theorem formE_inv {v : Value} {z : DataW Unit × List MemPlace} (h : formE v = some z) : ∃ (a b : ByteArray) (n : Bool), v = .agg #[.string a, .string b, .bool n] ∧ z = (.agg [.lit (.string a.data.toList), .lit (.string b.data.toList), .lit (.bool n)], []) := by
  unfold formE at h
  split at h
  · rename_i cs
    split at h
    · rename_i a b n e
      refine ⟨a, b, n, ?_, (Option.some.inj h).symm⟩
      congr 1
      exact Array.toList_inj.1 e
    · cases h
  · cases h
theorem fmV_mk (k : Int) : formE (fmV k) = some (fmD k, []) := by
  unfold fmV fmD
  rw [formE_mk]
  simp [strOf]
theorem lawI : Maps.Keyed Tryz.prog TIm := Maps.int_keyed Tryz.underlying3
abbrev litI (q : Int) : Lit := .int .i64 q
def WfI (q : Int) : Prop := -9223372036854775808 ≤ q ∧ q ≤ 9223372036854775807
theorem keyI {q : Int} (h : WfI q) : keyOf Tryz.prog TIm (.int .i64 q) = some (litI q) := by
  refine Maps.keyOf_int_mk Tryz.underlying3 ?_
  unfold WfI at h
  simp [Lit.wf, IntKind.min, IntKind.max, IntKind.signed, IntKind.bits]
  omega
theorem zeroF (w : World) : (zeroValue TFm).run Tryz.prog w = .ok (.agg #[.string ⟨#[]⟩, .string ⟨#[]⟩, .bool false]) w := by kernel_rfl
def formD : DataW Unit := .map [(litI 1, fmD 1), (litI 2, fmD 2), (litI 3, fmD 3), (litI 4, fmD 4), (litI 5, fmD 5)]
def MpF (w : World) (b : Nat) : Prop := w.ownsMap Tryz.prog TIm formE b 5 formD
def MpG (w : World) (b n : Nat) (D : DataW Unit) : Prop := w.ownsMap Tryz.prog TIm formE b n D
theorem MpG.made (w : World) : MpG (w.alloc (.map #[] 0)) w.heap.size 0 (.map []) := World.ownsMap_made w Tryz.prog TIm formE
theorem MpG.store {w : World} {b n : Nat} {D : DataW Unit} (h : MpG w b n D) (q : Int) (hq : WfI q) (hn : n < 1000000) : ∃ w', (Instr.mapUpdate TMf (.map (some b)) (.int .i64 q) (fmV q)).run Tryz.prog w = .ok () w' ∧ MpG w' b (n + 1) (D.put (litI q) (fmD q)) ∧ Chg (fun k => k = b) w w' := by
  obtain ⟨w', hr, ho, ht⟩ := World.ownsMap.store h lawI Tryz.underlying105 (by unfold maxLen; omega) (keyI hq) (val := fmV q) (fmV_mk q)
  refine ⟨w', hr, ho, ?_⟩
  exact (Chg.grown ht.grown).wide (fun k _ e => (Option.some.inj e).symm)
theorem formD_at (k : Int) (z : DataW Unit) : formD.atKey (litI k) z = if 1 ≤ k ∧ k ≤ 5 then fmD k else z := by
  unfold formD DataW.atKey
  by_cases h1 : k = 1
  · subst h1; rfl
  by_cases h2 : k = 2
  · subst h2; rfl
  by_cases h3 : k = 3
  · subst h3; rfl
  by_cases h4 : k = 4
  · subst h4; rfl
  by_cases h5 : k = 5
  · subst h5; rfl
  have n1 : ¬ (1 ≤ k ∧ k ≤ 5) := by omega
  rw [if_neg n1]
  simp [Lit.sameKey, List.find?, show ¬ (1 : Int) = k by omega, show ¬ (2 : Int) = k by omega, show ¬ (3 : Int) = k by omega, show ¬ (4 : Int) = k by omega, show ¬ (5 : Int) = k by omega, beq_eq_false_iff_ne.2 (show (1 : Int) ≠ k by omega), beq_eq_false_iff_ne.2 (show (2 : Int) ≠ k by omega), beq_eq_false_iff_ne.2 (show (3 : Int) ≠ k by omega), beq_eq_false_iff_ne.2 (show (4 : Int) ≠ k by omega), beq_eq_false_iff_ne.2 (show (5 : Int) ≠ k by omega)]
theorem fmD_inj {a b : ByteArray} {n : Bool} {k : Int} (h : (.agg [.lit (.string a.data.toList), .lit (.string b.data.toList), .lit (.bool n)] : DataW Unit) = fmD k) : (.agg #[.string a, .string b, .bool n] : Value) = fmV k := by
  unfold fmD at h
  simp only [DataW.agg.injEq, List.cons.injEq, DataW.lit.injEq, Lit.string.injEq, Lit.bool.injEq, and_true] at h
  obtain ⟨h1, h2, h3⟩ := h
  unfold fmV
  have e1 : a = strOf (fmA k) := by
    exact ba_eq15 (by rw [h1]; simp [strOf])
  have e2 : b = strOf (fmB k) := by
    exact ba_eq15 (by rw [h2]; simp [strOf])
  rw [e1, e2, h3]
def fmX (k : Int) : Value := if 1 ≤ k ∧ k ≤ 5 then fmV k else .agg #[.string ⟨#[]⟩, .string ⟨#[]⟩, .bool false]
theorem fmX_eq (k : Int) : fmX k = fmV k := by
  unfold fmX
  split
  · rfl
  · unfold fmV fmA fmB fmN
    rw [if_neg (by omega), if_neg (by omega), if_neg (by omega), if_neg (by omega), if_neg (by omega), decide_eq_false (by omega)]
    rfl
theorem MpF.look {w : World} {b : Nat} (h : MpF w b) {k : Int} (hk : WfI k) : (Instr.lookup TMf (.map (some b)) (.int .i64 k) false).run Tryz.prog w = .ok (fmV k) w := by
  obtain ⟨v, ps, hr, hv⟩ := World.ownsMap.lookup h lawI Tryz.underlying105 (zeroF w) (formE_mk _ _ _) (keyI hk)
  obtain ⟨a, c, n, rfl, hz⟩ := formE_inv hv
  rw [hr]
  simp only [Prod.mk.injEq] at hz
  have h2 := hz.1
  rw [formD_at] at h2
  by_cases h1 : 1 ≤ k ∧ k ≤ 5
  · rw [if_pos h1] at h2
    rw [fmD_inj h2.symm]
  · rw [if_neg h1] at h2
    have e : (.agg [.lit (.string a.data.toList), .lit (.string c.data.toList), .lit (.bool n)] : DataW Unit) = fmD k := by
      rw [← h2]
      unfold fmD fmA fmB fmN
      rw [if_neg (by omega), if_neg (by omega), if_neg (by omega), if_neg (by omega), if_neg (by omega), decide_eq_false (by omega)]
    rw [fmD_inj e]
set_option maxRecDepth 100000 in
set_option maxHeartbeats 2000000 in
theorem forms_any (w : World) : Calls Tryz.prog 49 #[] w fun e w' => ∃ b, e = .returned (.map (some b)) ∧ MpF w' b ∧ w.heap.size ≤ b ∧ Below w.heap.size w w' := by
  obtain ⟨w1, r1, m1, c1⟩ := (MpG.made w).store 1 (by unfold WfI; omega) (by omega)
  obtain ⟨w2, r2, m2, c2⟩ := m1.store 2 (by unfold WfI; omega) (by omega)
  obtain ⟨w3, r3, m3, c3⟩ := m2.store 3 (by unfold WfI; omega) (by omega)
  obtain ⟨w4, r4, m4, c4⟩ := m3.store 4 (by unfold WfI; omega) (by omega)
  obtain ⟨w5, r5, m5, c5⟩ := m4.store 5 (by unfold WfI; omega) (by omega)
  have e5 : ((((((.map [] : DataW Unit).put (litI 1) (fmD 1)).put (litI 2) (fmD 2)).put (litI 3) (fmD 3)).put (litI 4) (fmD 4)).put (litI 5) (fmD 5)) = formD := rfl
  rw [e5] at m5
  have hb : Below w.heap.size w w5 := by
    have h0 : Below w.heap.size w (w.alloc (.map #[] 0)) := (Below.refl _ _).alloc (Nat.le_refl _) _
    have z : w.heap.size ≤ (w.alloc (.map #[] 0)).heap.size := h0.size
    have s1 := c1.size
    have s2 := c2.size
    have s3 := c3.size
    have s4 := c4.size
    exact h0.trans ((((c1.below (B := w.heap.size) (fun k hk => by omega) z).trans (c2.below (fun k hk => by omega) (by omega))).trans (c3.below (fun k hk => by omega) (by omega))).trans ((c4.below (fun k hk => by omega) (by omega)).trans (c5.below (fun k hk => by omega) (by omega))))
  have HE : Hid (MpF w5 w.heap.size ∧ Below w.heap.size w w5) := ⟨m5, hb⟩
  clear m1 m2 m3 m4 m5 c1 c2 c3 c4 c5 e5 hb
  have v1 : fmV 1 = .agg #[.string ⟨#[]⟩, .string ⟨#[46, 108, 111, 103]⟩, .bool true] := rfl
  have v2 : fmV 2 = .agg #[.string ⟨#[]⟩, .string ⟨#[46, 116, 97, 98]⟩, .bool true] := rfl
  have v3 : fmV 3 = .agg #[.string ⟨#[77, 65, 78, 73, 70, 69, 83, 84, 45]⟩, .string ⟨#[]⟩, .bool true] := rfl
  have v4 : fmV 4 = .agg #[.string ⟨#[67, 85, 82, 82, 69, 78, 84]⟩, .string ⟨#[]⟩, .bool false] := rfl
  have v5 : fmV 5 = .agg #[.string ⟨#[67, 85, 82, 82, 69, 78, 84, 46, 116, 109, 112]⟩, .string ⟨#[]⟩, .bool false] := rfl
  rw [v1] at r1
  rw [v2] at r2
  rw [v3] at r3
  rw [v4] at r4
  rw [v5] at r5
  have hmm : ∀ w : World, (Instr.makeMap TMf none).run Tryz.prog w = .ok (.map (some w.heap.size)) (w.alloc (.map #[] 0)) := fun w => by kernel_rfl
  go_enter Tryz.func49, Tryz.ntmps49
  go_wp2
  go_ret
  exact ⟨_, rfl, HE.out.1, Nat.le_refl _, HE.out.2⟩
end Go.Proofs.YtmlfbihlbiikeabGreatDoor
namespace Go.Proofs.YtmlfbihlbiikeabGreatDoor

structure PFile where
  b : List UInt8
  last : Nat
structure PName where
  name : List UInt8
  file : Nat
structure PChange where
  kind : Nat
  name : List UInt8
  «to» : List UInt8
  file : Nat
structure PFs where
  files : List PFile
  names : List PName
  lasts : List PName
  since : List PChange
  quota : Nat
  fused : Bool
  fuse : Int
  fails : Bool
  fail : Int
  asked : Nat
def file0 : PFile := ⟨[], 0⟩

def ltB : List UInt8 → List UInt8 → Bool
  | _, [] => false
  | [], _ :: _ => true
  | a :: r, b :: s => if a.toNat < b.toNat then true else if b.toNat < a.toNat then false else ltB r s
def without (l : List PName) (name : List UInt8) : List PName := l.filter (fun x => x.name != name)
def insN (n : PName) : List PName → List PName
  | [] => [n]
  | x :: r => if ltB n.name x.name then n :: x :: r else x :: insN n r
def withN (l : List PName) (n : PName) : List PName := insN n (without l n.name)
def findN (l : List PName) (name : List UInt8) : Option Nat := (l.find? (fun x => x.name == name)).map (·.file)
def changedN (l : List PName) (c : PChange) : List PName :=
  if c.kind = 1 then withN l ⟨c.name, c.file⟩ else if c.kind = 2 then withN (without l c.name) ⟨c.to, c.file⟩ else without l c.name
def goodN (name : List UInt8) : Bool := decide (0 < name.length) && decide (name.length ≤ 32)

namespace PFs
def new (quota : Nat) : PFs := ⟨[], [], [], [], quota, false, 0, false, 0, 0⟩
def off (S : PFs) : Bool := S.fused && (S.fuse == 0)
def ask (S : PFs) : PFs × Nat :=
  if S.off = true then ({ S with asked := S.asked + 1 }, 44)
  else if S.fails = true then
    (if S.fail = 0 then ({ S with asked := S.asked + 1, fuse := if S.fused then S.fuse - 1 else S.fuse, fails := false }, 45)
     else ({ S with asked := S.asked + 1, fuse := if S.fused then S.fuse - 1 else S.fuse, fail := S.fail - 1 }, 0))
  else ({ S with asked := S.asked + 1, fuse := if S.fused then S.fuse - 1 else S.fuse }, 0)
def change (S : PFs) (c : PChange) : PFs := { S with names := changedN S.names c, since := S.since ++ [c] }
def create (S : PFs) (name : List UInt8) : PFs × Nat :=
  if S.ask.2 ≠ 0 then S.ask
  else if goodN name = false then (S.ask.1, 40)
  else if (findN S.names name).isSome then (S.ask.1, 41)
  else (({ S.ask.1 with files := S.files ++ [file0] } : PFs).change ⟨1, name, [], S.files.length⟩, 0)
def fileOf (S : PFs) (k : Nat) : PFile := S.files.getD k file0
def bulk (S : PFs) (l : List PName) : Nat := match l with
  | [] => 0
  | n :: r => (S.fileOf n.file).b.length + S.bulk r
def append (S : PFs) (name b : List UInt8) : PFs × Nat :=
  if S.ask.2 ≠ 0 then S.ask
  else match findN S.names name with
    | none => (S.ask.1, 42)
    | some k => if S.quota < b.length + S.bulk S.names then (S.ask.1, 43)
      else ({ S.ask.1 with files := S.files.set k ⟨(S.fileOf k).b ++ b, (S.fileOf k).last⟩ }, 0)
def sync (S : PFs) (name : List UInt8) : PFs × Nat :=
  if S.ask.2 ≠ 0 then S.ask
  else match findN S.names name with
    | none => (S.ask.1, 42)
    | some k => ({ S.ask.1 with files := S.files.set k ⟨(S.fileOf k).b, (S.fileOf k).b.length⟩ }, 0)
def rename (S : PFs) (a b : List UInt8) : PFs × Nat :=
  if S.ask.2 ≠ 0 then S.ask
  else match findN S.names a with
    | none => (S.ask.1, 42)
    | some k => if goodN b = false then (S.ask.1, 40) else (S.ask.1.change ⟨2, a, b, k⟩, 0)
def remove (S : PFs) (name : List UInt8) : PFs × Nat :=
  if S.ask.2 ≠ 0 then S.ask
  else match findN S.names name with
    | none => (S.ask.1, 42)
    | some _ => (S.ask.1.change ⟨3, name, [], 0⟩, 0)
def syncDir (S : PFs) : PFs × Nat :=
  if S.ask.2 ≠ 0 then S.ask else ({ S.ask.1 with lasts := S.names, since := [] }, 0)
def read (S : PFs) (name : List UInt8) : List UInt8 × Nat :=
  if S.off = true then ([], 44) else match findN S.names name with
    | none => ([], 42)
    | some k => ((S.fileOf k).b, 0)
def list (S : PFs) : List (List UInt8) × Nat := if S.off = true then ([], 44) else (S.names.map (·.name), 0)
def pick (picks : List Int) (i most : Nat) : Nat :=
  ((if picks.getD i 0 < 0 then -1 - picks.getD i 0 else picks.getD i 0) % ((most : Int) + 1)).toNat
def cut (f : PFile) (n : Nat) : PFile := ⟨f.b.take n, n⟩
def crashFiles (picks : List Int) : List PName → Nat → List PFile → List PFile
  | [], _, fs => fs
  | n :: r, i, fs => crashFiles picks r (i + 1) (fs.set n.file (cut (fs.getD n.file file0) ((fs.getD n.file file0).last + pick picks (i + 1) ((fs.getD n.file file0).b.length - (fs.getD n.file file0).last))))
def stays (S : PFs) (picks : List Int) : List PName := (S.since.take (pick picks 0 S.since.length)).foldl changedN S.lasts
def crash (S : PFs) (picks : List Int) : PFs :=
  { S with names := S.stays picks, lasts := S.stays picks, since := [], files := crashFiles picks (S.stays picks) 0 S.files, fused := false, fails := false }
end PFs
end Go.Proofs.YtmlfbihlbiikeabGreatDoor
namespace Go.Proofs.YtmlfbihlbiikeabGreatDoor
open Go.RowKit

structure Kp (R : Nat → Prop) (w w' : World) : Prop where
  os : w'.os = w.os
  tape : w'.tape = w.tape
  output : w'.output = w.output
  size : w.heap.size ≤ w'.heap.size
  block : ∀ k, R k → k < w.heap.size → w'.heap[k]? = w.heap[k]?
theorem Kp.below {B : Nat} {R : Nat → Prop} {w w' : World} (h : Kp R w w') (hR : ∀ k, k < B → R k) (hB : B ≤ w.heap.size) : Below B w w' := ⟨h.os, h.tape, h.output, h.size, fun k hk => h.block k (hR k hk) (Nat.lt_of_lt_of_le hk hB)⟩

theorem OwnB.kept {R : Nat → Prop} {w w' : World} {B : Nat} {a : Option Addr} {len cap : Nat} {bs : List UInt8} (h : OwnB w B a len cap bs) (hb : Kp R w w') (hR : ∀ k, (Value.slice a len cap).ownBlock = some k → R k) : OwnB w' B a len cap bs := by
  refine ⟨h.size, h.row.1, ?_⟩
  rcases h.row.2 with hn | ⟨g, c, cur, hv, hB, hg, rest⟩
  · exact .inl hn
  · exact .inr ⟨g, c, cur, hv, hB, by rw [hb.block g (hR g (by rw [hv]; rfl)) (Array.getElem?_eq_some_iff.1 hg).1]; exact hg, rest⟩

abbrev Fss := List (Nat × PFs)
abbrev Face := World → (Nat → Prop) → Fss → Fss → Prop
structure FsOk (J : Face) : Prop where
  zero : ∀ w, J w (fun k => k < w.heap.size) [] []
  turn : ∀ {w w' R l r}, J w R l r → Chg R w w' → J w' (fun k => R k ∨ (w.heap.size ≤ k ∧ k < w'.heap.size)) l r
  less : ∀ {w l r} {R R' : Nat → Prop}, J w R l r → (∀ k, R' k → R k) → J w R' l r
  new : ∀ {w R l r} (q : Int), (-9223372036854775808 ≤ q ∧ q ≤ 9223372036854775807) → J w R l r → Calls Tryz.prog 7 #[.int .i64 q] w fun e w' =>
    ((0 ≤ q ∧ q ≤ 1048576) ∧ ∃ p, e = .returned (.tuple #[at_ p, .int .i64 0]) ∧ J w' R (l ++ [(p, PFs.new q.toNat)]) r ∧ Kp R w w') ∨
    (¬ (0 ≤ q ∧ q ≤ 1048576) ∧ e = .returned (.tuple #[.pointer none, .int .i64 1]) ∧ J w' R l r ∧ Kp R w w')
  create : ∀ {w R l r p S} (i : Nat) (name : ByteArray), J w R l r → l[i]? = some (p, S) → S.asked < 1000000 → Calls Tryz.prog 22 #[at_ p, .string name] w fun e w' =>
    e = .returned (.int .i64 ((S.create name.data.toList).2 : Nat)) ∧ J w' R (l.set i (p, (S.create name.data.toList).1)) r ∧ Kp R w w'
  append : ∀ {w R l r p S} (i : Nat) (name : ByteArray) (a : Option Addr) (len cap : Nat) (bs : List UInt8), J w R l r → l[i]? = some (p, S) → S.asked < 1000000 → BsAt w a len cap bs → len ≤ 140737488355328 → Calls Tryz.prog 30 #[at_ p, .string name, .slice a len cap] w fun e w' =>
    e = .returned (.int .i64 ((S.append name.data.toList bs).2 : Nat)) ∧ J w' R (l.set i (p, (S.append name.data.toList bs).1)) r ∧ Kp R w w'
  sync : ∀ {w R l r p S} (i : Nat) (name : ByteArray), J w R l r → l[i]? = some (p, S) → S.asked < 1000000 → Calls Tryz.prog 32 #[at_ p, .string name] w fun e w' =>
    e = .returned (.int .i64 ((S.sync name.data.toList).2 : Nat)) ∧ J w' R (l.set i (p, (S.sync name.data.toList).1)) r ∧ Kp R w w'
  rename : ∀ {w R l r p S} (i : Nat) (a b : ByteArray), J w R l r → l[i]? = some (p, S) → S.asked < 1000000 → Calls Tryz.prog 63 #[at_ p, .string a, .string b] w fun e w' =>
    e = .returned (.int .i64 ((S.rename a.data.toList b.data.toList).2 : Nat)) ∧ J w' R (l.set i (p, (S.rename a.data.toList b.data.toList).1)) r ∧ Kp R w w'
  remove : ∀ {w R l r p S} (i : Nat) (name : ByteArray), J w R l r → l[i]? = some (p, S) → S.asked < 1000000 → Calls Tryz.prog 96 #[at_ p, .string name] w fun e w' =>
    e = .returned (.int .i64 ((S.remove name.data.toList).2 : Nat)) ∧ J w' R (l.set i (p, (S.remove name.data.toList).1)) r ∧ Kp R w w'
  syncDir : ∀ {w R l r p S} (i : Nat), J w R l r → l[i]? = some (p, S) → S.asked < 1000000 → Calls Tryz.prog 26 #[at_ p] w fun e w' =>
    e = .returned (.int .i64 (S.syncDir.2 : Nat)) ∧ J w' R (l.set i (p, S.syncDir.1)) r ∧ Kp R w w'
  read : ∀ {w R l r p S} (i : Nat) (name : ByteArray), J w R l r → l[i]? = some (p, S) → Calls Tryz.prog 10 #[at_ p, .string name] w fun e w' =>
    ∃ a c, e = .returned (.tuple #[.slice a (S.read name.data.toList).1.length c, .int .i64 ((S.read name.data.toList).2 : Nat)]) ∧ OwnB w' w.heap.size a (S.read name.data.toList).1.length c (S.read name.data.toList).1 ∧ J w' (fun k => R k ∨ (Value.slice a (S.read name.data.toList).1.length c).ownBlock = some k) l r ∧ Kp R w w'
theorem FsOk.step {J : Face} (h : FsOk J) {w w' : World} {R : Nat → Prop} {l r : Fss} (hj : J w R l r) (hb : Below w.heap.size w w') : J w' R l r := h.less (h.turn hj (Chg.of hb)) (fun _ hk => .inl hk)
end Go.Proofs.YtmlfbihlbiikeabGreatDoor
