/- Files that a crash cuts, by plain functions. -/
import Derived.WalkKit
import Derived.Test.YtmlfbihlbiikeaaGreatDoorQe00
import Derived.Test.YtmlfbihlbiikeaaGreatDoorQe06
import Derived.Deep.RegionHeld3
import Derived.Laws.Concat
import Derived.Test.YtmlfbihlbiikeaaGreatDoorRows
import Derived.Deep.DeepHandedRow
import Derived.Deep.DeepLaidRun
import Derived.Lib.LaidTab
import Derived.Lib.TrailingZeros
import Derived.LaidSub
import Derived.MakeChecks
import Derived.Shelf.Vars
import Derived.Test.YtmlfbihlbiikeaaGreatDoorQe05
set_option linter.unusedVariables false
set_option linter.unusedSimpArgs false
set_option maxRecDepth 100000
namespace Go.Proofs.YtmlfbihlbiikeaaGreatDoor

structure PFile where
  b : List UInt8
  last : Nat
structure PName where
  name : List UInt8
  file : Nat
structure PChange where
  kind : Nat
  name : List UInt8
  «to» : List UInt8
  file : Nat
structure PFs where
  files : List PFile
  names : List PName
  lasts : List PName
  since : List PChange
  quota : Nat
  fused : Bool
  fuse : Int
  fails : Bool
  fail : Int
  asked : Nat
def file0 : PFile := ⟨[], 0⟩

def ltB : List UInt8 → List UInt8 → Bool
  | _, [] => false
  | [], _ :: _ => true
  | a :: r, b :: s => if a.toNat < b.toNat then true else if b.toNat < a.toNat then false else ltB r s
def without (l : List PName) (name : List UInt8) : List PName := l.filter (fun x => x.name != name)
def insN (n : PName) : List PName → List PName
  | [] => [n]
  | x :: r => if ltB n.name x.name then n :: x :: r else x :: insN n r
def withN (l : List PName) (n : PName) : List PName := insN n (without l n.name)
def findN (l : List PName) (name : List UInt8) : Option Nat := (l.find? (fun x => x.name == name)).map (·.file)
def changedN (l : List PName) (c : PChange) : List PName :=
  if c.kind = 1 then withN l ⟨c.name, c.file⟩ else if c.kind = 2 then withN (without l c.name) ⟨c.to, c.file⟩ else without l c.name
def goodN (name : List UInt8) : Bool := decide (0 < name.length) && decide (name.length ≤ 32)

namespace PFs
def new (quota : Nat) : PFs := ⟨[], [], [], [], quota, false, 0, false, 0, 0⟩
def off (S : PFs) : Bool := S.fused && (S.fuse == 0)
def ask (S : PFs) : PFs × Nat :=
  if S.off = true then ({ S with asked := S.asked + 1 }, 44)
  else if S.fails = true then
    (if S.fail = 0 then ({ S with asked := S.asked + 1, fuse := if S.fused then S.fuse - 1 else S.fuse, fails := false }, 45)
     else ({ S with asked := S.asked + 1, fuse := if S.fused then S.fuse - 1 else S.fuse, fail := S.fail - 1 }, 0))
  else ({ S with asked := S.asked + 1, fuse := if S.fused then S.fuse - 1 else S.fuse }, 0)
def change (S : PFs) (c : PChange) : PFs := { S with names := changedN S.names c, since := S.since ++ [c] }
def create (S : PFs) (name : List UInt8) : PFs × Nat :=
  if S.ask.2 ≠ 0 then S.ask
  else if goodN name = false then (S.ask.1, 40)
  else if (findN S.names name).isSome then (S.ask.1, 41)
  else (({ S.ask.1 with files := S.files ++ [file0] } : PFs).change ⟨1, name, [], S.files.length⟩, 0)
def fileOf (S : PFs) (k : Nat) : PFile := S.files.getD k file0
def bulk (S : PFs) (l : List PName) : Nat := match l with
  | [] => 0
  | n :: r => (S.fileOf n.file).b.length + S.bulk r
def append (S : PFs) (name b : List UInt8) : PFs × Nat :=
  if S.ask.2 ≠ 0 then S.ask
  else match findN S.names name with
    | none => (S.ask.1, 42)
    | some k => if S.quota < b.length + S.bulk S.names then (S.ask.1, 43)
      else ({ S.ask.1 with files := S.files.set k ⟨(S.fileOf k).b ++ b, (S.fileOf k).last⟩ }, 0)
def sync (S : PFs) (name : List UInt8) : PFs × Nat :=
  if S.ask.2 ≠ 0 then S.ask
  else match findN S.names name with
    | none => (S.ask.1, 42)
    | some k => ({ S.ask.1 with files := S.files.set k ⟨(S.fileOf k).b, (S.fileOf k).b.length⟩ }, 0)
def rename (S : PFs) (a b : List UInt8) : PFs × Nat :=
  if S.ask.2 ≠ 0 then S.ask
  else match findN S.names a with
    | none => (S.ask.1, 42)
    | some k => if goodN b = false then (S.ask.1, 40) else (S.ask.1.change ⟨2, a, b, k⟩, 0)
def remove (S : PFs) (name : List UInt8) : PFs × Nat :=
  if S.ask.2 ≠ 0 then S.ask
  else match findN S.names name with
    | none => (S.ask.1, 42)
    | some _ => (S.ask.1.change ⟨3, name, [], 0⟩, 0)
def syncDir (S : PFs) : PFs × Nat :=
  if S.ask.2 ≠ 0 then S.ask else ({ S.ask.1 with lasts := S.names, since := [] }, 0)
def read (S : PFs) (name : List UInt8) : List UInt8 × Nat :=
  if S.off = true then ([], 44) else match findN S.names name with
    | none => ([], 42)
    | some k => ((S.fileOf k).b, 0)
def list (S : PFs) : List (List UInt8) × Nat := if S.off = true then ([], 44) else (S.names.map (·.name), 0)
def setFuse (S : PFs) (n : Int) : PFs := { S with fused := decide (0 ≤ n), fuse := n }
def setFail (S : PFs) (n : Int) : PFs := { S with fails := decide (0 ≤ n), fail := n }
def pick (picks : List Int) (i most : Nat) : Nat :=
  ((if picks.getD i 0 < 0 then -1 - picks.getD i 0 else picks.getD i 0) % ((most : Int) + 1)).toNat
def cut (f : PFile) (n : Nat) : PFile := ⟨f.b.take n, n⟩
def crashFiles (picks : List Int) : List PName → Nat → List PFile → List PFile
  | [], _, fs => fs
  | n :: r, i, fs => crashFiles picks r (i + 1) (fs.set n.file (cut (fs.getD n.file file0) ((fs.getD n.file file0).last + pick picks (i + 1) ((fs.getD n.file file0).b.length - (fs.getD n.file file0).last))))
def stays (S : PFs) (picks : List Int) : List PName := (S.since.take (pick picks 0 S.since.length)).foldl changedN S.lasts
def crash (S : PFs) (picks : List Int) : PFs :=
  { S with names := S.stays picks, lasts := S.stays picks, since := [], files := crashFiles picks (S.stays picks) 0 S.files, fused := false, fails := false }
end PFs
end Go.Proofs.YtmlfbihlbiikeaaGreatDoor
namespace Go.Proofs.YtmlfbihlbiikeaaGreatDoor
open Go.RowKit

structure Kp (R : Nat → Prop) (w w' : World) : Prop where
 os : w'.os = w.os
 tape : w'.tape = w.tape
 output : w'.output = w.output
 size : w.heap.size ≤ w'.heap.size
 block : ∀ k, R k → k < w.heap.size → w'.heap[k]? = w.heap[k]?
theorem Kp.below {B : Nat} {R : Nat → Prop} {w w' : World} (h : Kp R w w') (hR : ∀ k, k < B → R k) (hB : B ≤ w.heap.size) : Below B w w' := ⟨h.os, h.tape, h.output, h.size, fun k hk => h.block k (hR k hk) (Nat.lt_of_lt_of_le hk hB)⟩

structure SsAt (w : World) (a : Option Addr) (len cap : Nat) (l : List (List UInt8)) : Prop where
 size : l.length = len
 le : len ≤ cap
 max : cap ≤ maxLen
 bare : a = none → cap = 0
 here : 0 < len → ∃ b off, a = some ⟨b, off, none⟩ ∧ ∀ j, j < len → w.cell? ⟨b, off + j, none⟩ = some (.string (strOf (l.getD j [])))
theorem IsAt.old {w : World} {a : Option Addr} {len cap : Nat} {l : List Int} (h : IsAt w a len cap l) (hp : 0 < len) (ad : Addr) (e : a = some ad) : ad.block < w.heap.size := by
 obtain ⟨b, off, ha, hc⟩ := h.here hp
 rw [ha] at e
 obtain rfl := Option.some.inj e
 exact World.block_lt_of_cell? w _ (hc 0 hp)
theorem SsAt.kept {R : Nat → Prop} {w w' : World} {a : Option Addr} {len cap : Nat} {l : List (List UInt8)} (h : SsAt w a len cap l) (hb : Kp R w w') (hR : ∀ ad, a = some ad → R ad.block) : SsAt w' a len cap l :=
 ⟨h.size, h.le, h.max, h.bare, fun hp => by
  obtain ⟨b, off, ha, hc⟩ := h.here hp
  refine ⟨b, off, ha, fun j hj => ?_⟩
  have e := hb.block b (hR _ ha) (World.block_lt_of_cell? w _ (hc j hj))
  have := hc j hj
  simp only [World.cell?] at this ⊢
  rw [e]
  exact this⟩
abbrev Fss := List (Nat × PFs)
abbrev Face := World → (Nat → Prop) → Fss → Fss → Prop
structure FsOk (J : Face) : Prop where
 zero : ∀ w, J w (fun k => k < w.heap.size) [] []
 turn : ∀ {w w' R l r}, J w R l r → Chg R w w' → J w' (fun k => R k ∨ (w.heap.size ≤ k ∧ k < w'.heap.size)) l r
 less : ∀ {w l r} {R R' : Nat → Prop}, J w R l r → (∀ k, R' k → R k) → J w R' l r
 new : ∀ {w R l r} (q : Int), (-9223372036854775808 ≤ q ∧ q ≤ 9223372036854775807) → J w R l r → Calls Tryz.prog 14 #[.int .i64 q] w fun e w' =>
  ((0 ≤ q ∧ q ≤ 1048576) ∧ ∃ p, e = .returned (.tuple #[at_ p, .int .i64 0]) ∧ J w' R (l ++ [(p, PFs.new q.toNat)]) r ∧ Kp R w w') ∨
  (¬ (0 ≤ q ∧ q ≤ 1048576) ∧ e = .returned (.tuple #[.pointer none, .int .i64 1]) ∧ J w' R l r ∧ Kp R w w')
 create : ∀ {w R l r p S} (i : Nat) (name : ByteArray), J w R l r → l[i]? = some (p, S) → S.asked < 1000000 → Calls Tryz.prog 16 #[at_ p, .string name] w fun e w' =>
  e = .returned (.int .i64 ((S.create name.data.toList).2 : Nat)) ∧ J w' R (l.set i (p, (S.create name.data.toList).1)) r ∧ Kp R w w'
 append : ∀ {w R l r p S} (i : Nat) (name : ByteArray) (a : Option Addr) (len cap : Nat) (bs : List UInt8), J w R l r → l[i]? = some (p, S) → S.asked < 1000000 → BsAt w a len cap bs → len ≤ 140737488355328 → Calls Tryz.prog 18 #[at_ p, .string name, .slice a len cap] w fun e w' =>
  e = .returned (.int .i64 ((S.append name.data.toList bs).2 : Nat)) ∧ J w' R (l.set i (p, (S.append name.data.toList bs).1)) r ∧ Kp R w w'
 sync : ∀ {w R l r p S} (i : Nat) (name : ByteArray), J w R l r → l[i]? = some (p, S) → S.asked < 1000000 → Calls Tryz.prog 74 #[at_ p, .string name] w fun e w' =>
  e = .returned (.int .i64 ((S.sync name.data.toList).2 : Nat)) ∧ J w' R (l.set i (p, (S.sync name.data.toList).1)) r ∧ Kp R w w'
 rename : ∀ {w R l r p S} (i : Nat) (a b : ByteArray), J w R l r → l[i]? = some (p, S) → S.asked < 1000000 → Calls Tryz.prog 103 #[at_ p, .string a, .string b] w fun e w' =>
  e = .returned (.int .i64 ((S.rename a.data.toList b.data.toList).2 : Nat)) ∧ J w' R (l.set i (p, (S.rename a.data.toList b.data.toList).1)) r ∧ Kp R w w'
 remove : ∀ {w R l r p S} (i : Nat) (name : ByteArray), J w R l r → l[i]? = some (p, S) → S.asked < 1000000 → Calls Tryz.prog 157 #[at_ p, .string name] w fun e w' =>
  e = .returned (.int .i64 ((S.remove name.data.toList).2 : Nat)) ∧ J w' R (l.set i (p, (S.remove name.data.toList).1)) r ∧ Kp R w w'
 syncDir : ∀ {w R l r p S} (i : Nat), J w R l r → l[i]? = some (p, S) → S.asked < 1000000 → Calls Tryz.prog 58 #[at_ p] w fun e w' =>
  e = .returned (.int .i64 (S.syncDir.2 : Nat)) ∧ J w' R (l.set i (p, S.syncDir.1)) r ∧ Kp R w w'
 read : ∀ {w R l r p S} (i : Nat) (name : ByteArray), J w R l r → l[i]? = some (p, S) → Calls Tryz.prog 31 #[at_ p, .string name] w fun e w' =>
  ∃ a c, e = .returned (.tuple #[.slice a (S.read name.data.toList).1.length c, .int .i64 ((S.read name.data.toList).2 : Nat)]) ∧ OwnB w' w.heap.size a (S.read name.data.toList).1.length c (S.read name.data.toList).1 ∧ J w' (fun k => R k ∨ (Value.slice a (S.read name.data.toList).1.length c).ownBlock = some k) l r ∧ Kp R w w'
 fuse : ∀ {w R l r p S} (i : Nat) (n : Int), (-9223372036854775808 ≤ n ∧ n ≤ 9223372036854775807) → J w R l r → l[i]? = some (p, S) → Calls Tryz.prog 28 #[at_ p, .int .i64 n] w fun e w' =>
  e = .returned (.tuple #[]) ∧ J w' R (l.set i (p, S.setFuse n)) r ∧ Kp R w w'
 fail : ∀ {w R l r p S} (i : Nat) (n : Int), (-9223372036854775808 ≤ n ∧ n ≤ 9223372036854775807) → J w R l r → l[i]? = some (p, S) → Calls Tryz.prog 30 #[at_ p, .int .i64 n] w fun e w' =>
  e = .returned (.tuple #[]) ∧ J w' R (l.set i (p, S.setFail n)) r ∧ Kp R w w'
 crash : ∀ {w R l r p S} (i : Nat) (a : Option Addr) (len cap : Nat) (picks : List Int), J w R l r → l[i]? = some (p, S) → IsAt w a len cap picks → (0 < len → ∀ ad, a = some ad → R ad.block) → Calls Tryz.prog 26 #[at_ p, .slice a len cap] w fun e w' =>
  e = .returned (.tuple #[]) ∧ J w' R (l.set i (p, S.crash picks)) r ∧ Kp R w w'
theorem FsOk.step {J : Face} (h : FsOk J) {w w' : World} {R : Nat → Prop} {l r : Fss} (hj : J w R l r) (hb : Below w.heap.size w w') : J w' R l r := h.less (h.turn hj (Chg.of hb)) (fun _ hk => .inl hk)
end Go.Proofs.YtmlfbihlbiikeaaGreatDoor
namespace Go.Proofs.YtmlfbihlbiikeaaGreatDoor
open Go.Shelf Go.RowKit Go.Lib
structure Gl (w : World) : Prop where
 pow : Pow w
 syn : ∃ tp p, w.var? Tryz.prog "strconv.ErrSyntax" = some #[.iface tp p]
 rng : ∃ tp p, w.var? Tryz.prog "strconv.ErrRange" = some #[.iface tp p]
theorem gl_pow : Tryz.prog.globalNamed "internal/strconv.uint64pow10" = some 0 := by kernel_rfl
theorem gl_syn : Tryz.prog.globalNamed "strconv.ErrSyntax" = some 1 := by kernel_rfl
theorem gl_rng : Tryz.prog.globalNamed "strconv.ErrRange" = some 2 := by kernel_rfl
theorem var_same {w w' : World} {name : String} {g : Nat} (hg : Tryz.prog.globalNamed name = some g) (e : w'.heap[g]? = w.heap[g]?) : w'.var? Tryz.prog name = w.var? Tryz.prog name := by
 unfold World.var?
 rw [hg]
 simp [e]
theorem var_lt {w : World} {name : String} {g : Nat} {x : Array Value} (hg : Tryz.prog.globalNamed name = some g) (h : w.var? Tryz.prog name = some x) : g < w.heap.size := by
 unfold World.var? at h
 rw [hg] at h
 simp only [Option.bind_some] at h
 cases e : w.heap[g]? with
 | none => rw [e] at h; cases h
 | some o => exact (Array.getElem?_eq_some_iff.1 e).1
theorem Gl.below {B : Nat} {w w' : World} (h : Gl w) (hB : w.heap.size ≤ B) (hb : Below B w w') : Gl w' := by
 obtain ⟨t1, p1, h1⟩ := h.syn
 obtain ⟨t2, p2, h2⟩ := h.rng
 have l1 := var_lt gl_syn h1
 have l2 := var_lt gl_rng h2
 have l0 : 0 < w.heap.size := by
  have := h.pow
  unfold Pow Lib.TabIs at this
  exact var_lt gl_pow this
 refine ⟨?_, ⟨t1, p1, ?_⟩, ⟨t2, p2, ?_⟩⟩
 · have := h.pow
   unfold Pow Lib.TabIs at this ⊢
   rw [var_same gl_pow (hb.block _ (by omega))]
   exact this
 · rw [var_same gl_syn (hb.block _ (by omega))]
   exact h1
 · rw [var_same gl_rng (hb.block _ (by omega))]
   exact h2
theorem Gl.later {w w' : World} (h : Gl w) (hb : Below w.heap.size w w') : Gl w' := h.below (Nat.le_refl _) hb
theorem Gl.kp {R : Nat → Prop} {w w' : World} (h : Gl w) (hk : Kp R w w') (hR : ∀ g, g < 6 → R g) : Gl w' := by
 obtain ⟨t1, p1, h1⟩ := h.syn
 obtain ⟨t2, p2, h2⟩ := h.rng
 have l1 := var_lt gl_syn h1
 have l2 := var_lt gl_rng h2
 have l0 : 0 < w.heap.size := by
  have := h.pow
  unfold Pow Lib.TabIs at this
  exact var_lt gl_pow this
 refine ⟨?_, ⟨t1, p1, ?_⟩, ⟨t2, p2, ?_⟩⟩
 · have := h.pow
   unfold Pow Lib.TabIs at this ⊢
   rw [var_same gl_pow (hk.block _ (hR _ (by decide)) (by omega))]
   exact this
 · rw [var_same gl_syn (hk.block _ (hR _ (by decide)) (by omega))]
   exact h1
 · rw [var_same gl_rng (hk.block _ (hR _ (by decide)) (by omega))]
   exact h2
def mayN (n : Nat) : Bool := decide (1 ≤ n ∧ n ≤ 1099511627776)
theorem may_any (n : Nat) (w : World) : Calls Tryz.prog 33 #[.int .u64 (n : Int)] w fun e w' => e = .returned (.bool (mayN n)) ∧ w = w' := by
 go_enter Tryz.func33, Tryz.ntmps33
 by_cases h1 : (1 : Int) ≤ (n : Int)
 · by_cases h2 : (n : Int) ≤ 1099511627776
   · go_wp2
     go_ret
     exact ⟨ret1 (by unfold mayN; simp; omega), rfl⟩
   · go_wp2
     go_ret
     exact ⟨ret1 (by unfold mayN; simp; omega), rfl⟩
 · go_wp2
   go_ret
   exact ⟨ret1 (by unfold mayN; simp; omega), rfl⟩
def madeN (a b : List UInt8) (nb : Bool) (n : Nat) : List UInt8 := a ++ ((if nb then numB n else []) ++ b)
theorem strOf_size (l : List UInt8) : (strOf l).size = l.length := by
 show l.toArray.size = l.length
 simp
theorem strOf_add (a b : List UInt8) : strOf a ++ strOf b = strOf (a ++ b) := by
 unfold strOf
 exact ByteArray.mk_append_mk _ _
theorem dec_any (n : Nat) (h : n < 18446744073709551616) : (decDigits n).length ≤ 20 := dec_len 19 n (by omega)
theorem numB_any (n : Nat) (h : n < 18446744073709551616) : (numB n).length ≤ 26 := by
 have := dec_any n h
 unfold numB pad6
 rw [List.length_append, List.length_replicate]
 omega
theorem rep_eq (c : Nat) : Lib.repeatL [48] c = List.replicate c 48 := by
 induction c with
 | zero => rfl
 | succ c ih =>
  show [48] ++ Lib.repeatL [48] c = _
  rw [ih, List.replicate_succ]
  rfl
set_option maxHeartbeats 1000000 in
theorem fname_any (a b : List UInt8) (nb : Bool) (n : Nat) (ha : a.length ≤ 1000) (hb : b.length ≤ 1000) (hn : n < 18446744073709551616) (w : World) (hg : Gl w) :
 Calls Tryz.prog 34 #[.agg #[.string (strOf a), .string (strOf b), .bool nb], .int .u64 (n : Int)] w fun e w' => e = .returned (.string (strOf (madeN a b nb n))) ∧ Below w.heap.size w w' := by
 have HB : Hid (Below w.heap.size w (w.alloc (.cells #[.string (strOf a), .string (strOf b), .bool nb] TFm)) ∧ Gl w) := ⟨(Below.refl _ _).alloc (Nat.le_refl _) _, hg⟩
 have hdl := numB_any n hn
 have HD := dec_any n hn
 cases nb with
 | false =>
  have s1 : ∀ V : World, (Op.stringOp .add (strOf a) ⟨#[]⟩).run Tryz.prog V = .ok (.string (strOf a)) V := fun V => by
   have := run_string_add_sum (P := Tryz.prog) V (strOf a) (strOf []) (by rw [strOf_size, strOf_size]; simp; omega)
   rw [strOf_add, List.append_nil] at this
   exact this
  have s2 : ∀ V : World, (Op.stringOp .add (strOf a) (strOf b)).run Tryz.prog V = .ok (.string (strOf (a ++ b))) V := fun V => by
   rw [run_string_add_sum (P := Tryz.prog) V _ _ (by rw [strOf_size, strOf_size]; omega), strOf_add]
  have hE : madeN a b false n = a ++ b := rfl
  rw [hE]
  generalize strOf (a ++ b) = X at s2 ⊢
  generalize strOf a = A at *
  generalize strOf b = Bq at *
  clear hg
  go_enter Tryz.func34, Tryz.ntmps34
  go_wp2
  go_ret
  exact ⟨rfl, HB.out.1⟩
 | true =>
  have s1 : ∀ V : World, (Op.stringOp .add (strOf a) (strOf (numB n))).run Tryz.prog V = .ok (.string (strOf (a ++ numB n))) V := fun V => by
   rw [run_string_add_sum (P := Tryz.prog) V _ _ (by rw [strOf_size, strOf_size]; omega), strOf_add]
  have s2 : ∀ V : World, (Op.stringOp .add (strOf (a ++ numB n)) (strOf b)).run Tryz.prog V = .ok (.string (strOf (madeN a b true n))) V := fun V => by
   rw [run_string_add_sum (P := Tryz.prog) V _ _ (by rw [strOf_size, strOf_size, List.length_append]; omega), strOf_add, List.append_assoc]
   rfl
  obtain ⟨m, hm⟩ : ∃ m : Nat, m = 6 - (decDigits n).length := ⟨_, rfl⟩
  have HMX : Hid (max (0 : Int) (6 - ((decDigits n).length : Int)) = (m : Int)) := by unfold Hid; omega
  have s0 : ∀ V : World, (Op.stringOp .add (strOf (List.replicate m 48)) (strOf (decDigits n))).run Tryz.prog V = .ok (.string (strOf (numB n))) V := fun V => by
   rw [run_string_add_sum (P := Tryz.prog) V _ _ (by rw [strOf_size, strOf_size, List.length_replicate]; omega), strOf_add, hm]
   rfl
  have hrep : ∀ V : World, Calls Tryz.prog 77 #[.string ⟨#[48]⟩, .int .i64 (m : Int)] V fun e w' => e = .returned (.string (strOf (List.replicate m 48))) ∧ Below V.heap.size V w' := fun V => by
   have := Any.strings_Repeat repL repX ⟨#[48]⟩ m V (by omega) (by show 1 * m ≤ _; omega)
   have e : Lib.repeatL (⟨#[48]⟩ : ByteArray).data.toList m = List.replicate m 48 := rep_eq m
   rw [e] at this
   exact this
  have hsz : (strOf (decDigits n)).size = (decDigits n).length := strOf_size _
  have HFM := fun V (h : Gl V) => fmt_any n hn V h.pow
  have eS : ∀ l : List UInt8, (⟨l.toArray⟩ : ByteArray) = strOf l := fun l => rfl
  simp only [eS] at HFM
  generalize strOf (madeN a b true n) = X at s2 ⊢
  generalize strOf (a ++ numB n) = Y at s1 s2
  generalize strOf (numB n) = Z at s0 s1
  generalize strOf (decDigits n) = Dq at *
  generalize strOf (List.replicate m 48) = Rq at *
  generalize (decDigits n).length = d at *
  generalize strOf a = A at *
  generalize strOf b = Bq at *
  clear hg eS
  go_enter Tryz.func34, Tryz.ntmps34
  go_wp2_with fail
  refine (HFM _ (HB.out.2.later HB.out.1)).mono ?_
  rintro _ w2 ⟨rfl, hb2⟩
  have H2 : Hid (Below w.heap.size w w2 ∧ Box w2 w.heap.size TFm #[.string A, .string Bq, .bool true]) := ⟨HB.out.1.trans (hb2.mono HB.out.1.size), (Box.new _ _ _).kept (hb2.block _ (by simp))⟩
  have c0 := H2.out.2.cell 0
  have c1 := H2.out.2.cell 1
  clear hb2
  go_wp2_with fail
  rw [HMX.out]
  refine (hrep _).mono ?_
  rintro _ w3 ⟨rfl, hb3⟩
  have H3 : Hid (Below w.heap.size w w3 ∧ Box w3 w.heap.size TFm #[.string A, .string Bq, .bool true]) := ⟨H2.out.1.trans (hb3.mono H2.out.1.size), H2.out.2.kept (hb3.block _ H2.out.2.lt)⟩
  have d0 := H3.out.2.cell 0
  have d1 := H3.out.2.cell 1
  clear hb3
  go_wp2
  go_ret
  exact ⟨rfl, H3.out.1⟩
theorem made_name (k : Int) (n : Nat) : (if fmN k = true ∧ mayN n = false then [] else madeN (fmA k) (fmB k) (fmN k) n) = nameP k n := by
 unfold nameP
 by_cases h4 : k = 4
 · subst h4; rfl
 rw [if_neg h4]
 by_cases h5 : k = 5
 · subst h5; rfl
 rw [if_neg h5]
 by_cases hk : k = 1 ∨ k = 2 ∨ k = 3
 · have hN : fmN k = true := decide_eq_true hk
   by_cases hm : n < 1 ∨ 1099511627776 < n
   · rw [if_pos hm, if_pos ⟨hN, decide_eq_false (by omega)⟩]
   · rw [if_neg hm, if_neg (fun h => by have := h.2; unfold mayN at this; rw [decide_eq_true (by omega)] at this; cases this)]
     rcases hk with rfl | rfl | rfl
     · rfl
     · rfl
     · show manB ++ (numB n ++ []) = _
       rw [List.append_nil]
       rfl
 · have hN : fmN k = false := decide_eq_false hk
   rw [if_neg (fun h => by rw [hN] at h; cases h.1)]
   have e : madeN (fmA k) (fmB k) (fmN k) n = [] := by
    unfold madeN fmA fmB
    rw [hN, if_neg (show ¬ k = 3 by omega), if_neg h4, if_neg h5, if_neg (show ¬ k = 1 by omega), if_neg (show ¬ k = 2 by omega)]
    rfl
   rw [e]
   split
   · rfl
   · rw [if_neg (by omega), if_neg (by omega), if_neg (by omega)]
theorem fmA_len (k : Int) : (fmA k).length ≤ 1000 := by
 unfold fmA
 split
 · decide
 · split
   · decide
   · split <;> decide
theorem fmB_len (k : Int) : (fmB k).length ≤ 1000 := by
 unfold fmB
 split
 · decide
 · split <;> decide
set_option maxHeartbeats 1000000 in
theorem name_any (k : Int) (hk : WfI k) (n : Nat) (hn : n < 18446744073709551616) (w : World) (hg : Gl w) :
 Calls Tryz.prog 10 #[.int .i64 k, .int .u64 (n : Int)] w fun e w' => e = .returned (.string (strOf (nameP k n))) ∧ Below w.heap.size w w' := by
 have HL := fun (W : World) (b : Nat) (h : MpF W b) => MpF.look h hk
 have HM := fun (W : World) => may_any n W
 have HNM := fun (W : World) (h : Gl W) => fname_any (fmA k) (fmB k) (fmN k) n (fmA_len k) (fmB_len k) hn W h
 have HG : Hid (Gl w) := hg
 have HP := made_name k n
 unfold fmV at HL
 generalize nameP k n = Y at *
 generalize strOf (fmA k) = A at *
 generalize strOf (fmB k) = Bq at *
 generalize hX : madeN (fmA k) (fmB k) (fmN k) n = X at *
 clear hX hg hk
 cases hN : fmN k with
 | false =>
  rw [hN] at HP HL HNM
  rw [if_neg (by simp)] at HP
  subst HP
  go_enter Tryz.func10, Tryz.ntmps10
  go_wp2_with fail
  refine (forms_any _).mono ?_
  rintro _ w2 ⟨b, rfl, hF, hbb, hb2⟩
  have hl := HL w2 b hF
  have H2 : Hid (Below w.heap.size w (w2.alloc (.cells #[.string A, .string Bq, .bool false] TFm))) := hb2.alloc (by have := hb2.size; omega) _
  clear hF hbb hb2
  go_wp2_with fail
  refine (HNM _ (HG.out.later H2.out)).mono ?_
  rintro _ w3 ⟨rfl, hb3⟩
  have H3 : Hid (Below w.heap.size w w3) := H2.out.trans (hb3.mono H2.out.size)
  go_wp2
  go_ret
  exact ⟨rfl, H3.out⟩
 | true =>
  rw [hN] at HP HL HNM
  go_enter Tryz.func10, Tryz.ntmps10
  go_wp2_with fail
  refine (forms_any _).mono ?_
  rintro _ w2 ⟨b, rfl, hF, hbb, hb2⟩
  have hl := HL w2 b hF
  have H2 : Hid (Below w.heap.size w (w2.alloc (.cells #[.string A, .string Bq, .bool true] TFm))) := hb2.alloc (by have := hb2.size; omega) _
  clear hF hbb hb2
  go_wp2_with fail
  refine (HM _).mono ?_
  rintro _ w3 ⟨rfl, rfl⟩
  cases hm : mayN n with
  | false =>
   rw [if_pos ⟨trivial, hm⟩] at HP
   subst HP
   go_wp2
   go_ret
   exact ⟨rfl, H2.out⟩
  | true =>
   rw [if_neg (fun h => by rw [hm] at h; cases h.2)] at HP
   subst HP
   go_wp2_with fail
   refine (HNM _ (HG.out.later H2.out)).mono ?_
   rintro _ w3 ⟨rfl, hb3⟩
   have H3 : Hid (Below w.heap.size w w3) := H2.out.trans (hb3.mono H2.out.size)
   go_wp2
   go_ret
   exact ⟨rfl, H3.out⟩
end Go.Proofs.YtmlfbihlbiikeaaGreatDoor
namespace Go.Proofs.YtmlfbihlbiikeaaGreatDoor
open Go.RowKit
def theLaid : List (String × DataW Unit) := Rows.manifestNumbersRow.laid
theorem g_pow : Tryz.prog.globalNamed "internal/strconv.uint64pow10" = some 0 := by kernel_rfl
theorem t_pow : (Tryz.prog.globals[0]?).map (·.type) = some 256 := by kernel_rfl
theorem c_pow : Tryz.prog.cellsOf 256 = 20 := by kernel_rfl
theorem c_u64 : Tryz.prog.cellsOf 23 = 1 := by kernel_rfl
theorem g_tab : Tryz.prog.globalNamed "math/bits.deBruijn64tab" = some 5 := by kernel_rfl
theorem pow_laid {W : World} (h : laidMetH Tryz.prog theLaid W) : Pow W := by
 have h1 := h.filter (fun x => x.1 == "internal/strconv.uint64pow10")
 have e : theLaid.filter (fun x => x.1 == "internal/strconv.uint64pow10") = [("internal/strconv.uint64pow10", Lib.tabData .u64 Lib.pow10Tab)] := by rfl
 rw [e] at h1
 exact Lib.tabIs_of_head (rest := []) g_pow t_pow Tryz.underlying256 Tryz.underlying23 c_u64 c_pow h1
theorem size_laid {W : World} (h : laidMetH Tryz.prog theLaid W) : 6 ≤ W.heap.size := by
 have h1 := h.filter (fun x => x.1 == "math/bits.deBruijn64tab")
 have e : ∃ d, theLaid.filter (fun x => x.1 == "math/bits.deBruijn64tab") = [("math/bits.deBruijn64tab", d)] ∧ d.handleName?.isNone = true := ⟨_, rfl, rfl⟩
 obtain ⟨d, e, hd⟩ := e
 rw [e] at h1
 rw [MakeChecks.laidMetH_plain _ _ _ (by simp [hd])] at h1
 obtain ⟨ps, ⟨g', t', cs, fuel, p, q, hg', ht', hvar, hd, _, _⟩, _⟩ := h1
 obtain rfl := Option.some.inj (g_tab.symm.trans hg')
 exact var_lt g_tab hvar
theorem iface_trod {H : Type} {enc : TypeId × Value → H} {w : World} {base : Nat} {sp : Nat → Bool} {fuel : Nat} {t : TypeId} {cs : List Value} {n : String} {d : DataW H} {p : List MemPlace} {l : _} (hu : Tryz.prog.underlying t = some (.interface l)) (h : DataW.trod enc Tryz.prog w base sp false fuel t cs = some (.iface n d, p)) : ∃ u v, cs = [.iface u v] := by
 cases fuel with
 | zero => simp [DataW.trod] at h
 | succ f =>
  unfold DataW.trod at h
  rw [hu] at h
  split at h <;> simp_all
theorem sent_laid {W : World} {name : String} {g : Nat} {t : TypeId} {l : _} {n : String} {d : DataW Unit} (hg : Tryz.prog.globalNamed name = some g) (hty : (Tryz.prog.globals[g]?).map (·.type) = some t) (hu : Tryz.prog.underlying t = some (.interface l)) (h : laidMet Tryz.prog [(name, DataW.iface n d)] W) : ∃ tp p, W.var? Tryz.prog name = some #[.iface tp p] := by
 obtain ⟨ps, ⟨g', t', cs, fuel, p, q, hg', ht', hvar, hd, _, _⟩, _⟩ := h
 obtain rfl := Option.some.inj (hg.symm.trans hg')
 obtain rfl := Option.some.inj (hty.symm.trans ht')
 obtain ⟨u, v, hcs⟩ := iface_trod hu hd
 refine ⟨u, v, ?_⟩
 rw [hvar, show cs = #[Value.iface u v] from Array.toList_inj.1 hcs]
theorem syn_laid {W : World} (h : laidMetH Tryz.prog theLaid W) : ∃ tp p, W.var? Tryz.prog "strconv.ErrSyntax" = some #[.iface tp p] := by
 have h1 := h.filter (fun x => x.1 == "strconv.ErrSyntax")
 have e : theLaid.filter (fun x => x.1 == "strconv.ErrSyntax") = [("strconv.ErrSyntax", Rows.laid_strconv_ErrSyntax)] := by rfl
 rw [e] at h1
 rw [MakeChecks.laidMetH_plain _ _ _ (by rfl)] at h1
 exact sent_laid gl_syn (by kernel_rfl : (Tryz.prog.globals[1]?).map (·.type) = some 146) Tryz.underlying146 h1
theorem rng_laid {W : World} (h : laidMetH Tryz.prog theLaid W) : ∃ tp p, W.var? Tryz.prog "strconv.ErrRange" = some #[.iface tp p] := by
 have h1 := h.filter (fun x => x.1 == "strconv.ErrRange")
 have e : theLaid.filter (fun x => x.1 == "strconv.ErrRange") = [("strconv.ErrRange", Rows.laid_strconv_ErrRange)] := by rfl
 rw [e] at h1
 rw [MakeChecks.laidMetH_plain _ _ _ (by rfl)] at h1
 exact sent_laid gl_rng (by kernel_rfl : (Tryz.prog.globals[2]?).map (·.type) = some 146) Tryz.underlying146 h1
theorem gl_of {W : World} (h : laidMetH Tryz.prog theLaid W) : Gl W := ⟨pow_laid h, syn_laid h, rng_laid h⟩
def nums (k : IntKind) (l : List Int) : Array Value := (l.map fun (n : Int) => Value.int k n).toArray
def laidHeap (h : Array Obj) : Array Obj :=
 (((((((h.setIfInBounds 4 (.cells (nums .u8 (Lib.deBruijn32tab.map Int.ofNat)) 310)).setIfInBounds 5 (.cells (nums .u8 (Lib.deBruijn64tab.map Int.ofNat)) 311)).setIfInBounds 0 (.cells (nums .u64 Lib.pow10Tab) 256)).setIfInBounds 2 (.cells #[.iface 307 (.pointer (some ⟨h.size, 0, none⟩))] 146)).setIfInBounds 1 (.cells #[.iface 307 (.pointer (some ⟨h.size + 1, 0, none⟩))] 146)).push (.cells #[.string "value out of range".toUTF8] 309)).push (.cells #[.string "invalid syntax".toUTF8] 309))
end Go.Proofs.YtmlfbihlbiikeaaGreatDoor
namespace Go.Proofs.YtmlfbihlbiikeaaGreatDoor
open Go.RowKit
abbrev TFi : TypeId := 182
set_option maxHeartbeats 1000000 in
theorem newer_any (f g : PF) (w : World) : Calls Tryz.prog 166 #[.agg #[.int .i64 f.level, .int .u64 (f.num : Int), .int .i64 f.size, .string f.small.user, .int .u64 (f.small.seq : Int), .int .i64 f.small.kind, .string f.large.user, .int .u64 (f.large.seq : Int), .int .i64 f.large.kind], .agg #[.int .i64 g.level, .int .u64 (g.num : Int), .int .i64 g.size, .string g.small.user, .int .u64 (g.small.seq : Int), .int .i64 g.small.kind, .string g.large.user, .int .u64 (g.large.seq : Int), .int .i64 g.large.kind]] w fun e w' => e = .returned (.bool (decide (g.num < f.num))) ∧ Below w.heap.size w w' := by
 have HW : Hid (Below w.heap.size w ((w.alloc (.cells (fA f) TFi)).alloc (.cells (fA g) TFi))) := ((Below.refl _ _).alloc (Nat.le_refl _) _).alloc (by simp) _
 go_enter Tryz.func166, Tryz.ntmps166
 go_wp2
 go_ret
 exact ⟨by simp, HW.out⟩
set_option maxHeartbeats 1000000 in
theorem below_any (f g : PF) (w : World) : Calls Tryz.prog 167 #[.agg #[.int .i64 f.level, .int .u64 (f.num : Int), .int .i64 f.size, .string f.small.user, .int .u64 (f.small.seq : Int), .int .i64 f.small.kind, .string f.large.user, .int .u64 (f.large.seq : Int), .int .i64 f.large.kind], .agg #[.int .i64 g.level, .int .u64 (g.num : Int), .int .i64 g.size, .string g.small.user, .int .u64 (g.small.seq : Int), .int .i64 g.small.kind, .string g.large.user, .int .u64 (g.large.seq : Int), .int .i64 g.large.kind]] w fun e w' => e = .returned (.bool (decide (apartF f g))) ∧ Below w.heap.size w w' := by
 have HW : Hid (Below w.heap.size w ((w.alloc (.cells (fA f) TFi)).alloc (.cells (fA g) TFi))) := ((Below.refl _ _).alloc (Nat.le_refl _) _).alloc (by simp) _
 go_enter Tryz.func167, Tryz.ntmps167
 go_wp2
 go_ret
 exact ⟨by simp [apartF, ul], HW.out⟩
def ordV (n : Nat) : Value := .func (.func (if n = 0 then 166 else 167)) #[] #[]
theorem orderOf_any (n : Nat) (w : World) : Calls Tryz.prog 113 #[.int .i64 (n : Int)] w fun e w' => e = .returned (ordV n) ∧ w = w' := by
 unfold ordV
 go_enter Tryz.func113, Tryz.ntmps113
 by_cases h : n = 0
 · subst h
   go_wp2
   go_ret
   exact ⟨ret1 rfl, rfl⟩
 · have hb : ((n : Int) == 0) = false := beq_eq_false_iff_ne.2 (by omega)
   rw [if_neg h]
   go_wp2
   go_ret
   exact ⟨ret1 rfl, rfl⟩
end Go.Proofs.YtmlfbihlbiikeaaGreatDoor
