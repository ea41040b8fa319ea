/- Files that a crash cuts, by plain functions. -/
import Derived.WalkKit
namespace Go.Proofs.Ytkelahekfkhcfaa

structure PFile where
  b : List UInt8
  last : Nat
structure PName where
  name : List UInt8
  file : Nat
structure PChange where
  kind : Nat
  name : List UInt8
  to : List UInt8
  file : Nat
/-- A file system: files (bytes, how many last), names in order, the names that last, the changes of names since. -/
structure PFs where
  files : List PFile
  names : List PName
  lasts : List PName
  since : List PChange
  quota : Nat
  fused : Bool
  fuse : Int
  fails : Bool
  fail : Int
  asked : Nat
def file0 : PFile := ⟨[], 0⟩

/-- Is one text ahead of another? -/
def ltB : List UInt8 → List UInt8 → Bool
  | _, [] => false
  | [], _ :: _ => true
  | a :: r, b :: s => if a.toNat < b.toNat then true else if b.toNat < a.toNat then false else ltB r s
def without (l : List PName) (name : List UInt8) : List PName := l.filter (fun x => x.name != name)
def insN (n : PName) : List PName → List PName
  | [] => [n]
  | x :: r => if ltB n.name x.name then n :: x :: r else x :: insN n r
def withN (l : List PName) (n : PName) : List PName := insN n (without l n.name)
def findN (l : List PName) (name : List UInt8) : Option Nat := (l.find? (fun x => x.name == name)).map (·.file)
def changedN (l : List PName) (c : PChange) : List PName :=
  if c.kind = 1 then withN l ⟨c.name, c.file⟩ else if c.kind = 2 then withN (without l c.name) ⟨c.to, c.file⟩ else without l c.name
def goodN (name : List UInt8) : Bool := decide (0 < name.length) && decide (name.length ≤ 32)

namespace PFs
def new (quota : Nat) : PFs := ⟨[], [], [], [], quota, false, 0, false, 0, 0⟩
def off (S : PFs) : Bool := S.fused && (S.fuse == 0)
def ask (S : PFs) : PFs × Nat :=
  if S.off = true then ({ S with asked := S.asked + 1 }, 44)
  else if S.fails = true then
    (if S.fail = 0 then ({ S with asked := S.asked + 1, fuse := if S.fused then S.fuse - 1 else S.fuse, fails := false }, 45)
     else ({ S with asked := S.asked + 1, fuse := if S.fused then S.fuse - 1 else S.fuse, fail := S.fail - 1 }, 0))
  else ({ S with asked := S.asked + 1, fuse := if S.fused then S.fuse - 1 else S.fuse }, 0)
def change (S : PFs) (c : PChange) : PFs := { S with names := changedN S.names c, since := S.since ++ [c] }
def create (S : PFs) (name : List UInt8) : PFs × Nat :=
  if S.ask.2 ≠ 0 then S.ask
  else if goodN name = false then (S.ask.1, 40)
  else if (findN S.names name).isSome then (S.ask.1, 41)
  else (({ S.ask.1 with files := S.files ++ [file0] } : PFs).change ⟨1, name, [], S.files.length⟩, 0)
def fileOf (S : PFs) (k : Nat) : PFile := S.files.getD k file0
def bulk (S : PFs) (l : List PName) : Nat := match l with
  | [] => 0
  | n :: r => (S.fileOf n.file).b.length + S.bulk r
def append (S : PFs) (name b : List UInt8) : PFs × Nat :=
  if S.ask.2 ≠ 0 then S.ask
  else match findN S.names name with
    | none => (S.ask.1, 42)
    | some k => if S.quota < b.length + S.bulk S.names then (S.ask.1, 43)
      else ({ S.ask.1 with files := S.files.set k ⟨(S.fileOf k).b ++ b, (S.fileOf k).last⟩ }, 0)
def sync (S : PFs) (name : List UInt8) : PFs × Nat :=
  if S.ask.2 ≠ 0 then S.ask
  else match findN S.names name with
    | none => (S.ask.1, 42)
    | some k => ({ S.ask.1 with files := S.files.set k ⟨(S.fileOf k).b, (S.fileOf k).b.length⟩ }, 0)
def rename (S : PFs) (a b : List UInt8) : PFs × Nat :=
  if S.ask.2 ≠ 0 then S.ask
  else match findN S.names a with
    | none => (S.ask.1, 42)
    | some k => if goodN b = false then (S.ask.1, 40) else (S.ask.1.change ⟨2, a, b, k⟩, 0)
def remove (S : PFs) (name : List UInt8) : PFs × Nat :=
  if S.ask.2 ≠ 0 then S.ask
  else match findN S.names name with
    | none => (S.ask.1, 42)
    | some _ => (S.ask.1.change ⟨3, name, [], 0⟩, 0)
def syncDir (S : PFs) : PFs × Nat :=
  if S.ask.2 ≠ 0 then S.ask else ({ S.ask.1 with lasts := S.names, since := [] }, 0)
def read (S : PFs) (name : List UInt8) : List UInt8 × Nat :=
  if S.off = true then ([], 44) else match findN S.names name with
    | none => ([], 42)
    | some k => ((S.fileOf k).b, 0)
def list (S : PFs) : List (List UInt8) × Nat := if S.off = true then ([], 44) else (S.names.map (·.name), 0)
def setFuse (S : PFs) (n : Int) : PFs := { S with fused := decide (0 ≤ n), fuse := n }
def setFail (S : PFs) (n : Int) : PFs := { S with fails := decide (0 ≤ n), fail := n }
def damage (S : PFs) (name : List UInt8) (at_ : Int) (turn : UInt8) : PFs × Nat :=
  match findN S.names name with
  | none => (S, 42)
  | some k => if at_ < 0 ∨ ((S.fileOf k).b.length : Int) ≤ at_ then (S, 1)
    else ({ S with files := S.files.set k ⟨(S.fileOf k).b.set at_.toNat ((S.fileOf k).b.getD at_.toNat 0 ^^^ turn), (S.fileOf k).last⟩ }, 0)
/-- A pick at a place, by its remainder. -/
def pick (picks : List Int) (i most : Nat) : Nat :=
  ((if picks.getD i 0 < 0 then -1 - picks.getD i 0 else picks.getD i 0) % ((most : Int) + 1)).toNat
def cut (f : PFile) (n : Nat) : PFile := ⟨f.b.take n, n⟩
def crashFiles (picks : List Int) : List PName → Nat → List PFile → List PFile
  | [], _, fs => fs
  | n :: r, i, fs => crashFiles picks r (i + 1) (fs.set n.file (cut (fs.getD n.file file0) ((fs.getD n.file file0).last + pick picks (i + 1) ((fs.getD n.file file0).b.length - (fs.getD n.file file0).last))))
def stays (S : PFs) (picks : List Int) : List PName := (S.since.take (pick picks 0 S.since.length)).foldl changedN S.lasts
def crash (S : PFs) (picks : List Int) : PFs :=
  { S with names := S.stays picks, lasts := S.stays picks, since := [], files := crashFiles picks (S.stays picks) 0 S.files, fused := false, fails := false }
end PFs
end Go.Proofs.Ytkelahekfkhcfaa
