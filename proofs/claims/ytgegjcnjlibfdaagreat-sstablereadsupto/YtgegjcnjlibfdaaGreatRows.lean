/-
  No cell of these rows narrows 'for every input' (looked for: loops, veiled, ifaces, maps, wideKeys, modest, calm, conditions, laid).
  DERIVED. THE GIVEN ROWS OF THIS SEAT. 6 by the template 'for every input the law returns true; each argument reads behind the call as it read before'; 0 by the template 'total and deterministic' (their statements: YtgegjcnjlibfdaaGreatTotals.lean).
  GIVEN WITH THE SEED: the statements are not yours to turn. If you find one false, say at which input.
  Laid BY PROGRAM, IN A SANDBOX (cutbox-rows.mjs): the forced cells as the released guide's own fill.sh prints them over the translation cdf9a5fea681d2b2… (all of the seat's roots in one cut). By AI agents, Wed Nov 11 2026. No macro, syntax, notation, axiom, sorry.
-/
import Derived.Test.YtgegjcnjlibfdaaGreatChecked
import GoSem.Claim
import GoSem.ClaimJoined
import GoSem.ClaimMapViews
import Derived.JoinedTies
import Derived.KernelRfl
namespace Go.Proofs.YtgegjcnjlibfdaaGreat
/- THE CELL 'sum', in the pinned program and in every row, IS THE sha256 OF THE DUMP (.gsa) THAT YtgegjcnjlibfdaaGreatProg.lean LOADS. Nothing in Lean hashes anything: it is a label: what it is worth is what the hold of that sum in a sandbox is worth. -/
noncomputable def Tryz.pinned : Pinned := { name := "ytgegjcnjlibfdaagreat", sum := "cdf9a5fea681d2b2b16b012622cc85698b50911fca73e2ebcec4016bb32fe7d2", checked := Tryz.checked }
namespace Rows
def none {H : Type} : Left H := { results := [], args := [] }

/-- 'staddlelaw12.SstableNames': WHATEVER THE INPUT: true; the input reads as it did. -/
def sstableNamesSpec : ChangeSpec := { name := "sstableNames", fn := fun _ => fun
  | [] => { results := [.lit (.bool true)], args := [] }
  | _ => none }
def sstableNamesRow : OpenClaim := { program := "ytgegjcnjlibfdaagreat", sum := "cdf9a5fea681d2b2b16b012622cc85698b50911fca73e2ebcec4016bb32fe7d2", func := "staddle/staddlelaw12.SstableNames", spec := "sstableNames", inPlace := ["math.archFloor", "math.Float64bits", "math.Float64frombits", "math.archTrunc"], unfollowed := true, recurses := true, apart := false }
def SstableNamesSaid : Prop := sstableNamesRow.holds Tryz.pinned (OpenSpec.ofChange sstableNamesSpec)

/-- ITS FALSE NEIGHBOUR: 'it returns false'. Refute it at one input. -/
def sstableNamesWrong : ChangeSpec := { name := "sstableNames", fn := fun _ => fun
  | [] => { results := [.lit (.bool false)], args := [] }
  | _ => none }
def SstableNamesWrongFalsely : Prop := sstableNamesRow.holds Tryz.pinned (OpenSpec.ofChange sstableNamesWrong)

/-- 'staddlelaw12.SstableBuilds': WHATEVER THE INPUT: true; the input reads as it did. -/
def sstableBuildsSpec : ChangeSpec := { name := "sstableBuilds", fn := fun _ => fun
  | [d1, d2] => { results := [.lit (.bool true)], args := [d1, d2] }
  | _ => none }
def sstableBuildsRow : OpenClaim := { program := "ytgegjcnjlibfdaagreat", sum := "cdf9a5fea681d2b2b16b012622cc85698b50911fca73e2ebcec4016bb32fe7d2", func := "staddle/staddlelaw12.SstableBuilds", spec := "sstableBuilds", inPlace := ["math.archFloor", "math.Float64bits", "math.Float64frombits", "math.archTrunc"], unfollowed := true, recurses := true, apart := false }
def SstableBuildsSaid : Prop := sstableBuildsRow.holds Tryz.pinned (OpenSpec.ofChange sstableBuildsSpec)

/-- ITS FALSE NEIGHBOUR: 'it returns false'. Refute it at one input. -/
def sstableBuildsWrong : ChangeSpec := { name := "sstableBuilds", fn := fun _ => fun
  | [d1, d2] => { results := [.lit (.bool false)], args := [d1, d2] }
  | _ => none }
def SstableBuildsWrongFalsely : Prop := sstableBuildsRow.holds Tryz.pinned (OpenSpec.ofChange sstableBuildsWrong)

/-- 'staddlelaw12.SstableReads': WHATEVER THE INPUT: true; the input reads as it did. -/
def sstableReadsSpec : ChangeSpec := { name := "sstableReads", fn := fun _ => fun
  | [d1, d2, d3] => { results := [.lit (.bool true)], args := [d1, d2, d3] }
  | _ => none }
def sstableReadsRow : OpenClaim := { program := "ytgegjcnjlibfdaagreat", sum := "cdf9a5fea681d2b2b16b012622cc85698b50911fca73e2ebcec4016bb32fe7d2", func := "staddle/staddlelaw12.SstableReads", spec := "sstableReads", inPlace := ["math.archFloor", "math.Float64bits", "math.Float64frombits", "math.archTrunc"], unfollowed := true, recurses := true, apart := false }
def SstableReadsSaid : Prop := sstableReadsRow.holds Tryz.pinned (OpenSpec.ofChange sstableReadsSpec)

/-- ITS FALSE NEIGHBOUR: 'it returns false'. Refute it at one input. -/
def sstableReadsWrong : ChangeSpec := { name := "sstableReads", fn := fun _ => fun
  | [d1, d2, d3] => { results := [.lit (.bool false)], args := [d1, d2, d3] }
  | _ => none }
def SstableReadsWrongFalsely : Prop := sstableReadsRow.holds Tryz.pinned (OpenSpec.ofChange sstableReadsWrong)

/-- 'staddlelaw12.SstableBack': WHATEVER THE INPUT: true; the input reads as it did. -/
def sstableBackSpec : ChangeSpec := { name := "sstableBack", fn := fun _ => fun
  | [d1, d2, d3, d4] => { results := [.lit (.bool true)], args := [d1, d2, d3, d4] }
  | _ => none }
def sstableBackRow : OpenClaim := { program := "ytgegjcnjlibfdaagreat", sum := "cdf9a5fea681d2b2b16b012622cc85698b50911fca73e2ebcec4016bb32fe7d2", func := "staddle/staddlelaw12.SstableBack", spec := "sstableBack", inPlace := ["math.archFloor", "math.Float64bits", "math.Float64frombits", "math.archTrunc"], unfollowed := true, recurses := true, apart := false }
def SstableBackSaid : Prop := sstableBackRow.holds Tryz.pinned (OpenSpec.ofChange sstableBackSpec)

/-- ITS FALSE NEIGHBOUR: 'it returns false'. Refute it at one input. -/
def sstableBackWrong : ChangeSpec := { name := "sstableBack", fn := fun _ => fun
  | [d1, d2, d3, d4] => { results := [.lit (.bool false)], args := [d1, d2, d3, d4] }
  | _ => none }
def SstableBackWrongFalsely : Prop := sstableBackRow.holds Tryz.pinned (OpenSpec.ofChange sstableBackWrong)

/-- 'staddlelaw12.SstableTurns': WHATEVER THE INPUT: true; the input reads as it did. -/
def sstableTurnsSpec : ChangeSpec := { name := "sstableTurns", fn := fun _ => fun
  | [d1, d2, d3, d4, d5] => { results := [.lit (.bool true)], args := [d1, d2, d3, d4, d5] }
  | _ => none }
def sstableTurnsRow : OpenClaim := { program := "ytgegjcnjlibfdaagreat", sum := "cdf9a5fea681d2b2b16b012622cc85698b50911fca73e2ebcec4016bb32fe7d2", func := "staddle/staddlelaw12.SstableTurns", spec := "sstableTurns", inPlace := ["math.archFloor", "math.Float64bits", "math.Float64frombits", "math.archTrunc"], unfollowed := true, recurses := true, apart := false }
def SstableTurnsSaid : Prop := sstableTurnsRow.holds Tryz.pinned (OpenSpec.ofChange sstableTurnsSpec)

/-- ITS FALSE NEIGHBOUR: 'it returns false'. Refute it at one input. -/
def sstableTurnsWrong : ChangeSpec := { name := "sstableTurns", fn := fun _ => fun
  | [d1, d2, d3, d4, d5] => { results := [.lit (.bool false)], args := [d1, d2, d3, d4, d5] }
  | _ => none }
def SstableTurnsWrongFalsely : Prop := sstableTurnsRow.holds Tryz.pinned (OpenSpec.ofChange sstableTurnsWrong)

/-- 'staddlelaw12.SstableNil': WHATEVER THE INPUT: true; the input reads as it did. -/
def sstableNilSpec : ChangeSpec := { name := "sstableNil", fn := fun _ => fun
  | [d1, d2] => { results := [.lit (.bool true)], args := [d1, d2] }
  | _ => none }
def sstableNilRow : OpenClaim := { program := "ytgegjcnjlibfdaagreat", sum := "cdf9a5fea681d2b2b16b012622cc85698b50911fca73e2ebcec4016bb32fe7d2", func := "staddle/staddlelaw12.SstableNil", spec := "sstableNil", inPlace := ["math.archFloor", "math.Float64bits", "math.Float64frombits", "math.archTrunc"], unfollowed := true, recurses := true, apart := false }
def SstableNilSaid : Prop := sstableNilRow.holds Tryz.pinned (OpenSpec.ofChange sstableNilSpec)

/-- ITS FALSE NEIGHBOUR: 'it returns false'. Refute it at one input. -/
def sstableNilWrong : ChangeSpec := { name := "sstableNil", fn := fun _ => fun
  | [d1, d2] => { results := [.lit (.bool false)], args := [d1, d2] }
  | _ => none }
def SstableNilWrongFalsely : Prop := sstableNilRow.holds Tryz.pinned (OpenSpec.ofChange sstableNilWrong)

/- THE SECOND FORM. 'bulk': how many values and letters a reading holds, each counted each time it is reached (what is shared counts as often as it is met; a slice's spare places count too). A statement '..UptoSaid' is the law's where the arguments, and the package variables that the reading takes, are together of bulk at most 1048576: NARROWER than '..Said'. Prove '..Said' where nothing that the law and all that it calls make is longer than what came in: it says more and counts as full. Else prove '..UptoSaid'. A law counts once. -/
mutual
def uptoBulk {H : Type} : DataW H → Nat
  | .lit (.string bytes) => bytes.length + 1
  | .lit _ => 1
  | .nil => 1
  | .ptr d => uptoBulk d + 1
  | .slice elems spare => uptoBulkAll elems + uptoBulkAll spare + 1
  | .agg parts => uptoBulkAll parts + 1
  | .iface _ d => uptoBulk d + 1
  | .map entries => uptoBulkEntries entries + 1
  | .held _ => 1
def uptoBulkAll {H : Type} : List (DataW H) → Nat
  | [] => 0
  | d :: r => uptoBulk d + uptoBulkAll r
def uptoBulkEntries {H : Type} : List (Lit × DataW H) → Nat
  | [] => 0
  | x :: r => uptoBulkEntry x + uptoBulkEntries r
def uptoBulkEntry {H : Type} : Lit × DataW H → Nat
  | (.string bytes, d) => bytes.length + uptoBulk d + 1
  | (_, d) => uptoBulk d + 1
 end
def uptoSmall : (H : Type) → List (DataW H) → Bool := fun _ ds => decide (uptoBulkAll ds ≤ 1048576)
def OpenSpec.upto (s : _root_.Go.ChangeSpec) : _root_.Go.OpenSpec := { _root_.Go.OpenSpec.ofChange s with cond := some uptoSmall }

/-- 'staddlelaw12.SstableNames', WHERE WHAT IT READS IS OF BULK AT MOST 1048576: true; the input reads as it did. -/
def sstableNamesUptoRow : OpenClaim := { program := "ytgegjcnjlibfdaagreat", sum := "cdf9a5fea681d2b2b16b012622cc85698b50911fca73e2ebcec4016bb32fe7d2", func := "staddle/staddlelaw12.SstableNames", spec := "sstableNames", inPlace := ["math.archFloor", "math.Float64bits", "math.Float64frombits", "math.archTrunc"], unfollowed := true, recurses := true, apart := false, narrowed := true }
def SstableNamesUptoSaid : Prop := sstableNamesUptoRow.holds Tryz.pinned (OpenSpec.upto sstableNamesSpec)

/-- 'staddlelaw12.SstableBuilds', WHERE WHAT IT READS IS OF BULK AT MOST 1048576: true; the input reads as it did. -/
def sstableBuildsUptoRow : OpenClaim := { program := "ytgegjcnjlibfdaagreat", sum := "cdf9a5fea681d2b2b16b012622cc85698b50911fca73e2ebcec4016bb32fe7d2", func := "staddle/staddlelaw12.SstableBuilds", spec := "sstableBuilds", inPlace := ["math.archFloor", "math.Float64bits", "math.Float64frombits", "math.archTrunc"], unfollowed := true, recurses := true, apart := false, narrowed := true }
def SstableBuildsUptoSaid : Prop := sstableBuildsUptoRow.holds Tryz.pinned (OpenSpec.upto sstableBuildsSpec)

/-- 'staddlelaw12.SstableReads', WHERE WHAT IT READS IS OF BULK AT MOST 1048576: true; the input reads as it did. -/
def sstableReadsUptoRow : OpenClaim := { program := "ytgegjcnjlibfdaagreat", sum := "cdf9a5fea681d2b2b16b012622cc85698b50911fca73e2ebcec4016bb32fe7d2", func := "staddle/staddlelaw12.SstableReads", spec := "sstableReads", inPlace := ["math.archFloor", "math.Float64bits", "math.Float64frombits", "math.archTrunc"], unfollowed := true, recurses := true, apart := false, narrowed := true }
def SstableReadsUptoSaid : Prop := sstableReadsUptoRow.holds Tryz.pinned (OpenSpec.upto sstableReadsSpec)

/-- 'staddlelaw12.SstableBack', WHERE WHAT IT READS IS OF BULK AT MOST 1048576: true; the input reads as it did. -/
def sstableBackUptoRow : OpenClaim := { program := "ytgegjcnjlibfdaagreat", sum := "cdf9a5fea681d2b2b16b012622cc85698b50911fca73e2ebcec4016bb32fe7d2", func := "staddle/staddlelaw12.SstableBack", spec := "sstableBack", inPlace := ["math.archFloor", "math.Float64bits", "math.Float64frombits", "math.archTrunc"], unfollowed := true, recurses := true, apart := false, narrowed := true }
def SstableBackUptoSaid : Prop := sstableBackUptoRow.holds Tryz.pinned (OpenSpec.upto sstableBackSpec)

/-- 'staddlelaw12.SstableTurns', WHERE WHAT IT READS IS OF BULK AT MOST 1048576: true; the input reads as it did. -/
def sstableTurnsUptoRow : OpenClaim := { program := "ytgegjcnjlibfdaagreat", sum := "cdf9a5fea681d2b2b16b012622cc85698b50911fca73e2ebcec4016bb32fe7d2", func := "staddle/staddlelaw12.SstableTurns", spec := "sstableTurns", inPlace := ["math.archFloor", "math.Float64bits", "math.Float64frombits", "math.archTrunc"], unfollowed := true, recurses := true, apart := false, narrowed := true }
def SstableTurnsUptoSaid : Prop := sstableTurnsUptoRow.holds Tryz.pinned (OpenSpec.upto sstableTurnsSpec)

/-- 'staddlelaw12.SstableNil', WHERE WHAT IT READS IS OF BULK AT MOST 1048576: true; the input reads as it did. -/
def sstableNilUptoRow : OpenClaim := { program := "ytgegjcnjlibfdaagreat", sum := "cdf9a5fea681d2b2b16b012622cc85698b50911fca73e2ebcec4016bb32fe7d2", func := "staddle/staddlelaw12.SstableNil", spec := "sstableNil", inPlace := ["math.archFloor", "math.Float64bits", "math.Float64frombits", "math.archTrunc"], unfollowed := true, recurses := true, apart := false, narrowed := true }
def SstableNilUptoSaid : Prop := sstableNilUptoRow.holds Tryz.pinned (OpenSpec.upto sstableNilSpec)

end Rows
end Go.Proofs.YtgegjcnjlibfdaaGreat
