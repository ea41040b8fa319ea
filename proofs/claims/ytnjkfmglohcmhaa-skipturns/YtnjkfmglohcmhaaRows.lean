/-
  No cell of these rows narrows 'for every input' (looked for: loops, veiled, ifaces, maps, wideKeys, modest, calm, conditions, laid).
  DERIVED. THE GIVEN ROWS OF THIS SEAT. 6 by the template 'for every input the law returns true; each argument reads behind the call as it read before'; 0 by the template 'total and deterministic' (their statements: YtnjkfmglohcmhaaTotals.lean).
  GIVEN WITH THE SEED: the statements are not yours to turn. If you find one false, say at which input.
  Laid BY PROGRAM, IN A SANDBOX (cutbox-rows.mjs): the forced cells as the released guide's own fill.sh prints them over the translation af2da659cb26f345… (all of the seat's roots in one cut). By AI agents, Wed Nov 11 2026. No macro, syntax, notation, axiom, sorry.
-/
import Derived.Test.YtnjkfmglohcmhaaChecked
import GoSem.Claim
import GoSem.ClaimJoined
import GoSem.ClaimMapViews
import Derived.JoinedTies
import Derived.KernelRfl
namespace Go.Proofs.Ytnjkfmglohcmhaa
/- THE CELL 'sum', in the pinned program and in every row, IS THE sha256 OF THE DUMP (.gsa) THAT YtnjkfmglohcmhaaProg.lean LOADS. Nothing in Lean hashes anything: it is a label: what it is worth is what the hold of that sum in a sandbox is worth. -/
noncomputable def Try.pinned : Pinned := { name := "ytnjkfmglohcmhaa", sum := "af2da659cb26f3451c6bfd9a0c12280752387a99bf743cb840c05d5777e25842", checked := Try.checked }
namespace Rows
def none {H : Type} : Left H := { results := [], args := [] }

/-- 'staddlelaw07.SkipNames': WHATEVER THE INPUT: true; the input reads as it did. -/
def skipNamesSpec : ChangeSpec := { name := "skipNames", fn := fun _ => fun
  | [] => { results := [.lit (.bool true)], args := [] }
  | _ => none }
def skipNamesRow : OpenClaim := { program := "ytnjkfmglohcmhaa", sum := "af2da659cb26f3451c6bfd9a0c12280752387a99bf743cb840c05d5777e25842", func := "staddle/staddlelaw07.SkipNames", spec := "skipNames", unfollowed := true, recurses := true, apart := false }
def SkipNamesSaid : Prop := skipNamesRow.holds Try.pinned (OpenSpec.ofChange skipNamesSpec)

/-- ITS FALSE NEIGHBOUR: 'it returns false'. Refute it at one input. -/
def skipNamesWrong : ChangeSpec := { name := "skipNames", fn := fun _ => fun
  | [] => { results := [.lit (.bool false)], args := [] }
  | _ => none }
def SkipNamesWrongFalsely : Prop := skipNamesRow.holds Try.pinned (OpenSpec.ofChange skipNamesWrong)

/-- 'staddlelaw07.SkipTurns': WHATEVER THE INPUT: true; the input reads as it did. -/
def skipTurnsSpec : ChangeSpec := { name := "skipTurns", fn := fun _ => fun
  | [d1, d2] => { results := [.lit (.bool true)], args := [d1, d2] }
  | _ => none }
def skipTurnsRow : OpenClaim := { program := "ytnjkfmglohcmhaa", sum := "af2da659cb26f3451c6bfd9a0c12280752387a99bf743cb840c05d5777e25842", func := "staddle/staddlelaw07.SkipTurns", spec := "skipTurns", unfollowed := true, recurses := true, apart := false }
def SkipTurnsSaid : Prop := skipTurnsRow.holds Try.pinned (OpenSpec.ofChange skipTurnsSpec)

/-- ITS FALSE NEIGHBOUR: 'it returns false'. Refute it at one input. -/
def skipTurnsWrong : ChangeSpec := { name := "skipTurns", fn := fun _ => fun
  | [d1, d2] => { results := [.lit (.bool false)], args := [d1, d2] }
  | _ => none }
def SkipTurnsWrongFalsely : Prop := skipTurnsRow.holds Try.pinned (OpenSpec.ofChange skipTurnsWrong)

/-- 'staddlelaw07.SkipSolo': WHATEVER THE INPUT: true; the input reads as it did. -/
def skipSoloSpec : ChangeSpec := { name := "skipSolo", fn := fun _ => fun
  | [d1, d2] => { results := [.lit (.bool true)], args := [d1, d2] }
  | _ => none }
def skipSoloRow : OpenClaim := { program := "ytnjkfmglohcmhaa", sum := "af2da659cb26f3451c6bfd9a0c12280752387a99bf743cb840c05d5777e25842", func := "staddle/staddlelaw07.SkipSolo", spec := "skipSolo", unfollowed := true, recurses := true, apart := false }
def SkipSoloSaid : Prop := skipSoloRow.holds Try.pinned (OpenSpec.ofChange skipSoloSpec)

/-- ITS FALSE NEIGHBOUR: 'it returns false'. Refute it at one input. -/
def skipSoloWrong : ChangeSpec := { name := "skipSolo", fn := fun _ => fun
  | [d1, d2] => { results := [.lit (.bool false)], args := [d1, d2] }
  | _ => none }
def SkipSoloWrongFalsely : Prop := skipSoloRow.holds Try.pinned (OpenSpec.ofChange skipSoloWrong)

/-- 'staddlelaw07.SkipSeeks': WHATEVER THE INPUT: true; the input reads as it did. -/
def skipSeeksSpec : ChangeSpec := { name := "skipSeeks", fn := fun _ => fun
  | [d1, d2, d3] => { results := [.lit (.bool true)], args := [d1, d2, d3] }
  | _ => none }
def skipSeeksRow : OpenClaim := { program := "ytnjkfmglohcmhaa", sum := "af2da659cb26f3451c6bfd9a0c12280752387a99bf743cb840c05d5777e25842", func := "staddle/staddlelaw07.SkipSeeks", spec := "skipSeeks", unfollowed := true, recurses := true, apart := false }
def SkipSeeksSaid : Prop := skipSeeksRow.holds Try.pinned (OpenSpec.ofChange skipSeeksSpec)

/-- ITS FALSE NEIGHBOUR: 'it returns false'. Refute it at one input. -/
def skipSeeksWrong : ChangeSpec := { name := "skipSeeks", fn := fun _ => fun
  | [d1, d2, d3] => { results := [.lit (.bool false)], args := [d1, d2, d3] }
  | _ => none }
def SkipSeeksWrongFalsely : Prop := skipSeeksRow.holds Try.pinned (OpenSpec.ofChange skipSeeksWrong)

/-- 'staddlelaw07.SkipRefuses': WHATEVER THE INPUT: true; the input reads as it did. -/
def skipRefusesSpec : ChangeSpec := { name := "skipRefuses", fn := fun _ => fun
  | [d1, d2, d3] => { results := [.lit (.bool true)], args := [d1, d2, d3] }
  | _ => none }
def skipRefusesRow : OpenClaim := { program := "ytnjkfmglohcmhaa", sum := "af2da659cb26f3451c6bfd9a0c12280752387a99bf743cb840c05d5777e25842", func := "staddle/staddlelaw07.SkipRefuses", spec := "skipRefuses", unfollowed := true, recurses := true, apart := false }
def SkipRefusesSaid : Prop := skipRefusesRow.holds Try.pinned (OpenSpec.ofChange skipRefusesSpec)

/-- ITS FALSE NEIGHBOUR: 'it returns false'. Refute it at one input. -/
def skipRefusesWrong : ChangeSpec := { name := "skipRefuses", fn := fun _ => fun
  | [d1, d2, d3] => { results := [.lit (.bool false)], args := [d1, d2, d3] }
  | _ => none }
def SkipRefusesWrongFalsely : Prop := skipRefusesRow.holds Try.pinned (OpenSpec.ofChange skipRefusesWrong)

/-- 'staddlelaw07.SkipNil': WHATEVER THE INPUT: true; the input reads as it did. -/
def skipNilSpec : ChangeSpec := { name := "skipNil", fn := fun _ => fun
  | [d1, d2] => { results := [.lit (.bool true)], args := [d1, d2] }
  | _ => none }
def skipNilRow : OpenClaim := { program := "ytnjkfmglohcmhaa", sum := "af2da659cb26f3451c6bfd9a0c12280752387a99bf743cb840c05d5777e25842", func := "staddle/staddlelaw07.SkipNil", spec := "skipNil", unfollowed := true, recurses := true, apart := false }
def SkipNilSaid : Prop := skipNilRow.holds Try.pinned (OpenSpec.ofChange skipNilSpec)

/-- ITS FALSE NEIGHBOUR: 'it returns false'. Refute it at one input. -/
def skipNilWrong : ChangeSpec := { name := "skipNil", fn := fun _ => fun
  | [d1, d2] => { results := [.lit (.bool false)], args := [d1, d2] }
  | _ => none }
def SkipNilWrongFalsely : Prop := skipNilRow.holds Try.pinned (OpenSpec.ofChange skipNilWrong)

/- THE SECOND FORM. 'bulk': how many values and letters a reading holds, each counted each time it is reached (what is shared counts as often as it is met; a slice's spare places count too). A statement '..UptoSaid' is the law's where the arguments, and the package variables that the reading takes, are together of bulk at most 1048576: NARROWER than '..Said'. Prove '..Said' where nothing that the law and all that it calls make is longer than what came in: it says more and counts as full. Else prove '..UptoSaid'. A law counts once. -/
mutual
def uptoBulk {H : Type} : DataW H → Nat
  | .lit (.string bytes) => bytes.length + 1
  | .lit _ => 1
  | .nil => 1
  | .ptr d => uptoBulk d + 1
  | .slice elems spare => uptoBulkAll elems + uptoBulkAll spare + 1
  | .agg parts => uptoBulkAll parts + 1
  | .iface _ d => uptoBulk d + 1
  | .map entries => uptoBulkEntries entries + 1
  | .held _ => 1
def uptoBulkAll {H : Type} : List (DataW H) → Nat
  | [] => 0
  | d :: r => uptoBulk d + uptoBulkAll r
def uptoBulkEntries {H : Type} : List (Lit × DataW H) → Nat
  | [] => 0
  | x :: r => uptoBulkEntry x + uptoBulkEntries r
def uptoBulkEntry {H : Type} : Lit × DataW H → Nat
  | (.string bytes, d) => bytes.length + uptoBulk d + 1
  | (_, d) => uptoBulk d + 1
 end
def uptoSmall : (H : Type) → List (DataW H) → Bool := fun _ ds => decide (uptoBulkAll ds ≤ 1048576)
def OpenSpec.upto (s : _root_.Go.ChangeSpec) : _root_.Go.OpenSpec := { _root_.Go.OpenSpec.ofChange s with cond := some uptoSmall }

/-- 'staddlelaw07.SkipNames', WHERE WHAT IT READS IS OF BULK AT MOST 1048576: true; the input reads as it did. -/
def skipNamesUptoRow : OpenClaim := { program := "ytnjkfmglohcmhaa", sum := "af2da659cb26f3451c6bfd9a0c12280752387a99bf743cb840c05d5777e25842", func := "staddle/staddlelaw07.SkipNames", spec := "skipNames", unfollowed := true, recurses := true, apart := false, narrowed := true }
def SkipNamesUptoSaid : Prop := skipNamesUptoRow.holds Try.pinned (OpenSpec.upto skipNamesSpec)

/-- 'staddlelaw07.SkipTurns', WHERE WHAT IT READS IS OF BULK AT MOST 1048576: true; the input reads as it did. -/
def skipTurnsUptoRow : OpenClaim := { program := "ytnjkfmglohcmhaa", sum := "af2da659cb26f3451c6bfd9a0c12280752387a99bf743cb840c05d5777e25842", func := "staddle/staddlelaw07.SkipTurns", spec := "skipTurns", unfollowed := true, recurses := true, apart := false, narrowed := true }
def SkipTurnsUptoSaid : Prop := skipTurnsUptoRow.holds Try.pinned (OpenSpec.upto skipTurnsSpec)

/-- 'staddlelaw07.SkipSolo', WHERE WHAT IT READS IS OF BULK AT MOST 1048576: true; the input reads as it did. -/
def skipSoloUptoRow : OpenClaim := { program := "ytnjkfmglohcmhaa", sum := "af2da659cb26f3451c6bfd9a0c12280752387a99bf743cb840c05d5777e25842", func := "staddle/staddlelaw07.SkipSolo", spec := "skipSolo", unfollowed := true, recurses := true, apart := false, narrowed := true }
def SkipSoloUptoSaid : Prop := skipSoloUptoRow.holds Try.pinned (OpenSpec.upto skipSoloSpec)

/-- 'staddlelaw07.SkipSeeks', WHERE WHAT IT READS IS OF BULK AT MOST 1048576: true; the input reads as it did. -/
def skipSeeksUptoRow : OpenClaim := { program := "ytnjkfmglohcmhaa", sum := "af2da659cb26f3451c6bfd9a0c12280752387a99bf743cb840c05d5777e25842", func := "staddle/staddlelaw07.SkipSeeks", spec := "skipSeeks", unfollowed := true, recurses := true, apart := false, narrowed := true }
def SkipSeeksUptoSaid : Prop := skipSeeksUptoRow.holds Try.pinned (OpenSpec.upto skipSeeksSpec)

/-- 'staddlelaw07.SkipRefuses', WHERE WHAT IT READS IS OF BULK AT MOST 1048576: true; the input reads as it did. -/
def skipRefusesUptoRow : OpenClaim := { program := "ytnjkfmglohcmhaa", sum := "af2da659cb26f3451c6bfd9a0c12280752387a99bf743cb840c05d5777e25842", func := "staddle/staddlelaw07.SkipRefuses", spec := "skipRefuses", unfollowed := true, recurses := true, apart := false, narrowed := true }
def SkipRefusesUptoSaid : Prop := skipRefusesUptoRow.holds Try.pinned (OpenSpec.upto skipRefusesSpec)

/-- 'staddlelaw07.SkipNil', WHERE WHAT IT READS IS OF BULK AT MOST 1048576: true; the input reads as it did. -/
def skipNilUptoRow : OpenClaim := { program := "ytnjkfmglohcmhaa", sum := "af2da659cb26f3451c6bfd9a0c12280752387a99bf743cb840c05d5777e25842", func := "staddle/staddlelaw07.SkipNil", spec := "skipNil", unfollowed := true, recurses := true, apart := false, narrowed := true }
def SkipNilUptoSaid : Prop := skipNilUptoRow.holds Try.pinned (OpenSpec.upto skipNilSpec)

end Rows
end Go.Proofs.Ytnjkfmglohcmhaa
