/- The contract of the document's own one, whatever the instruction. -/
import Derived.Test.YtehkcgjiimfdjaaR5Onew
import Derived.Test.YtehkcgjiimfdjaaR5One1
import Derived.Test.YtehkcgjiimfdjaaR5One2
import Derived.Test.YtehkcgjiimfdjaaR5One3
import Derived.Test.YtehkcgjiimfdjaaR5One4
import Derived.Test.YtehkcgjiimfdjaaR5One5
import Derived.Test.YtehkcgjiimfdjaaR5One6
import Derived.Test.YtehkcgjiimfdjaaPbOneA
import Derived.Test.YtehkcgjiimfdjaaPbOneB
import Derived.Test.YtehkcgjiimfdjaaR5One13
namespace Go.Proofs.Ytehkcgjiimfdjaa
open Go.RowKit
theorem ins_op {x : Ins} {n : Nat} (h : insOk x n = true) : x.op = 1 ∨ x.op = 2 ∨ x.op = 3 ∨ x.op = 4 ∨ x.op = 5 ∨ x.op = 6 ∨ x.op = 7 ∨ x.op = 8 ∨ x.op = 9 ∨ x.op = 10 ∨ x.op = 11 ∨ x.op = 12 ∨ x.op = 13 ∨ x.op = 14 := by
  by_cases h1 : x.op = 1 ∨ x.op = 2 ∨ x.op = 3 ∨ x.op = 4 ∨ x.op = 5 ∨ x.op = 6 ∨ x.op = 7 ∨ x.op = 8 ∨ x.op = 9 ∨ x.op = 10 ∨ x.op = 11 ∨ x.op = 12 ∨ x.op = 13
  · omega
  · have e : ¬ x.op = 1 ∧ ¬ x.op = 2 ∧ ¬ x.op = 3 ∧ ¬ x.op = 4 ∧ ¬ x.op = 5 ∧ ¬ x.op = 6 ∧ ¬ x.op = 7 ∧ ¬ x.op = 8 ∧ ¬ x.op = 9 ∧ ¬ x.op = 10 ∧ ¬ x.op = 11 ∧ ¬ x.op = 12 ∧ ¬ x.op = 13 := by omega
    obtain ⟨e1, e2, e3, e4, e5, e6, e7, e8, e9, e10, e11, e12, e13⟩ := e
    have : x.op = 14 := by simpa [insOk, e1, e2, e3, e4, e5, e6, e7, e8, e9, e10, e11, e12, e13] using h
    omega
theorem one_at {w0 w : World} {p q : Nat} {a : Option Addr} {len cap : Nat} {code : List (List Ins)} {G : RW} {i : Nat} (D : Go1 w0 w p q a len cap code G i) (hcd : (G.t i).cd < 0) (hem : G.em.length < 1099511627776) :
    Calls Try.prog 21 #[at_ p, .int .i64 (i : Int)] w fun e w' => e = .returned (.tuple #[]) ∧ OneAt w0 w' p q (.slice a len cap) (G.one code i) := by
  by_cases hw : 0 ≤ (G.t i).wt
  · exact one_w D hw
  · have hw' : (G.t i).wt < 0 := by omega
    have hil : i < code.length := by rw [D.ok.many]; exact D.hi
    have hO := D.ok.ok i hil D.en D.bd
    have hins : insOk (insAt code i (G.t i).pl) (code.getD i []).length = true := code_ins (D.ok.good i hil) hO.2
    rcases ins_op hins with h | h | h | h | h | h | h | h | h | h | h | h | h | h
    · exact one_1 D hw' h
    · exact one_2 D hw' h
    · exact one_3 D hw' h
    · exact one_4 D hw' h
    · exact one_5 D hw' h
    · exact one_6 D hw' h
    · exact one_7 D hw' h
    · exact one_8 D hw' h
    · exact one_9 D hw' h
    · exact one_10 D hw' h
    · exact one_11 D hw' h hcd
    · exact one_12 D hw' h hcd
    · exact one_13 D hw' h hem
    · exact one_14 D hw' h
end Go.Proofs.Ytehkcgjiimfdjaa
