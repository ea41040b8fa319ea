/- The contract of do, all instructions; and of run. -/
import Derived.Test.YtehkcgjiimfdjabAct1
import Derived.Test.YtehkcgjiimfdjabAct2
import Derived.Test.YtehkcgjiimfdjabAct3
import Derived.Test.YtehkcgjiimfdjabAct4
import Derived.Test.YtehkcgjiimfdjabAct5
import Derived.Test.YtehkcgjiimfdjabAct6
import Derived.Test.YtehkcgjiimfdjabAct7
import Derived.Test.YtehkcgjiimfdjabAct8
import Derived.Test.YtehkcgjiimfdjabRun5
namespace Go.Proofs.Ytehkcgjiimfdjab
open Go.RowKit
theorem do_at {w0 w : World} {p : Nat} {g : Bg} {B : PB} (h : BdAt w0 w p g B) (hk : B.Ok) {i : Nat} (hi : i < B.ts.length) (hgo : (B.t i).ph = 0 ∨ (B.t i).ph = 2) (hem : B.em.length < 1099511627776) : Calls Try.prog 14 #[at_ p, at_ (g.q i)] w (DoPost w0 w p g (B.act i)) := by
  have hT := hk.tasks i hi
  have hpl := hT.place (by omega)
  obtain ⟨bb, off, D⟩ := DoAt.mk' h hk hi hpl
  have hins := hT.insOk hpl
  rcases hgo with h0 | h2
  · by_cases e1 : (B.t i).ins.op = 1
    · exact do_1 D e1 h0
    by_cases e2 : (B.t i).ins.op = 2
    · exact do_2 D e2 h0
    by_cases e3 : (B.t i).ins.op = 3
    · exact do_3 D e3 h0
    by_cases e4 : (B.t i).ins.op = 4
    · exact do_4 D e4 h0
    by_cases e5 : (B.t i).ins.op = 5
    · exact do_5 D e5 h0
    by_cases e6 : (B.t i).ins.op = 6
    · by_cases hv : (B.t i).get (B.t i).ins.a = 0
      · exact do_6z D e6 h0 hv
      · exact do_6n D e6 h0 hv
    by_cases e7 : (B.t i).ins.op = 7
    · exact do_7 D e7 h0
    by_cases e8 : (B.t i).ins.op = 8
    · exact do_8 D e8 h0
    by_cases e9 : (B.t i).ins.op = 9
    · exact do_9 D e9
    by_cases e10 : (B.t i).ins.op = 10
    · exact do_10a D e10 h0
    by_cases e11 : (B.t i).ins.op = 11
    · exact do_11 D e11 h0
    by_cases e12 : (B.t i).ins.op = 12
    · exact do_12 D e12 h0
    by_cases e13 : (B.t i).ins.op = 13
    · exact do_13 D e13 h0 hem
    have e14 : (B.t i).ins.op = 14 := by
      simp [insOk, e1, e2, e3, e4, e5, e6, e7, e8, e9, e10, e11, e12, e13] at hins
      exact hins
    exact do_14 D e14 h0
  · exact do_10b D (hT.waits (.inr h2)) h2
end Go.Proofs.Ytehkcgjiimfdjab
