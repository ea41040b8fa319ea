/- asked: any call. -/
import Derived.Test.YtedddgkdpeielaaB6Ask0
import Derived.Test.YtedddgkdpeielaaB6Ask1
import Derived.Test.YtedddgkdpeielaaB6Ask2
import Derived.Test.YtedddgkdpeielaaB6Ask3
import Derived.Test.YtedddgkdpeielaaB6Ask4
import Derived.Test.YtedddgkdpeielaaB6Ask5
import Derived.Test.YtedddgkdpeielaaB6Ask6
import Derived.Test.YtedddgkdpeielaaB6Ask7
namespace Go.Proofs.Ytedddgkdpeielaa
open Go.RowKit
theorem asked_any {w0 w : World} {p q : Nat} {A : PA} (h : Both w0 w p q A) (c : CallV) (hc : c.Ok w0) (hbc : c.bc ≤ 140737488351232) : Calls Try.prog 11 #[at_ p, at_ q, .agg c.cells.toArray] w fun e w' => e = .returned (.bool true) ∧ ∃ A', Both w0 w' p q A' := by
  obtain ⟨kind, pos, n, m, ba, bl, bc, bs⟩ := c
  obtain ⟨_, h1, h2, h3, h4⟩ := hc
  show Calls Try.prog _ #[at_ p, at_ q, .agg #[.int .i64 kind, .int .i64 pos, .int .i64 n, .int .i64 m, .slice ba bl bc]] w _
  by_cases k1 : kind = 1
  · subst k1
    exact asked_1 h pos n m ba bl bc bs h1 h2 h3 h4 hbc
  by_cases k2 : kind = 2
  · subst k2
    exact asked_2 h pos n m ba bl bc bs h1 h2 h3 h4 hbc
  by_cases k3 : kind = 3
  · subst k3
    exact asked_3 h pos n m ba bl bc bs h1 h2 h3 h4 hbc
  by_cases k4 : kind = 4
  · subst k4
    exact asked_4 h pos n m ba bl bc bs h1 h2 h3 h4 hbc
  by_cases k5 : kind = 5
  · subst k5
    exact asked_5 h pos n m ba bl bc bs h1 h2 h3 h4 hbc
  by_cases k6 : kind = 6
  · subst k6
    exact asked_6 h pos n m ba bl bc bs h1 h2 h3 h4 hbc
  by_cases k7 : kind = 7
  · subst k7
    exact asked_7 h pos n m ba bl bc bs h1 h2 h3 h4 hbc
  exact asked_0 h kind pos n m k1 k2 k3 k4 k5 k6 k7 ba bl bc bs h1 h2 h3 h4 hbc
end Go.Proofs.Ytedddgkdpeielaa
