/- asked: what is no call. -/
import Derived.Test.YtedddgkdpeielaaB6Joint
namespace Go.Proofs.Ytedddgkdpeielaa
open Go.RowKit
set_option linter.unusedVariables false
set_option maxRecDepth 100000 in
set_option maxHeartbeats 2000000 in
theorem asked_0 {w0 w : World} {p q : Nat} {A : PA} (h : Both w0 w p q A) (kind pos n m : Int) (h1 : kind ≠ 1) (h2 : kind ≠ 2) (h3 : kind ≠ 3) (h4 : kind ≠ 4) (h5 : kind ≠ 5) (h6 : kind ≠ 6) (h7 : kind ≠ 7) (ba : Option Addr) (bl bc : Nat) (bs : List UInt8) (hp : in64 pos) (hn : in64 n) (hm : in64 m) (hb : BsAt w0 ba bl bc bs) (hbc : bc ≤ 140737488351232) : Calls Try.prog 11 #[at_ p, at_ q, .agg #[.int .i64 kind, .int .i64 pos, .int .i64 n, .int .i64 m, .slice ba bl bc]] w fun e w' => e = .returned (.bool true) ∧ ∃ A', Both w0 w' p q A' := by
  obtain ⟨gb, ac, cc, hr⟩ := h.rf
  have HB : Hid (Both w0 (w.alloc (.cells #[.int .i64 kind, .int .i64 pos, .int .i64 n, .int .i64 m, .slice ba bl bc] TC)) p q A) := h.below ((Below.refl _ _).alloc (Nat.le_refl _) _)
  have HR : Hid (RfAt (w.alloc (.cells #[.int .i64 kind, .int .i64 pos, .int .i64 n, .int .i64 m, .slice ba bl bc] TC)) w0.heap.size q gb ac cc A) := hr.alloc _
  have HX : Hid (Box (w.alloc (.cells #[.int .i64 kind, .int .i64 pos, .int .i64 n, .int .i64 m, .slice ba bl bc] TC)) w.heap.size TC #[.int .i64 kind, .int .i64 pos, .int .i64 n, .int .i64 m, .slice ba bl bc]) := Box.new w _ _
  have HPS : Hid (in64 pos) := hp
  have HNS : Hid (in64 n) := hn
  have HMS : Hid (in64 m) := hm
  clear h hr hp hn hm
  clear hb hbc
  go_enter Try.func11, Try.ntmps11
  go_wp2
  go_returns
  exact ⟨rfl, _, HB.out⟩
end Go.Proofs.Ytedddgkdpeielaa
