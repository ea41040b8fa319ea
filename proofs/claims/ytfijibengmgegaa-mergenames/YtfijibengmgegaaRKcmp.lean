/- The contract of the document's own Compare. -/
import Derived.Test.YtfijibengmgegaaKcmp
namespace Go.Proofs.Ytfijibengmgegaa
open Go.RowKit

set_option maxRecDepth 100000 in
set_option maxHeartbeats 1000000 in
theorem rcompare_any (s t : ByteArray) (q r k l : Int) (w : World) :
    Calls Try.prog 20 #[.agg #[.string s, .int .u64 q, .int .i64 k], .agg #[.string t, .int .u64 r, .int .i64 l]] w fun e w' => e = .returned (.int .i64 (kcmp s.toList t.toList q r k l)) ∧ Below w.heap.size w w' := by
  have hB : Hid (Below w.heap.size w ((w.alloc (Obj.cells #[Value.string s, Value.int IntKind.u64 q, Value.int IntKind.i64 k] 33)).alloc (Obj.cells #[Value.string t, Value.int IntKind.u64 r, Value.int IntKind.i64 l] 33))) := ((Below.refl _ w).alloc (Nat.le_refl _) _).alloc (by simp) _
  by_cases h1 : Op.bytesLess s.toList t.toList = true
  · have HE : Hid (kcmp s.toList t.toList q r k l = -1) := by simp [Hid, kcmp, scmp, h1]
    go_enter Try.func20, Try.ntmps20
    go_wp2
    go_ret
    rw [HE.out]
    exact ⟨ret1 rfl, hB.out⟩
  · have h1' : Op.bytesLess s.toList t.toList = false := by simpa using h1
    by_cases h2 : (s.toList == t.toList) = true
    · have HK : Hid (kcmp s.toList t.toList q r k l = if r < q then -1 else if q < r then 1 else icmp l k) := by
        simp only [Hid, kcmp, scmp, icmp, h1', h2]
        by_cases a : r < q
        · simp [a]
        · by_cases b : q < r
          · simp [a, b]
          · simp [a, b]
      by_cases h3 : r < q
      · have HE : Hid (kcmp s.toList t.toList q r k l = -1) := by rw [Hid, HK.out, if_pos h3]
        go_enter Try.func20, Try.ntmps20
        go_wp2
        go_ret
        rw [HE.out]
        exact ⟨ret1 rfl, hB.out⟩
      · have h3' : decide (r < q) = false := by simpa using h3
        by_cases h4 : q < r
        · have HE : Hid (kcmp s.toList t.toList q r k l = 1) := by rw [Hid, HK.out, if_neg h3, if_pos h4]
          have h4' : (q == r) = false := by simp; omega
          go_enter Try.func20, Try.ntmps20
          go_wp2
          go_ret
          rw [HE.out]
          exact ⟨ret1 rfl, hB.out⟩
        · have h4' : (q == r) = true := by simp; omega
          have h5' : decide (q < r) = false := by simpa using h4
          by_cases h6 : l < k
          · have HE : Hid (kcmp s.toList t.toList q r k l = -1) := by rw [Hid, HK.out, if_neg h3, if_neg h4]; simp [icmp, h6]
            go_enter Try.func20, Try.ntmps20
            go_wp2
            go_ret
            rw [HE.out]
            exact ⟨ret1 rfl, hB.out⟩
          · have h6' : decide (l < k) = false := by simpa using h6
            by_cases h7 : k < l
            · have HE : Hid (kcmp s.toList t.toList q r k l = 1) := by rw [Hid, HK.out, if_neg h3, if_neg h4]; simp [icmp, h6, h7]
              go_enter Try.func20, Try.ntmps20
              go_wp2
              go_ret
              rw [HE.out]
              exact ⟨ret1 rfl, hB.out⟩
            · have HE : Hid (kcmp s.toList t.toList q r k l = 0) := by rw [Hid, HK.out, if_neg h3, if_neg h4]; simp [icmp, h6, h7]
              have h7' : decide (k < l) = false := by simpa using h7
              go_enter Try.func20, Try.ntmps20
              go_wp2
              go_ret
              rw [HE.out]
              exact ⟨ret1 rfl, hB.out⟩
    · have h2' : (s.toList == t.toList) = false := by simpa using h2
      have HE : Hid (kcmp s.toList t.toList q r k l = 1) := by simp [Hid, kcmp, scmp, h1', h2']
      go_enter Try.func20, Try.ntmps20
      go_wp2
      go_ret
      rw [HE.out]
      exact ⟨ret1 rfl, hB.out⟩
end Go.Proofs.Ytfijibengmgegaa
