/- Keys as arguments: out of a reading, and back into one. -/
import Derived.Test.YtfijibengmgegaaArgs
import Derived.Deep.Strs
import Derived.ChangeSame
import Derived.SizedLaws
import Derived.OpenShut
import Derived.ShutString
import Derived.WideShapes
namespace Go.Proofs.Ytfijibengmgegaa
open Go.ChangeShapes Go.WideShapes Go.RowKit

theorem cells_key : Try.prog.cellsOf 33 = 3 := by kernel_rfl
theorem cells_str : Try.prog.cellsOf 9 = 1 := by kernel_rfl
theorem cells_u64 : Try.prog.cellsOf 31 = 1 := by kernel_rfl
theorem cells_int : Try.prog.cellsOf 3 = 1 := by kernel_rfl

section
variable {H : Type} {enc : TypeId × Value → H} {w : World} {base : Nat} {sp : Nat → Bool} {held : Bool}
theorem open_key {r : Reach} {b0 : Nat} {v : Value} {d : DataW H} {ps : List MemPlace} (hval : Value.okWide Try.prog w r b0 33 v) (hd : DataW.Trod enc Try.prog w base sp held 33 v d ps) :
    ∃ (s : ByteArray) (q k : Int), v = .agg #[.string s, .int .u64 q, .int .i64 k] ∧ d = .agg [.lit (.string s.data.toList), .lit (.int .u64 q), .lit (.int .i64 k)] ∧ ps = [] ∧ s.size ≤ maxLen ∧ (Lit.int .u64 q).wf = true ∧ (Lit.int .i64 k).wf = true := by
  obtain ⟨cs, rfl, hsz⟩ := okWide_struct Try.underlying33 hval
  rw [cells_key] at hsz
  obtain ⟨l⟩ := cs
  match l, hsz with
  | [c0, c1, c2], _ =>
  obtain ⟨fuel, hf⟩ := hd
  obtain ⟨y0, y1, y2, m, hx, _, hy0, hy1, hy2⟩ := Go.Deep.trod_struct3 Try.underlying33 hf
  obtain ⟨s, e0, rfl, ws⟩ := DataW.trod_string Try.underlying9 hy0
  obtain ⟨q, e1, rfl, wq⟩ := DataW.trod_int Try.underlying31 hy1
  obtain ⟨k, e2, rfl, wk⟩ := DataW.trod_int Try.underlying3 hy2
  simp [Value.cells, cells_str, cells_u64, cells_int] at e0 e1 e2
  subst e0 e1 e2
  simp only [Prod.mk.injEq] at hx
  obtain ⟨rfl, rfl⟩ := hx
  exact ⟨s, q, k, rfl, rfl, rfl, ws, wq, wk⟩

theorem shut_key {s : ByteArray} {q k : Int} (hs : s.size ≤ maxLen) (hq : (Lit.int .u64 q).wf = true) (hk : (Lit.int .i64 k).wf = true) :
    DataW.Trod enc Try.prog w base sp held 33 (.agg #[.string s, .int .u64 q, .int .i64 k]) (.agg [.lit (.string s.data.toList), .lit (.int .u64 q), .lit (.int .i64 k)]) [] := ⟨2, by
  have f0 : DataW.trod enc Try.prog w base sp held 1 9 [.string s] = some (.lit (.string s.data.toList), []) := by simp [DataW.trod, Try.underlying9, hs]
  have f1 : DataW.trod enc Try.prog w base sp held 1 31 [.int .u64 q] = some (.lit (.int .u64 q), []) := by simp [DataW.trod, Try.underlying31, hq]
  have f2 : DataW.trod enc Try.prog w base sp held 1 3 [.int .i64 k] = some (.lit (.int .i64 k), []) := by simp [DataW.trod, Try.underlying3, hk]
  have := Go.Deep.trod_struct3_mk (enc := enc) (w := w) (base := base) (spare := sp) (held := held) (n := 1) (cs := [.string s, .int .u64 q, .int .i64 k]) Try.underlying33 (by simp [cells_key]) (by simpa [cells_str] using f0) (by simpa [cells_u64] using f1) (by simpa [cells_int] using f2)
  simpa [Value.cells] using this⟩
end
theorem sized_key {H : Type} {ts : List TypeId} {ds : List (DataW H)} (h : (DataW.weightsEach Try.prog ts ds).all (· ≤ reachBytes) = true) {j : Nat} {s : ByteArray} {x y : Lit} (ht : ts[j]? = some 33) (hd : ds[j]? = some (.agg [.lit (.string s.data.toList), .lit x, .lit y])) : s.size ≤ 140737488351232 := by
  have hm : s.data.toList.length ∈ DataW.weightsEach Try.prog ts ds := by
    refine DataW.weights_mem_each ht hd _ ?_
    simp [DataW.weights, Try.underlying33, DataW.weightsEach]
  have := List.all_eq_true.1 h _ hm
  have h2 := of_decide_eq_true this
  rw [Array.length_toList] at h2
  exact h2
end Go.Proofs.Ytfijibengmgegaa
