/- Lists of rows of entries, and ways to go, as arguments: what a reading of one gives. -/
import Derived.Test.YtfijibengmgegaaK11Args
import Derived.Test.YtfijibengmgegaaM16WPlays
namespace Go.Proofs.Ytfijibengmgegaa
set_option maxRecDepth 100000
open Go.ChangeShapes Go.WideShapes Go.RowKit
set_option linter.unusedVariables false
set_option linter.unusedSimpArgs false
theorem cells_row16 : Try.prog.cellsOf 26 = 1 := by kernel_rfl
theorem cells_go16 : Try.prog.cellsOf TGo = 4 := by kernel_rfl
theorem bytes_kv16 : Try.prog.bytesOf TKV = 48 := by kernel_rfl
section
variable {H : Type} {enc : TypeId × Value → H} {w : World} {base : Nat} {sp : Nat → Bool} {held : Bool}
theorem open_row16 {fuel : Nat} {cs : List Value} {x : DataW H × List MemPlace} (h : DataW.trod enc Try.prog w base sp held fuel 26 cs = some x) :
    ∃ (a : Option Addr) (len cap : Nat) (l : List KV), cs = [.slice a len cap] ∧ KsAt w a len cap l ∧ (a = none → cap = 0) := by
  rcases Go.Deep.open_slice Try.underlying26 h with ⟨h0, _⟩ | ⟨a, len, cap, m, n, D, Pl, hc, hb, hl, hm, hmm, hx0, hx⟩
  · exact ⟨none, 0, 0, [], h0, KsAt.nil w, fun _ => rfl⟩
  · obtain ⟨a', len', cap', l, h1, h2, _⟩ := open_kvs h
    rw [hc] at h1
    simp only [List.cons.injEq, Value.slice.injEq, and_true] at h1
    obtain ⟨rfl, rfl, rfl⟩ := h1
    exact ⟨some a, len, cap, l, hc, h2, fun e => (by cases e)⟩
theorem open_lists16 {fuel : Nat} {cs : List Value} {x : DataW H × List MemPlace} (h : DataW.trod enc Try.prog w base sp held fuel 23 cs = some x) :
    ∃ (a : Option Addr) (len cap : Nat) (L : List (List KV)), cs = [.slice a len cap] ∧ LsAt w a len cap L := by
  rcases Go.Deep.open_slice Try.underlying23 h with ⟨h0, rfl⟩ | ⟨a, len, cap, m, n, D, Pl, rfl, hb, hl, hm, hmm, rfl, hx⟩
  · exact ⟨none, 0, 0, [], h0, LsAt.nil w⟩
  have hlm : len ≤ m := by rw [hmm]; split <;> omega
  obtain ⟨L, hll, hall⟩ := collect (fun i (l : List KV) => ∃ ai ci, w.cell? (a.add i) = some (.slice ai l.length ci) ∧ KsAt w ai l.length ci l ∧ (ai = none → ci = 0)) len (fun i hi => by
    obtain ⟨cs', h1, h2⟩ := hx i (by omega)
    rw [cells_row16] at h1
    obtain ⟨_, _, hcell⟩ := World.cells?_some h1
    obtain ⟨ai, li, ci, l, rfl, hI, hb'⟩ := open_row16 h2
    have e := hI.size
    subst e
    have := hcell 0 (by omega)
    rw [Go.Deep.add_add] at this
    exact ⟨l, ai, ci, by simpa using this, hI, hb'⟩)
  refine ⟨some a, len, cap, L, rfl, hll, hl, hm, fun e => (by cases e), fun hp => ?_⟩
  obtain ⟨b, off, spot⟩ := a
  obtain ⟨_, _, h0, _⟩ := hall 0 (by omega)
  have hspot : spot = none := by
    simpa [Addr.add] using World.cell?_spot h0
  subst hspot
  refine ⟨b, off, rfl, fun i hi => ?_⟩
  have hil : i < L.length := by omega
  obtain ⟨ai, ci, h1, h2, h3⟩ := hall i hil
  have e : rowL L i = L[i] := by simp [rowL, List.getD, hil]
  rw [e]
  rw [Addr.add_lit] at h1
  exact ⟨ai, ci, h1, h2, h3⟩
theorem open_go16 {n : Nat} {cs : List Value} {y : DataW H × List MemPlace} (h : DataW.trod enc Try.prog w base sp held n TGo cs = some y) :
    ∃ g : Int × IK, cs = wayC g := by
  obtain ⟨y0, y1, m, _, hl, h0, h1⟩ := trod_struct2 Try.underlying43 h
  rw [cells_go16] at hl
  match cs, hl with
  | [c0, c1, c2, c3], _ =>
  simp [cells_i1, cells_ik] at h0 h1
  obtain ⟨k, e0, _, _⟩ := DataW.trod_int Try.underlying3 h0
  obtain ⟨q, e1, _, _⟩ := open_ik h1
  simp [cells_i1, cells_ik] at e0 e1
  obtain ⟨rfl, rfl, rfl⟩ := e1
  subst e0
  exact ⟨(k, q), rfl⟩
theorem open_ways16 {fuel : Nat} {cs : List Value} {x : DataW H × List MemPlace} (h : DataW.trod enc Try.prog w base sp held fuel 24 cs = some x) :
    ∃ (a : Option Addr) (len cap : Nat) (l : List (Int × IK)), cs = [.slice a len cap] ∧ WsAt w a len cap l ∧ len ≤ 9223372036854775807 := by
  rcases Go.Deep.open_slice Try.underlying24 h with ⟨h0, rfl⟩ | ⟨a, len, cap, m, n, D, Pl, rfl, hb, hl, hm, hmm, rfl, hx⟩
  · exact ⟨none, 0, 0, [], h0, ⟨rfl, fun h => absurd h (Nat.lt_irrefl _)⟩, Nat.zero_le _⟩
  have hlm : len ≤ m := by rw [hmm]; split <;> omega
  obtain ⟨l, hll, hall⟩ := collect (fun i (g : Int × IK) => ∀ r, r < 4 → w.cell? (a.add (i * 4 + r)) = (wayC g)[r]?) len (fun i hi => by
    obtain ⟨cs', h1, h2⟩ := hx i (by omega)
    rw [show Try.prog.cellsOf 43 = 4 from cells_go16] at h1
    obtain ⟨_, _, hcell⟩ := World.cells?_some h1
    obtain ⟨g, rfl⟩ := open_go16 h2
    refine ⟨g, fun r hr => ?_⟩
    have e0 := hcell r hr
    rw [Go.Deep.add_add] at e0
    rw [e0])
  refine ⟨some a, len, cap, l, rfl, ⟨hll, fun hp => ?_⟩, by unfold maxLen at hm; omega⟩
  obtain ⟨b, off, spot⟩ := a
  have h0 := hall 0 (by omega) 0 (by omega)
  have hspot : spot = none := by
    have : w.cell? ((⟨b, off, spot⟩ : Addr).add (0 * 4 + 0)) = some (.int .i64 (l[0]'(by omega)).1) := h0
    simpa [Addr.add] using World.cell?_spot this
  subst hspot
  refine ⟨b, off, rfl, fun i hi r hr => ?_⟩
  have := hall i hi r hr
  rw [Addr.add_lit] at this
  rwa [Nat.add_assoc]
/-- How many entries a row can have. -/
theorem kvs_len16 {ts : List TypeId} {ds : List (DataW H)} (hsz : (DataW.weightsEach Try.prog ts ds).all (· ≤ reachBytes) = true) {j : Nat} {d : DataW H} {len : Nat} (ht : ts[j]? = some 26) (hd : ds[j]? = some d) (h : d = .nil ∧ len = 0 ∨ ∃ es ss, d = .slice es ss ∧ es.length = len) : len ≤ 2932031007317 := by
  rcases h with ⟨_, rfl⟩ | ⟨es, ss, rfl, rfl⟩
  · omega
  · have := sized_slice hsz ht hd Try.underlying26
    rw [show Try.prog.bytesOf 35 = 48 from bytes_kv16] at this
    unfold reachBytes at this
    omega
end
end Go.Proofs.Ytfijibengmgegaa
