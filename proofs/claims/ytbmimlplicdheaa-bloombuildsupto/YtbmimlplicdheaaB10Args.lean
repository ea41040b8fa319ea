/- Lists of texts as arguments: what a reading of one gives, and how much it holds. -/
import Derived.Test.YtbmimlplicdheaaArgs
import Derived.Test.YtbmimlplicdheaaS7Rows
import Derived.Deep.Slices
import Derived.Deep.Strs
import Derived.SizedLaws
import Derived.WideShapes
import Derived.Laws.Cover2
namespace Go.Proofs.Ytbmimlplicdheaa
open Go.ChangeShapes Go.WideShapes Go.RowKit
set_option maxRecDepth 100000 in
theorem cells_str : Try.prog.cellsOf 9 = 1 := by kernel_rfl
set_option maxRecDepth 100000 in
theorem bytes_str : Try.prog.bytesOf 9 = 16 := by kernel_rfl
theorem weightsAll_mem {H : Type} {P : Program} {e : TypeId} {n : Nat} : ∀ {l : List (DataW H)} {d : DataW H}, d ∈ l → n ∈ d.weights P e → n ∈ DataW.weightsAll P e l
  | x :: r, d, hd, hn => by
    rw [DataW.weightsAll]
    rcases List.mem_cons.1 hd with rfl | hd
    · exact List.mem_append_left _ hn
    · exact List.mem_append_right _ (weightsAll_mem hd hn)
theorem bulkAll_mem {H : Type} : ∀ {l : List (DataW H)} {d : DataW H}, d ∈ l → Rows.uptoBulk d ≤ Rows.uptoBulkAll l
  | x :: r, d, hd => by
    rw [Rows.uptoBulkAll]
    rcases List.mem_cons.1 hd with rfl | hd
    · omega
    · have := bulkAll_mem hd
      omega
section
variable {H : Type} {enc : TypeId × Value → H} {w : World} {base : Nat} {held : Bool}
theorem open_keys {fuel : Nat} {cs : List Value} {x : DataW H × List MemPlace} (h : DataW.trod enc Try.prog w base (fun _ => true) held fuel 23 cs = some x) :
    ∃ (a : Option Addr) (len cap : Nat) (l : List ByteArray), cs = [.slice a len cap] ∧ StAt w a len cap l ∧ (a = none → cap = 0) ∧
      (cap = 0 ∧ l = [] ∨ ∃ es ss : List (DataW H), x.1 = .slice es ss ∧ es.length + ss.length = cap ∧ ∀ s ∈ l, DataW.lit (.string s.data.toList) ∈ es) := by
  rcases Go.Deep.open_strs Try.underlying23 Try.underlying9 cells_str h with ⟨h0, _⟩ | ⟨a, len, cap, m, Sx, rfl, hb, hl, hm, hmm, rfl, hx⟩
  · exact ⟨none, 0, 0, [], h0, ⟨rfl, Nat.le_refl _, Nat.zero_le _, fun h => absurd h (Nat.lt_irrefl _)⟩, fun _ => rfl, .inl ⟨rfl, rfl⟩⟩
  have hmc : m = cap := by rw [hmm, if_pos rfl]
  subst hmc
  refine ⟨some a, len, m, (List.range len).map Sx, rfl, ⟨by simp, hl, hm, fun hp => ?_⟩, (by simp), .inr ⟨_, _, rfl, by simp; omega, fun s hs => ?_⟩⟩
  · obtain ⟨b, off, spot⟩ := a
    have h0 := (hx 0 (by omega)).1
    have hspot : spot = none := by simpa [Addr.add] using World.cell?_spot h0
    subst hspot
    refine ⟨b, off, rfl, fun j hj => ?_⟩
    have := (hx j (by omega)).1
    rw [Addr.add_lit] at this
    rw [this]
    simp [List.getD, hj]
  · obtain ⟨i, hi, rfl⟩ := List.mem_map.1 hs
    exact List.mem_map.2 ⟨i, hi, rfl⟩
theorem keys_said {a : Option Addr} {len cap : Nat} {l : List ByteArray} {d : DataW H} (h : cap = 0 ∧ l = [] ∨ ∃ es ss : List (DataW H), d = .slice es ss ∧ es.length + ss.length = cap ∧ ∀ s ∈ l, DataW.lit (.string s.data.toList) ∈ es)
    (hw : ∀ n ∈ d.weights Try.prog 23, n ≤ 140737488351232) (_ : StAt w a len cap l) : cap ≤ 8796093021952 ∧ ∀ s ∈ l, s.size ≤ 140737488351232 := by
  rcases h with ⟨rfl, rfl⟩ | ⟨es, ss, rfl, hc, hs⟩
  · exact ⟨by omega, by simp⟩
  · simp only [DataW.weights, Try.underlying23, bytes_str] at hw
    constructor
    · have := hw _ (List.mem_cons_self ..)
      omega
    · intro s hsl
      have := hw s.data.toList.length (List.mem_cons_of_mem _ (List.mem_append_left _ (weightsAll_mem (hs s hsl) (by simp [DataW.weights]))))
      rw [Array.length_toList] at this
      exact this
theorem keys_upto {a : Option Addr} {len cap : Nat} {l : List ByteArray} {d : DataW H} (h : cap = 0 ∧ l = [] ∨ ∃ es ss : List (DataW H), d = .slice es ss ∧ es.length + ss.length = cap ∧ ∀ s ∈ l, DataW.lit (.string s.data.toList) ∈ es)
    (hw : Rows.uptoBulk d ≤ 1048576) (_ : StAt w a len cap l) : cap ≤ 1048576 ∧ ∀ s ∈ l, s.size ≤ 1048576 := by
  rcases h with ⟨rfl, rfl⟩ | ⟨es, ss, rfl, hc, hs⟩
  · exact ⟨by omega, by simp⟩
  · have hb := bulk_slice es ss
    constructor
    · omega
    · intro s hsl
      have h1 := bulkAll_mem (hs s hsl)
      have h2 := bulk_string (H := H) s
      simp only [Rows.uptoBulk] at hw h1 h2
      omega
end
end Go.Proofs.Ytbmimlplicdheaa
