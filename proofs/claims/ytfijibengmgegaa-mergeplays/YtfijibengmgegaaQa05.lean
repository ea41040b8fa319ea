/- The library's heap, plainly: what a row is under way of going down, or up, at one place. -/
import Derived.Test.YtfijibengmgegaaM16Plain
import Derived.Test.YtfijibengmgegaaQa01
namespace Go.Proofs.Ytfijibengmgegaa
set_option linter.unusedVariables false
section
variable {α : Type} (lt : α → α → Prop)
/-- One of the two places below another. -/
def Kid (p j : Nat) : Prop := j = 2 * p + 1 ∨ j = 2 * p + 2
/-- From the place s on, nothing lies below what is not ahead of it. -/
def HeapF (n s : Nat) (f : Nat → α) : Prop := ∀ p, s ≤ p → ∀ j, Kid p j → j < n → ¬ lt (f j) (f p)
structure DInv (n i0 i : Nat) (f : Nat → α) : Prop where
  ge : i0 ≤ i
  edge : ∀ p, i0 ≤ p → p ≠ i → ∀ j, Kid p j → j < n → ¬ lt (f j) (f p)
  up : ∀ q, i0 ≤ q → Kid q i → ∀ j, Kid i j → j < n → ¬ lt (f j) (f q)
structure UInv (n j : Nat) (f : Nat → α) : Prop where
  edge : ∀ p k, Kid p k → k < n → k ≠ j → ¬ lt (f k) (f p)
  down : ∀ q, Kid q j → ∀ k, Kid j k → k < n → ¬ lt (f k) (f q)
def sw (f : Nat → α) (i j : Nat) : Nat → α := fun k => if k = i then f j else if k = j then f i else f k
/-- What the order must be. -/
structure Ord16 : Prop where
  asym : ∀ a b, lt a b → ¬ lt b a
  trans : ∀ a b c, ¬ lt b a → ¬ lt c b → ¬ lt c a
variable {lt}
variable {n i0 i j : Nat} {f : Nat → α}
theorem DInv.start (h : HeapF lt n (i0 + 1) f) : DInv lt n i0 i0 f := ⟨Nat.le_refl _, fun p hp hne j hj hn => h p (by omega) j hj hn, fun q hq hk => by rcases hk with e | e <;> omega⟩
theorem DInv.stop (h : DInv lt n i0 i f) (hno : ∀ j, Kid i j → j < n → ¬ lt (f j) (f i)) : HeapF lt n i0 f := fun p hp j hj hn => by
  by_cases e : p = i
  · subst e; exact hno j hj hn
  · exact h.edge p hp e j hj hn
theorem sw_left : sw f i j i = f j := if_pos rfl
theorem sw_right : sw f i j j = f i := by
  unfold sw
  by_cases e : j = i
  · subst e; rw [if_pos rfl]
  · rw [if_neg e, if_pos rfl]
theorem sw_other {k : Nat} (h1 : k ≠ i) (h2 : k ≠ j) : sw f i j k = f k := by
  unfold sw; rw [if_neg h1, if_neg h2]
theorem DInv.step (ho : Ord16 lt) (h : DInv lt n i0 i f) (hk : Kid i j) (hj : j < n) (hlt : lt (f j) (f i)) (hsib : ∀ k, Kid i k → k < n → ¬ lt (f k) (f j)) : DInv lt n i0 j (sw f i j) := by
  have hij : i < j := by rcases hk with e | e <;> omega
  have hge := h.ge
  refine ⟨by omega, fun p hp hne k hpk hkn => ?_, fun q hq hqj k hjk hkn => ?_⟩
  · by_cases ep : p = i
    · subst ep
      rw [sw_left]
      by_cases ek : k = j
      · subst ek; rw [sw_right]; exact ho.asym _ _ hlt
      · rw [sw_other (by rcases hpk with e | e <;> omega) ek]; exact hsib k hpk hkn
    · rw [sw_other (k := p) ep hne]
      by_cases ek : k = i
      · subst ek; rw [sw_left]; exact h.up p hp hpk j hk hj
      · by_cases ekj : k = j
        · subst ekj; exfalso; rcases hk with e | e <;> rcases hpk with e' | e' <;> omega
        · rw [sw_other ek ekj]; exact h.edge p hp ep k hpk hkn
  · have eq : q = i := by rcases hk with e | e <;> rcases hqj with e' | e' <;> omega
    subst eq
    rw [sw_left, sw_other (by rcases hjk with e | e <;> omega) (by rcases hjk with e | e <;> omega)]
    exact h.edge j (by omega) (by omega) k hjk hkn
theorem UInv.stop (h : UInv lt n j f) (hno : ∀ p, Kid p j → ¬ lt (f j) (f p)) : HeapF lt n 0 f := fun p _ k hk hn => by
  by_cases e : k = j
  · subst e; exact hno p hk
  · exact h.edge p k hk hn e
theorem UInv.step (ho : Ord16 lt) (h : UInv lt n j f) (hk : Kid i j) (hj : j < n) (hlt : lt (f j) (f i)) : UInv lt n i (sw f i j) := by
  have hij : i < j := by rcases hk with e | e <;> omega
  refine ⟨fun p k hpk hkn hne => ?_, fun q hqi k hik hkn => ?_⟩
  · by_cases ek : k = j
    · subst ek
      have ep : p = i := by rcases hk with e | e <;> rcases hpk with e' | e' <;> omega
      subst ep
      rw [sw_left, sw_right]
      exact ho.asym _ _ hlt
    · rw [sw_other hne ek]
      by_cases ep : p = i
      · subst ep
        rw [sw_left]
        exact ho.trans _ _ _ (ho.asym _ _ hlt) (h.edge _ k hpk hkn ek)
      · by_cases epj : p = j
        · subst epj; rw [sw_right]; exact h.down i hk k hpk hkn
        · rw [sw_other ep epj]; exact h.edge p k hpk hkn ek
  · have hq : q < i := by rcases hqi with e | e <;> omega
    rw [sw_other (k := q) (by omega) (by omega)]
    have h1 := h.edge q i hqi (by omega) (by omega)
    by_cases ek : k = j
    · subst ek; rw [sw_right]; exact h1
    · rw [sw_other (by rcases hik with e | e <;> omega) ek]
      exact ho.trans _ _ _ h1 (h.edge i k hik hkn ek)
/-- What stands on top is behind none. -/
theorem HeapF.top (ho : Ord16 lt) (h : HeapF lt n 0 f) : ∀ k, k < n → ¬ lt (f k) (f 0) := fun k => by
  induction k using Nat.strongRecOn with
  | _ k ih =>
    intro hk
    by_cases e : k = 0
    · subst e; exact fun x => ho.asym _ _ x x
    · have h1 : Kid ((k - 1) / 2) k := by unfold Kid; omega
      exact ho.trans _ _ _ (ih _ (by omega) (by omega)) (h _ (Nat.zero_le _) k h1 hk)
/-- Behind a change of what stands on top, or of what stood at the end. -/
theorem HeapF.from1 {g : Nat → α} {m : Nat} (h : HeapF lt n 0 f) (hm : m ≤ n) (hg : ∀ k, 0 < k → k < m → g k = f k) : HeapF lt m 1 g := fun p hp j hj hn => by
  have h1 : 0 < j := by rcases hj with e | e <;> omega
  have h2 : p < m := by rcases hj with e | e <;> omega
  rw [hg j h1 hn, hg p (by omega) h2]
  exact h p (Nat.zero_le _) j hj (by omega)
/-- Of half of them on, there is nothing below. -/
theorem HeapF.half (h : n / 2 ≤ i0) : HeapF lt n i0 f := fun p hp j hj hn => by rcases hj with e | e <;> omega
theorem HeapF.push {g : Nat → α} (h : HeapF lt n 0 f) (hg : ∀ k, k < n → g k = f k) : UInv lt (n + 1) n g := ⟨fun p k hpk hkn hne => by
  have hk : k < n := by omega
  have hp : p < n := by rcases hpk with e | e <;> omega
  rw [hg k hk, hg p hp]
  exact h p (Nat.zero_le _) k hpk hk, fun q hq k hk hkn => by rcases hk with e | e <;> omega⟩
/-- Two of a row changed over. -/
def swL (d : α) (l : List α) (i j : Nat) : List α := (l.set i (l.getD j d)).set j (l.getD i d)
theorem swL_len (d : α) (l : List α) (i j : Nat) : (swL d l i j).length = l.length := by simp [swL]
theorem swL_get (d : α) (l : List α) {i j : Nat} (hi : i < l.length) (hj : j < l.length) (k : Nat) : (swL d l i j).getD k d = sw (fun k => l.getD k d) i j k := by
  unfold swL sw
  by_cases e2 : k = j
  · subst e2
    by_cases e1 : k = i
    · subst e1; simp [List.getD, hj]
    · simp [List.getD, hj, e1]
  · by_cases e1 : k = i
    · subst e1; simp [List.getD, hi, Ne.symm e2]
    · simp [List.getD, e1, e2, Ne.symm e2, Ne.symm e1]
theorem swL_perm (d : α) (l : List α) {i j : Nat} (hi : i < l.length) (hj : j < l.length) : (swL d l i j).Perm l := by
  have h := (List.set_set_perm hi hj : ((l.set i l[j]).set j l[i]).Perm l)
  unfold swL
  simpa [List.getD, hi, hj] using h
end
end Go.Proofs.Ytfijibengmgegaa
/- The contract of the document's own Compare. -/
namespace Go.Proofs.Ytfijibengmgegaa
open Go.RowKit

set_option maxRecDepth 100000 in
set_option maxHeartbeats 1000000 in
theorem rcompare_any (s t : ByteArray) (q r k l : Int) (w : World) :
    Calls Try.prog 20 #[.agg #[.string s, .int .u64 q, .int .i64 k], .agg #[.string t, .int .u64 r, .int .i64 l]] w fun e w' => e = .returned (.int .i64 (kcmp s.toList t.toList q r k l)) ∧ Below w.heap.size w w' := by
  have hB : Hid (Below w.heap.size w ((w.alloc (Obj.cells #[Value.string s, Value.int IntKind.u64 q, Value.int IntKind.i64 k] 33)).alloc (Obj.cells #[Value.string t, Value.int IntKind.u64 r, Value.int IntKind.i64 l] 33))) := ((Below.refl _ w).alloc (Nat.le_refl _) _).alloc (by simp) _
  by_cases h1 : Op.bytesLess s.toList t.toList = true
  · have HE : Hid (kcmp s.toList t.toList q r k l = -1) := by simp [Hid, kcmp, scmp, h1]
    go_enter Try.func20, Try.ntmps20
    go_wp2
    go_ret
    rw [HE.out]
    exact ⟨ret1 rfl, hB.out⟩
  · have h1' : Op.bytesLess s.toList t.toList = false := by simpa using h1
    by_cases h2 : (s.toList == t.toList) = true
    · have HK : Hid (kcmp s.toList t.toList q r k l = if r < q then -1 else if q < r then 1 else icmp l k) := by
        simp only [Hid, kcmp, scmp, icmp, h1', h2]
        by_cases a : r < q
        · simp [a]
        · by_cases b : q < r
          · simp [a, b]
          · simp [a, b]
      by_cases h3 : r < q
      · have HE : Hid (kcmp s.toList t.toList q r k l = -1) := by rw [Hid, HK.out, if_pos h3]
        go_enter Try.func20, Try.ntmps20
        go_wp2
        go_ret
        rw [HE.out]
        exact ⟨ret1 rfl, hB.out⟩
      · have h3' : decide (r < q) = false := by simpa using h3
        by_cases h4 : q < r
        · have HE : Hid (kcmp s.toList t.toList q r k l = 1) := by rw [Hid, HK.out, if_neg h3, if_pos h4]
          have h4' : (q == r) = false := by simp; omega
          go_enter Try.func20, Try.ntmps20
          go_wp2
          go_ret
          rw [HE.out]
          exact ⟨ret1 rfl, hB.out⟩
        · have h4' : (q == r) = true := by simp; omega
          have h5' : decide (q < r) = false := by simpa using h4
          by_cases h6 : l < k
          · have HE : Hid (kcmp s.toList t.toList q r k l = -1) := by rw [Hid, HK.out, if_neg h3, if_neg h4]; simp [icmp, h6]
            go_enter Try.func20, Try.ntmps20
            go_wp2
            go_ret
            rw [HE.out]
            exact ⟨ret1 rfl, hB.out⟩
          · have h6' : decide (l < k) = false := by simpa using h6
            by_cases h7 : k < l
            · have HE : Hid (kcmp s.toList t.toList q r k l = 1) := by rw [Hid, HK.out, if_neg h3, if_neg h4]; simp [icmp, h6, h7]
              go_enter Try.func20, Try.ntmps20
              go_wp2
              go_ret
              rw [HE.out]
              exact ⟨ret1 rfl, hB.out⟩
            · have HE : Hid (kcmp s.toList t.toList q r k l = 0) := by rw [Hid, HK.out, if_neg h3, if_neg h4]; simp [icmp, h6, h7]
              have h7' : decide (k < l) = false := by simpa using h7
              go_enter Try.func20, Try.ntmps20
              go_wp2
              go_ret
              rw [HE.out]
              exact ⟨ret1 rfl, hB.out⟩
    · have h2' : (s.toList == t.toList) = false := by simpa using h2
      have HE : Hid (kcmp s.toList t.toList q r k l = 1) := by simp [Hid, kcmp, scmp, h1', h2']
      go_enter Try.func20, Try.ntmps20
      go_wp2
      go_ret
      rw [HE.out]
      exact ⟨ret1 rfl, hB.out⟩
end Go.Proofs.Ytfijibengmgegaa
