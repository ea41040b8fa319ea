/- The zero of an arena: 73731 cells, told as plain lists; checked by halves, so that the kernel never goes deep. -/
import Derived.Test.YtedddgkdpeielaaChecked
import Derived.KernelRfl
namespace Go.Proofs.Ytedddgkdpeielaa
/-- A run of 2^d values that p takes. -/
def runs (p : Value → Bool) : Nat → List Value → Option (List Value)
  | 0, [] => none
  | 0, x :: r => if p x then some r else none
  | d + 1, l => (runs p d l).bind (runs p d)
theorem runs_eq {p : Value → Bool} {v : Value} (hp : ∀ x, p x = true → x = v) : ∀ (d : Nat) (l r : List Value), runs p d l = some r → l = List.replicate (2 ^ d) v ++ r
  | 0, [], r, h => by simp [runs] at h
  | 0, x :: l, r, h => by
    simp [runs] at h
    obtain ⟨h1, rfl⟩ := h
    rw [hp x h1]
    rfl
  | d + 1, l, r, h => by
    simp only [runs, Option.bind_eq_some_iff] at h
    obtain ⟨m, h1, h2⟩ := h
    have e1 := runs_eq hp d l m h1
    have e2 := runs_eq hp d m r h2
    rw [e1, e2, ← List.append_assoc, List.replicate_append_replicate, Nat.pow_succ]
    congr 2
    omega
def isB0 : Value → Bool
  | .int .u8 (.ofNat n) => Nat.beq n 0
  | _ => false
def isN0 : Value → Bool
  | .int .i64 (.ofNat n) => Nat.beq n 0
  | _ => false
theorem isB0_eq (x : Value) (h : isB0 x = true) : x = .int .u8 0 := by
  unfold isB0 at h
  split at h
  · rw [Nat.eq_of_beq_eq_true h]
    rfl
  · cases h
theorem isN0_eq (x : Value) (h : isN0 x = true) : x = .int .i64 0 := by
  unfold isN0 at h
  split at h
  · rw [Nat.eq_of_beq_eq_true h]
    rfl
  · cases h
def arLook (l : List Value) : Bool :=
  match (runs isN0 1 l).bind fun l => (runs isB0 16 l).bind fun l => (runs isN0 0 l).bind (runs isN0 13) with
  | some [] => true
  | _ => false
def zeroList (t : TypeInfo) : Option (List Value) :=
  match t.zero with
  | some (.agg a) => some a.toList
  | _ => none
def zeroLooks (t : TypeInfo) : Bool :=
  match t.zero with
  | some (.agg a) => arLook a.toList
  | _ => false
def arZeros : List Value := List.replicate 2 (.int .i64 0) ++ (List.replicate 65536 (.int .u8 0) ++ (List.replicate 1 (.int .i64 0) ++ List.replicate 8192 (.int .i64 0)))
theorem arLook_eq {l : List Value} (h : arLook l = true) : l = arZeros := by
  unfold arLook at h
  split at h
  · rename_i r h1
    simp only [Option.bind_eq_some_iff] at h1
    obtain ⟨a, h1, b, h2, c, h3, h4⟩ := h1
    rw [runs_eq isN0_eq _ _ _ h1, runs_eq isB0_eq _ _ _ h2, runs_eq isN0_eq _ _ _ h3, runs_eq isN0_eq _ _ _ h4, List.append_nil]
    rfl
  · cases h
theorem zeroLooks_eq {t : TypeInfo} (h : zeroLooks t = true) : t.zero = some (.agg arZeros.toArray) := by
  unfold zeroLooks at h
  split at h
  · rename_i a h1
    rw [h1]
    congr 2
    rw [← arLook_eq h]
  · cases h
theorem arInfo : (Try.prog.info? 55).map zeroLooks = some true := by kernel_rfl
end Go.Proofs.Ytedddgkdpeielaa
