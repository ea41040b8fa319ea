/- A fuse and a quota: what the file systems are, step by step. -/
import Derived.Test.YtfabgiapekfgcaaLastPlain
namespace Go.Proofs.Ytfabgiapekfgcaa
def fz0 (q : Nat) : PFs := ⟨[], [], [], [], q, false, 0, false, 0, 0⟩
def fz1 (q : Nat) : PFs := ⟨[file0], [⟨nA, 0⟩], [], [⟨1, nA, [], 0⟩], q, false, 0, false, 0, 1⟩
def fz2 (q : Nat) : PFs := ⟨[file0, file0], [⟨nA, 0⟩, ⟨nB, 1⟩], [], [⟨1, nA, [], 0⟩, ⟨1, nB, [], 1⟩], q, false, 0, false, 0, 2⟩
def fz (q : Nat) (A B : List UInt8) (left asked : Nat) : PFs := ⟨[⟨A, 0⟩, ⟨B, 0⟩], [⟨nA, 0⟩, ⟨nB, 1⟩], [], [⟨1, nA, [], 0⟩, ⟨1, nB, [], 1⟩], q, true, (left : Int), false, 0, asked⟩
def fzE (q : Nat) (A B : List UInt8) (asked : Nat) : PFs := ⟨[⟨A, 0⟩, ⟨B, 0⟩], [⟨nA, 0⟩, ⟨nB, 1⟩], [], [⟨1, nA, [], 0⟩, ⟨1, nB, [], 1⟩], q, false, -1, false, 0, asked⟩
theorem fz0_e (q : Nat) : (fz0 q).create nA = (fz1 q, 0) := rfl
theorem fz1_e (q : Nat) : (fz1 q).create nB = (fz2 q, 0) := rfl
theorem fz2_e (q left : Nat) : (fz2 q).setFuse (left : Int) = fz q [] [] left 2 := by
  unfold PFs.setFuse fz2 fz
  simp [file0]
theorem fz_end (q : Nat) (A B : List UInt8) (left asked : Nat) : (fz q A B left asked).setFuse (-1) = fzE q A B asked := rfl
theorem fzE_a (q : Nat) (A B : List UInt8) (asked : Nat) : (fzE q A B asked).read nA = (A, 0) := rfl
theorem fzE_b (q : Nat) (A B : List UInt8) (asked : Nat) : (fzE q A B asked).read nB = (B, 0) := rfl
theorem fz_off (q : Nat) (A B : List UInt8) (asked : Nat) (nm z : List UInt8) : (fz q A B 0 asked).append nm z = (fz q A B 0 (asked + 1), 44) := rfl
theorem fz_ask (q : Nat) (A B : List UInt8) (left asked : Nat) : (fz q A B (left + 1) asked).ask = (fz q A B left (asked + 1), 0) := by
  have h : (fz q A B (left + 1) asked).off = false := by
    show (true && (((left + 1 : Nat) : Int) == 0)) = false
    rw [Bool.true_and, beq_eq_false_iff_ne]
    omega
  unfold PFs.ask
  rw [if_neg (by rw [h]; decide)]
  show ((⟨[⟨A, 0⟩, ⟨B, 0⟩], [⟨nA, 0⟩, ⟨nB, 1⟩], [], [⟨1, nA, [], 0⟩, ⟨1, nB, [], 1⟩], q, true, ((left + 1 : Nat) : Int) - 1, false, 0, asked + 1⟩ : PFs), 0) = _
  have e : ((left + 1 : Nat) : Int) - 1 = (left : Int) := by omega
  rw [e]
  rfl
theorem fz_full (q : Nat) (A B : List UInt8) (left asked : Nat) (nm z : List UInt8) (hn : nm = nA ∨ nm = nB) (h : q < z.length + (A.length + B.length)) : (fz q A B (left + 1) asked).append nm z = (fz q A B left (asked + 1), 43) := by
  unfold PFs.append
  rw [fz_ask]
  have hb : (fz q A B (left + 1) asked).bulk (fz q A B (left + 1) asked).names = A.length + (B.length + 0) := rfl
  rw [if_neg (by simp), hb]
  rcases hn with rfl | rfl
  · show (if q < z.length + (A.length + (B.length + 0)) then _ else _) = _
    rw [if_pos (by omega)]
  · show (if q < z.length + (A.length + (B.length + 0)) then _ else _) = _
    rw [if_pos (by omega)]
theorem fz_a (q : Nat) (A B : List UInt8) (left asked : Nat) (z : List UInt8) (h : ¬ q < z.length + (A.length + B.length)) : (fz q A B (left + 1) asked).append nA z = (fz q (A ++ z) B left (asked + 1), 0) := by
  unfold PFs.append
  rw [fz_ask]
  have hb : (fz q A B (left + 1) asked).bulk (fz q A B (left + 1) asked).names = A.length + (B.length + 0) := rfl
  rw [if_neg (by simp), hb]
  show (if q < z.length + (A.length + (B.length + 0)) then _ else _) = _
  rw [if_neg (by omega)]
  rfl
theorem fz_b (q : Nat) (A B : List UInt8) (left asked : Nat) (z : List UInt8) (h : ¬ q < z.length + (A.length + B.length)) : (fz q A B (left + 1) asked).append nB z = (fz q A (B ++ z) left (asked + 1), 0) := by
  unfold PFs.append
  rw [fz_ask]
  have hb : (fz q A B (left + 1) asked).bulk (fz q A B (left + 1) asked).names = A.length + (B.length + 0) := rfl
  rw [if_neg (by simp), hb]
  show (if q < z.length + (A.length + (B.length + 0)) then _ else _) = _
  rw [if_neg (by omega)]
  rfl
/-- What is left of a number by a divisor, as the law takes it. -/
theorem rem_pos (z : Int) (d : Nat) (h : 0 ≤ z) (hd : 0 < d) : ∃ n : Nat, n < d ∧ z.tmod (d : Int) = (n : Int) := by
  obtain ⟨m, rfl⟩ := Int.eq_ofNat_of_zero_le h
  exact ⟨m % d, Nat.mod_lt _ hd, rfl⟩
theorem rem_neg (z : Int) (d : Nat) (h : z < 0) (hd : 0 < d) : ∃ n : Nat, n < d ∧ (z + 1).tmod (d : Int) = -(n : Int) := by
  refine ⟨(-(z + 1)).toNat % d, Nat.mod_lt _ hd, ?_⟩
  have e : z + 1 = -(((-(z + 1)).toNat : Nat) : Int) := by omega
  generalize (-(z + 1)).toNat = m at e
  rw [e, Int.neg_tmod]
  rfl
end Go.Proofs.Ytfabgiapekfgcaa
