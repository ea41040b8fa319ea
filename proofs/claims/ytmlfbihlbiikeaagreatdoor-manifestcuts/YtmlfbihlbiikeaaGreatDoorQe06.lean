/- Names of files, plainly: how they are made, and that they go back. -/
import Derived.Lib.ItoaNum
import Derived.WalkKit
import Derived.Test.YtmlfbihlbiikeaaGreatDoorChecked
import Derived.Test.YtmlfbihlbiikeaaGreatDoorQe00
import Derived.Test.YtmlfbihlbiikeaaGreatDoorQe05
import Derived.Maps.OwnSet
import Derived.Maps.Views
import Derived.Maps.RangeWalk
set_option linter.unusedVariables false
set_option linter.unusedSimpArgs false
set_option maxRecDepth 100000
namespace Go.Proofs.YtmlfbihlbiikeaaGreatDoor
open Go.Lib
def curB : List UInt8 := [67, 85, 82, 82, 69, 78, 84]
def tmpB : List UInt8 := [67, 85, 82, 82, 69, 78, 84, 46, 116, 109, 112]
def logB : List UInt8 := [46, 108, 111, 103]
def tabB : List UInt8 := [46, 116, 97, 98]
def manB : List UInt8 := [77, 65, 78, 73, 70, 69, 83, 84, 45]
def pad6 (l : List UInt8) : List UInt8 := List.replicate (6 - l.length) 48 ++ l
def numB (n : Nat) : List UInt8 := pad6 (decDigits n)
def nameP (kind : Int) (n : Nat) : List UInt8 :=
 if kind = 4 then curB else if kind = 5 then tmpB else if n < 1 ∨ 1099511627776 < n then []
 else if kind = 1 then numB n ++ logB else if kind = 2 then numB n ++ tabB else if kind = 3 then manB ++ numB n else []
def isD (b : UInt8) : Bool := decide (48 ≤ b.toNat) && decide (b.toNat ≤ 57)
def digs (s : List UInt8) : List UInt8 := s.filter isD
def valN (s : List UInt8) : Nat := s.foldl (fun n b => n * 10 + (b.toNat - 48)) 0
def digV (s : List UInt8) : Nat := if 13 < (digs s).length then 0 else valN (digs s)
theorem foldl_val (l : List UInt8) : ∀ n, l.foldl (fun n b => n * 10 + (b.toNat - 48)) n = n * 10 ^ l.length + valN l := by
 unfold valN
 induction l with
 | nil => intro n; simp
 | cons b r ih =>
  intro n
  rw [List.foldl_cons, List.foldl_cons, ih, ih (0 * 10 + (b.toNat - 48)), List.length_cons, Nat.pow_succ]
  have h1 : n * (10 ^ r.length * 10) = n * 10 * 10 ^ r.length := by rw [Nat.mul_comm (10 ^ r.length) 10, Nat.mul_assoc]
  rw [Nat.add_mul, h1, Nat.zero_mul, Nat.zero_add]
  omega
theorem valN_append (l m : List UInt8) : valN (l ++ m) = valN l * 10 ^ m.length + valN m := by
 show (l ++ m).foldl _ 0 = _
 rw [List.foldl_append, foldl_val m]
 rfl
theorem valN_zeros (k : Nat) : valN (List.replicate k 48) = 0 := by
 induction k with
 | zero => rfl
 | succ k ih =>
  rw [List.replicate_succ', valN_append, ih]
  rfl
theorem digit_toNat {d : Nat} (h : d < 10) : (UInt8.ofNat (48 + d)).toNat = 48 + d := by
 rw [UInt8.toNat_ofNat']
 exact Nat.mod_eq_of_lt (by omega)
theorem digit_isD {d : Nat} (h : d < 10) : isD (UInt8.ofNat (48 + d)) = true := by
 unfold isD
 rw [digit_toNat h, decide_eq_true (by omega), decide_eq_true (by omega)]
 rfl
theorem decDigits_small {u : Nat} (h : u < 10) : decDigits u = [UInt8.ofNat (48 + u)] := by rw [decDigits, dif_pos h]
theorem decDigits_big {u : Nat} (h : ¬ u < 10) : decDigits u = decDigits (u / 10) ++ [UInt8.ofNat (48 + u % 10)] := by rw [decDigits, dif_neg h]
theorem valN_one {d : Nat} (h : d < 10) : valN [UInt8.ofNat (48 + d)] = d := by
 show 0 * 10 + ((UInt8.ofNat (48 + d)).toNat - 48) = d
 rw [digit_toNat h]
 omega
theorem valN_dec (u : Nat) : valN (decDigits u) = u := by
 induction u using Nat.strongRecOn with
 | _ u ih =>
  by_cases h : u < 10
  · rw [decDigits_small h, valN_one h]
  · rw [decDigits_big h, valN_append, ih (u / 10) (by omega), valN_one (by omega)]
    show u / 10 * 10 ^ 1 + u % 10 = u
    omega
theorem dec_all (u : Nat) : ∀ b ∈ decDigits u, isD b = true := by
 induction u using Nat.strongRecOn with
 | _ u ih =>
  by_cases h : u < 10
  · rw [decDigits_small h]
    intro b hb
    obtain rfl := List.mem_singleton.1 hb
    exact digit_isD h
  · rw [decDigits_big h]
    intro b hb
    rcases List.mem_append.1 hb with hb | hb
    · exact ih (u / 10) (by omega) b hb
    · obtain rfl := List.mem_singleton.1 hb
      exact digit_isD (by omega)
theorem numB_all (n : Nat) : ∀ b ∈ numB n, isD b = true := by
 intro b hb
 unfold numB pad6 at hb
 rcases List.mem_append.1 hb with hb | hb
 · rw [(List.mem_replicate.1 hb).2]
   rfl
 · exact dec_all n b hb
theorem digs_numB (n : Nat) : digs (numB n) = numB n := List.filter_eq_self.2 (numB_all n)
theorem valN_numB (n : Nat) : valN (numB n) = n := by
 unfold numB pad6
 rw [valN_append, valN_zeros, valN_dec]
 omega
theorem dec_len : ∀ (k u : Nat), u < 10 ^ (k + 1) → (decDigits u).length ≤ k + 1
 | 0, u, h => by
  rw [decDigits_small (by omega)]
  exact Nat.le_refl _
 | k + 1, u, h => by
  by_cases hu : u < 10
  · rw [decDigits_small hu]
    exact Nat.succ_le_succ (Nat.zero_le _)
  · rw [decDigits_big hu, List.length_append]
    have h1 := dec_len k (u / 10) (by
     rw [Nat.pow_succ] at h
     exact Nat.div_lt_of_lt_mul (by rw [Nat.mul_comm]; exact h))
    exact Nat.succ_le_succ h1
theorem numB_len {n : Nat} (h : n ≤ 1099511627776) : (numB n).length ≤ 13 ∧ 6 ≤ (numB n).length := by
 have h1 := dec_len 12 n (by omega)
 unfold numB pad6
 rw [List.length_append, List.length_replicate]
 omega
theorem nameP_log {n : Nat} (h1 : 1 ≤ n) (h2 : n ≤ 1099511627776) : nameP 1 n = numB n ++ logB := by
 unfold nameP
 rw [if_neg (by decide), if_neg (by decide), if_neg (by omega), if_pos rfl]
theorem nameP_tab {n : Nat} (h1 : 1 ≤ n) (h2 : n ≤ 1099511627776) : nameP 2 n = numB n ++ tabB := by
 unfold nameP
 rw [if_neg (by decide), if_neg (by decide), if_neg (by omega), if_neg (by decide), if_pos rfl]
theorem nameP_man {n : Nat} (h1 : 1 ≤ n) (h2 : n ≤ 1099511627776) : nameP 3 n = manB ++ numB n := by
 unfold nameP
 rw [if_neg (by decide), if_neg (by decide), if_neg (by omega), if_neg (by decide), if_neg (by decide), if_pos rfl]
theorem nameP_out {k : Int} {n : Nat} (hk : k ≠ 4 ∧ k ≠ 5) (h : n < 1 ∨ 1099511627776 < n) : nameP k n = [] := by
 unfold nameP
 rw [if_neg hk.1, if_neg hk.2, if_pos h]
def numK (k : Int) : Prop := k = 1 ∨ k = 2 ∨ k = 3
theorem digs_name {k : Int} (hk : numK k) {n : Nat} (h1 : 1 ≤ n) (h2 : n ≤ 1099511627776) : digs (nameP k n) = numB n := by
 rcases hk with rfl | rfl | rfl
 · rw [nameP_log h1 h2]
   unfold digs
   rw [List.filter_append, show List.filter isD (numB n) = numB n from digs_numB n, show List.filter isD logB = [] by decide, List.append_nil]
 · rw [nameP_tab h1 h2]
   unfold digs
   rw [List.filter_append, show List.filter isD (numB n) = numB n from digs_numB n, show List.filter isD tabB = [] by decide, List.append_nil]
 · rw [nameP_man h1 h2]
   unfold digs
   rw [List.filter_append, show List.filter isD (numB n) = numB n from digs_numB n, show List.filter isD manB = [] by decide, List.nil_append]
theorem digV_name {k : Int} (hk : numK k) {n : Nat} (h1 : 1 ≤ n) (h2 : n ≤ 1099511627776) : digV (nameP k n) = n := by
 unfold digV
 rw [digs_name hk h1 h2, if_neg (by have := numB_len h2; omega), valN_numB]
theorem name_ne {k : Int} (hk : numK k) {n : Nat} (h1 : 1 ≤ n) (h2 : n ≤ 1099511627776) : nameP k n ≠ [] ∧ nameP k n ≠ curB ∧ nameP k n ≠ tmpB := by
 have h3 : digs (nameP k n) ≠ [] := by
  rw [digs_name hk h1 h2]
  intro e
  have := (numB_len h2).2
  rw [e] at this
  simp at this
 refine ⟨fun e => h3 (by rw [e]; rfl), fun e => h3 (by rw [e]; decide), fun e => h3 (by rw [e]; decide)⟩
theorem last_name {k : Int} (hk : numK k) {n : Nat} (h1 : 1 ≤ n) (h2 : n ≤ 1099511627776) : (k = 1 → (nameP k n).getLast? = some 103) ∧ (k = 2 → (nameP k n).getLast? = some 98) ∧ (k = 3 → ∃ b, (nameP k n).getLast? = some b ∧ isD b = true) := by
 refine ⟨fun e => ?_, fun e => ?_, fun e => ?_⟩
 · subst e
   rw [nameP_log h1 h2, show logB = [46, 108, 111] ++ [103] from rfl, ← List.append_assoc, List.getLast?_append]
   rfl
 · subst e
   rw [nameP_tab h1 h2, show tabB = [46, 116, 97] ++ [98] from rfl, ← List.append_assoc, List.getLast?_append]
   rfl
 · subst e
   rw [nameP_man h1 h2]
   have hne : numB n ≠ [] := fun e => by have := (numB_len h2).2; rw [e] at this; simp at this
   refine ⟨(numB n).getLast hne, ?_, numB_all n _ (List.getLast_mem hne)⟩
   rw [List.getLast?_append, List.getLast?_eq_some_getLast hne]
   rfl
theorem name_kind {k j : Int} (hk : numK k) (hj : numK j) {n m : Nat} (h1 : 1 ≤ n) (h2 : n ≤ 1099511627776) (h3 : 1 ≤ m) (h4 : m ≤ 1099511627776) (e : nameP k n = nameP j m) : k = j ∧ n = m := by
 refine ⟨?_, by rw [← digV_name hk h1 h2, e, digV_name hj h3 h4]⟩
 have a := last_name hk h1 h2
 have b := last_name hj h3 h4
 rw [e] at a
 rcases hk with rfl | rfl | rfl <;> rcases hj with rfl | rfl | rfl
 · rfl
 · have x := a.1 rfl
   rw [b.2.1 rfl] at x
   exact absurd x (by decide)
 · obtain ⟨c, x, y⟩ := b.2.2 rfl
   rw [a.1 rfl] at x
   obtain rfl := Option.some.inj x
   exact absurd y (by decide)
 · have x := a.2.1 rfl
   rw [b.1 rfl] at x
   exact absurd x (by decide)
 · rfl
 · obtain ⟨c, x, y⟩ := b.2.2 rfl
   rw [a.2.1 rfl] at x
   obtain rfl := Option.some.inj x
   exact absurd y (by decide)
 · obtain ⟨c, x, y⟩ := a.2.2 rfl
   rw [b.1 rfl] at x
   obtain rfl := Option.some.inj x
   exact absurd y (by decide)
 · obtain ⟨c, x, y⟩ := a.2.2 rfl
   rw [b.2.1 rfl] at x
   obtain rfl := Option.some.inj x
   exact absurd y (by decide)
 · rfl
structure Names (s : List UInt8) (k : Int) (n : Nat) : Prop where
 cur : s = curB → k = 4 ∧ n = 0
 tmp : s = tmpB → k = 5 ∧ n = 0
 num : ∀ j m, numK j → 1 ≤ m → m ≤ 1099511627776 → s = nameP j m → k = j ∧ n = m
 none : s ≠ curB → s ≠ tmpB → (∀ j m, numK j → 1 ≤ m → m ≤ 1099511627776 → s ≠ nameP j m) → k = 0 ∧ n = 0
theorem Names.same {s : List UInt8} {k j : Int} {n m : Nat} (h : Names s k n) (g : Names s j m) : k = j ∧ n = m := by
 by_cases h1 : s = curB
 · obtain ⟨rfl, rfl⟩ := h.cur h1
   obtain ⟨rfl, rfl⟩ := g.cur h1
   exact ⟨rfl, rfl⟩
 by_cases h2 : s = tmpB
 · obtain ⟨rfl, rfl⟩ := h.tmp h2
   obtain ⟨rfl, rfl⟩ := g.tmp h2
   exact ⟨rfl, rfl⟩
 by_cases h3 : ∃ i q, numK i ∧ 1 ≤ q ∧ q ≤ 1099511627776 ∧ s = nameP i q
 · obtain ⟨i, q, a, b, c, e⟩ := h3
   obtain ⟨rfl, rfl⟩ := h.num i q a b c e
   obtain ⟨rfl, rfl⟩ := g.num k n a b c e
   exact ⟨rfl, rfl⟩
 · have h4 : ∀ i q, numK i → 1 ≤ q → q ≤ 1099511627776 → s ≠ nameP i q := fun i q a b c e => h3 ⟨i, q, a, b, c, e⟩
   obtain ⟨rfl, rfl⟩ := h.none h1 h2 h4
   obtain ⟨rfl, rfl⟩ := g.none h1 h2 h4
   exact ⟨rfl, rfl⟩
def parseR (s : List UInt8) : Int × Nat :=
 if s = curB then (4, 0) else if s = tmpB then (5, 0)
 else if nameP 1 (digV s) = s ∧ s ≠ [] then (1, digV s)
 else if nameP 2 (digV s) = s ∧ s ≠ [] then (2, digV s)
 else if nameP 3 (digV s) = s ∧ s ≠ [] then (3, digV s) else (0, 0)
theorem made_some {k : Int} (hk : numK k) {s : List UInt8} (h : nameP k (digV s) = s ∧ s ≠ []) : 1 ≤ digV s ∧ digV s ≤ 1099511627776 := by
 by_cases hn : digV s < 1 ∨ 1099511627776 < digV s
 · rw [nameP_out (by rcases hk with rfl | rfl | rfl <;> decide) hn] at h
   exact absurd h.1.symm h.2
 · omega
theorem parseR_names (s : List UInt8) : Names s (parseR s).1 (parseR s).2 := by
 unfold parseR
 by_cases h1 : s = curB
 · rw [if_pos h1]
   refine ⟨fun _ => ⟨rfl, rfl⟩, fun e => absurd (h1.symm.trans e) (by decide), fun j m a b c e => ?_, fun e => absurd h1 e⟩
   exact absurd (e.symm.trans h1) (name_ne a b c).2.1
 rw [if_neg h1]
 by_cases h2 : s = tmpB
 · rw [if_pos h2]
   refine ⟨fun e => absurd e h1, fun _ => ⟨rfl, rfl⟩, fun j m a b c e => ?_, fun _ e => absurd h2 e⟩
   exact absurd (e.symm.trans h2) (name_ne a b c).2.2
 rw [if_neg h2]
 have key : ∀ {k : Int}, numK k → (nameP k (digV s) = s ∧ s ≠ []) → Names s k (digV s) := fun {k} hk h => by
  obtain ⟨a1, a2⟩ := made_some hk h
  refine ⟨fun e => absurd e h1, fun e => absurd e h2, fun j m a b c e => ?_, fun _ _ e => absurd h.1.symm (e k _ hk a1 a2)⟩
  exact name_kind hk a a1 a2 b c (h.1.trans e)
 by_cases h3 : nameP 1 (digV s) = s ∧ s ≠ []
 · rw [if_pos h3]
   exact key (.inl rfl) h3
 rw [if_neg h3]
 by_cases h4 : nameP 2 (digV s) = s ∧ s ≠ []
 · rw [if_pos h4]
   exact key (.inr (.inl rfl)) h4
 rw [if_neg h4]
 by_cases h5 : nameP 3 (digV s) = s ∧ s ≠ []
 · rw [if_pos h5]
   exact key (.inr (.inr rfl)) h5
 rw [if_neg h5]
 refine ⟨fun e => absurd e h1, fun e => absurd e h2, fun j m a b c e => ?_, fun _ _ _ => ⟨rfl, rfl⟩⟩
 have h6 : nameP j (digV s) = s ∧ s ≠ [] := by
  rw [e, digV_name a b c]
  exact ⟨rfl, (name_ne a b c).1⟩
 rcases a with rfl | rfl | rfl
 · exact absurd h6 h3
 · exact absurd h6 h4
 · exact absurd h6 h5
end Go.Proofs.YtmlfbihlbiikeaaGreatDoor
namespace Go.Proofs.YtmlfbihlbiikeaaGreatDoor
theorem nbits_or32 (a b : Nat) (ha : a < 4294967296) (hb : b < 4294967296) : bits .or .u32 (a : Int) (b : Int) = ((a ||| b : Nat) : Int) := by
 have h : a ||| b < 2 ^ 32 := Nat.or_lt_two_pow ha hb
 have e : (BitVec.ofInt IntKind.u32.bits (a : Int) ||| BitVec.ofInt IntKind.u32.bits (b : Int)).toNat = a ||| b := by
  show (BitVec.ofInt 32 (a : Int) ||| BitVec.ofInt 32 (b : Int)).toNat = _
  rw [BitVec.toNat_or, BitVec.ofInt_natCast, BitVec.ofInt_natCast, BitVec.toNat_ofNat, BitVec.toNat_ofNat, Nat.mod_eq_of_lt ha, Nat.mod_eq_of_lt hb]
 unfold bits
 simp only [e]
 simp [IntKind.wrap, IntKind.bits, IntKind.signed]
 omega
theorem nbits_or64 (a b : Nat) (ha : a < 18446744073709551616) (hb : b < 18446744073709551616) : bits .or .u64 (a : Int) (b : Int) = ((a ||| b : Nat) : Int) := by
 have h : a ||| b < 2 ^ 64 := Nat.or_lt_two_pow ha hb
 have e : (BitVec.ofInt IntKind.u64.bits (a : Int) ||| BitVec.ofInt IntKind.u64.bits (b : Int)).toNat = a ||| b := by
  show (BitVec.ofInt 64 (a : Int) ||| BitVec.ofInt 64 (b : Int)).toNat = _
  rw [BitVec.toNat_or, BitVec.ofInt_natCast, BitVec.ofInt_natCast, BitVec.toNat_ofNat, BitVec.toNat_ofNat, Nat.mod_eq_of_lt ha, Nat.mod_eq_of_lt hb]
 unfold bits
 simp only [e]
 simp [IntKind.wrap, IntKind.bits, IntKind.signed]
 omega
theorem nbits_xor32 (a b : Nat) (ha : a < 4294967296) (hb : b < 4294967296) : bits .xor .u32 (a : Int) (b : Int) = ((a ^^^ b : Nat) : Int) := by
 have h : a ^^^ b < 2 ^ 32 := Nat.xor_lt_two_pow ha hb
 have e : (BitVec.ofInt IntKind.u32.bits (a : Int) ^^^ BitVec.ofInt IntKind.u32.bits (b : Int)).toNat = a ^^^ b := by
  show (BitVec.ofInt 32 (a : Int) ^^^ BitVec.ofInt 32 (b : Int)).toNat = _
  rw [BitVec.toNat_xor, BitVec.ofInt_natCast, BitVec.ofInt_natCast, BitVec.toNat_ofNat, BitVec.toNat_ofNat, Nat.mod_eq_of_lt ha, Nat.mod_eq_of_lt hb]
 unfold bits
 simp only [e]
 simp [IntKind.wrap, IntKind.bits, IntKind.signed]
 omega
theorem nbits_and32 (a b : Nat) (ha : a < 4294967296) (hb : b < 4294967296) : bits .and .u32 (a : Int) (b : Int) = ((a &&& b : Nat) : Int) := by
 have h : a &&& b < 2 ^ 32 := Nat.and_lt_two_pow _ hb
 have e : (BitVec.ofInt IntKind.u32.bits (a : Int) &&& BitVec.ofInt IntKind.u32.bits (b : Int)).toNat = a &&& b := by
  show (BitVec.ofInt 32 (a : Int) &&& BitVec.ofInt 32 (b : Int)).toNat = _
  rw [BitVec.toNat_and, BitVec.ofInt_natCast, BitVec.ofInt_natCast, BitVec.toNat_ofNat, BitVec.toNat_ofNat, Nat.mod_eq_of_lt ha, Nat.mod_eq_of_lt hb]
 unfold bits
 simp only [e]
 simp [IntKind.wrap, IntKind.bits, IntKind.signed]
 omega
theorem nbits_and64 (a b : Nat) (ha : a < 18446744073709551616) (hb : b < 18446744073709551616) : bits .and .u64 (a : Int) (b : Int) = ((a &&& b : Nat) : Int) := by
 have h : a &&& b < 2 ^ 64 := Nat.and_lt_two_pow _ hb
 have e : (BitVec.ofInt IntKind.u64.bits (a : Int) &&& BitVec.ofInt IntKind.u64.bits (b : Int)).toNat = a &&& b := by
  show (BitVec.ofInt 64 (a : Int) &&& BitVec.ofInt 64 (b : Int)).toNat = _
  rw [BitVec.toNat_and, BitVec.ofInt_natCast, BitVec.ofInt_natCast, BitVec.toNat_ofNat, BitVec.toNat_ofNat, Nat.mod_eq_of_lt ha, Nat.mod_eq_of_lt hb]
 unfold bits
 simp only [e]
 simp [IntKind.wrap, IntKind.bits, IntKind.signed]
 omega
theorem nbits_or8_128 : ∀ a : Fin 256, bits .or .u8 ((a.val : Nat) : Int) 128 = (((a.val % 128 + 128 : Nat)) : Int) := by decide +kernel
theorem nbits_andNot8_128 : ∀ a : Fin 256, bits .andNot .u8 ((a.val : Nat) : Int) 128 = (((a.val % 128 : Nat)) : Int) := by decide +kernel
end Go.Proofs.YtmlfbihlbiikeaaGreatDoor
namespace Go.Proofs.YtmlfbihlbiikeaaGreatDoor
open Go.RowKit
theorem i64_wrap (k : Nat) (h : k < 9223372036854775808) : IntKind.i64.wrap (k : Int) = (k : Int) := by
 simp [IntKind.wrap, IntKind.bits, IntKind.signed]
 omega
theorem conv_u64_int (k : Nat) (h : k < 9223372036854775808) (W : World) : (convert 23 3 (.int .u64 (k : Int))).run Tryz.prog W = .ok (.int .i64 (k : Int)) W := by
 have e := i64_wrap k h
 generalize (k : Int) = z at e ⊢
 simp [convert, run_underlying Tryz.underlying23, run_underlying Tryz.underlying3, go_sem, e]
end Go.Proofs.YtmlfbihlbiikeaaGreatDoor
namespace Go.Proofs.YtmlfbihlbiikeaaGreatDoor
open Go.Shelf Go.RowKit Go.Sort Go.Lib
abbrev Pow (w : World) : Prop := Lib.TabIs Tryz.prog w "internal/strconv.uint64pow10" .u64 Lib.pow10Tab
theorem below_grow (w : World) (k : Nat) (os : Array Obj) : Below w.heap.size w (grow (w.drewN k) os) := by
 refine ⟨rfl, rfl, rfl, ?_, fun b hb => ?_⟩
 · show w.heap.size ≤ (w.heap ++ os).size
   rw [Array.size_append]
   omega
 · show (w.heap ++ os)[b]? = w.heap[b]?
   rw [Array.getElem?_append_left hb]
set_option maxHeartbeats 6400000 in
theorem ifmt_any (u : Nat) (h : u < 18446744073709551616) (w : World) (htab : Pow w) :
 Calls Tryz.prog 81 #[.int .u64 (u : Int), .int .i64 10] w fun e w' => e = .returned (.string ⟨(decDigits u).toArray⟩) ∧ Below w.heap.size w w' := by
 by_cases hs : u < 100
 · have hcv : ∀ W : World, (convert 23 3 (.int .u64 (u : Int))).run Tryz.prog W = .ok (.int .i64 (u : Int)) W := fun W => conv_u64_int u (by omega) W
   have hlt : decide ((u : Int) < 100) = true := decide_eq_true (by omega)
   have hi : (u : Int) < 100 := by omega
   go_enter Tryz.func81, Tryz.ntmps81
   go_wp2_with fail
   refine (Any.internal_strconv_small smallL u hs _).mono ?_
   rintro e w' ⟨rfl, rfl⟩
   go_wp2
   go_ret
   exact ⟨rfl, Below.refl _ _⟩
 · have hu1 : 1 ≤ u := by omega
   have hnd20 : Lib.nDigits u ≤ 20 := by have := Lib.numDigits_eq u hu1 h; split at this <;> omega
   have hal : Tryz.prog.arrayLen 203 = 24 := by kernel_rfl
   have hge : decide ((u : Int) < 100) = false := decide_eq_false (by omega)
   have hn : ¬ (u : Int) < 100 := by omega
   have hsl : ∀ W, (Instr.sliceAt 203 (.pointer (some ⟨w.heap.size, 0, none⟩)) none (some (.int .i64 (Lib.nDigits u : Int))) none).run Tryz.prog W = .ok (.slice (some ⟨w.heap.size, 0, none⟩) (Lib.nDigits u) 24) W := fun W => by
    rw [run_sliceAt_array_h W 203 ⟨w.heap.size, 0, none⟩ (by simp [Program.arrayLen, Program.elem, Tryz.underlying203]) .i64 (Lib.nDigits u : Int) (by omega) (by rw [hal]; omega)]
    go_simp
   have hH0 : Holds (fun (b : UInt8) => Value.int .u8 (b.toNat : Int)) (w.alloc (.cells Lib.zeros24 203)) w.heap.size 0 (Array.replicate (Lib.nDigits u) 0) := fun j hj => by
    have hj' : j < Lib.nDigits u := by simpa using hj
    refine ⟨?_, World.frozen?_alloc_new _ _ _ _⟩
    rw [World.cell?_alloc_new, Lib.zeros24_at _ (by omega), getElem!_pos _ j hj]
    simp
   have hfmt := Any.internal_strconv_formatBase10 fmtL w.heap.size 0 24 u (Array.replicate (Lib.nDigits u) 0) (w.alloc (.cells Lib.zeros24 203)) hH0 (by rw [Array.size_replicate]; exact Lib.lt_pow_nDigits u) h (by rw [Array.size_replicate]; omega)
   rw [Array.size_replicate] at hfmt
   have HH0 := Lib.hid hH0
   clear hH0 hal
   go_enter Tryz.func81, Tryz.ntmps81
   go_wp2_with fail
   refine (Any.internal_strconv_numDigits ndL u hu1 h _ (Lib.tabIs_alloc htab _)).mono ?_
   rintro e w' ⟨rfl, rfl⟩
   go_wp2_with fail
   refine hfmt.mono ?_
   rintro e w' ⟨rfl, k, v', dk, rfl, hF⟩
   have hcv : (convert 29 9 (.slice (some ⟨w.heap.size, 0, none⟩) (Lib.nDigits u) 24)).run Tryz.prog ((putRow (fun (b : UInt8) => Value.int .u8 (b.toNat : Int)) (w.alloc (.cells Lib.zeros24 203)) w.heap.size 0 dk).drewN k) = .ok (.string ⟨(Lib.decDigits u).toArray⟩) ((putRow (fun (b : UInt8) => Value.int .u8 (b.toNat : Int)) (w.alloc (.cells Lib.zeros24 203)) w.heap.size 0 dk).drewN k) := by
    have h := run_convert_bytes_back (P := Tryz.prog) ((putRow (fun (b : UInt8) => Value.int .u8 (b.toNat : Int)) (w.alloc (.cells Lib.zeros24 203)) w.heap.size 0 dk).drewN k) 29 9 5 ⟨w.heap.size, 0, none⟩ 24 (Lib.decDigits u) Tryz.underlying29 Tryz.underlying5 Tryz.underlying9 (fun j hj => by
     rw [Lib.row_is_numeral hF j hj, Lib.add_plain, World.cell?_drewN]
     exact cell?_putRow (fun (b : UInt8) => Value.int .u8 (b.toNat : Int)) _ w.heap.size 0 _ dk HH0.out (by rw [hF.size, Array.size_replicate]) j (by rw [hF.size]; rw [Lib.decDigits_length] at hj; exact hj))
    rw [Lib.decDigits_length] at h
    exact h
   go_wp2
   go_ret
   refine ⟨rfl, ?_⟩
   rw [alloc_eq_grow]
   obtain ⟨os', _, e⟩ := putRow_grow_new (fun (b : UInt8) => Value.int .u8 (b.toNat : Int)) w #[.cells Lib.zeros24 203] w.heap.size 0 dk (Nat.le_refl _)
   rw [e]
   exact below_grow w k os'
theorem fmt_any (u : Nat) (h : u < 18446744073709551616) (w : World) (htab : Pow w) :
 Calls Tryz.prog 37 #[.int .u64 (u : Int), .int .i64 10] w fun e w' => e = .returned (.string ⟨(decDigits u).toArray⟩) ∧ Below w.heap.size w w' := by
 go_enter Tryz.func37, Tryz.ntmps37
 go_wp2_with fail
 refine (ifmt_any u h _ htab).mono ?_
 rintro e w' ⟨rfl, hb⟩
 go_wp2
 go_ret
 exact ⟨rfl, hb⟩
end Go.Proofs.YtmlfbihlbiikeaaGreatDoor
namespace Go.Proofs.YtmlfbihlbiikeaaGreatDoor
open Go.RowKit
abbrev TFm : TypeId := 75
abbrev TMf : TypeId := 76
abbrev TIm : TypeId := 3
theorem ba_eq15 {a b : ByteArray} (h : a.data.toList = b.data.toList) : a = b := by
 cases a; cases b
 congr 1
 exact Array.toList_inj.1 h
def fmA (k : Int) : List UInt8 := if k = 3 then manB else if k = 4 then curB else if k = 5 then tmpB else []
def fmB (k : Int) : List UInt8 := if k = 1 then logB else if k = 2 then tabB else []
def fmN (k : Int) : Bool := decide (k = 1 ∨ k = 2 ∨ k = 3)
def fmV (k : Int) : Value := .agg #[.string (strOf (fmA k)), .string (strOf (fmB k)), .bool (fmN k)]
def fmD (k : Int) : DataW Unit := .agg [.lit (.string (fmA k)), .lit (.string (fmB k)), .lit (.bool (fmN k))]
def formE : Value → Option (DataW Unit × List MemPlace)
 | .agg cs => match cs.toList with
  | [.string a, .string b, .bool n] => some (.agg [.lit (.string a.data.toList), .lit (.string b.data.toList), .lit (.bool n)], [])
  | _ => none
 | _ => none
theorem formE_mk (a b : ByteArray) (n : Bool) : formE (.agg #[.string a, .string b, .bool n]) = some (.agg [.lit (.string a.data.toList), .lit (.string b.data.toList), .lit (.bool n)], []) := rfl
theorem formE_inv {v : Value} {z : DataW Unit × List MemPlace} (h : formE v = some z) : ∃ (a b : ByteArray) (n : Bool), v = .agg #[.string a, .string b, .bool n] ∧ z = (.agg [.lit (.string a.data.toList), .lit (.string b.data.toList), .lit (.bool n)], []) := by
 unfold formE at h
 split at h
 · rename_i cs
   split at h
   · rename_i a b n e
     refine ⟨a, b, n, ?_, (Option.some.inj h).symm⟩
     congr 1
     exact Array.toList_inj.1 e
   · cases h
 · cases h
theorem fmV_mk (k : Int) : formE (fmV k) = some (fmD k, []) := by
 unfold fmV fmD
 rw [formE_mk]
 simp [strOf]
theorem lawI : Maps.Keyed Tryz.prog TIm := Maps.int_keyed Tryz.underlying3
abbrev litI (q : Int) : Lit := .int .i64 q
def WfI (q : Int) : Prop := -9223372036854775808 ≤ q ∧ q ≤ 9223372036854775807
theorem keyI {q : Int} (h : WfI q) : keyOf Tryz.prog TIm (.int .i64 q) = some (litI q) := by
 refine Maps.keyOf_int_mk Tryz.underlying3 ?_
 unfold WfI at h
 simp [Lit.wf, IntKind.min, IntKind.max, IntKind.signed, IntKind.bits]
 omega
theorem zeroF (w : World) : (zeroValue TFm).run Tryz.prog w = .ok (.agg #[.string ⟨#[]⟩, .string ⟨#[]⟩, .bool false]) w := by kernel_rfl
def formD : DataW Unit := .map [(litI 1, fmD 1), (litI 2, fmD 2), (litI 3, fmD 3), (litI 4, fmD 4), (litI 5, fmD 5)]
def MpF (w : World) (b : Nat) : Prop := w.ownsMap Tryz.prog TIm formE b 5 formD
def MpG (w : World) (b n : Nat) (D : DataW Unit) : Prop := w.ownsMap Tryz.prog TIm formE b n D
theorem MpG.made (w : World) : MpG (w.alloc (.map #[] 0)) w.heap.size 0 (.map []) := World.ownsMap_made w Tryz.prog TIm formE
theorem MpG.store {w : World} {b n : Nat} {D : DataW Unit} (h : MpG w b n D) (q : Int) (hq : WfI q) (hn : n < 1000000) : ∃ w', (Instr.mapUpdate TMf (.map (some b)) (.int .i64 q) (fmV q)).run Tryz.prog w = .ok () w' ∧ MpG w' b (n + 1) (D.put (litI q) (fmD q)) ∧ Chg (fun k => k = b) w w' := by
 obtain ⟨w', hr, ho, ht⟩ := World.ownsMap.store h lawI Tryz.underlying76 (by unfold maxLen; omega) (keyI hq) (val := fmV q) (fmV_mk q)
 refine ⟨w', hr, ho, ?_⟩
 exact (Chg.grown ht.grown).wide (fun k _ e => (Option.some.inj e).symm)
theorem formD_at (k : Int) (z : DataW Unit) : formD.atKey (litI k) z = if 1 ≤ k ∧ k ≤ 5 then fmD k else z := by
 unfold formD DataW.atKey
 by_cases h1 : k = 1
 · subst h1; rfl
 by_cases h2 : k = 2
 · subst h2; rfl
 by_cases h3 : k = 3
 · subst h3; rfl
 by_cases h4 : k = 4
 · subst h4; rfl
 by_cases h5 : k = 5
 · subst h5; rfl
 have n1 : ¬ (1 ≤ k ∧ k ≤ 5) := by omega
 rw [if_neg n1]
 simp [Lit.sameKey, List.find?, show ¬ (1 : Int) = k by omega, show ¬ (2 : Int) = k by omega, show ¬ (3 : Int) = k by omega, show ¬ (4 : Int) = k by omega, show ¬ (5 : Int) = k by omega, beq_eq_false_iff_ne.2 (show (1 : Int) ≠ k by omega), beq_eq_false_iff_ne.2 (show (2 : Int) ≠ k by omega), beq_eq_false_iff_ne.2 (show (3 : Int) ≠ k by omega), beq_eq_false_iff_ne.2 (show (4 : Int) ≠ k by omega), beq_eq_false_iff_ne.2 (show (5 : Int) ≠ k by omega)]
theorem fmD_inj {a b : ByteArray} {n : Bool} {k : Int} (h : (.agg [.lit (.string a.data.toList), .lit (.string b.data.toList), .lit (.bool n)] : DataW Unit) = fmD k) : (.agg #[.string a, .string b, .bool n] : Value) = fmV k := by
 unfold fmD at h
 simp only [DataW.agg.injEq, List.cons.injEq, DataW.lit.injEq, Lit.string.injEq, Lit.bool.injEq, and_true] at h
 obtain ⟨h1, h2, h3⟩ := h
 unfold fmV
 have e1 : a = strOf (fmA k) := by
  exact ba_eq15 (by rw [h1]; simp [strOf])
 have e2 : b = strOf (fmB k) := by
  exact ba_eq15 (by rw [h2]; simp [strOf])
 rw [e1, e2, h3]
def fmX (k : Int) : Value := if 1 ≤ k ∧ k ≤ 5 then fmV k else .agg #[.string ⟨#[]⟩, .string ⟨#[]⟩, .bool false]
theorem fmX_eq (k : Int) : fmX k = fmV k := by
 unfold fmX
 split
 · rfl
 · unfold fmV fmA fmB fmN
   rw [if_neg (by omega), if_neg (by omega), if_neg (by omega), if_neg (by omega), if_neg (by omega), decide_eq_false (by omega)]
   rfl
theorem MpF.look {w : World} {b : Nat} (h : MpF w b) {k : Int} (hk : WfI k) : (Instr.lookup TMf (.map (some b)) (.int .i64 k) false).run Tryz.prog w = .ok (fmV k) w := by
 obtain ⟨v, ps, hr, hv⟩ := World.ownsMap.lookup h lawI Tryz.underlying76 (zeroF w) (formE_mk _ _ _) (keyI hk)
 obtain ⟨a, c, n, rfl, hz⟩ := formE_inv hv
 rw [hr]
 simp only [Prod.mk.injEq] at hz
 have h2 := hz.1
 rw [formD_at] at h2
 by_cases h1 : 1 ≤ k ∧ k ≤ 5
 · rw [if_pos h1] at h2
   rw [fmD_inj h2.symm]
 · rw [if_neg h1] at h2
   have e : (.agg [.lit (.string a.data.toList), .lit (.string c.data.toList), .lit (.bool n)] : DataW Unit) = fmD k := by
    rw [← h2]
    unfold fmD fmA fmB fmN
    rw [if_neg (by omega), if_neg (by omega), if_neg (by omega), if_neg (by omega), if_neg (by omega), decide_eq_false (by omega)]
   rw [fmD_inj e]
set_option maxHeartbeats 2000000 in
theorem forms_any (w : World) : Calls Tryz.prog 32 #[] w fun e w' => ∃ b, e = .returned (.map (some b)) ∧ MpF w' b ∧ w.heap.size ≤ b ∧ Below w.heap.size w w' := by
 obtain ⟨w1, r1, m1, c1⟩ := (MpG.made w).store 1 (by unfold WfI; omega) (by omega)
 obtain ⟨w2, r2, m2, c2⟩ := m1.store 2 (by unfold WfI; omega) (by omega)
 obtain ⟨w3, r3, m3, c3⟩ := m2.store 3 (by unfold WfI; omega) (by omega)
 obtain ⟨w4, r4, m4, c4⟩ := m3.store 4 (by unfold WfI; omega) (by omega)
 obtain ⟨w5, r5, m5, c5⟩ := m4.store 5 (by unfold WfI; omega) (by omega)
 have e5 : ((((((.map [] : DataW Unit).put (litI 1) (fmD 1)).put (litI 2) (fmD 2)).put (litI 3) (fmD 3)).put (litI 4) (fmD 4)).put (litI 5) (fmD 5)) = formD := rfl
 rw [e5] at m5
 have hb : Below w.heap.size w w5 := by
  have h0 : Below w.heap.size w (w.alloc (.map #[] 0)) := (Below.refl _ _).alloc (Nat.le_refl _) _
  have z : w.heap.size ≤ (w.alloc (.map #[] 0)).heap.size := h0.size
  have s1 := c1.size
  have s2 := c2.size
  have s3 := c3.size
  have s4 := c4.size
  exact h0.trans ((((c1.below (B := w.heap.size) (fun k hk => by omega) z).trans (c2.below (fun k hk => by omega) (by omega))).trans (c3.below (fun k hk => by omega) (by omega))).trans ((c4.below (fun k hk => by omega) (by omega)).trans (c5.below (fun k hk => by omega) (by omega))))
 have HE : Hid (MpF w5 w.heap.size ∧ Below w.heap.size w w5) := ⟨m5, hb⟩
 clear m1 m2 m3 m4 m5 c1 c2 c3 c4 c5 e5 hb
 have v1 : fmV 1 = .agg #[.string ⟨#[]⟩, .string ⟨#[46, 108, 111, 103]⟩, .bool true] := rfl
 have v2 : fmV 2 = .agg #[.string ⟨#[]⟩, .string ⟨#[46, 116, 97, 98]⟩, .bool true] := rfl
 have v3 : fmV 3 = .agg #[.string ⟨#[77, 65, 78, 73, 70, 69, 83, 84, 45]⟩, .string ⟨#[]⟩, .bool true] := rfl
 have v4 : fmV 4 = .agg #[.string ⟨#[67, 85, 82, 82, 69, 78, 84]⟩, .string ⟨#[]⟩, .bool false] := rfl
 have v5 : fmV 5 = .agg #[.string ⟨#[67, 85, 82, 82, 69, 78, 84, 46, 116, 109, 112]⟩, .string ⟨#[]⟩, .bool false] := rfl
 rw [v1] at r1
 rw [v2] at r2
 rw [v3] at r3
 rw [v4] at r4
 rw [v5] at r5
 have hmm : ∀ w : World, (Instr.makeMap TMf none).run Tryz.prog w = .ok (.map (some w.heap.size)) (w.alloc (.map #[] 0)) := fun w => by kernel_rfl
 go_enter Tryz.func32, Tryz.ntmps32
 go_wp2
 go_ret
 exact ⟨_, rfl, HE.out.1, Nat.le_refl _, HE.out.2⟩
end Go.Proofs.YtmlfbihlbiikeaaGreatDoor
