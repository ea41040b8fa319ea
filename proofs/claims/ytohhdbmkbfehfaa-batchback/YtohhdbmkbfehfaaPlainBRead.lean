/- Numbers and texts that are taken from bytes, one behind the other: where the bytes are a batch, its operations are read; and only then they are laid again as they were. -/
import Derived.Test.YtohhdbmkbfehfaaPlainBDec
namespace Go.Proofs.Ytohhdbmkbfehfaa
/-- The number of so many bytes at a place, and the place behind it; likewise a text. -/
def numAt (bs : List UInt8) (p : Nat) (size : Nat) : Nat := (fxRead (bs.drop p) size).1
def numTo (bs : List UInt8) (p : Nat) (size : Nat) : Nat := if (fxRead (bs.drop p) size).2 = 0 then p + size else p
def txtAt (bs : List UInt8) (p : Nat) : ByteArray := strOf (txtRead (bs.drop p)).1
def txtTo (bs : List UInt8) (p : Nat) : Nat := p + (txtRead (bs.drop p)).2.1
theorem fxRead_size {bs : List UInt8} {size : Nat} (h : (fxRead bs size).2 = 0) : size ≤ bs.length := by
  unfold fxRead at h
  split at h
  · simp at h
  · split at h
    · simp at h
    · omega
theorem numTo_le {bs : List UInt8} {p : Nat} (size : Nat) (h : p ≤ bs.length) : numTo bs p size ≤ bs.length := by
  unfold numTo
  split
  · rename_i h0
    have := fxRead_size h0
    rw [List.length_drop] at this
    omega
  · exact h
theorem txtRead_none {bs : List UInt8} (h : ¬ (txtRead bs).2.2 = 0) : (txtRead bs).2.1 = 0 := by
  unfold txtRead at h ⊢
  split
  · rfl
  · rename_i h1
    rw [if_neg h1] at h
    split
    · rfl
    · rename_i h2
      rw [if_neg h2] at h
      simp at h
theorem txtTo_le {bs : List UInt8} {p : Nat} (h : p ≤ bs.length) : txtTo bs p ≤ bs.length := by
  unfold txtTo
  by_cases h0 : (txtRead (bs.drop p)).2.2 = 0
  · have := txtRead_le _ h0
    rw [List.length_drop] at this
    omega
  · rw [txtRead_none h0]
    omega
theorem numAt_lt (bs : List UInt8) (p size : Nat) : numAt bs p size < 18446744073709551616 := by
  unfold numAt fxRead
  split
  · simp
  · split
    · simp
    · exact leNat_lt64 _ (by simp; omega)
theorem numAt_byte (bs : List UInt8) (p : Nat) : numAt bs p 1 < 256 := by
  unfold numAt fxRead
  split
  · simp
  · split
    · simp
    · have := leNat_take_lt (bs.drop p) 1 (by omega)
      simpa using this
theorem numAt_put {bs more : List UInt8} {p n size : Nat} (h1 : 1 ≤ size) (h2 : size ≤ 8) (hn : n < 2 ^ (8 * size)) (h : bs.drop p = fxEnc n size ++ more) : numAt bs p size = n ∧ numTo bs p size = p + size ∧ bs.drop (p + size) = more := by
  have e := fxRead_put n size more h1 h2
  unfold numAt numTo
  rw [h, e]
  refine ⟨Nat.mod_eq_of_lt hn, rfl, ?_⟩
  rw [← List.drop_drop, h]
  exact List.drop_left' (fxEnc_length n size)
theorem txtAt_put {bs more : List UInt8} {p : Nat} {s : ByteArray} (hs : s.size < 18446744073709551616) (h : bs.drop p = txtPut s.data.toList ++ more) : txtAt bs p = s ∧ bs.drop (txtTo bs p) = more := by
  have e := txtRead_put s.data.toList more (by rw [data_len]; exact hs)
  unfold txtAt txtTo
  rw [h, e]
  refine ⟨strOf_data s, ?_⟩
  rw [← List.drop_drop, h]
  exact List.drop_left' rfl
/-- Reading is on the way: if the bytes are a batch, its number is q, it has N operations, those before the k-th are read, and the rest is from place p on. -/
def onWay (bs : List UInt8) (q N k p : Nat) (L : List Opn) : Prop := ∀ r l, bchk r l = 0 → bEnc r l = bs → q = r ∧ N = l.length ∧ L = l.take k ∧ bs.drop p = opsEnc (l.drop k)
/-- Reading is done: if the bytes are a batch, it is this one. -/
def readDone (bs : List UInt8) (q : Nat) (L : List Opn) : Prop := ∀ r l, bchk r l = 0 → bEnc r l = bs → q = r ∧ L = l
theorem onWay_start (bs : List UInt8) : onWay bs (numAt bs 0 8) (numAt bs (numTo bs 0 8) 4) 0 (numTo bs (numTo bs 0 8) 4) [] := by
  intro r l h1 h2
  obtain ⟨hn, hq, _, hall⟩ := bchk_zero h1
  rw [bEnc_yes h1] at h2
  obtain ⟨a1, a2, a3⟩ := numAt_put (bs := bs) (p := 0) (size := 8) (n := r) (by omega) (by omega) (by omega) h2.symm
  obtain ⟨b1, b2, b3⟩ := numAt_put (p := 0 + 8) (size := 4) (n := l.length) (by omega) (by omega) (by omega) a3
  rw [a1, a2, b1, b2, b3]
  simp
theorem onWay_many {bs : List UInt8} {q N p : Nat} {L : List Opn} (h : onWay bs q N 0 p L) (hN : 64 < N) : bDec bs = (0, [], 32) := by
  rcases bDec_cases bs with ⟨r, l, h1, h2, _⟩ | ⟨_, h2⟩
  · have := (bchk_zero h1).1
    have := (h r l h1 h2).2.1
    omega
  · exact h2
theorem onWay_end {bs : List UInt8} {q N p : Nat} {L : List Opn} (h : onWay bs q N N p L) : readDone bs q L := by
  intro r l h1 h2
  obtain ⟨a, b, c, _⟩ := h r l h1 h2
  rw [b, List.take_of_length_le (Nat.le_refl _)] at c
  exact ⟨a, c⟩
theorem onWay_op {bs : List UInt8} {q N k p : Nat} {L : List Opn} (h : onWay bs q N k p L) (hk : k < N) {r : Nat} {l : List Opn} (h1 : bchk r l = 0) (h2 : bEnc r l = bs) :
    ∃ o, opChk o = 0 ∧ q = r ∧ N = l.length ∧ L ++ [o] = l.take (k + 1) ∧ (numAt bs p 1 : Int) = o.kind ∧ txtAt bs (numTo bs p 1) = o.key ∧ (o.kind = 1 → txtAt bs (txtTo bs (numTo bs p 1)) = o.val ∧ bs.drop (txtTo bs (txtTo bs (numTo bs p 1))) = opsEnc (l.drop (k + 1))) ∧ (o.kind ≠ 1 → o.val = ByteArray.empty ∧ bs.drop (txtTo bs (numTo bs p 1)) = opsEnc (l.drop (k + 1))) := by
  obtain ⟨a, b, c, d⟩ := h r l h1 h2
  have hall := (bchk_zero h1).2.2.2
  have hkl : k < l.length := by omega
  have hok := opsChk_all l hall k hkl
  refine ⟨l.getD k opn0, hok, a, b, by rw [take_op l k hkl, ← c], ?_⟩
  rw [drop_op l k hkl] at d
  generalize l.getD k opn0 = o at hok d
  obtain ⟨g1, g2, g3, g4⟩ := opChk_zero hok
  have d : bs.drop p = opEnc o ++ opsEnc (l.drop (k + 1)) := d
  generalize opsEnc (l.drop (k + 1)) = more at d
  have hk1 : fxEnc o.kind.toNat 1 = [loByte o.kind.toNat] := by simp [fxEnc]
  have d : bs.drop p = fxEnc o.kind.toNat 1 ++ (txtPut o.key.data.toList ++ ((if o.kind = 1 then txtPut o.val.data.toList else []) ++ more)) := by
    rw [d, hk1]
    simp [opEnc]
  obtain ⟨a1, a2, a3⟩ := numAt_put (size := 1) (by omega) (by omega) (by omega) d
  rw [← a2] at a3
  obtain ⟨b1, b2⟩ := txtAt_put (by omega) a3
  refine ⟨by omega, b1, fun hp => ?_, fun hp => ?_⟩
  · rw [if_pos hp] at b2
    exact txtAt_put (by omega) b2
  · rw [if_neg hp] at b2
    refine ⟨?_, by simpa using b2⟩
    have hz := g4 (by omega)
    cases hv : o.val with
    | mk v =>
      rw [hv] at hz
      have : v = #[] := Array.eq_empty_of_size_eq_zero hz
      rw [this]; rfl
theorem onWay_put {bs : List UInt8} {q N k p : Nat} {L : List Opn} (h : onWay bs q N k p L) (hk : k < N) (h0 : numAt bs p 1 = 1) :
    onWay bs q N (k + 1) (txtTo bs (txtTo bs (numTo bs p 1))) (L ++ [⟨1, txtAt bs (numTo bs p 1), txtAt bs (txtTo bs (numTo bs p 1))⟩]) := by
  intro r l h1 h2
  obtain ⟨⟨x, y, z⟩, _, a, b, c, d, e, f, _⟩ := onWay_op h hk h1 h2
  simp only at d e f
  rw [h0] at d
  obtain rfl : x = 1 := by omega
  obtain ⟨f1, f2⟩ := f rfl
  rw [e, f1]
  exact ⟨a, b, c, f2⟩
theorem onWay_del {bs : List UInt8} {q N k p : Nat} {L : List Opn} (h : onWay bs q N k p L) (hk : k < N) (h0 : numAt bs p 1 = 0) :
    onWay bs q N (k + 1) (txtTo bs (numTo bs p 1)) (L ++ [⟨0, txtAt bs (numTo bs p 1), ByteArray.empty⟩]) := by
  intro r l h1 h2
  obtain ⟨⟨x, y, z⟩, _, a, b, c, d, e, _, f⟩ := onWay_op h hk h1 h2
  simp only at d e f
  rw [h0] at d
  obtain rfl : x = 0 := by omega
  obtain ⟨f1, f2⟩ := f (by omega)
  rw [e, ← f1]
  exact ⟨a, b, c, f2⟩
theorem onWay_none {bs : List UInt8} {q N k p : Nat} {L : List Opn} (h : onWay bs q N k p L) (hk : k < N) (h0 : numAt bs p 1 ≠ 0) (h1 : numAt bs p 1 ≠ 1) (r : Nat) (M : List Opn) : readDone bs r M := by
  intro r l g1 g2
  obtain ⟨o, ho, _, _, _, d, _⟩ := onWay_op h hk g1 g2
  have := (opChk_zero ho).1
  omega
theorem readDone_dec {bs : List UInt8} {q : Nat} {L : List Opn} (h : readDone bs q L) : bDec bs = if bchk q L = 0 ∧ bEnc q L = bs then (q, L, 0) else (0, [], 32) := by
  by_cases h0 : bchk q L = 0 ∧ bEnc q L = bs
  · rw [if_pos h0, ← h0.2]
    exact bDec_enc h0.1
  · rw [if_neg h0]
    rcases bDec_cases bs with ⟨r, l, h1, h2, _⟩ | ⟨_, h2⟩
    · obtain ⟨rfl, rfl⟩ := h r l h1 h2
      exact absurd ⟨h1, h2⟩ h0
    · exact h2
end Go.Proofs.Ytohhdbmkbfehfaa
