/- Slices of bytes in memory: a slice that can be read as a list of bytes, and how that reading is kept. -/
import Derived.WalkKit
import Derived.Deep.AppendSrc
namespace Go.Proofs.Ytfijibengmgegaa
open Go.RowKit

theorem ret1 {a a' : Value} (h : a = a') : Ending.returned a = .returned a' := by rw [h]
theorem ret2 {a b a' b' : Value} (h1 : a = a') (h2 : b = b') : Ending.returned (.tuple #[a, b]) = .returned (.tuple #[a', b']) := by rw [h1, h2]
theorem ret3 {a b c a' b' c' : Value} (h1 : a = a') (h2 : b = b') (h3 : c = c') : Ending.returned (.tuple #[a, b, c]) = .returned (.tuple #[a', b', c']) := by rw [h1, h2, h3]

/-- The slice value (a, len, cap) reads as the bytes bs in the world w. -/
structure BsAt (w : World) (a : Option Addr) (len cap : Nat) (bs : List UInt8) : Prop where
  size : bs.length = len
  le : len ≤ cap
  max : cap ≤ maxLen
  bare : a = none → cap = 0
  here : 0 < len → ∃ b off, a = some ⟨b, off, none⟩ ∧ ∀ j, j < len → w.cell? ⟨b, off + j, none⟩ = some (.int .u8 ((bs.getD j 0).toNat : Int))

theorem BsAt.below {B : Nat} {w w' : World} {a : Option Addr} {len cap : Nat} {bs : List UInt8} (h : BsAt w a len cap bs) (hB : w.heap.size ≤ B) (hb : Below B w w') : BsAt w' a len cap bs :=
  ⟨h.size, h.le, h.max, h.bare, fun hp => by
    obtain ⟨b, off, ha, hc⟩ := h.here hp
    exact ⟨b, off, ha, fun j hj => by rw [hb.cell (Nat.lt_of_lt_of_le (World.block_lt_of_cell? w _ (hc j hj)) hB)]; exact hc j hj⟩⟩

def strOf (l : List UInt8) : ByteArray := ⟨l.toArray⟩

/-- A slice of bytes as a string: the bytes that it reads as. -/
theorem BsAt.asStr {P : Program} {w : World} {a : Option Addr} {len cap : Nat} {bs : List UInt8} (h : BsAt w a len cap bs) {src dst e : TypeId} (hs : P.underlying src = some (.slice e)) (he : P.underlying e = some (.int .u8)) (hd : P.underlying dst = some .string) :
    (convert src dst (.slice a len cap)).run P w = .ok (.string (strOf bs)) w := by
  have hl := h.size
  subst hl
  rcases Nat.eq_zero_or_pos bs.length with h0 | h0
  · obtain rfl := List.eq_nil_of_length_eq_zero h0
    cases a with
    | none => exact run_convert_bytes_nil w src e hs he _ _ dst hd
    | some x => exact run_convert_bytes_back w src dst e x cap [] hs he hd (fun j hj => absurd hj (Nat.not_lt_zero _))
  · obtain ⟨b, off, rfl, hc⟩ := h.here h0
    refine run_convert_bytes_back w src dst e _ cap bs hs he hd (fun j hj => ?_)
    rw [Addr.add_lit, hc j hj]
    simp [List.getD, hj]

theorem BsAt.sub {w : World} {b off len cap : Nat} {bs : List UInt8} (h : BsAt w (some ⟨b, off, none⟩) len cap bs) (k n : Nat) (hk : k + n ≤ len) : BsAt w (some ⟨b, off + k, none⟩) n (cap - k) ((bs.drop k).take n) := by
  have h1 := h.size
  have h2 := h.le
  have h3 := h.max
  refine ⟨by simp; omega, by omega, by omega, by simp, fun hp => ⟨b, off + k, rfl, fun j hj => ?_⟩⟩
  obtain ⟨b', off', he, hc⟩ := h.here (by omega)
  simp at he
  obtain ⟨rfl, rfl⟩ := he
  rw [Nat.add_assoc, hc (k + j) (by omega)]
  simp [List.getD, hj]

theorem BsAt.empty {w : World} (a : Addr) (cap : Nat) (h : cap ≤ maxLen) : BsAt w (some a) 0 cap [] := ⟨rfl, Nat.zero_le _, h, by simp, fun hp => absurd hp (Nat.lt_irrefl _)⟩

/-- A literal of one byte. -/
theorem BsAt.one {w : World} {x : Int} {e : TypeId} {b : UInt8} (hx : x = (b.toNat : Int)) : BsAt (w.alloc (.cells #[.int .u8 x] e)) (some ⟨w.heap.size, 0, none⟩) 1 1 [b] := by
  refine ⟨rfl, Nat.le_refl _, by unfold maxLen; omega, by simp, fun _ => ⟨w.heap.size, 0, rfl, fun j hj => ?_⟩⟩
  obtain rfl : j = 0 := by omega
  subst hx
  simp
end Go.Proofs.Ytfijibengmgegaa
