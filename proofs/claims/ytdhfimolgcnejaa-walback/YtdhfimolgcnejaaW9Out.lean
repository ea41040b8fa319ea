/- What both Puts tell, whatever they are asked. -/
import Derived.Test.YtdhfimolgcnejaaW9Awake
import Derived.Test.YtdhfimolgcnejaaR9Put
namespace Go.Proofs.Ytdhfimolgcnejaa
open Go.RowKit

def putOut (x : Int) (b : List UInt8) : List UInt8 × Nat := if x < 0 then ([], 1) else if 131072 < b.length then ([], 90) else (putP x.toNat true b, 0)
theorem put_out (x : Int) (hx : x ≤ 9223372036854775807) (a : Option Addr) (len cap : Nat) (b : List UInt8) (L er : Nat) (hL : (putOut x b).1.length = L) (he : (putOut x b).2 = er) (w : World) (h : BsAt w a len cap b) :
    Calls Try.prog 10 #[.int .i64 x, .slice a len cap] w fun e w' => ∃ a' c', e = .returned (.tuple #[.slice a' L c', .int .i64 (er : Int)]) ∧ BsAt w' a' L c' (putOut x b).1 ∧ Below w.heap.size w w' := by
  subst hL he
  have hs := h.size
  unfold putOut
  by_cases h0 : x < 0
  · rw [if_pos h0]
    refine (put_neg x a len cap w h0).mono ?_
    rintro e w' ⟨rfl, rfl⟩
    exact ⟨none, 0, rfl, BsAt.nil _, Below.refl _ _⟩
  · rw [if_neg h0]
    by_cases hg : 131072 < b.length
    · rw [if_pos hg]
      refine (put_great x a len cap w (by omega) (by omega)).mono ?_
      rintro e w' ⟨rfl, rfl⟩
      exact ⟨none, 0, rfl, BsAt.nil _, Below.refl _ _⟩
    · rw [if_neg hg]
      obtain ⟨p, rfl⟩ : ∃ p : Nat, x = (p : Int) := ⟨x.toNat, by omega⟩
      rw [Int.toNat_natCast]
      refine (put_at p a len cap b w h (by omega) (by omega)).mono ?_
      rintro e w' ⟨a', c', rfl, ho, hb⟩
      exact ⟨a', c', rfl, ho.bs, hb⟩
theorem rput_out (x : Int) (hx : x ≤ 9223372036854775807) (a : Option Addr) (len cap : Nat) (b : List UInt8) (L er : Nat) (hL : (putOut x b).1.length = L) (he : (putOut x b).2 = er) (w : World) (h : BsAt w a len cap b) :
    Calls Try.prog 11 #[.int .i64 x, .slice a len cap] w fun e w' => ∃ a' c', e = .returned (.tuple #[.slice a' L c', .int .i64 (er : Int)]) ∧ BsAt w' a' L c' (putOut x b).1 ∧ Below w.heap.size w w' := by
  subst hL he
  have hs := h.size
  unfold putOut
  by_cases h0 : x < 0
  · rw [if_pos h0]
    refine (rput_neg x a len cap w h0).mono ?_
    rintro e w' ⟨rfl, rfl⟩
    exact ⟨none, 0, rfl, BsAt.nil _, Below.refl _ _⟩
  · rw [if_neg h0]
    by_cases hg : 131072 < b.length
    · rw [if_pos hg]
      refine (rput_great x a len cap w (by omega) (by omega)).mono ?_
      rintro e w' ⟨rfl, rfl⟩
      exact ⟨none, 0, rfl, BsAt.nil _, Below.refl _ _⟩
    · rw [if_neg hg]
      obtain ⟨p, rfl⟩ : ∃ p : Nat, x = (p : Int) := ⟨x.toNat, by omega⟩
      rw [Int.toNat_natCast]
      refine (rput_at p a len cap b w h (by omega) (by omega)).mono ?_
      rintro e w' ⟨a', c', rfl, ho, hb⟩
      exact ⟨a', c', rfl, ho.bs, hb⟩
theorem read_eq (a : Option Addr) (len cap : Nat) (b : List UInt8) (rs : List (List UInt8)) (size en : Nat) (w : World) (h : BsAt w a len cap b) (hl : len ≤ 140737488355328) (hc : (pcs b 0).length ≤ 1000000000000) (hr : walRead b = (rs, size, en)) :
    Calls Try.prog 12 #[.slice a len cap] w fun e w' => ∃ ra rc, e = .returned (.tuple #[.slice ra rs.length rc, .int .i64 (size : Int), .int .i64 (en : Int)]) ∧ OwnRs w' w.heap.size ra rs.length rc rs ∧ Below w.heap.size w w' := by
  have := read_any a len cap b w h hl hc
  rw [hr] at this
  exact this
end Go.Proofs.Ytdhfimolgcnejaa
