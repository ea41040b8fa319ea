/- The plain mathematics of check sums. -/
import Derived.Test.YtdhfimolgcnejaaPlain
namespace Go.Proofs.Ytdhfimolgcnejaa

/-- A bit of a check sum, the lowest first. -/
def s1 (x : Nat) : Nat := if x % 2 = 1 then (x / 2) ^^^ 2197175160 else x / 2
def s1it : Nat → Nat → Nat
  | 0, x => x
  | k + 1, x => s1 (s1it k x)
def nib (x : Nat) : Nat := s1it 4 x
def crcHalf (x : Nat) : Nat := (x / 16) ^^^ nib (x % 16)
def crcByte (s c : Nat) : Nat := crcHalf (crcHalf (s ^^^ c))
def crcGo (s : Nat) (bs : List UInt8) : Nat := bs.foldl (fun s c => crcByte s c.toNat) s
def crc (bs : List UInt8) : Nat := 4294967295 ^^^ crcGo 4294967295 bs

theorem xor32 {a b : Nat} (ha : a < 4294967296) (hb : b < 4294967296) : a ^^^ b < 4294967296 := Nat.xor_lt_two_pow (n := 32) ha hb
theorem s1_lt {x : Nat} (h : x < 4294967296) : s1 x < 4294967296 := by
  unfold s1
  split
  · exact xor32 (by omega) (by omega)
  · omega
theorem s1it_lt : ∀ (k : Nat) {x : Nat}, x < 4294967296 → s1it k x < 4294967296
  | 0, _, h => h
  | k + 1, _, h => s1_lt (s1it_lt k h)
theorem nib_lt (x : Nat) (h : x < 4294967296) : nib x < 4294967296 := s1it_lt 4 h
theorem crcHalf_lt {x : Nat} (h : x < 4294967296) : crcHalf x < 4294967296 := xor32 (by omega) (nib_lt _ (by omega))
theorem crcByte_lt {s c : Nat} (h : s < 4294967296) (hc : c < 256) : crcByte s c < 4294967296 := crcHalf_lt (crcHalf_lt (xor32 h (by omega)))
theorem crcGo_lt : ∀ (bs : List UInt8) {s : Nat}, s < 4294967296 → crcGo s bs < 4294967296
  | [], _, h => h
  | c :: r, _, h => crcGo_lt r (crcByte_lt h (UInt8.toNat_lt c))
theorem crcGo_snoc (s : Nat) (bs : List UInt8) (c : UInt8) : crcGo s (bs ++ [c]) = crcByte (crcGo s bs) c.toNat := by simp [crcGo]
theorem crcGo_take (s : Nat) (bs : List UInt8) (k : Nat) (h : k < bs.length) : crcGo s (bs.take (k + 1)) = crcByte (crcGo s (bs.take k)) (bs.getD k 0).toNat := by
  rw [take_snoc bs k h, crcGo_snoc]
end Go.Proofs.Ytdhfimolgcnejaa
