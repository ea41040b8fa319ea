/- The contracts of bloom's mixed and of the turning round. -/
import Derived.Test.YtbmimlplicdheaaB10Plain
import Derived.Test.YtbmimlplicdheaaFx
namespace Go.Proofs.Ytbmimlplicdheaa
open Go.RowKit

theorem mix_val16 (h n : Nat) : bits .xor .u32 (((h : Int) + n) % 4294967296 * 3332679571 % 4294967296) (((h : Int) + n) % 4294967296 * 3332679571 % 4294967296 / 65536) = ((mixN h n 16 : Nat) : Int) := by
  have h1 : (h + n) % 4294967296 * 3332679571 % 4294967296 < 4294967296 := Nat.mod_lt _ (by omega)
  have := nbits_xor32 ((h + n) % 4294967296 * 3332679571 % 4294967296) ((h + n) % 4294967296 * 3332679571 % 4294967296 / 65536) h1 (by omega)
  unfold mixN
  rw [show (2 : Nat) ^ 16 = 65536 from rfl, ← this]
  congr 1 <;> omega
theorem mix_val24 (h n : Nat) : bits .xor .u32 (((h : Int) + n) % 4294967296 * 3332679571 % 4294967296) (((h : Int) + n) % 4294967296 * 3332679571 % 4294967296 / 16777216) = ((mixN h n 24 : Nat) : Int) := by
  have h1 : (h + n) % 4294967296 * 3332679571 % 4294967296 < 4294967296 := Nat.mod_lt _ (by omega)
  have := nbits_xor32 ((h + n) % 4294967296 * 3332679571 % 4294967296) ((h + n) % 4294967296 * 3332679571 % 4294967296 / 16777216) h1 (by omega)
  unfold mixN
  rw [show (2 : Nat) ^ 24 = 16777216 from rfl, ← this]
  congr 1 <;> omega
set_option maxRecDepth 100000 in
set_option maxHeartbeats 400000 in
theorem mixed16 (h : Nat) (a : Option Addr) (len cap : Nat) (bs : List UInt8) (w : World) (hb : BsAt w a len cap bs) (h1 : 1 ≤ len) (h4 : len ≤ 4) :
    Calls Try.prog 19 #[.int .u32 (h : Int), .slice a len cap, .int .i64 16] w fun e w' => e = .returned (.int .u32 (mixN h (leNat bs) 16 : Nat)) ∧ w' = w := by
  have hsz := hb.size
  have hfx : fxRead bs (len : Int) = (leNat bs, 0) := by
    unfold fxRead
    rw [if_neg (by omega), if_neg (by simp; omega)]
    simp [← hsz]
  have hlt : leNat bs < 4294967296 := by
    have h1 := leNat_lt bs
    have h2 : 256 ^ bs.length ≤ 256 ^ 4 := Nat.pow_le_pow_right (by omega) (by omega)
    omega
  have hfix := fun W hW => fixed_any a len cap bs (len : Int) W hW
  rw [hfx] at hfix
  dsimp only at hfix
  generalize leNat bs = n at *
  clear hfx hsz
  go_enter Try.func19, Try.ntmps19
  go_wp2_with (go_at_call 23; refine (hfix _ hb).mono ?_; rintro e w' ⟨rfl, rfl⟩)
  go_ret
  exact ⟨ret1 (congrArg (Value.int .u32) (mix_val16 h n)), rfl⟩
set_option maxRecDepth 100000 in
set_option maxHeartbeats 400000 in
theorem mixed24 (h : Nat) (a : Option Addr) (len cap : Nat) (bs : List UInt8) (w : World) (hb : BsAt w a len cap bs) (h1 : 1 ≤ len) (h4 : len ≤ 4) :
    Calls Try.prog 19 #[.int .u32 (h : Int), .slice a len cap, .int .i64 24] w fun e w' => e = .returned (.int .u32 (mixN h (leNat bs) 24 : Nat)) ∧ w' = w := by
  have hsz := hb.size
  have hfx : fxRead bs (len : Int) = (leNat bs, 0) := by
    unfold fxRead
    rw [if_neg (by omega), if_neg (by simp; omega)]
    simp [← hsz]
  have hlt : leNat bs < 4294967296 := by
    have h1 := leNat_lt bs
    have h2 : 256 ^ bs.length ≤ 256 ^ 4 := Nat.pow_le_pow_right (by omega) (by omega)
    omega
  have hfix := fun W hW => fixed_any a len cap bs (len : Int) W hW
  rw [hfx] at hfix
  dsimp only at hfix
  generalize leNat bs = n at *
  clear hfx hsz
  go_enter Try.func19, Try.ntmps19
  go_wp2_with (go_at_call 23; refine (hfix _ hb).mono ?_; rintro e w' ⟨rfl, rfl⟩)
  go_ret
  exact ⟨ret1 (congrArg (Value.int .u32) (mix_val24 h n)), rfl⟩
theorem turn_val (h : Nat) (hh : h < 4294967296) : bits .or .u32 ((h : Int) * 32768 % 4294967296) ((h : Int) / 131072) = ((stepN h : Nat) : Int) := by
  have := nbits_or32 (h * 32768 % 4294967296) (h / 131072) (Nat.mod_lt _ (by omega)) (by omega)
  rw [turn_or h hh] at this
  rw [← this]
  congr 1
theorem and31 : bits .and .u64 (IntKind.u64.wrap (-17)) 31 = 15 := by decide +kernel
set_option maxRecDepth 100000 in
set_option maxHeartbeats 400000 in
theorem turn_any (h : Nat) (hh : h < 4294967296) (w : World) :
    Calls Try.prog 22 #[.int .u32 (h : Int), .int .i64 (-17)] w fun e w' => e = .returned (.int .u32 (stepN h : Nat)) ∧ w' = w := by
  have h31 := and31
  go_enter Try.func22, Try.ntmps22
  go_wp2
  go_ret
  exact ⟨ret1 (congrArg (Value.int .u32) (turn_val h hh)), rfl⟩
end Go.Proofs.Ytbmimlplicdheaa
