/- The contracts of bloom's probesFor and sizeFor. -/
import Derived.Test.YtbmimlplicdheaaB10Bits
import Derived.Test.YtbmimlplicdheaaMem
import Derived.Test.YtbmimlplicdheaaChecked
import Derived.Laws.Externs
namespace Go.Proofs.Ytbmimlplicdheaa
open Go.RowKit
theorem floor_match {u : Type} (x : Nat) (h1 : Nat → u) (h2 : Array Value → u) : Extern.MathFloor.toIntegral.match_2 (fun _ => u) #[Value.float .f64 x] h1 h2 = h1 x := rfl
theorem arch_floor (x : Nat) (hx : (FloatKind.f64.decode x).isNaN = false) (W : World) : (callFunc 24 #[.float .f64 x]).run Try.prog W = .ok (.value (.float .f64 (flDown x))) W := by
  rw [run_callFunc_extern Try.func24 (by kernel_rfl) (by kernel_rfl) (by kernel_rfl) (e := Extern.MathFloor.toIntegral "math.archFloor" .down) (by kernel_rfl)]
  delta Extern.MathFloor.toIntegral flDown
  rw [floor_match]
  cases hd : FloatKind.f64.decode x with
  | nan s t => rw [hd] at hx; cases hx
  | infinity s => rfl
  | number s m i => rfl
set_option maxRecDepth 100000 in
set_option maxHeartbeats 400000 in
theorem floor_any (x : Nat) (hx : (FloatKind.f64.decode x).isNaN = false) (w : World) :
    Calls Try.prog 20 #[.float .f64 x] w fun e w' => e = .returned (.float .f64 (flDown x)) ∧ w' = w := by
  have h := arch_floor x hx
  generalize flDown x = y at *
  clear hx
  go_enter Try.func20, Try.ntmps20
  go_wp2
  go_ret
  exact ⟨rfl, rfl⟩
theorem max_nat (a b : Nat) : max (a : Int) (b : Int) = ((max a b : Nat) : Int) := by omega
set_option maxRecDepth 100000 in
set_option maxHeartbeats 400000 in
theorem probes_any {b : Nat} (h : okB b = true) (w : World) :
    Calls Try.prog 15 #[.float .f64 b] w fun e w' => e = .returned (.int .i64 (prN b : Nat)) ∧ w' = w := by
  obtain ⟨x, _, h1, _, _, h4, h5, h6, _⟩ := ok_facts h 0 (by omega)
  have hm := fun W => run_float_arith (P := Try.prog) W .mul 24 .f64 4604390187031047700 b x h1
  have hf := floor_any x h6
  have hc := fun W => run_convert_float_int (P := Try.prog) W 24 3 .f64 .i64 (flDown x) _ (by rw [Try.underlying24]; rfl) Try.underlying3 h4
  have HP : Hid (prN b = max 1 (fl69 b)) := rfl
  generalize fl69 b = n at *
  generalize flDown x = y at *
  clear h h1 h4 h6
  go_enter Try.func15, Try.ntmps15
  go_wp2_with (go_at_call 20; refine (hf _).mono ?_; rintro e w' ⟨rfl, rfl⟩)
  all_goals
    go_ret
    exact ⟨ret1 (congrArg (Value.int .i64) (by rw [HP.out]; omega)), rfl⟩
set_option maxRecDepth 100000 in
set_option maxHeartbeats 400000 in
theorem size_any {b : Nat} (h : okB b = true) (k : Nat) (hk : k ≤ 17592186044416) (w : World) :
    Calls Try.prog 16 #[.float .f64 b, .int .i64 (k : Int)] w fun e w' => e = .returned (.int .i64 (szN b k : Nat)) ∧ w' = w := by
  obtain ⟨_, x, _, _, _, _, _, _, h1, _, h4, h5, h6⟩ := ok_facts h k (by omega)
  have hm := fun W => run_float_arith (P := Try.prog) W .mul 24 .f64 b (floatOfInt .f64 (k : Int)) x h1
  have hf := floor_any x h6
  have hc := fun W => run_convert_float_int (P := Try.prog) W 24 3 .f64 .i64 (flDown x) _ (by rw [Try.underlying24]; rfl) Try.underlying3 h4
  have HP : Hid (szN b k = (max 64 (flN b k) + 7) / 8) := rfl
  generalize flN b k = n at *
  generalize flDown x = y at *
  clear h h1 h4 h6
  have hn : n ≤ 1759218604441600 := by omega
  clear h5
  go_enter Try.func16, Try.ntmps16
  go_wp2_with (go_at_call 20; refine (hf _).mono ?_; rintro e w' ⟨rfl, rfl⟩)
  all_goals
    go_ret
    exact ⟨ret1 (congrArg (Value.int .i64) (by rw [HP.out]; omega)), rfl⟩
end Go.Proofs.Ytbmimlplicdheaa
