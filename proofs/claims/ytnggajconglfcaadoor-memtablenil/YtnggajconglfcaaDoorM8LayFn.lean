/- The contracts of memtable's heightOf and lay. -/
import Derived.Test.YtnggajconglfcaaDoorM8Text
import Derived.Test.YtnggajconglfcaaDoorS7Begin
import Derived.Test.YtnggajconglfcaaDoorS7Left
import Derived.Test.YtnggajconglfcaaDoorPdRows
import Derived.Deep.LoopGhost
namespace Go.Proofs.YtnggajconglfcaaDoor
open Go.RowKit
set_option linter.unusedVariables false
set_option linter.unusedSimpArgs false
theorem PS.done_no {S : PS} {i : Nat} (h : S.done i = false) : (S.op i).ph ≠ 3 := by simpa [PS.done] using h
theorem PS.done_yes {S : PS} {i : Nat} (h : S.done i = true) : (S.op i).ph = 3 := by simpa [PS.done] using h
theorem PS.step_same {S : PS} {i : Nat} (h : S.done i = true) : S.step i = S := by
  have := PS.done_yes h
  unfold PS.step
  rw [if_neg (by omega), if_neg (by omega), if_neg (by omega)]
def PS.all (S : PS) : Prop := ∀ i, i < S.ops.length → S.done i = true
set_option maxRecDepth 100000 in
theorem heightOf_at {w : World} (n : Nat) (h1 : 1 ≤ n) (h2 : n ≤ 140737488355328) (hg : Glob w) : Calls Tryd.prog 25 #[.int .i64 (n : Int)] w fun e w' => ∃ h : Nat, 1 ≤ h ∧ h ≤ 8 ∧ e = .returned (.int .i64 (h : Int)) ∧ w' = w := by
  have HT : Calls Tryd.prog 40 #[.int .u64 (n : Int)] w fun e w' => e = .returned (.int .i64 ((Lib.ctz 64 n : Nat) : Int)) ∧ w' = w := Any7.bits_TrailingZeros tzL n (by omega) w (fun _ => hg.tab)
  have hc := (Lib.lowest_bit 64 n (by omega) (by omega)).2
  generalize Lib.ctz 64 n = c at HT hc
  go_enter Tryd.func25, Tryd.ntmps25
  go_wp2_with fail
  refine HT.mono ?_
  rintro _ w1 ⟨rfl, hw1⟩
  subst hw1
  go_wp2_with fail
  go_ret
  exact ⟨min (1 + c) 8, by omega, by omega, ret1 (congrArg (Value.int .i64) (by omega)), rfl⟩
section
variable {w : World} {p : Nat} {S : PS} {g : SG} {key : ByteArray}
/-- What lay leaves. -/
structure LaidIn (w w' : World) (p : Nat) (S S' : PS) (g g' : SG) (key : ByteArray) : Prop where
  at' : SkAt w' p S' g'
  all : S'.all
  keys : S'.keys = S.keys ++ [key]
  room : S'.room = S.room
  chg : Chg (Foot p g) w w'
  foot : ∀ k, Foot p g' k → Foot p g k ∨ w.heap.size ≤ k
set_option maxRecDepth 100000 in
set_option maxHeartbeats 1000000 in
theorem lay_new {h : Nat} (hs : SkAt w p S g) (ha : S.all) (hsz : key.size ≤ 9223372036854775807) (hh : 1 ≤ h ∧ h ≤ 8) (hk : key ∉ S.keys) (hf : S.ops.length < S.room) : Calls Tryd.prog 35 #[at_ p, .string key, .int .i64 (h : Int)] w fun e w' => e = .returned (.int .i64 0) ∧ ∃ S' g', LaidIn w w' p S S' g g' key := by
  have HB := begin_new hs hsz hh hk hf
  have HA : Hid S.all := ha
  generalize hi : S.ops.length = i at HB
  have HI : Hid (S.ops.length = i) := hi
  clear hs hsz hh hk hf ha hi
  go_enter Tryd.func35, Tryd.ntmps35
  go_wp2_with fail
  refine HB.mono ?_
  rintro _ w1 ⟨rfl, g1, h1, h2, h3⟩
  have HX : Hid (SkAt w1 p (S.begin key h) g1 ∧ Chg (Foot p g) w w1 ∧ ∀ k, Foot p g1 k → Foot p g k ∨ w.heap.size ≤ k) := ⟨h1, h2, h3⟩
  have HL : Hid (i < (S.begin key h).ops.length) := by unfold Hid; rw [PS.begin_len, HI.out]; omega
  clear h1 h2 h3 HB
  go_wp2_with fail
  go_loopg [8, 9] ((S.begin key h).left i + 1) (fun kx x y wr => ∃ (d : Bool) (T : PS), x = .int .i64 0 ∧ y = .bool d ∧ Hid (SkAt wr p T g1 ∧ Goes (S.begin key h) T ∧ Chg (Foot p g1) w1 wr ∧ (d = true → T.done i = true)) ∧ (if d then 0 else T.left i + 1) ≤ kx)
  case atStart => exact ⟨false, S.begin key h, rfl, rfl, ⟨HX.out.1, Goes.refl _, Chg.refl _ _, fun h => absurd h (by decide)⟩, Nat.le_refl _⟩
  case round =>
    obtain ⟨d, T, rfl, rfl, HR, hkx⟩ := hrel
    cases d with
    | true =>
      go_wp2
      go_ret
      obtain ⟨r1, r2, r3, r4⟩ := HR.out
      refine ⟨ret1 rfl, T, g1, r1, fun j hj => ?_, by rw [r2.keys, PS.begin_keys], r2.room, HX.out.2.1.andThen r3 ?_, HX.out.2.2⟩
      · by_cases hji : j = i
        · rw [hji]
          exact r4 (by trivial)
        · have hj' : j < S.ops.length := by
            rw [r2.len, PS.begin_len, HI.out] at hj
            rw [HI.out]
            omega
          apply r2.done
          have := HA.out j hj'
          unfold PS.done at this ⊢
          rw [PS.begin_op hj']
          exact this
      · intro k hk hF
        rcases HX.out.2.2 k hF with hF | hF
        · exact hF
        · omega
    | false =>
      have hiT : i < T.ops.length := by rw [HR.out.2.1.len]; exact HL.out
      have HP := step_at HR.out.1 hiT
      cases hd : T.done i with
      | true =>
        have e := PS.step_same hd
        rw [e, hd] at HP
        have HD : Hid (T.done i = true) := hd
        have hkx' : T.left i + 1 ≤ _ := hkx
        clear hd e hkx
        go_wp2_with fail
        refine HP.mono ?_
        rintro _ w2 ⟨rfl, h1', h2'⟩
        have HX2 : Hid (SkAt w2 p T g1 ∧ Chg (Foot p g1) wr w2) := ⟨h1', h2'⟩
        clear h1' h2'
        go_wp2
        go_roundg 0
        case measure => omega
        case rel => exact ⟨true, T, rfl, rfl, ⟨HX2.out.1, HR.out.2.1, HR.out.2.2.1.andThen HX2.out.2 (fun _ _ h => h), fun _ => HD.out⟩, Nat.zero_le _⟩
      | false =>
        have hl := HR.out.1.inv.left_step hiT (PS.done_no hd)
        have HG2 : Hid (Goes (S.begin key h) (T.step i)) := HR.out.2.1.trans (goes_step hiT)
        generalize hT2 : T.step i = T2 at HP hl HG2
        clear hT2 hd
        have hkx' : T.left i + 1 ≤ _ := hkx
        clear hkx
        cases hd2 : T2.done i with
        | true =>
          rw [hd2] at HP
          have HD : Hid (T2.done i = true) := hd2
          clear hd2
          go_wp2_with fail
          refine HP.mono ?_
          rintro _ w2 ⟨rfl, h1', h2'⟩
          have HX2 : Hid (SkAt w2 p T2 g1 ∧ Chg (Foot p g1) wr w2) := ⟨h1', h2'⟩
          clear h1' h2'
          go_wp2
          go_roundg ((T2.left i) + 1)
          case measure => omega
          case rel => exact ⟨true, T2, rfl, rfl, ⟨HX2.out.1, HG2.out, HR.out.2.2.1.andThen HX2.out.2 (fun _ _ h => h), fun _ => HD.out⟩, Nat.zero_le _⟩
        | false =>
          rw [hd2] at HP
          clear hd2
          go_wp2_with fail
          refine HP.mono ?_
          rintro _ w2 ⟨rfl, h1', h2'⟩
          have HX2 : Hid (SkAt w2 p T2 g1 ∧ Chg (Foot p g1) wr w2) := ⟨h1', h2'⟩
          clear h1' h2'
          go_wp2
          go_roundg ((T2.left i) + 1)
          case measure => omega
          case rel => exact ⟨false, T2, rfl, rfl, ⟨HX2.out.1, HG2.out, HR.out.2.2.1.andThen HX2.out.2 (fun _ _ h => h), fun h => absurd h (by decide)⟩, Nat.le_refl _⟩
set_option maxRecDepth 100000 in
theorem lay_full {h : Nat} (hs : SkAt w p S g) (hsz : key.size ≤ 9223372036854775807) (hh : 1 ≤ h ∧ h ≤ 8) (hk : key ∉ S.keys) (hf : ¬ S.ops.length < S.room) : Calls Tryd.prog 35 #[at_ p, .string key, .int .i64 (h : Int)] w fun e w' => e = .returned (.int .i64 72) ∧ Below w.heap.size w w' := by
  have HB := begin_full hs hsz (h : Int) (by omega) hk hf
  clear hs hsz hh hk hf
  go_enter Tryd.func35, Tryd.ntmps35
  go_wp2_with fail
  refine HB.mono ?_
  rintro _ w1 ⟨rfl, h1, h2⟩
  clear HB
  go_wp2_with fail
  go_loopg [8, 9] 1 (fun kx x y wr => x = .int .i64 72 ∧ y = .bool false ∧ wr = w1)
  case atStart => exact ⟨rfl, rfl, rfl⟩
  case round =>
    obtain ⟨rfl, rfl, rfl⟩ := hrel
    go_wp2
    go_ret
    exact ⟨ret1 rfl, h2⟩
end
end Go.Proofs.YtnggajconglfcaaDoor
