/- A region that draws its order inside a round of a range over a function: what is shown without the round holds in it, where nothing is deferred. -/
import Derived.RangeFuncNested
import Derived.RangeFuncCalls
import Derived.RangeFuncBox
import Derived.RangeFuncWrites
import Derived.Shelf.RegionOpen
import Derived.Deep.RegionHeld
import Derived.Deep.RegionHeld3
import Derived.Test.YtgegjcnjlibfdaaGreatQa06
import Derived.Test.YtgegjcnjlibfdaaGreatChecked
import Derived.Test.YtgegjcnjlibfdaaGreatQa03
import Derived.Test.YtgegjcnjlibfdaaGreatQa05
import Derived.Test.YtgegjcnjlibfdaaGreatQa00
namespace Go.Proofs.YtgegjcnjlibfdaaGreat
open Go.RowKit
set_option linter.unusedVariables false
theorem upon_round {l n : Nat} {P : Program} {o : Oper} {a : Act} {K K' : Act → World → Prop} {Q : Exit → Act → World → Prop} (hK : ∀ a w, K a w → K' a w) : ∀ r : Result Next, o.upon P a K Q r → o.uponIn (Fence.wide.inRound l) n P a K' Q r
  | .ok (.value v) w', h => hK _ _ h
  | .ok .skip w', h => hK _ _ h
  | .ok (.defer d) w', h => hK _ _ h
  | .ok (.enter f args) w', h => ⟨fun e => (by cases e), by
      refine CallsIn.inRound l (callsIn_wide.2 (Calls.mono h ?_))
      intro e w2 h2
      cases e with
      | returned v => exact hK _ _ h2
      | panicked c => exact h2
      | outgrown => exact h2⟩
  | .ok (.row row args) w', h => ⟨fun e => (by cases e), fun c cs _ => by
      obtain ⟨v, w2, h2, h3⟩ := h c cs
      exact ⟨v, w2, hK _ _ h2, stepsIn_wide.2 h3⟩⟩
  | .ok (.round l' f tmps assign body) w', h => False.elim h
  | .halt (.panic v) w', h => h
theorem wpOp_round {l n : Nat} {P : Program} {ops : Array Oper} {Q : Exit → Act → World → Prop} (hnd : ∀ (i : Nat) (o : Oper), ops[i]? = some o → ∀ c, o.op ≠ .defer c) (hno : ¬ LetsOut Q) {i : Nat} {K K' : Act → World → Prop} (hK : ∀ a w, K a w → K' a w) {a : Act} {w : World} (h : wpOp P ops Q i K a w) : wpOpIn (Fence.wide.inRound l) n P ops Q i K' a w := by
  unfold wpOp at h
  unfold wpOpIn
  cases ho : ops[i]? with
  | none =>
    rw [ho] at h
    exact hK _ _ h
  | some o =>
    rw [ho] at h
    dsimp only at h ⊢
    split at h
    · rename_i hw
      rw [if_pos hw]
      rcases h with h | ⟨_, h⟩
      · refine ⟨fun f _ => trivial, ?_⟩
        rw [Oper.semAt_eq _ _ _ (hnd i o ho)]
        exact upon_round hK _ h
      · exact absurd h hno
    · rename_i hw
      rw [if_neg hw]
      exact ⟨fun f _ => trivial, hK _ _ h⟩
theorem wpAny_round {l n : Nat} {P : Program} {md : Region.Mode} {ops : Array Oper} {Q : Exit → Act → World → Prop} {S : World → Prop} (hnd : ∀ (i : Nat) (o : Oper), ops[i]? = some o → ∀ c, o.op ≠ .defer c) (hno : ¬ LetsOut Q) : ∀ (fuel : Nat) (listed : Array Bool) (a : Act) (w : World), wpAnyH P md ops Q S fuel listed a w → wpAnyIn (Fence.wide.inRound l) n P md ops Q fuel listed a w
  | 0, _, _, _, h => h
  | fuel + 1, listed, a, w, h => ⟨h.1, fun i hi => wpOp_round hnd hno (fun a' w' h2 => wpAny_round hnd hno fuel _ a' w' h2.2) (h.2 i hi)⟩
def noDefer (ops : Array Oper) : Bool := ops.toList.all fun o => match o.op with | .defer _ => false | _ => true
theorem noDefer_spec {ops : Array Oper} (h : noDefer ops = true) : ∀ (i : Nat) (o : Oper), ops[i]? = some o → ∀ c, o.op ≠ .defer c := by
  intro i o ho c e
  have hm : o ∈ ops.toList := by
    have := Array.getElem?_eq_some_iff.1 ho
    obtain ⟨h1, h2⟩ := this
    rw [← h2]
    simp
  have := List.all_eq_true.1 h o hm
  rw [e] at this
  cases this
/-- A region that draws, in a round: S is shown of the world behind the draw. -/
theorem wpIn_region_round {l n : Nat} {P : Program} {ops : Array Oper} {Q : Exit → Act → World → Prop} {S : World → Prop} {id : Nat} {a : Act} {w : World} (hm : P.follows .mixedOrders = true) (hnd : noDefer ops = true) (hno : ¬ LetsOut Q) (hS : S w.drew)
    (h : S w.drew → wpAnyH P .any ops Q S ops.size (Array.replicate ops.size false) a w.drew) : (Code.region id ops true).wpIn (Fence.wide.inRound l) n P Q a w :=
  wpIn_region_any hm (wpAny_round (noDefer_spec hnd) hno _ _ _ _ (h hS))
end Go.Proofs.YtgegjcnjlibfdaaGreat
/- The contract of codec's sumTable, and of the function within it. -/
namespace Go.Proofs.YtgegjcnjlibfdaaGreat
open Go.RowKit
theorem and1_32 (x : Nat) (h : x < 4294967296) : bits .and .u32 (x : Int) 1 = ((x % 2 : Nat) : Int) := by
  have := nbits_and32 x 1 h (by omega)
  rw [Nat.and_one_is_mod] at this
  exact this
set_option maxRecDepth 100000 in
set_option maxHeartbeats 400000 in
theorem fill_any (k g : Nat) (w : World) (hk : k < 16) (v : Value) (hc : w.cell? ⟨g, k, none⟩ = some v) (hf : w.frozen? ⟨g, k, none⟩ = false) :
    Calls Tryz.prog 138 #[.int .i64 (k : Int), .pointer (some ⟨g, 0, none⟩)] w fun e w' => e = .returned (.tuple #[]) ∧ w' = w.setCell ⟨g, k, none⟩ (.int .u32 (nib k : Nat)) := by
  go_enter Tryz.func138, Tryz.ntmps138
  go_wp2
  go_loop [3, 7] (fun s i => ∃ j x : Nat, j ≤ 4 ∧ x < 4294967296 ∧ i = .int .i64 j ∧ s = .int .u32 x ∧ Hid (x = s1it j k)) (fun _ i => 4 - (intOf i).toNat)
  case atStart => exact ⟨0, k, by omega, by omega, rfl, by go_num, rfl⟩
  case round =>
    obtain ⟨j, x, hj, hx, rfl, rfl, HR⟩ := hrel
    have hb := and1_32 x hx
    by_cases hlt : j < 4
    · have hb := and1_32 x hx
      by_cases hodd : x % 2 = 1
      · have hb1 : bits .and .u32 (x : Int) 1 = 1 := by rw [hb, hodd]; rfl
        have HX : Hid (bits .xor .u32 ((x : Int) / 2) 2197175160 = ((s1 x : Nat) : Int)) := by
          have := nbits_xor32 (x / 2) 2197175160 (by omega) (by omega)
          unfold Hid s1
          rw [if_pos hodd, ← this]
          rfl
        have HX2 : Hid (s1 x < 4294967296) := s1_lt hx
        clear hb hodd
        go_wp2
        go_round
        case rel => exact ⟨j + 1, s1 x, by omega, HX2.out, by go_num, congrArg (Value.int .u32) HX.out, by rw [HR.out]; rfl⟩
        case measure => simp [intOf]; omega
      · have hb1 : bits .and .u32 (x : Int) 1 = 0 := by rw [hb, show x % 2 = 0 by omega]; rfl
        have HX : Hid (((x : Int) / 2) = ((s1 x : Nat) : Int)) := by
          unfold Hid s1
          rw [if_neg hodd]
          rfl
        have HX2 : Hid (s1 x < 4294967296) := s1_lt hx
        clear hb hodd
        go_wp2
        go_round
        case rel => exact ⟨j + 1, s1 x, by omega, HX2.out, by go_num, congrArg (Value.int .u32) HX.out, by rw [HR.out]; rfl⟩
        case measure => simp [intOf]; omega
    · obtain rfl : j = 4 := by omega
      clear hb
      go_wp2
      go_end0
      exact ⟨rfl, by rw [HR.out]; rfl⟩

def tabZ : Array Value := #[Value.int .u32 0, Value.int .u32 0, Value.int .u32 0, Value.int .u32 0, Value.int .u32 0, Value.int .u32 0, Value.int .u32 0, Value.int .u32 0, Value.int .u32 0, Value.int .u32 0, Value.int .u32 0, Value.int .u32 0, Value.int .u32 0, Value.int .u32 0, Value.int .u32 0, Value.int .u32 0]
def tabA : Nat → Array Value
  | 0 => tabZ
  | k + 1 => (tabA k).setIfInBounds k (.int .u32 (nib k : Nat))
def tabN : Array Value := #[Value.int .u32 (nib 0 : Nat), Value.int .u32 (nib 1 : Nat), Value.int .u32 (nib 2 : Nat), Value.int .u32 (nib 3 : Nat), Value.int .u32 (nib 4 : Nat), Value.int .u32 (nib 5 : Nat), Value.int .u32 (nib 6 : Nat), Value.int .u32 (nib 7 : Nat), Value.int .u32 (nib 8 : Nat), Value.int .u32 (nib 9 : Nat), Value.int .u32 (nib 10 : Nat), Value.int .u32 (nib 11 : Nat), Value.int .u32 (nib 12 : Nat), Value.int .u32 (nib 13 : Nat), Value.int .u32 (nib 14 : Nat), Value.int .u32 (nib 15 : Nat)]
theorem tabA_16 : tabA 16 = tabN := rfl
theorem tabA_size : ∀ k, (tabA k).size = 16
  | 0 => rfl
  | k + 1 => by simp [tabA, tabA_size k]

theorem tab_cell (w : World) (k : Nat) (hk : k < 16) : ∃ v, ((w.alloc (.cells tabZ 166)).alloc (.cells (tabA k) 166)).cell? ⟨w.heap.size + 1, k, none⟩ = some v :=
  ⟨(tabA k)[k]'(by rw [tabA_size]; exact hk), by simp [tabA_size, hk]⟩

set_option maxRecDepth 100000 in
set_option maxHeartbeats 400000 in
theorem sumTable_any (w : World) :
    Calls Tryz.prog 124 #[] w fun e w' => e = .returned (.agg tabN) ∧ Below w.heap.size w w' := by
  go_enter Tryz.func124, Tryz.ntmps124
  go_wp2
  go_loopw [5] (fun i wr => ∃ k : Nat, k ≤ 16 ∧ i = .int .i64 k ∧ Hid (wr = (w.alloc (.cells tabZ 166)).alloc (.cells (tabA k) 166))) (fun i _ => 16 - (intOf i).toNat)
  case atStart => exact ⟨0, by omega, rfl, rfl⟩
  case round =>
    obtain ⟨k, hk, rfl, HW⟩ := hrel
    have hw := HW.out
    subst hw
    clear HW
    by_cases hlt : k < 16
    · obtain ⟨v, hv⟩ := tab_cell w k hlt
      have HV : Hid _ := hv
      clear hv
      go_wp2_with (go_at_call 138; refine (fill_any k (w.heap.size + 1) _ hlt v HV.out (by simp [go_sem])).mono ?_; rintro e w1 ⟨rfl, rfl⟩)
      go_roundw
      case rel => exact ⟨k + 1, by omega, by go_num, rfl⟩
      case measure => simp [intOf]; omega
    · obtain rfl : k = 16 := by omega
      rw [tabA_16]
      unfold tabN tabZ
      go_wp2
      exact bodyPost_ret (v := .agg tabN) (by simp [results, Tryz.results124, go_sem, tabN]) rfl ⟨rfl, ((Below.refl _ _).alloc (Nat.le_refl _) _).alloc (by simp) _⟩
end Go.Proofs.YtgegjcnjlibfdaaGreat
/- The contract of codec.Crc: for any bytes it returns the check sum that the plain function crc tells. -/
namespace Go.Proofs.YtgegjcnjlibfdaaGreat
open Go.RowKit
theorem and15_32 (x : Nat) (h : x < 4294967296) : bits .and .u32 (x : Int) 15 = ((x % 16 : Nat) : Int) := by
  have := nbits_and32 x 15 h (by omega)
  rw [show 15 = 2 ^ 4 - 1 from rfl, Nat.and_two_pow_sub_one_eq_mod] at this
  exact this
theorem compl32 (x : Nat) (h : x < 4294967296) : bits .xor .u32 IntKind.u32.max (x : Int) = ((4294967295 ^^^ x : Nat) : Int) := nbits_xor32 4294967295 x (by omega) h
/-- Half a byte's step, as the walk meets it. -/
theorem half_step (y : Nat) (hy : y < 4294967296) : ∃ m z : Nat, m < 16 ∧ z < 4294967296 ∧ bits .and .u32 (y : Int) 15 = (m : Int) ∧ bits .xor .u32 ((y : Int) / 16) ((nib m : Nat) : Int) = (z : Int) ∧ Hid (z = crcHalf y) :=
  ⟨y % 16, crcHalf y, by omega, crcHalf_lt hy, and15_32 y hy, nbits_xor32 (y / 16) (nib (y % 16)) (by omega) (nib_lt _ (by omega)), rfl⟩
theorem tabN_cell (w : World) (j : Nat) (hj : j < 16) : (w.alloc (.cells tabN 166)).cell? ⟨w.heap.size, j, none⟩ = some (.int .u32 (nib j : Nat)) := by
  have : ∀ j, j < 16 → tabN[j]? = some (.int .u32 (nib j : Nat)) := by
    intro j hj
    have : j = 0 ∨ j = 1 ∨ j = 2 ∨ j = 3 ∨ j = 4 ∨ j = 5 ∨ j = 6 ∨ j = 7 ∨ j = 8 ∨ j = 9 ∨ j = 10 ∨ j = 11 ∨ j = 12 ∨ j = 13 ∨ j = 14 ∨ j = 15 := by omega
    rcases this with rfl | rfl | rfl | rfl | rfl | rfl | rfl | rfl | rfl | rfl | rfl | rfl | rfl | rfl | rfl | rfl <;> rfl
  rw [← this j hj]
  simp [go_sem]
set_option maxRecDepth 100000 in
set_option maxHeartbeats 400000 in
theorem crc_any (a : Option Addr) (len cap : Nat) (bs : List UInt8) (w : World) (h : BsAt w a len cap bs) :
    Calls Tryz.prog 108 #[.slice a len cap] w fun e w' => e = .returned (.int .u32 (crc bs : Nat)) ∧ Below w.heap.size w w' := by
  have hcap := h.max
  have hle := h.le
  have hlen := h.size
  unfold maxLen at hcap
  go_enter Tryz.func108, Tryz.ntmps108
  go_wp2_with (go_at_call 124; refine (sumTable_any _).mono ?_; rintro e w1 ⟨rfl, hb1⟩; unfold tabN)
  have hsz := hb1.size
  go_loopw [4, 10] (fun s i wr => ∃ k x : Nat, k ≤ len ∧ x < 4294967296 ∧ i = .int .i64 k ∧ s = .int .u32 x ∧ Hid (x = crcGo 4294967295 (bs.take k)) ∧
      Hid (∀ j, j < 16 → wr.cell? ⟨w1.heap.size, j, none⟩ = some (.int .u32 (nib j : Nat))) ∧ Hid (BsAt wr a len cap bs) ∧ Hid (Below w.heap.size w wr)) (fun _ i _ => len - (intOf i).toNat)
  case atStart => exact ⟨0, 4294967295, Nat.zero_le _, by omega, rfl, rfl, by simp [Hid, crcGo], fun j hj => tabN_cell w1 j hj, (h.below (Nat.le_refl _) hb1).alloc _, hb1.alloc hsz _⟩
  case round =>
    obtain ⟨k, x, hk, hx, rfl, rfl, HR, HT, HA, HB⟩ := hrel
    clear h
    by_cases hlt : k < len
    · obtain ⟨b, off, rfl, hc⟩ := HA.out.here (by omega)
      have hck := hc k hlt
      have hc8 : (bs.getD k 0).toNat < 256 := UInt8.toNat_lt _
      have HS : Hid (crcGo 4294967295 (bs.take (k + 1)) = crcByte x (bs.getD k 0).toNat) := by rw [HR.out]; exact crcGo_take _ bs k (by omega)
      generalize hcd : (bs.getD k 0).toNat = c at hck hc8 HS
      clear hc hcd hlen
      obtain ⟨y, hy, hy1, HY⟩ : ∃ y : Nat, y < 4294967296 ∧ bits .xor .u32 (x : Int) (c : Int) = (y : Int) ∧ Hid (y = x ^^^ c) := ⟨x ^^^ c, xor32 hx (by omega), nbits_xor32 x c hx (by omega), rfl⟩
      obtain ⟨m1, z1, hm1, hz1, e1, e2, H1⟩ := half_step y hy
      obtain ⟨m2, z2, hm2, hz2, e3, e4, H2⟩ := half_step z1 hz1
      have t1 := HT.out m1 hm1
      have t2 := HT.out m2 hm2
      go_wp2
      go_roundw
      case rel => exact ⟨k + 1, z2, by omega, hz2, by go_num, rfl, by rw [HS.out, H2.out, H1.out, HY.out]; rfl, HT.out, HA.out, HB.out⟩
      case measure => simp [intOf]; omega
    · obtain rfl : k = len := by omega
      go_wp2
      go_ret
      have e : x = crcGo 4294967295 bs := by rw [HR.out, List.take_of_length_le (by omega)]
      exact ⟨ret1 (congrArg (Value.int .u32) (by rw [compl32 x hx, e]; rfl)), HB.out⟩
end Go.Proofs.YtgegjcnjlibfdaaGreat
/- The contracts of the document's own check sum, and of both pairs of masks. -/
namespace Go.Proofs.YtgegjcnjlibfdaaGreat
open Go.RowKit

set_option maxRecDepth 100000 in
set_option maxHeartbeats 400000 in
theorem turned_any (n k : Nat) (w : World) (hn : n < 4294967296) (hk : k ≤ 32) :
    Calls Tryz.prog 106 #[.int .u32 (n : Int), .int .i64 (k : Int)] w fun e w' => e = .returned (.int .u32 (rv k n 0 : Nat)) ∧ w' = w := by
  go_enter Tryz.func106, Tryz.ntmps106
  go_wp2
  go_loop [0, 5, 6] (fun x y i => ∃ j m o : Nat, j ≤ k ∧ m < 4294967296 ∧ o < 2 ^ j ∧ i = .int .i64 j ∧ x = .int .u32 m ∧ y = .int .u32 o ∧ Hid (rv k n 0 = rv (k - j) m o)) (fun _ _ i => k - (intOf i).toNat)
  case atStart => exact ⟨0, n, 0, by omega, hn, by simp, rfl, rfl, rfl, rfl⟩
  case round =>
    obtain ⟨j, m, o, hj, hm, ho, rfl, rfl, rfl, HR⟩ := hrel
    by_cases hlt : j < k
    · have HO : Hid (o < 2 ^ j) := ho
      have ho2 : o * 2 + m % 2 < 4294967296 := by
        have h1 : 2 ^ (j + 1) ≤ 2 ^ 32 := Nat.pow_le_pow_right (by omega) (by omega)
        rw [Nat.pow_succ] at h1
        omega
      clear ho
      go_wp2
      go_round
      case rel => exact ⟨j + 1, m / 2, o * 2 + m % 2, by omega, by omega, by have := HO.out; rw [Nat.pow_succ]; omega, by go_num, by go_num, by go_num, by rw [HR.out, show k - j = (k - (j + 1)) + 1 by omega, rv]; rfl⟩
      case measure => simp [intOf]; omega
    · obtain rfl : j = k := by omega
      clear ho
      go_wp2
      go_ret
      exact ⟨ret1 (by rw [HR.out, Nat.sub_self]; rfl), rfl⟩

theorem rstep (y : Nat) (ht : y / 2147483648 = 1) : bits .xor .u32 ((y : Int) * 2 % 4294967296) 517762881 = ((m1 y : Nat) : Int) := by
  have := nbits_xor32 (y * 2 % 4294967296) 517762881 (Nat.mod_lt _ (by omega)) (by omega)
  unfold m1
  rw [if_pos ht, ← this]
  rfl
set_option maxRecDepth 100000 in
set_option maxHeartbeats 400000 in
theorem rcrc_any (a : Option Addr) (len cap : Nat) (bs : List UInt8) (w : World) (h : BsAt w a len cap bs) :
    Calls Tryz.prog 72 #[.slice a len cap] w fun e w' => e = .returned (.int .u32 (crc bs : Nat)) ∧ w' = w := by
  have hcap := h.max
  have hle := h.le
  have hlen := h.size
  unfold maxLen at hcap
  go_enter Tryz.func72, Tryz.ntmps72
  go_wp2
  go_loop [3, 4] (fun s i => ∃ k y : Nat, k ≤ len ∧ y < 4294967296 ∧ i = .int .i64 k ∧ s = .int .u32 y ∧ Hid (y = rev (crcGo 4294967295 (bs.take k)))) (fun _ i => len - (intOf i).toNat)
  case atStart => exact ⟨0, 4294967295, Nat.zero_le _, by omega, rfl, rfl, by rw [List.take_zero]; exact rev_all.symm⟩
  case round =>
    obtain ⟨k, y, hk, hy, rfl, rfl, HR⟩ := hrel
    by_cases hlt : k < len
    · obtain ⟨b, off, rfl, hc⟩ := h.here (by omega)
      have hck := hc k hlt
      have hc8 : (bs.getD k 0).toNat < 256 := UInt8.toNat_lt _
      have HS : Hid (rcByte y (bs.getD k 0).toNat = rev (crcGo 4294967295 (bs.take (k + 1)))) := by
        unfold Hid
        rw [HR.out, crcGo_take _ bs k (by omega)]
        exact rcByte_eq _ _ (crcGo_lt _ (by omega)) hc8
      generalize hcd : (bs.getD k 0).toNat = c at hck hc8 HS
      clear hc hcd hlen h
      have hr8 : rv 8 c 0 < 256 := rv_lt 8 c 0 0 (by simp)
      obtain ⟨z, hz, hx, HZ⟩ : ∃ z : Nat, z < 4294967296 ∧ bits .xor .u32 (y : Int) ((rv 8 c 0 : Nat) * 16777216) = (z : Int) ∧ Hid (z = y ^^^ rv 8 c 0 * 16777216) :=
        ⟨y ^^^ rv 8 c 0 * 16777216, xor32 hy (by omega), nbits_xor32 y (rv 8 c 0 * 16777216) hy (by omega), rfl⟩
      go_wp2_with (go_at_call 106; refine (turned_any c 8 _ (by omega) (by omega)).mono ?_; rintro e w1 ⟨rfl, rfl⟩)
      go_loop [3, 5] (fun s i => ∃ j x : Nat, j ≤ 8 ∧ x < 4294967296 ∧ i = .int .i64 j ∧ s = .int .u32 x ∧ Hid (x = m1it j z)) (fun _ i => 8 - (intOf i).toNat)
      case atStart => exact ⟨0, z, by omega, hz, rfl, rfl, rfl⟩
      case round =>
        obtain ⟨j, x, hj, hx0, rfl, rfl, HJ⟩ := hrel
        clear hx
        by_cases hlt8 : j < 8
        · by_cases ht : x / 2147483648 = 1
          · have ht' : ((x : Int) / 2147483648 == 1) = true := by simp; omega
            have HX : Hid (bits .xor .u32 ((x : Int) * 2 % 4294967296) 517762881 = ((m1 x : Nat) : Int)) := rstep x ht
            clear ht
            go_wp2
            go_round
            case rel => exact ⟨j + 1, m1 x, by omega, m1_lt x, by go_num, congrArg (Value.int .u32) HX.out, by rw [HJ.out]; rfl⟩
            case measure => simp [intOf]; omega
          · have ht' : ((x : Int) / 2147483648 == 1) = false := by simp; omega
            have HX : Hid (((x : Int) * 2 % 4294967296) = ((m1 x : Nat) : Int)) := by unfold m1 Hid; rw [if_neg ht]; rfl
            clear ht
            go_wp2
            go_round
            case rel => exact ⟨j + 1, m1 x, by omega, m1_lt x, by go_num, congrArg (Value.int .u32) HX.out, by rw [HJ.out]; rfl⟩
            case measure => simp [intOf]; omega
        · obtain rfl : j = 8 := by omega
          go_wp2
          go_round
          case rel => exact ⟨k + 1, x, by omega, hx0, by go_num, rfl, by rw [← HS.out, HJ.out, HZ.out]; rfl⟩
          case measure => simp [intOf]; omega
    · obtain rfl : k = len := by omega
      have hx : bits .xor .u32 4294967295 (y : Int) = ((4294967295 ^^^ y : Nat) : Int) := nbits_xor32 4294967295 y (by omega) hy
      have hx2 : 4294967295 ^^^ y < 4294967296 := xor32 (by omega) hy
      generalize hq : 4294967295 ^^^ y = q at hx hx2
      have HQ : Hid (4294967295 ^^^ y = q) := hq
      clear hq
      go_wp2_with (go_at_call 106; refine (turned_any q 32 _ hx2 (by omega)).mono ?_; rintro e w1 ⟨rfl, rfl⟩)
      go_ret
      refine ⟨ret1 (congrArg (fun n : Nat => Value.int .u32 (n : Int)) ?_), rfl⟩
      have e := rc_end (crcGo 4294967295 bs) (crcGo_lt _ (by omega))
      have ey : y = rev (crcGo 4294967295 bs) := by rw [HR.out, List.take_of_length_le (by omega)]
      rw [← ey, HQ.out] at e
      exact e

set_option maxHeartbeats 400000 in
theorem mask_any (n : Nat) (w : World) (h : n < 4294967296) :
    Calls Tryz.prog 107 #[.int .u32 (n : Int)] w fun e w' => e = .returned (.int .u32 (maskN n : Nat)) ∧ w' = w := by
  have HX : Hid (bits .or .u32 ((n : Int) / 32768) ((n : Int) * 131072 % 4294967296) = ((n / 32768 + n % 32768 * 131072 : Nat) : Int)) := by
    have := nbits_or32 (n / 32768) (n * 131072 % 4294967296) (by omega) (Nat.mod_lt _ (by omega))
    rw [mask_or n h] at this
    exact this
  go_enter Tryz.func107, Tryz.ntmps107
  go_wp2
  go_ret
  exact ⟨ret1 (congrArg (Value.int .u32) (by rw [HX.out]; unfold maskN; omega)), rfl⟩
set_option maxHeartbeats 400000 in
theorem rmask_any (n : Nat) (w : World) (_h : n < 4294967296) :
    Calls Tryz.prog 71 #[.int .u32 (n : Int)] w fun e w' => e = .returned (.int .u32 (maskN n : Nat)) ∧ w' = w := by
  go_enter Tryz.func71, Tryz.ntmps71
  go_wp2
  go_ret
  exact ⟨ret1 (congrArg (Value.int .u32) (by unfold maskN; omega)), rfl⟩
end Go.Proofs.YtgegjcnjlibfdaaGreat
