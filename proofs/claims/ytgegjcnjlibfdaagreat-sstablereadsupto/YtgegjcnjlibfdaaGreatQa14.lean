/- The contracts of bloom's mixed and of the turning round. -/
import Derived.Test.YtgegjcnjlibfdaaGreatQa06
import Derived.Test.YtgegjcnjlibfdaaGreatQa07
import Derived.Test.YtgegjcnjlibfdaaGreatQa03
import Derived.Test.YtgegjcnjlibfdaaGreatQa08
import Derived.RangeFuncNested
import Derived.RangeFuncBound
import Derived.RangeFuncCalls
import Derived.RangeFuncLeaves
import Derived.RangeFuncBox
import Derived.Shelf.Abstract
import Derived.Shelf.RegionOpen
import Derived.OwnWalkIn
import Derived.TacticsInMore
import Derived.LoopNIn
import Derived.LoopIn
import Derived.WalkKit
import Derived.WalkLawsBesides
import Derived.Laws.FloatArith
namespace Go.Proofs.YtgegjcnjlibfdaaGreat
open Go.RowKit

theorem mix_val16 (h n : Nat) : bits .xor .u32 (((h : Int) + n) % 4294967296 * 3332679571 % 4294967296) (((h : Int) + n) % 4294967296 * 3332679571 % 4294967296 / 65536) = ((mixN h n 16 : Nat) : Int) := by
  have h1 : (h + n) % 4294967296 * 3332679571 % 4294967296 < 4294967296 := Nat.mod_lt _ (by omega)
  have := nbits_xor32 ((h + n) % 4294967296 * 3332679571 % 4294967296) ((h + n) % 4294967296 * 3332679571 % 4294967296 / 65536) h1 (by omega)
  unfold mixN
  rw [show (2 : Nat) ^ 16 = 65536 from rfl, ← this]
  congr 1 <;> omega
theorem mix_val24 (h n : Nat) : bits .xor .u32 (((h : Int) + n) % 4294967296 * 3332679571 % 4294967296) (((h : Int) + n) % 4294967296 * 3332679571 % 4294967296 / 16777216) = ((mixN h n 24 : Nat) : Int) := by
  have h1 : (h + n) % 4294967296 * 3332679571 % 4294967296 < 4294967296 := Nat.mod_lt _ (by omega)
  have := nbits_xor32 ((h + n) % 4294967296 * 3332679571 % 4294967296) ((h + n) % 4294967296 * 3332679571 % 4294967296 / 16777216) h1 (by omega)
  unfold mixN
  rw [show (2 : Nat) ^ 24 = 16777216 from rfl, ← this]
  congr 1 <;> omega
set_option maxRecDepth 100000 in
set_option maxHeartbeats 400000 in
theorem mixed16 (h : Nat) (a : Option Addr) (len cap : Nat) (bs : List UInt8) (w : World) (hb : BsAt w a len cap bs) (h1 : 1 ≤ len) (h4 : len ≤ 4) :
    Calls Tryz.prog 120 #[.int .u32 (h : Int), .slice a len cap, .int .i64 16] w fun e w' => e = .returned (.int .u32 (mixN h (leNat bs) 16 : Nat)) ∧ w' = w := by
  have hsz := hb.size
  have hfx : fxRead bs (len : Int) = (leNat bs, 0) := by
    unfold fxRead
    rw [if_neg (by omega), if_neg (by simp; omega)]
    simp [← hsz]
  have hlt : leNat bs < 4294967296 := by
    have h1 := leNat_lt bs
    have h2 : 256 ^ bs.length ≤ 256 ^ 4 := Nat.pow_le_pow_right (by omega) (by omega)
    omega
  have hfix := fun W hW => fixed_any a len cap bs (len : Int) W hW
  rw [hfx] at hfix
  dsimp only at hfix
  generalize leNat bs = n at *
  clear hfx hsz
  go_enter Tryz.func120, Tryz.ntmps120
  go_wp2_with (go_at_call 74; refine (hfix _ hb).mono ?_; rintro e w' ⟨rfl, rfl⟩)
  go_ret
  exact ⟨ret1 (congrArg (Value.int .u32) (mix_val16 h n)), rfl⟩
set_option maxRecDepth 100000 in
set_option maxHeartbeats 400000 in
theorem mixed24 (h : Nat) (a : Option Addr) (len cap : Nat) (bs : List UInt8) (w : World) (hb : BsAt w a len cap bs) (h1 : 1 ≤ len) (h4 : len ≤ 4) :
    Calls Tryz.prog 120 #[.int .u32 (h : Int), .slice a len cap, .int .i64 24] w fun e w' => e = .returned (.int .u32 (mixN h (leNat bs) 24 : Nat)) ∧ w' = w := by
  have hsz := hb.size
  have hfx : fxRead bs (len : Int) = (leNat bs, 0) := by
    unfold fxRead
    rw [if_neg (by omega), if_neg (by simp; omega)]
    simp [← hsz]
  have hlt : leNat bs < 4294967296 := by
    have h1 := leNat_lt bs
    have h2 : 256 ^ bs.length ≤ 256 ^ 4 := Nat.pow_le_pow_right (by omega) (by omega)
    omega
  have hfix := fun W hW => fixed_any a len cap bs (len : Int) W hW
  rw [hfx] at hfix
  dsimp only at hfix
  generalize leNat bs = n at *
  clear hfx hsz
  go_enter Tryz.func120, Tryz.ntmps120
  go_wp2_with (go_at_call 74; refine (hfix _ hb).mono ?_; rintro e w' ⟨rfl, rfl⟩)
  go_ret
  exact ⟨ret1 (congrArg (Value.int .u32) (mix_val24 h n)), rfl⟩
theorem turn_val (h : Nat) (hh : h < 4294967296) : bits .or .u32 ((h : Int) * 32768 % 4294967296) ((h : Int) / 131072) = ((stepN h : Nat) : Int) := by
  have := nbits_or32 (h * 32768 % 4294967296) (h / 131072) (Nat.mod_lt _ (by omega)) (by omega)
  rw [turn_or h hh] at this
  rw [← this]
  congr 1
theorem and31 : bits .and .u64 (IntKind.u64.wrap (-17)) 31 = 15 := by decide +kernel
set_option maxRecDepth 100000 in
set_option maxHeartbeats 400000 in
theorem turn_any (h : Nat) (hh : h < 4294967296) (w : World) :
    Calls Tryz.prog 95 #[.int .u32 (h : Int), .int .i64 (-17)] w fun e w' => e = .returned (.int .u32 (stepN h : Nat)) ∧ w' = w := by
  have h31 := and31
  go_enter Tryz.func95, Tryz.ntmps95
  go_wp2
  go_ret
  exact ⟨ret1 (congrArg (Value.int .u32) (turn_val h hh)), rfl⟩
end Go.Proofs.YtgegjcnjlibfdaaGreat
/- The contract of bloom.Hash: for any key it returns what the plain function hashN tells. -/
namespace Go.Proofs.YtgegjcnjlibfdaaGreat
open Go.RowKit
def lenOfB : Value → Nat
  | .slice _ n _ => n
  | _ => 0
theorem hash0_val (n : Nat) : bits .xor .u32 3164544308 ((n : Int) % 4294967296 * 3332679571 % 4294967296) = ((3164544308 ^^^ (n % 4294967296 * 3332679571 % 4294967296) : Nat) : Int) := by
  have := nbits_xor32 3164544308 (n % 4294967296 * 3332679571 % 4294967296) (by omega) (Nat.mod_lt _ (by omega))
  rw [← this]
  congr 1
set_option maxRecDepth 100000 in
set_option maxHeartbeats 400000 in
theorem hash_any (s : ByteArray) (w : World) (hs : s.size ≤ 140737488351232) :
    Calls Tryz.prog 94 #[.string s] w fun e w' => e = .returned (.int .u32 (hashN s.data.toList : Nat)) ∧ Below w.heap.size w w' := by
  have hcv : ∀ W : World, (convert 9 27 (.string s)).run Tryz.prog W = .ok (.slice (some ⟨W.heap.size, 0, none⟩) s.size (grownCap W s.size 0 5))
        (W.drew.alloc (.cells (bytesRow s (grownCap W s.size 0 5)) 5 ((bytesRow s (grownCap W s.size 0 5)).size, (bytesRow s (grownCap W s.size 0 5)).size + 1))) :=
      fun W => run_bytes_of_string W 9 27 5 s Tryz.underlying9 Tryz.underlying27 Tryz.underlying5
  have hl : s.data.toList.length = s.size := by rw [Array.length_toList]; rfl
  obtain ⟨h0, H0, hh0, hv0⟩ : ∃ h0 : Nat, Hid (hashN s.data.toList = hashGo h0 s.data.toList) ∧ h0 < 4294967296 ∧ bits .xor .u32 3164544308 ((s.size : Int) % 4294967296 * 3332679571 % 4294967296) = (h0 : Int) :=
    ⟨_, by unfold Hid hashN; rw [hl], hash0_lt s.size, hash0_val s.size⟩
  have HB0 : Hid (BsAt (w.alloc (.cells (bytesRow s (grownCap w s.size 0 5)) 5 ((bytesRow s (grownCap w s.size 0 5)).size, (bytesRow s (grownCap w s.size 0 5)).size + 1))).drew (some ⟨w.heap.size, 0, none⟩) s.size (grownCap w s.size 0 5) s.data.toList) :=
    BsAt.ofStr w s _ _ (grownCap_ge _ _ _ _) (grownCap_le_maxLen _ _ _ _ (by unfold maxLen; omega))
  have HBL : Hid (Below w.heap.size w (w.alloc (.cells (bytesRow s (grownCap w s.size 0 5)) 5 ((bytesRow s (grownCap w s.size 0 5)).size, (bytesRow s (grownCap w s.size 0 5)).size + 1))).drew) := ((Below.refl _ _).drew).alloc (Nat.le_refl _) _
  clear hl
  go_enter Tryz.func94, Tryz.ntmps94
  go_wp2
  generalize (w.alloc (.cells (bytesRow s (grownCap w s.size 0 5)) 5 ((bytesRow s (grownCap w s.size 0 5)).size, (bytesRow s (grownCap w s.size 0 5)).size + 1))).drew = w1 at *
  generalize grownCap w s.size 0 5 = c0 at *
  clear hcv
  go_loopw [3, 4] (fun x r wr => ∃ (h len : Nat) (a : Option Addr) (cap : Nat) (l : List UInt8), h < 4294967296 ∧ len ≤ 140737488351232 ∧ x = .int .u32 (h : Int) ∧ r = .slice a len cap ∧ wr = w1 ∧ Hid (BsAt w1 a len cap l) ∧ Hid (hashN s.data.toList = hashGo h l)) (fun _ r _ => lenOfB r)
  case atStart => exact ⟨h0, s.size, _, _, _, hh0, by omega, rfl, rfl, rfl, HB0.out, H0.out⟩
  case round =>
    obtain ⟨h, len, a, cap, l, hh, hlen, rfl, rfl, rfl, HBS, HH⟩ := hrel
    by_cases h4 : 4 ≤ len
    · obtain ⟨a1, hsl, hbs1⟩ := slice_to HBS.out 4 (by omega)
      obtain ⟨a2, hsf, hbs2⟩ := slice_any HBS.out 4 (by omega)
      have hmx := HBS.out.le
      have HSZ : Hid (l.length = len) := HBS.out.size
      have hsl : ∀ W : World, (Instr.slice 27 (.slice a len cap) none (some (.int .i64 4)) none).run Tryz.prog W = .ok (.slice a1 4 cap) W := hsl
      have hsf : ∀ W : World, (Instr.slice 27 (.slice a len cap) (some (.int .i64 4)) none none).run Tryz.prog W = .ok (.slice a2 (len - 4) (cap - 4)) W := hsf
      have hmix := mixed16 h a1 4 cap (l.take 4) wr (hbs1 _ _ HBS.out) (by omega) (by omega)
      have HB2 : Hid (BsAt wr a2 (len - 4) (cap - 4) (l.drop 4)) := hbs2 _ _ HBS.out
      have HST : Hid (hashN s.data.toList = hashGo (mixN h (leNat (l.take 4)) 16) (l.drop 4)) := by
        unfold Hid
        rw [HH.out, hashGo_step h l (by rw [HSZ.out]; exact h4)]
      obtain ⟨h2, HM, hh2⟩ : ∃ h2 : Nat, Hid (mixN h (leNat (l.take 4)) 16 = h2) ∧ h2 < 4294967296 := ⟨_, rfl, mixN_lt _ _ _⟩
      rw [HM.out] at hmix HST
      clear hbs1 hbs2
      go_wp2_with (go_at_call 120; refine hmix.mono ?_; rintro e w' ⟨rfl, rfl⟩)
      go_roundw
      case rel => exact ⟨h2, len - 4, a2, cap - 4, _, hh2, by omega, rfl, rfl, by trivial, HB2.out, HST.out⟩
      case measure => simp [lenOfB]; omega
    · by_cases h0 : 0 < len
      · have hmix := mixed24 h a len cap l wr HBS.out (by omega) (by omega)
        have HST : Hid (hashN s.data.toList = mixN h (leNat l) 24) := by
          unfold Hid
          rw [HH.out, hashGo_last h l (by rw [HBS.out.size]; omega) (by rw [HBS.out.size]; exact h0)]
        rw [← HST.out] at hmix
        go_wp2_with (go_at_call 120; refine hmix.mono ?_; rintro e w' ⟨rfl, rfl⟩)
        go_ret
        exact ⟨rfl, HBL.out⟩
      · obtain rfl : len = 0 := by omega
        have HST : Hid (hashN s.data.toList = h) := by
          unfold Hid
          rw [HH.out, List.eq_nil_of_length_eq_zero HBS.out.size]
          rfl
        go_wp2
        go_ret
        exact ⟨ret1 (by rw [HST.out]; rfl), HBL.out⟩
end Go.Proofs.YtgegjcnjlibfdaaGreat
/- The contract of bloom's places: the function that is ranged over tells the places of a key's bits, one behind the other. -/
namespace Go.Proofs.YtgegjcnjlibfdaaGreat
open Go.RowKit Go.Shelf
attribute [local go_sem] Oper.semAt_some

/-- A place as it is told. -/
abbrev PlX (count : Nat) := { x : Nat // x < count }
def PlX.vals {count : Nat} (x : PlX count) : Array Value := #[.int .u64 ((x.1 : Nat) : Int)]
def PlX.nums {count : Nat} (l : List (PlX count)) : List Nat := l.map fun x => x.1
theorem nums_snoc {count : Nat} (l : List (PlX count)) (x : PlX count) : PlX.nums (l ++ [x]) = PlX.nums l ++ [x.1] := by simp [PlX.nums]

/-- What a round keeps: what lay below n₀, and the block of how many bits there are. -/
structure Kp2 (n₀ Bc : Nat) (W W' : World) : Prop where
  below : Below n₀ W W'
  box : W'.heap[Bc]? = W.heap[Bc]?
theorem Kp2.trans {n₀ Bc : Nat} {A B C : World} (h : Kp2 n₀ Bc A B) (k : Kp2 n₀ Bc B C) : Kp2 n₀ Bc A C := ⟨h.below.trans k.below, k.box.trans h.box⟩
theorem Kp2.put {n₀ Bc : Nat} {w : World} (hn : n₀ ≤ w.heap.size) (hB : Bc < w.heap.size) (W : World) (l : Nat) (o o' : Obj) (hl : w.heap.size ≤ l) (h : W.heap[l]? = some o) (h1 : o.isCells = false) (h2 : o.isWalk = false) : Kp2 n₀ Bc W (W.putObj l o') :=
  ⟨belowK_b hn W l o o' hl h h1 h2, World.putObj_heap_other (by omega)⟩
theorem grown_noneB {W W' : World} (h : Below W.heap.size W W') : W.grownBy W' none := ⟨h.os, h.tape, h.output, h.size, fun k hk _ => h.block k hk⟩
theorem plc_take_succ (key : List UInt8) (count probes k : Nat) (h : k < probes) : (plc key count probes).take (k + 1) = (plc key count probes).take k ++ [atN (hashN key) k % count] := by
  have hl : k < (plc key count probes).length := by simp [plc, h]
  rw [List.take_succ_eq_append_getElem hl]
  simp [plc]
theorem plc_length (key : List UInt8) (count probes : Nat) : (plc key count probes).length = probes := by simp [plc]

set_option maxRecDepth 100000 in
set_option maxHeartbeats 2000000 in
theorem places1_in (n : Nat) (hn : 1 ≤ n) (n₀ : Nat) (s : ByteArray) (hs : s.size ≤ 140737488351232) (probes count : Nat) (hp : probes ≤ 1000) (hc0 : 0 < count) (hc : count < 18446744073709551616) (l Bs : Nat) (J Jx : List (PlX count) → World → Prop) (W : World)
    (hJ : AbidesFrom W.heap.size J)
    (hY : ∀ pre x W1, J pre W1 → pre.length < probes → YieldAt Fence.wide (n - 1) Tryz.prog l (PlX.vals x) W1 fun e W' =>
      (e = .returned (.bool true) ∧ J (pre ++ [x]) W' ∧ Kp2 n₀ (Bs + 2) W1 W') ∨ (e = .returned (.bool false) ∧ Jx (pre ++ [x]) W'))
    (hB0 : Boxed W Bs 9 (.string s)) (hB1 : Boxed W (Bs + 1) 3 (.int .i64 (probes : Int))) (hB2 : Boxed W (Bs + 2) 33 (.int .u64 (count : Int))) (h0 : J [] W) :
    CallsIn Fence.wide n Tryz.prog 93 #[.func (.yield l) #[] #[], .pointer (some ⟨Bs, 0, none⟩), .pointer (some ⟨Bs + 1, 0, none⟩), .pointer (some ⟨Bs + 2, 0, none⟩)] W fun e W' => (∃ v, e = .returned v) ∧
      ((∃ xs, PlX.nums xs = plc s.data.toList count probes ∧ J xs W') ∨ (∃ pre, (∃ t, PlX.nums pre ++ t = plc s.data.toList count probes) ∧ Jx pre W')) := by
  have c0 := hB0.cell
  have HB1 : Hid (Boxed W (Bs + 1) 3 (.int .i64 (probes : Int))) := hB1
  have HB2 : Hid (Boxed W (Bs + 2) 33 (.int .u64 (count : Int))) := hB2
  have hl1 := hB1.lt
  have hl2 := hB2.lt
  have hne : ((count : Int) == 0) = false := by simp; omega
  obtain ⟨H, HH, hH⟩ : ∃ H : Nat, Hid (hashN s.data.toList = H) ∧ H < 4294967296 := ⟨_, rfl, hashN_lt _⟩
  have hha := fun W' => hash_any s W' hs
  rw [HH.out] at hha
  clear hB0 hB1 hB2
  refine callsIn_of_wp Tryz.func93 rfl trivial ?_ rfl
  simp only [Tryz.ntmps93, List.size_toArray, List.length_cons, List.length_nil, Nat.reduceAdd, Nat.reduceSub, Array.replicate_succ, Array.replicate_zero, List.push_toArray, List.append_toArray, List.nil_append, List.cons_append]
  gi_wp2_with (first
    | (refine ⟨trivial, ?_⟩; gi_at_call 94; refine (callsIn_wide.2 (hha _)).mono ?_; rintro e w1 ⟨rfl, hb1⟩
       have c1 : w1.cell? ⟨Bs + 1, 0, none⟩ = some (.int .i64 (probes : Int)) := by rw [hb1.cell hl1]; exact HB1.out.cell)
    | (refine ⟨trivial, ?_⟩; gi_at_call 95; refine (callsIn_wide.2 (turn_any H hH _)).mono ?_; rintro e w2 ⟨rfl, rfl⟩))
  have HJ1 : Hid (J [] w2) := hJ [] _ _ none h0 (grown_noneB hb1) (fun r e => by cases e)
  have HX1 : Hid (Boxed w2 (Bs + 2) 33 (.int .u64 (count : Int))) := (hb1.block _ hl2).trans HB2.out
  have hst := stepN_lt hH
  have HAT : Hid (∀ k, atN H (k + 1) = (atN H k + stepN H) % 4294967296) := fun k => atN_next H k
  have HTK : Hid (∀ k, k < probes → (plc s.data.toList count probes).take (k + 1) = (plc s.data.toList count probes).take k ++ [atN H k % count]) := fun k hk => by
    have := plc_take_succ s.data.toList count probes k hk
    rw [HH.out] at this
    exact this
  have HPL : Hid ((plc s.data.toList count probes).length = probes) := plc_length _ _ _
  obtain ⟨PL, HPE⟩ : ∃ PL, Hid (plc s.data.toList count probes = PL) := ⟨_, rfl⟩
  rw [HPE.out] at HTK HPL
  obtain ⟨d, hd⟩ : ∃ d : Nat, d = stepN H := ⟨_, rfl⟩
  rw [← hd] at hst HAT ⊢
  have HA0 : Hid (atN H 0 = H) := atN_zero hH
  have HLT : Hid (∀ k, atN H k < 4294967296) := fun k => atN_lt H k
  generalize hF : atN H = A at *
  clear hF hd HH hha c0 c1 hb1 HB1 HB2 hs hl1 hl2 h0
  gi_loopw [5, 12] (fun x i wr => ∃ (k y : Nat) (pre : List (PlX count)), k ≤ probes ∧ y < 4294967296 ∧ i = .int .i64 (k : Int) ∧ x = .int .u32 (y : Int) ∧ Hid (y = A k) ∧ Hid (PlX.nums pre = PL.take k) ∧ Hid (pre.length = k) ∧ Hid (J pre wr) ∧ Hid (Boxed wr (Bs + 2) 33 (.int .u64 (count : Int)))) (fun _ i _ => probes - (intOf i).toNat)
  case atStart => exact ⟨0, H, [], by omega, hH, rfl, rfl, HA0.out.symm, by simp [Hid, PlX.nums], rfl, HJ1.out, HX1.out⟩
  case round =>
    obtain ⟨k, y, pre, hk, hy32, rfl, rfl, HY, HPR, HLN, HJ, HBX⟩ := hrel
    have hbx := HBX.out.cell
    by_cases hlt : k < probes
    · have hym : y % count < count := Nat.mod_lt _ hc0
      obtain ⟨fn, tmps, assign, body, hy, hR⟩ := hY pre ⟨y % count, hym⟩ wr HJ.out (by rw [HLN.out]; exact hlt)
      dsimp only [PlX.vals] at hy
      rw [Int.natCast_emod] at hy
      gi_wp2
      refine hR.mono ?_
      rintro e W3 (⟨rfl, hJ3, hk3⟩ | ⟨rfl, hJx3⟩)
      · have HBX3 : Hid (Boxed W3 (Bs + 2) 33 (.int .u64 (count : Int))) := hk3.box.trans HBX.out
        have HJ4 : Hid (J (pre ++ [⟨y % count, hym⟩]) W3) := hJ3
        clear hJ3 hk3
        gi_wp2
        refine ⟨⟨k + 1, (y + d) % 4294967296, pre ++ [(⟨y % count, hym⟩ : PlX count)], by omega, Nat.mod_lt _ (by omega), by go_num, by go_num, ?_, ?_, ?_, HJ4.out, HBX3.out⟩, ?_⟩
        · unfold Hid
          rw [HAT.out k, HY.out]
        · unfold Hid
          rw [nums_snoc, HPR.out, HTK.out k hlt]
          show _ ++ [y % count] = _
          rw [HY.out]
        · unfold Hid
          simp [HLN.out]
        · simp [intOf]
          omega
      · gi_wp2
        refine bodyPost_ret (results_none rfl _ _ _) rfl ?_
        refine ⟨⟨_, rfl⟩, .inr ⟨_, ⟨PL.drop (k + 1), ?_⟩, hJx3⟩⟩
        rw [nums_snoc, HPR.out, HPE.out]
        have := HTK.out k hlt
        rw [← HY.out] at this
        rw [← this, List.take_append_drop]
    · gi_wp2
      go_end0
      exact ⟨⟨_, rfl⟩, .inl ⟨pre, by rw [HPR.out, HPE.out, List.take_of_length_le (by rw [HPL.out]; omega)], HJ.out⟩⟩

/-- What places hands back tells all places; or a beginning of them, where a round has said 'no more'. -/
theorem places_stops (n : Nat) (hn : 1 ≤ n) (n₀ : Nat) (s : ByteArray) (hs : s.size ≤ 140737488351232) (probes count : Nat) (hp : probes ≤ 1000) (hc0 : 0 < count) (hc : count < 18446744073709551616) (Bs : Nat) (w0 : World)
    (hB0 : Boxed w0 Bs 9 (.string s)) (hB1 : Boxed w0 (Bs + 1) 3 (.int .i64 (probes : Int))) (hB2 : Boxed w0 (Bs + 2) 33 (.int .u64 (count : Int))) :
    SeqStopsK Fence.wide n Tryz.prog 93 #[.pointer (some ⟨Bs, 0, none⟩), .pointer (some ⟨Bs + 1, 0, none⟩), .pointer (some ⟨Bs + 2, 0, none⟩)] (PlX.vals (count := count)) (Kp2 n₀ (Bs + 2)) (fun xs => PlX.nums xs = plc s.data.toList count probes) (fun pre => ∃ t, PlX.nums pre ++ t = plc s.data.toList count probes) probes w0 :=
  fun l J Jx W hW hJ _ hY h0 => places1_in n hn n₀ s hs probes count hp hc0 hc l Bs J Jx W hJ hY ((hW.block _ hB0.lt).trans hB0) ((hW.block _ hB1.lt).trans hB1) ((hW.block _ hB2.lt).trans hB2) h0
set_option maxHeartbeats 400000 in
theorem places_any (s : ByteArray) (probes size : Nat) (hz : size ≤ 1000000000000000) (w : World) : Calls Tryz.prog 56 #[.string s, .int .i64 (probes : Int), .int .i64 (size : Int)] w fun e w' =>
    e = .returned (.func (.func 93) #[] #[.pointer (some ⟨w.heap.size, 0, none⟩), .pointer (some ⟨w.heap.size + 1, 0, none⟩), .pointer (some ⟨w.heap.size + 2, 0, none⟩)]) ∧
    Below w.heap.size w w' ∧ w'.heap.size = w.heap.size + 3 ∧ Boxed w' w.heap.size 9 (.string s) ∧ Boxed w' (w.heap.size + 1) 3 (.int .i64 (probes : Int)) ∧ Boxed w' (w.heap.size + 2) 33 (.int .u64 ((8 * size : Nat) : Int)) := by
  go_enter Tryz.func56, Tryz.ntmps56
  go_wp2
  go_ret
  have y0 := ((Boxed.new w 9 (.string s)).alloc (.cells #[.int .i64 (probes : Int)] 3)).alloc (.cells #[.int .u64 (8 * (size : Int))] 33)
  have y1 := (Boxed.new (w.alloc (.cells #[.string s] 9)) 3 (.int .i64 (probes : Int))).alloc (.cells #[.int .u64 (8 * (size : Int))] 33)
  have y2 := Boxed.new ((w.alloc (.cells #[.string s] 9)).alloc (.cells #[.int .i64 (probes : Int)] 3)) 33 (.int .u64 (8 * (size : Int)))
  simp only [World.size_alloc, Nat.add_assoc, Nat.reduceAdd] at y1 y2
  refine ⟨rfl, (((Below.refl _ w).alloc (Nat.le_refl _) _).alloc (by simp) _).alloc (by simp; omega) _, by simp, y0, y1, ?_⟩
  rw [show ((8 * size : Nat) : Int) = 8 * (size : Int) by simp]
  exact y2
end Go.Proofs.YtgegjcnjlibfdaaGreat
/- Plain mathematics of rounding: a number of 64 bits with a point, by a scale that is great enough, is a natural number; no program is spoken of here. -/
namespace Go.Proofs.YtgegjcnjlibfdaaGreat

/-- V / 2^g, to the nearest, and between two to the even one. -/
def rne (V g : Nat) : Nat := V / 2 ^ g + (if 2 ^ g < 2 * (V % 2 ^ g) ∨ (2 ^ g = 2 * (V % 2 ^ g) ∧ V / 2 ^ g % 2 = 1) then 1 else 0)

theorem rne_scale (V g k : Nat) : rne (V * 2 ^ k) (g + k) = rne V g := by
  have hk : 0 < 2 ^ k := Nat.two_pow_pos k
  unfold rne
  rw [Nat.pow_add, Nat.mul_div_mul_right _ _ hk, Nat.mul_mod_mul_right]
  have e1 : (2 ^ g * 2 ^ k < 2 * (V % 2 ^ g * 2 ^ k)) ↔ (2 ^ g < 2 * (V % 2 ^ g)) := by
    rw [← Nat.mul_assoc]
    exact Nat.mul_lt_mul_right hk
  have e2 : (2 ^ g * 2 ^ k = 2 * (V % 2 ^ g * 2 ^ k)) ↔ (2 ^ g = 2 * (V % 2 ^ g)) := by
    rw [← Nat.mul_assoc]
    exact Nat.mul_left_inj (Nat.pos_iff_ne_zero.1 hk)
  simp only [e1, e2]
theorem rne_zero (V : Nat) : rne V 0 = V := by simp [rne, Nat.mod_one]
theorem rne_whole (V g : Nat) : rne (V * 2 ^ g) g = V := by
  have := rne_scale V 0 g
  rw [Nat.zero_add, rne_zero] at this
  exact this
theorem rne_mono {V V' : Nat} (g : Nat) (h : V ≤ V') : rne V g ≤ rne V' g := by
  have hd : V / 2 ^ g ≤ V' / 2 ^ g := Nat.div_le_div_right h
  unfold rne
  by_cases hlt : V / 2 ^ g < V' / 2 ^ g
  · split <;> split <;> omega
  · have he : V / 2 ^ g = V' / 2 ^ g := by omega
    have hm : V % 2 ^ g ≤ V' % 2 ^ g := by
      have h1 := Nat.div_add_mod V (2 ^ g)
      have h2 := Nat.div_add_mod V' (2 ^ g)
      rw [he] at h1
      omega
    rw [he]
    by_cases hc : 2 ^ g < 2 * (V % 2 ^ g) ∨ (2 ^ g = 2 * (V % 2 ^ g) ∧ V' / 2 ^ g % 2 = 1)
    · rw [if_pos hc, if_pos (by omega)]
      exact Nat.le_refl _
    · rw [if_neg hc]
      omega
theorem rne_le {V a g : Nat} (h : V ≤ 2 ^ (a + g)) : rne V g ≤ 2 ^ a := by
  have := rne_mono g h
  rw [Nat.pow_add, rne_whole] at this
  exact this
theorem rne_ge {V a g : Nat} (h : 2 ^ (a + g) ≤ V) : 2 ^ a ≤ rne V g := by
  have := rne_mono g h
  rw [Nat.pow_add, rne_whole] at this
  exact this
theorem rne_twice (V g : Nat) : rne V g * 2 ^ g ≤ 2 * V := by
  have h1 := Nat.div_add_mod V (2 ^ g)
  unfold rne
  generalize hx : V / 2 ^ g = x at *
  generalize hy : V % 2 ^ g = y at *
  generalize 2 ^ g = p at *
  rw [Nat.mul_comm] at h1
  rw [Nat.add_mul]
  generalize x * p = z at *
  split <;> omega

/-- Cut to a whole number, to the nearest. -/
theorem cut_even (neg : Bool) (n d : Nat) : Ieee.Toward.even.cut neg n d = rne n d := by
  unfold Ieee.Toward.cut rne
  by_cases hd : d ≤ n.log2 + 2
  · simp only [Nat.min_eq_left hd, Nat.one_shiftLeft]
    congr 1
    by_cases h1 : 2 ^ d < 2 * (n % 2 ^ d)
    · simp [h1]
    · by_cases h2 : 2 ^ d = 2 * (n % 2 ^ d)
      · by_cases h3 : n / 2 ^ d % 2 = 1
        · rw [if_pos (.inr ⟨h2, h3⟩)]
          simp [← h2, h3]
        · rw [if_neg (by omega)]
          simp [← h2, h3]
      · rw [if_neg (by omega)]
        simp [h1, h2]
  · have hlt : n < 2 ^ (n.log2 + 1) := Nat.lt_log2_self
    have hp : 2 ^ (n.log2 + 2) = 2 * 2 ^ (n.log2 + 1) := by rw [Nat.pow_succ 2 (n.log2 + 1)]; omega
    have hle : 2 ^ (n.log2 + 2) ≤ 2 ^ d := Nat.pow_le_pow_right (by omega) (by omega)
    simp only [Nat.min_eq_right (show n.log2 + 2 ≤ d by omega), Nat.one_shiftLeft]
    rw [Nat.div_eq_of_lt (show n < 2 ^ (n.log2 + 2) by omega), Nat.mod_eq_of_lt (show n < 2 ^ (n.log2 + 2) by omega), Nat.div_eq_of_lt (show n < 2 ^ d by omega), Nat.mod_eq_of_lt (show n < 2 ^ d by omega)]
    rw [if_neg (by omega)]
    have a1 : decide (2 ^ (n.log2 + 2) < 2 * n) = false := decide_eq_false (by omega)
    have a2 : (2 ^ (n.log2 + 2) == 2 * n) = false := by simp; omega
    simp [a1, a2]
theorem cut_down (n d : Nat) (way : Ieee.Toward) (hw : way = .zero ∨ way = .down) : way.cut false n d = n / 2 ^ d := by
  have key : n / (1 <<< min d (n.log2 + 2)) = n / 2 ^ d := by
    rw [Nat.one_shiftLeft]
    by_cases hd : d ≤ n.log2 + 2
    · rw [Nat.min_eq_left hd]
    · have hlt : n < 2 ^ (n.log2 + 1) := Nat.lt_log2_self
      have hp : 2 ^ (n.log2 + 2) = 2 * 2 ^ (n.log2 + 1) := by rw [Nat.pow_succ 2 (n.log2 + 1)]; omega
      have hle : 2 ^ (n.log2 + 2) ≤ 2 ^ d := Nat.pow_le_pow_right (by omega) (by omega)
      rw [Nat.min_eq_right (by omega), Nat.div_eq_of_lt (by omega), Nat.div_eq_of_lt (by omega)]
  unfold Ieee.Toward.cut
  rcases hw with rfl | rfl
  · simp [key]
  · simp [key]
end Go.Proofs.YtgegjcnjlibfdaaGreat
