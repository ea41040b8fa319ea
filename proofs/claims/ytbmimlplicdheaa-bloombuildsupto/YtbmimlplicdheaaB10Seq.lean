/- The contract of bloom's places: the function that is ranged over tells the places of a key's bits, one behind the other. -/
import Derived.RangeFuncNested
import Derived.RangeFuncBound
import Derived.RangeFuncCalls
import Derived.RangeFuncLeaves
import Derived.RangeFuncBox
import Derived.Shelf.Abstract
import Derived.Shelf.RegionOpen
import Derived.OwnWalkIn
import Derived.TacticsInMore
import Derived.LoopNIn
import Derived.LoopIn
import Derived.Test.YtbmimlplicdheaaB10Hash
namespace Go.Proofs.Ytbmimlplicdheaa
open Go.RowKit Go.Shelf
attribute [local go_sem] Oper.semAt_some

/-- A place as it is told. -/
abbrev PlX (count : Nat) := { x : Nat // x < count }
def PlX.vals {count : Nat} (x : PlX count) : Array Value := #[.int .u64 ((x.1 : Nat) : Int)]
def PlX.nums {count : Nat} (l : List (PlX count)) : List Nat := l.map fun x => x.1
theorem nums_snoc {count : Nat} (l : List (PlX count)) (x : PlX count) : PlX.nums (l ++ [x]) = PlX.nums l ++ [x.1] := by simp [PlX.nums]

/-- What a round keeps: what lay below n₀, and the block of how many bits there are. -/
structure Kp2 (n₀ Bc : Nat) (W W' : World) : Prop where
  below : Below n₀ W W'
  box : W'.heap[Bc]? = W.heap[Bc]?
theorem Kp2.trans {n₀ Bc : Nat} {A B C : World} (h : Kp2 n₀ Bc A B) (k : Kp2 n₀ Bc B C) : Kp2 n₀ Bc A C := ⟨h.below.trans k.below, k.box.trans h.box⟩
theorem Kp2.put {n₀ Bc : Nat} {w : World} (hn : n₀ ≤ w.heap.size) (hB : Bc < w.heap.size) (W : World) (l : Nat) (o o' : Obj) (hl : w.heap.size ≤ l) (h : W.heap[l]? = some o) (h1 : o.isCells = false) (h2 : o.isWalk = false) : Kp2 n₀ Bc W (W.putObj l o') :=
  ⟨belowK_b hn W l o o' hl h h1 h2, World.putObj_heap_other (by omega)⟩
theorem grown_none {W W' : World} (h : Below W.heap.size W W') : W.grownBy W' none := ⟨h.os, h.tape, h.output, h.size, fun k hk _ => h.block k hk⟩
theorem plc_take_succ (key : List UInt8) (count probes k : Nat) (h : k < probes) : (plc key count probes).take (k + 1) = (plc key count probes).take k ++ [atN (hashN key) k % count] := by
  have hl : k < (plc key count probes).length := by simp [plc, h]
  rw [List.take_succ_eq_append_getElem hl]
  simp [plc]
theorem plc_length (key : List UInt8) (count probes : Nat) : (plc key count probes).length = probes := by simp [plc]

set_option maxRecDepth 100000 in
set_option maxHeartbeats 2000000 in
theorem places1_in (n : Nat) (hn : 1 ≤ n) (n₀ : Nat) (s : ByteArray) (hs : s.size ≤ 140737488351232) (probes count : Nat) (hp : probes ≤ 1000) (hc0 : 0 < count) (hc : count < 18446744073709551616) (l Bs : Nat) (J Jx : List (PlX count) → World → Prop) (W : World)
    (hJ : AbidesFrom W.heap.size J)
    (hY : ∀ pre x W1, J pre W1 → pre.length < probes → YieldAt Fence.wide (n - 1) Try.prog l (PlX.vals x) W1 fun e W' =>
      (e = .returned (.bool true) ∧ J (pre ++ [x]) W' ∧ Kp2 n₀ (Bs + 2) W1 W') ∨ (e = .returned (.bool false) ∧ Jx (pre ++ [x]) W'))
    (hB0 : Boxed W Bs 9 (.string s)) (hB1 : Boxed W (Bs + 1) 3 (.int .i64 (probes : Int))) (hB2 : Boxed W (Bs + 2) 39 (.int .u64 (count : Int))) (h0 : J [] W) :
    CallsIn Fence.wide n Try.prog 21 #[.func (.yield l) #[] #[], .pointer (some ⟨Bs, 0, none⟩), .pointer (some ⟨Bs + 1, 0, none⟩), .pointer (some ⟨Bs + 2, 0, none⟩)] W fun e W' => (∃ v, e = .returned v) ∧
      ((∃ xs, PlX.nums xs = plc s.data.toList count probes ∧ J xs W') ∨ (∃ pre, (∃ t, PlX.nums pre ++ t = plc s.data.toList count probes) ∧ Jx pre W')) := by
  have c0 := hB0.cell
  have HB1 : Hid (Boxed W (Bs + 1) 3 (.int .i64 (probes : Int))) := hB1
  have HB2 : Hid (Boxed W (Bs + 2) 39 (.int .u64 (count : Int))) := hB2
  have hl1 := hB1.lt
  have hl2 := hB2.lt
  have hne : ((count : Int) == 0) = false := by simp; omega
  obtain ⟨H, HH, hH⟩ : ∃ H : Nat, Hid (hashN s.data.toList = H) ∧ H < 4294967296 := ⟨_, rfl, hashN_lt _⟩
  have hha := fun W' => hash_any s W' hs
  rw [HH.out] at hha
  clear hB0 hB1 hB2
  refine callsIn_of_wp Try.func21 rfl trivial ?_ rfl
  simp only [Try.ntmps21, List.size_toArray, List.length_cons, List.length_nil, Nat.reduceAdd, Nat.reduceSub, Array.replicate_succ, Array.replicate_zero, List.push_toArray, List.append_toArray, List.nil_append, List.cons_append]
  gi_wp2_with (first
    | (refine ⟨trivial, ?_⟩; gi_at_call 11; refine (callsIn_wide.2 (hha _)).mono ?_; rintro e w1 ⟨rfl, hb1⟩
       have c1 : w1.cell? ⟨Bs + 1, 0, none⟩ = some (.int .i64 (probes : Int)) := by rw [hb1.cell hl1]; exact HB1.out.cell)
    | (refine ⟨trivial, ?_⟩; gi_at_call 22; refine (callsIn_wide.2 (turn_any H hH _)).mono ?_; rintro e w2 ⟨rfl, rfl⟩))
  have HJ1 : Hid (J [] w2) := hJ [] _ _ none h0 (grown_none hb1) (fun r e => by cases e)
  have HX1 : Hid (Boxed w2 (Bs + 2) 39 (.int .u64 (count : Int))) := (hb1.block _ hl2).trans HB2.out
  have hst := stepN_lt hH
  have HAT : Hid (∀ k, atN H (k + 1) = (atN H k + stepN H) % 4294967296) := fun k => atN_next H k
  have HTK : Hid (∀ k, k < probes → (plc s.data.toList count probes).take (k + 1) = (plc s.data.toList count probes).take k ++ [atN H k % count]) := fun k hk => by
    have := plc_take_succ s.data.toList count probes k hk
    rw [HH.out] at this
    exact this
  have HPL : Hid ((plc s.data.toList count probes).length = probes) := plc_length _ _ _
  obtain ⟨PL, HPE⟩ : ∃ PL, Hid (plc s.data.toList count probes = PL) := ⟨_, rfl⟩
  rw [HPE.out] at HTK HPL
  obtain ⟨d, hd⟩ : ∃ d : Nat, d = stepN H := ⟨_, rfl⟩
  rw [← hd] at hst HAT ⊢
  have HA0 : Hid (atN H 0 = H) := atN_zero hH
  have HLT : Hid (∀ k, atN H k < 4294967296) := fun k => atN_lt H k
  generalize hF : atN H = A at *
  clear hF hd HH hha c0 c1 hb1 HB1 HB2 hs hl1 hl2 h0
  gi_loopw [5, 12] (fun x i wr => ∃ (k y : Nat) (pre : List (PlX count)), k ≤ probes ∧ y < 4294967296 ∧ i = .int .i64 (k : Int) ∧ x = .int .u32 (y : Int) ∧ Hid (y = A k) ∧ Hid (PlX.nums pre = PL.take k) ∧ Hid (pre.length = k) ∧ Hid (J pre wr) ∧ Hid (Boxed wr (Bs + 2) 39 (.int .u64 (count : Int)))) (fun _ i _ => probes - (intOf i).toNat)
  case atStart => exact ⟨0, H, [], by omega, hH, rfl, rfl, HA0.out.symm, by simp [Hid, PlX.nums], rfl, HJ1.out, HX1.out⟩
  case round =>
    obtain ⟨k, y, pre, hk, hy32, rfl, rfl, HY, HPR, HLN, HJ, HBX⟩ := hrel
    have hbx := HBX.out.cell
    by_cases hlt : k < probes
    · have hym : y % count < count := Nat.mod_lt _ hc0
      obtain ⟨fn, tmps, assign, body, hy, hR⟩ := hY pre ⟨y % count, hym⟩ wr HJ.out (by rw [HLN.out]; exact hlt)
      dsimp only [PlX.vals] at hy
      rw [Int.natCast_emod] at hy
      gi_wp2
      refine hR.mono ?_
      rintro e W3 (⟨rfl, hJ3, hk3⟩ | ⟨rfl, hJx3⟩)
      · have HBX3 : Hid (Boxed W3 (Bs + 2) 39 (.int .u64 (count : Int))) := hk3.box.trans HBX.out
        have HJ4 : Hid (J (pre ++ [⟨y % count, hym⟩]) W3) := hJ3
        clear hJ3 hk3
        gi_wp2
        refine ⟨⟨k + 1, (y + d) % 4294967296, pre ++ [(⟨y % count, hym⟩ : PlX count)], by omega, Nat.mod_lt _ (by omega), by go_num, by go_num, ?_, ?_, ?_, HJ4.out, HBX3.out⟩, ?_⟩
        · unfold Hid
          rw [HAT.out k, HY.out]
        · unfold Hid
          rw [nums_snoc, HPR.out, HTK.out k hlt]
          show _ ++ [y % count] = _
          rw [HY.out]
        · unfold Hid
          simp [HLN.out]
        · simp [intOf]
          omega
      · gi_wp2
        refine bodyPost_ret (results_none rfl _ _ _) rfl ?_
        refine ⟨⟨_, rfl⟩, .inr ⟨_, ⟨PL.drop (k + 1), ?_⟩, hJx3⟩⟩
        rw [nums_snoc, HPR.out, HPE.out]
        have := HTK.out k hlt
        rw [← HY.out] at this
        rw [← this, List.take_append_drop]
    · gi_wp2
      go_end0
      exact ⟨⟨_, rfl⟩, .inl ⟨pre, by rw [HPR.out, HPE.out, List.take_of_length_le (by rw [HPL.out]; omega)], HJ.out⟩⟩

/-- What places hands back tells all places; or a beginning of them, where a round has said 'no more'. -/
theorem places_stops (n : Nat) (hn : 1 ≤ n) (n₀ : Nat) (s : ByteArray) (hs : s.size ≤ 140737488351232) (probes count : Nat) (hp : probes ≤ 1000) (hc0 : 0 < count) (hc : count < 18446744073709551616) (Bs : Nat) (w0 : World)
    (hB0 : Boxed w0 Bs 9 (.string s)) (hB1 : Boxed w0 (Bs + 1) 3 (.int .i64 (probes : Int))) (hB2 : Boxed w0 (Bs + 2) 39 (.int .u64 (count : Int))) :
    SeqStopsK Fence.wide n Try.prog 21 #[.pointer (some ⟨Bs, 0, none⟩), .pointer (some ⟨Bs + 1, 0, none⟩), .pointer (some ⟨Bs + 2, 0, none⟩)] (PlX.vals (count := count)) (Kp2 n₀ (Bs + 2)) (fun xs => PlX.nums xs = plc s.data.toList count probes) (fun pre => ∃ t, PlX.nums pre ++ t = plc s.data.toList count probes) probes w0 :=
  fun l J Jx W hW hJ _ hY h0 => places1_in n hn n₀ s hs probes count hp hc0 hc l Bs J Jx W hJ hY ((hW.block _ hB0.lt).trans hB0) ((hW.block _ hB1.lt).trans hB1) ((hW.block _ hB2.lt).trans hB2) h0
set_option maxHeartbeats 400000 in
theorem places_any (s : ByteArray) (probes size : Nat) (hz : size ≤ 1000000000000000) (w : World) : Calls Try.prog 17 #[.string s, .int .i64 (probes : Int), .int .i64 (size : Int)] w fun e w' =>
    e = .returned (.func (.func 21) #[] #[.pointer (some ⟨w.heap.size, 0, none⟩), .pointer (some ⟨w.heap.size + 1, 0, none⟩), .pointer (some ⟨w.heap.size + 2, 0, none⟩)]) ∧
    Below w.heap.size w w' ∧ w'.heap.size = w.heap.size + 3 ∧ Boxed w' w.heap.size 9 (.string s) ∧ Boxed w' (w.heap.size + 1) 3 (.int .i64 (probes : Int)) ∧ Boxed w' (w.heap.size + 2) 39 (.int .u64 ((8 * size : Nat) : Int)) := by
  go_enter Try.func17, Try.ntmps17
  go_wp2
  go_ret
  have y0 := ((Boxed.new w 9 (.string s)).alloc (.cells #[.int .i64 (probes : Int)] 3)).alloc (.cells #[.int .u64 (8 * (size : Int))] 39)
  have y1 := (Boxed.new (w.alloc (.cells #[.string s] 9)) 3 (.int .i64 (probes : Int))).alloc (.cells #[.int .u64 (8 * (size : Int))] 39)
  have y2 := Boxed.new ((w.alloc (.cells #[.string s] 9)).alloc (.cells #[.int .i64 (probes : Int)] 3)) 39 (.int .u64 (8 * (size : Int)))
  simp only [World.size_alloc, Nat.add_assoc, Nat.reduceAdd] at y1 y2
  refine ⟨rfl, (((Below.refl _ w).alloc (Nat.le_refl _) _).alloc (by simp) _).alloc (by simp; omega) _, by simp, y0, y1, ?_⟩
  rw [show ((8 * size : Nat) : Int) = 8 * (size : Int) by simp]
  exact y2
end Go.Proofs.Ytbmimlplicdheaa
