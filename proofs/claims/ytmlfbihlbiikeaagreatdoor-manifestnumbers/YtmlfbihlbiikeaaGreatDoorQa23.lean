/- The contract of wal's pieceAt: the piece at a place of a log, or why there is none. -/
import Derived.Test.YtmlfbihlbiikeaaGreatDoorQa20
import Derived.Test.YtmlfbihlbiikeaaGreatDoorQa01
import Derived.Test.YtmlfbihlbiikeaaGreatDoorQa22
import Derived.RangeFuncNested
import Derived.RangeFuncBound
import Derived.RangeFuncCalls
import Derived.RangeFuncLeaves
import Derived.Shelf.Abstract
import Derived.Shelf.RegionOpen
import Derived.OwnWalkIn
import Derived.TacticsInMore
import Derived.LoopNIn
import Derived.LoopIn
namespace Go.Proofs.YtmlfbihlbiikeaaGreatDoor
open Go.RowKit

def PcV (x : Pc) (a : Option Addr) (c : Nat) : Value := .agg #[.int .u8 (x.kind.toNat : Int), .slice a x.n c, .int .i64 (x.behind : Int)]
def PcEnd (w0 w : World) (b : List UInt8) (x : Pc) (e : Ending) (w' : World) : Prop :=
  ∃ a' c', e = .returned (.tuple #[PcV x a' c', .int .i64 (x.fault : Int)]) ∧ BsAt w0 a' x.n c' (x.body b) ∧ Below w.heap.size w w'
theorem PcEnd.fault {w0 w w' : World} {b : List UInt8} {x : Pc} {f : Nat} (h : x = ⟨f, 0, 0, 0⟩) (hb : Below w.heap.size w w') : PcEnd w0 w b x (.returned (.tuple #[.agg #[.int .u8 0, .slice none 0 0, .int .i64 0], .int .i64 (f : Int)])) w' := by
  subst h
  exact ⟨none, 0, rfl, by simp [Pc.body, BsAt.nil], hb⟩

set_option maxRecDepth 100000 in
set_option maxHeartbeats 1000000 in
theorem pieceAt_any (a : Option Addr) (len cap : Nat) (b : List UInt8) (p : Nat) (w0 w : World) (h0 : BsAt w0 a len cap b) (hb0 : Below w0.heap.size w0 w) (hp : p ≤ len) (hl : len ≤ 140737488355328) :
    Calls Tryz.prog 140 #[.slice a len cap, .int .i64 (p : Int)] w (PcEnd w0 w b (pcAt b p)) := by
  have h : BsAt w a len cap b := h0.below (Nat.le_refl _) hb0
  have HBS0 : Hid (BsAt w0 a len cap b) := h0
  clear h0 hb0
  have HLN : Hid (b.length = len) := h.size
  obtain ⟨ar, hsr, hsr'⟩ := slice_any h p hp
  have HRR : Hid (∀ W bs, BsAt W a len cap bs → BsAt W ar (len - p) (cap - p) (bs.drop p)) := hsr'
  clear hsr'
  have HBS : Hid (BsAt w a len cap b) := h
  clear h
  by_cases hc1 : len - p < 7
  · have HE : Hid (pcAt b p = ⟨1, 0, 0, 0⟩) := by unfold pcAt Hid; rw [HLN.out, if_pos hc1]
    go_enter Tryz.func140, Tryz.ntmps140
    go_wp2
    exact bodyPost_ret (v := .tuple #[.agg #[.int .u8 0, .slice none 0 0, .int .i64 0], .int .i64 1]) (by simp [results, Tryz.results140, go_sem]) rfl (PcEnd.fault HE.out ((Below.refl _ _).alloc (Nat.le_refl _) _))
  · obtain ⟨lr, cr, HLR⟩ : ∃ lr cr, Hid (len - p = lr ∧ cap - p = cr) := ⟨_, _, rfl, rfl⟩
    have hlr7 : 7 ≤ lr := by have := HLR.out; omega
    have hlrm : lr ≤ 140737488355328 := by have := HLR.out; omega
    rw [HLR.out.1, HLR.out.2] at hsr
    obtain ⟨R, HR⟩ : ∃ R, Hid (b.drop p = R) := ⟨_, rfl⟩
    have HBR : Hid (BsAt w ar lr cr R) := by
      have := HRR.out _ _ HBS.out
      rwa [HLR.out.1, HLR.out.2, HR.out] at this
    have HBR0 : Hid (BsAt w0 ar lr cr R) := by
      have := HRR.out _ _ HBS0.out
      rwa [HLR.out.1, HLR.out.2, HR.out] at this
    have hRl : R.length = lr := HBR.out.size
    obtain ⟨S, HS⟩ : ∃ S, Hid (leNat (R.take 4) = S) := ⟨_, rfl⟩
    obtain ⟨N, HN⟩ : ∃ N, Hid (leNat ((R.drop 4).take 2) = N) := ⟨_, rfl⟩
    have hN : N < 65536 := by
      have := leNat_take_lt (R.drop 4) 2 (by simp; omega)
      rw [HN.out] at this
      exact this
    have HFS : Hid (fxRead R 4 = (S, 0)) := by
      unfold Hid fxRead
      rw [if_neg (by omega), if_neg (by simp; omega), ← HS.out]
      rfl
    have HFN : Hid (fxRead (R.drop 4) 2 = (N, 0)) := by
      unfold Hid fxRead
      rw [if_neg (by omega), if_neg (by simp; omega), ← HN.out]
      rfl
    obtain ⟨a4, hs4, hs4'⟩ := slice_any HBR.out 4 (by omega)
    have HB4 : Hid (BsAt w a4 (lr - 4) (cr - 4) (R.drop 4)) := hs4' _ _ HBR.out
    obtain ⟨L, HL⟩ : ∃ L, Hid (leftN p = L) := ⟨_, rfl⟩
    have hL := leftN_pos p
    rw [HL.out] at hL
    have HC : Hid (cntN b p = N) := by
      unfold Hid cntN
      rw [← HN.out, ← HR.out, List.drop_drop]
    have hcv := conv_u64_int N (by omega)
    have hs4 : ∀ W : World, (Instr.slice 29 (.slice ar lr cr) (some (.int .i64 4)) none none).run Tryz.prog W = .ok (.slice a4 (lr - 4) (cr - 4)) W := hs4
    clear hs4' hc1
    go_enter Tryz.func140, Tryz.ntmps140
    go_wp2_with fail
    refine (fixed_eq (HBR.out.alloc _) HFS.out).mono ?_
    rintro e w1 ⟨rfl, rfl⟩
    go_wp2_with fail
    refine (fixed_eq (HB4.out.alloc _) HFN.out).mono ?_
    rintro e w2 ⟨rfl, rfl⟩
    go_wp2_with fail
    refine (left_at _ p L _ rfl (by omega) HL.out).mono ?_
    rintro e w3 ⟨rfl, rfl⟩
    by_cases hc2 : L < 7 + N
    · have HE : Hid (pcAt b p = ⟨2, 0, 0, 0⟩) := by
        unfold pcAt Hid
        rw [HLN.out, HC.out, HL.out, HLR.out.1, if_neg (by omega), if_pos hc2]
      go_wp2
      exact bodyPost_ret (v := .tuple #[.agg #[.int .u8 0, .slice none 0 0, .int .i64 0], .int .i64 2]) (by simp [results, Tryz.results140, go_sem]) rfl (PcEnd.fault HE.out ((Below.refl _ _).alloc (Nat.le_refl _) _))
    · by_cases hc3 : lr < 7 + N
      · have HE : Hid (pcAt b p = ⟨1, 0, 0, 0⟩) := by
          unfold pcAt Hid
          rw [HLN.out, HC.out, HL.out, HLR.out.1, if_neg (by omega), if_neg hc2, if_pos hc3]
        go_wp2
        exact bodyPost_ret (v := .tuple #[.agg #[.int .u8 0, .slice none 0 0, .int .i64 0], .int .i64 1]) (by simp [results, Tryz.results140, go_sem]) rfl (PcEnd.fault HE.out ((Below.refl _ _).alloc (Nat.le_refl _) _))
      · obtain ⟨a5, hs5, hs5'⟩ := slice_mid HBR.out 7 (7 + N) (by omega) (by omega)
        rw [Nat.add_sub_cancel_left] at hs5 hs5'
        have HB5 : Hid (BsAt w a5 N (cr - 7) ((R.drop 7).take N)) := hs5' _ _ HBR.out
        have HB50 : Hid (BsAt w0 a5 N (cr - 7) ((R.drop 7).take N)) := hs5' _ _ HBR0.out
        have hs5 : ∀ W : World, (Instr.slice 29 (.slice ar lr cr) (some (.int .i64 7)) (some (.int .i64 (7 + (N : Int)))) none).run Tryz.prog W = .ok (.slice a5 N (cr - 7)) W := hs5
        obtain ⟨k, HK⟩ : ∃ k, Hid (R.getD 6 0 = k) := ⟨_, rfl⟩
        obtain ⟨bb, off, rfl, hcR⟩ := HBR.out.here (by omega)
        have hc6 := hcR 6 (by omega)
        rw [HK.out] at hc6
        have hbb : bb < w.heap.size := World.block_lt_of_cell? w _ hc6
        have hk8 : k.toNat < 256 := UInt8.toNat_lt k
        have h6 : (6 : Int) < (lr : Int) := by omega
        clear hcR hs5'
        go_wp2_with fail
        go_region_held3 (fun W => W.cell? ⟨bb, off + 6, none⟩ = some (.int .u8 (k.toNat : Int))) (go_keep) (fail)
        go_wp2_with fail
        refine (sumOf_any k a5 N (cr - 7) ((R.drop 7).take N) _ ((HB5.out.alloc _).drew) (by omega)).mono ?_
        rintro e w4 ⟨rfl, hb4⟩
        obtain ⟨O, HO⟩ : ∃ O, Hid (sumN k ((R.drop 7).take N) = O) := ⟨_, rfl⟩
        rw [HO.out]
        have HBW : Hid (Below w.heap.size w w4) := ((((Below.refl _ w).alloc (Nat.le_refl _) _).drew)).trans (hb4.mono (by simp))
        have hbx : Box w4 w.heap.size 155 #[.int .u8 (k.toNat : Int), .slice a5 N (cr - 7), .int .i64 ((p : Int) + (7 + (N : Int)))] := Box.kept (Box.new w 155 _) (hb4.block _ (by simp))
        have y0 := hbx.cell 0
        have y1 := hbx.cell 1
        have y2 := hbx.cell 2
        have f0 := hbx.soft 0
        have f1 := hbx.soft 1
        have f2 := hbx.soft 2
        simp only [List.getElem?_toArray, List.getElem?_cons_zero, List.getElem?_cons_succ] at y0 y1 y2
        have HBX : Hid _ := hbx
        clear hb4 hbx
        have HQ : Hid (leNat ((b.drop p).take 4) = S ∧ sumN (b.getD (p + 6) 0) ((b.drop (p + 7)).take N) = O ∧ b.getD (p + 6) 0 = k) := by
          have e6 : b.getD (p + 6) 0 = k := by
            rw [← HK.out, ← HR.out]
            simp [List.getD]
          refine ⟨by rw [HR.out]; exact HS.out, ?_, e6⟩
          rw [e6, ← HO.out, ← HR.out, List.drop_drop]
        by_cases hc4 : S = O
        · have hne : ((S : Int) != (O : Int)) = false := by rw [hc4]; simp
          have HC4 : Hid (S = O) := hc4
          clear hc4
          by_cases hc6 : k.toNat < 1 ∨ 4 < k.toNat
          · have HE : Hid (pcAt b p = ⟨2, 0, 0, 0⟩) := by
              unfold pcAt Hid
              rw [HLN.out, HC.out, HL.out, HLR.out.1, if_neg (by omega), if_neg hc2, if_neg hc3, HQ.out.1, HQ.out.2.1, HQ.out.2.2, if_neg (by simp [HC4.out]), if_pos hc6]
            rcases hc6 with hc6 | hc6
            · have hc1' : decide ((k.toNat : Int) < 1) = true := by simp; omega
              clear hc6
              go_wp2
              exact bodyPost_ret (v := .tuple #[.agg #[.int .u8 0, .slice none 0 0, .int .i64 0], .int .i64 2]) (by simp [results, Tryz.results140, go_sem, y0, y1, y2]) rfl (PcEnd.fault HE.out (((HBW.out.setCell (Nat.le_refl _) _).setCell (Nat.le_refl _) _).setCell (Nat.le_refl _) _))
            · have hc1' : decide ((k.toNat : Int) < 1) = false := by simp; omega
              have hc2' : decide (4 < (k.toNat : Int)) = true := by simp; omega
              clear hc6
              go_wp2
              exact bodyPost_ret (v := .tuple #[.agg #[.int .u8 0, .slice none 0 0, .int .i64 0], .int .i64 2]) (by simp [results, Tryz.results140, go_sem, y0, y1, y2]) rfl (PcEnd.fault HE.out (((HBW.out.setCell (Nat.le_refl _) _).setCell (Nat.le_refl _) _).setCell (Nat.le_refl _) _))
          · have HE : Hid (pcAt b p = ⟨0, k, p + 7, N⟩) := by
              unfold pcAt Hid
              rw [HLN.out, HC.out, HL.out, HLR.out.1, if_neg (by omega), if_neg hc2, if_neg hc3, HQ.out.1, HQ.out.2.1, HQ.out.2.2, if_neg (by simp [HC4.out]), if_neg hc6]
            have hc1' : decide ((k.toNat : Int) < 1) = false := by simp; omega
            have hc2' : decide (4 < (k.toNat : Int)) = false := by simp; omega
            clear hc6
            go_wp2
            refine bodyPost_ret (v := .tuple #[.agg #[.int .u8 (k.toNat : Int), .slice a5 N (cr - 7), .int .i64 ((p : Int) + (7 + (N : Int)))], .int .i64 0]) (by simp [results, Tryz.results140, go_sem, y0, y1, y2]) rfl ?_
            rw [HE.out]
            refine ⟨a5, cr - 7, ?_, ?_, ((HBW.out.setCell (Nat.le_refl _) _).setCell (Nat.le_refl _) _).setCell (Nat.le_refl _) _⟩
            · simp [PcV, Pc.behind]
              omega
            · have := HB50.out
              rw [← HR.out, List.drop_drop] at this
              exact this
        · have hne : ((S : Int) != (O : Int)) = true := by simp; omega
          by_cases hc5 : 7 + N = lr
          · have HE : Hid (pcAt b p = ⟨1, 0, 0, 0⟩) := by
              unfold pcAt Hid
              rw [HLN.out, HC.out, HL.out, HLR.out.1, if_neg (by omega), if_neg hc2, if_neg hc3, HQ.out.1, HQ.out.2.1, if_pos hc4, if_pos hc5]
            have hb5 : ((7 + (N : Int)) == (lr : Int)) = true := by simp; omega
            clear hc5
            go_wp2
            exact bodyPost_ret (v := .tuple #[.agg #[.int .u8 0, .slice none 0 0, .int .i64 0], .int .i64 1]) (by simp [results, Tryz.results140, go_sem, y0, y1, y2]) rfl (PcEnd.fault HE.out (((HBW.out.setCell (Nat.le_refl _) _).setCell (Nat.le_refl _) _).setCell (Nat.le_refl _) _))
          · have HE : Hid (pcAt b p = ⟨2, 0, 0, 0⟩) := by
              unfold pcAt Hid
              rw [HLN.out, HC.out, HL.out, HLR.out.1, if_neg (by omega), if_neg hc2, if_neg hc3, HQ.out.1, HQ.out.2.1, if_pos hc4, if_neg hc5]
            have hb5 : ((7 + (N : Int)) == (lr : Int)) = false := by simp; omega
            clear hc5
            go_wp2
            exact bodyPost_ret (v := .tuple #[.agg #[.int .u8 0, .slice none 0 0, .int .i64 0], .int .i64 2]) (by simp [results, Tryz.results140, go_sem, y0, y1, y2]) rfl (PcEnd.fault HE.out (((HBW.out.setCell (Nat.le_refl _) _).setCell (Nat.le_refl _) _).setCell (Nat.le_refl _) _))
end Go.Proofs.YtmlfbihlbiikeaaGreatDoor
namespace Go.Proofs.YtmlfbihlbiikeaaGreatDoor
open Go.RowKit Go.Shelf
attribute [local go_sem] Oper.semAt_some

abbrev PcX (w : World) (b : List UInt8) := { x : Pc × Option Addr × Nat // x.1.Ok b.length ∧ BsAt w x.2.1 x.1.n x.2.2 (x.1.body b) }
def PcX.vals {w : World} {b : List UInt8} (x : PcX w b) : Array Value := #[PcV x.1.1 x.1.2.1 x.1.2.2, .int .i64 (x.1.1.fault : Int)]
def PcX.pcs {w : World} {b : List UInt8} (l : List (PcX w b)) : List Pc := l.map fun x => x.1.1

def KeepT (W W' : World) : Prop := ∀ (k : Nat) (arr : Array Value) (fz : Nat × Nat), W.heap[k]? = some (Obj.cells arr 155 fz) → W'.heap[k]? = some (Obj.cells arr 155 fz)
theorem KeepT.trans {A B C : World} (h : KeepT A B) (k : KeepT B C) : KeepT A C := fun i arr fz hi => k i arr fz (h i arr fz hi)
theorem KeepT.of {W W' : World} (h : Below W.heap.size W W') : KeepT W W' := fun k _ _ hk => (h.block k (Array.getElem?_eq_some_iff.1 hk).1).trans hk
theorem KeepT.grown {W W' : World} {row : Option Nat} (h : W.grownBy W' row) (hr : ∀ r, row = some r → ∀ arr fz, W.heap[r]? ≠ some (.cells arr 155 fz)) : KeepT W W' := fun k arr fz hk =>
  (h.block k (Array.getElem?_eq_some_iff.1 hk).1 (fun e => hr k e.symm arr fz hk)).trans hk
theorem KeepT.set {W : World} {p : Nat} {o : Obj} (ho : W.heap[p]? = some o) (hn : ∀ arr fz, o ≠ .cells arr 155 fz) (j : Nat) (v : Value) : KeepT W (W.setCell ⟨p, j, none⟩ v) := fun k arr fz hk =>
  (Below.heap_setCell _ _ _ k (fun e => by rw [e] at hk; rw [ho] at hk; exact hn arr fz (Option.some.inj hk))).trans hk
structure Kp3 (n₀ Bs : Nat) (W W' : World) : Prop where
  below : Below n₀ W W'
  tag : KeepT W W'
  box : W'.heap[Bs]? = W.heap[Bs]?
theorem Kp3.trans {n₀ Bs : Nat} {A B C : World} (h : Kp3 n₀ Bs A B) (k : Kp3 n₀ Bs B C) : Kp3 n₀ Bs A C := ⟨h.below.trans k.below, h.tag.trans k.tag, k.box.trans h.box⟩
theorem Kp3.put {n₀ Bs : Nat} {w : World} (hn : n₀ ≤ w.heap.size) (hB : Bs < w.heap.size) (W : World) (l : Nat) (o o' : Obj) (hl : w.heap.size ≤ l) (h : W.heap[l]? = some o) (h1 : o.isCells = false) (h2 : o.isWalk = false) : Kp3 n₀ Bs W (W.putObj l o') := by
  refine ⟨belowK_b hn W l o o' hl h h1 h2, KeepT.grown (grownBy_putObj' W l o') (fun r e arr fz hr => ?_), World.putObj_heap_other (by omega)⟩
  cases e
  rw [h] at hr
  cases hr
  cases h1
theorem Kp3.of {n₀ Bs : Nat} {W W' : World} (h : Below W.heap.size W W') (hn : n₀ ≤ W.heap.size) (hB : Bs < W.heap.size) : Kp3 n₀ Bs W W' := ⟨h.mono hn, KeepT.of h, h.block Bs hB⟩
theorem grown_none {W W' : World} (h : Below W.heap.size W W') : W.grownBy W' none := ⟨h.os, h.tape, h.output, h.size, fun k hk _ => h.block k hk⟩
theorem pcsX_snoc {w : World} {b : List UInt8} (l : List (PcX w b)) (x : PcX w b) : PcX.pcs (l ++ [x]) = PcX.pcs l ++ [x.1.1] := by simp [PcX.pcs]

set_option maxRecDepth 100000 in
set_option maxHeartbeats 2000000 in
theorem pieces1_in (n : Nat) (hn : 1 ≤ n) (w : World) (a : Option Addr) (len cap : Nat) (b : List UInt8) (h : BsAt w a len cap b) (hl : len ≤ 140737488355328) (l Bs : Nat) (J Jx : List (PcX w b) → World → Prop) (W : World)
    (hJ : AbidesFrom W.heap.size J)
    (hY : ∀ pre x W1, J pre W1 → pre.length < (pcs b 0).length → YieldAt Fence.wide (n - 1) Tryz.prog l (PcX.vals x) W1 fun e W' =>
      (e = .returned (.bool true) ∧ J (pre ++ [x]) W' ∧ Kp3 w.heap.size Bs W1 W') ∨ (e = .returned (.bool false) ∧ Jx (pre ++ [x]) W'))
    (hW : Below w.heap.size w W) (hBs : Boxed W Bs 29 (.slice a len cap)) (h0 : J [] W) :
    CallsIn Fence.wide n Tryz.prog 139 #[.func (.yield l) #[] #[], .pointer (some ⟨Bs, 0, none⟩)] W fun e W' => (∃ v, e = .returned v) ∧
      ((∃ xs, PcX.pcs xs = pcs b 0 ∧ J xs W') ∨ (∃ pre, (∃ t, PcX.pcs pre ++ t = pcs b 0) ∧ Jx pre W')) := by
  have HBS : Hid (BsAt w a len cap b) := h
  have HLN : Hid (b.length = len) := h.size
  clear h
  refine callsIn_of_wp Tryz.func139 rfl trivial ?_ rfl
  simp only [Tryz.ntmps139, List.size_toArray, List.length_cons, List.length_nil, Nat.reduceAdd, Nat.reduceSub, Array.replicate_succ, Array.replicate_zero, List.push_toArray, List.append_toArray, List.nil_append, List.cons_append]
  gi_wp2
  gi_loopw [3] (fun i wr => ∃ (p : Nat) (pre : List (PcX w b)), p ≤ len + 128 ∧ i = .int .i64 (p : Int) ∧ Hid (PcX.pcs pre ++ pcs b p = pcs b 0) ∧ Hid (J pre wr) ∧ Hid (Below w.heap.size w wr) ∧ Hid (pre.length ≤ p) ∧ Hid (Boxed wr Bs 29 (.slice a len cap))) (fun i _ => len - (intOf i).toNat)
  case atStart => exact ⟨0, [], by omega, rfl, rfl, h0, hW, Nat.le_refl _, hBs⟩
  case round =>
    obtain ⟨p, pre, hp, rfl, HP, HJ, HB, HPL, HBX⟩ := hrel
    have hbx := HBX.out.cell
    by_cases hlt : p < len
    · obtain ⟨L, HL⟩ : ∃ L, Hid (leftN p = L) := ⟨_, rfl⟩
      have hL := leftN_pos p
      rw [HL.out] at hL
      by_cases h7 : L < 7
      · have HSK : Hid (PcX.pcs pre ++ pcs b (p + L) = pcs b 0) := by
          unfold Hid
          rw [← HP.out, pcs_skip b p (by rw [HLN.out]; exact hlt) (by rw [HL.out]; exact h7), HL.out]
        gi_wp2_with (refine ⟨trivial, ?_⟩; gi_at_call 119; refine (callsIn_wide.2 (left_at _ p L _ rfl (by omega) HL.out)).mono ?_; rintro e w' ⟨rfl, rfl⟩)
        refine ⟨⟨p + L, pre, by omega, by simp, HSK.out, HJ.out, HB.out, ?_, HBX.out⟩, ?_⟩
        · have := HPL.out
          unfold Hid
          omega
        · simp [intOf]
          omega
      · gi_wp2_with (refine ⟨trivial, ?_⟩; gi_at_call 119; refine (callsIn_wide.2 (left_at _ p L _ rfl (by omega) HL.out)).mono ?_; rintro e w' ⟨rfl, rfl⟩)
        refine ⟨trivial, ?_⟩
        refine (callsIn_wide.2 (pieceAt_any a len cap b p w _ HBS.out HB.out (by omega) hl)).mono ?_
        rintro e w2 ⟨a2, c2, rfl, hbs, hb2⟩
        have hok := pcAt_ok b p (by rw [HLN.out]; omega)
        have hgood := fun hf => pcs_good b p (by rw [HLN.out]; exact hlt) (by rw [HL.out]; exact h7) hf
        have hbad := fun hf => pcs_bad b p (by rw [HLN.out]; exact hlt) (by rw [HL.out]; exact h7) hf
        have hbeh := pcAt_behind b p
        obtain ⟨x, hx⟩ : ∃ x, pcAt b p = x := ⟨_, rfl⟩
        rw [hx] at hok hgood hbad hbeh hbs ⊢
        have HBX2 : Hid (Boxed w2 Bs 29 (.slice a len cap)) := (hb2.block _ HBX.out.lt).trans HBX.out
        have HJ2 : Hid (J pre w2) := hJ pre _ _ none HJ.out (grown_none hb2) (fun r e => by cases e)
        have HB2 : Hid (Below w.heap.size w w2) := HB.out.trans (hb2.mono HB.out.size)
        obtain ⟨v, hv⟩ : ∃ v : Array Value, v = #[.int .u8 (x.kind.toNat : Int), .slice a2 x.n c2, .int .i64 (x.behind : Int)] := ⟨_, rfl⟩
        have HJ3 := HJ2.out
        obtain ⟨fn, tmps, assign, body, hy, hR⟩ := hY pre ⟨(x, a2, c2), hok, hbs⟩ (w2.alloc (.cells #[.int .u8 (x.kind.toNat : Int), .slice a2 x.n c2, .int .i64 (x.behind : Int)] 155))
          (hJ pre _ _ none HJ2.out (World.grownBy_alloc _ _ _) (fun r e => by cases e)) (by
            rw [← HP.out, List.length_append]
            have hne : pcs b p ≠ [] := by
              by_cases hf : x.fault = 0
              · rw [hgood hf]; simp
              · rw [hbad hf]; simp
            have := List.length_pos_iff.2 hne
            simp only [PcX.pcs, List.length_map]
            omega)
        dsimp only [PcX.vals, PcV] at hy
        unfold PcV
        have HGD : Hid (x.fault = 0 → pcs b p = x :: pcs b x.behind) := hgood
        have HBD : Hid (x.fault ≠ 0 → pcs b p = [x]) := hbad
        have HBH : Hid (x.fault = 0 → x.off = p + 7 ∧ x.n = cntN b p) := hbeh
        have HOK : Hid (x.Ok b.length) := hok
        clear hgood hbad hbeh hx hv hb2
        gi_wp2
        refine hR.mono ?_
        rintro e W3 (⟨rfl, hJ3, hk3⟩ | ⟨rfl, hJx3⟩)
        · have HBX3 : Hid (Boxed W3 Bs 29 (.slice a len cap)) := hk3.box.trans (HBX2.out.alloc _)
          have HB3 : Hid (Below w.heap.size w W3) := (HB2.out.alloc HB2.out.size _).trans hk3.below
          have HJ4 : Hid (J _ W3) := hJ3
          have hbb : Box W3 w2.heap.size 155 _ := hk3.tag _ _ _ (heap_alloc_new w2 _)
          have y2 := hbb.cell 2
          simp only [List.getElem?_toArray, List.getElem?_cons_zero, List.getElem?_cons_succ] at y2
          clear hJ3 hk3 hbb
          by_cases hf : x.fault = 0
          · have hne : ((x.fault : Int) != 0) = false := by rw [hf]; rfl
            have HF : Hid (x.fault = 0) := hf
            clear hf
            gi_wp2
            refine ⟨⟨x.behind, _, ?_, rfl, ?_, HJ4.out, HB3.out, ?_, HBX3.out⟩, ?_⟩
            · have h1 := HBH.out HF.out
              have h2 := HOK.out
              have h3 := HLN.out
              have h4 := HF.out
              unfold Pc.Ok at h2
              unfold Pc.behind
              omega
            · unfold Hid
              rw [pcsX_snoc, ← HP.out, HGD.out HF.out]
              simp
            · have h1 := HBH.out HF.out
              have h2 := HPL.out
              unfold Hid Pc.behind
              simp
              omega
            · have h1 := HBH.out HF.out
              simp [intOf]
              unfold Pc.behind
              omega
          · have hne : ((x.fault : Int) != 0) = true := by simp; omega
            gi_wp2
            refine bodyPost_ret (results_none rfl _ _ _) rfl ?_
            exact ⟨⟨_, rfl⟩, .inl ⟨_, by rw [pcsX_snoc, ← HP.out, HBD.out hf], HJ4.out⟩⟩
        · gi_wp2
          refine bodyPost_ret (results_none rfl _ _ _) rfl ?_
          refine ⟨⟨_, rfl⟩, .inr ⟨_, ?_, hJx3⟩⟩
          rw [pcsX_snoc, ← HP.out]
          by_cases hf : x.fault = 0
          · exact ⟨pcs b x.behind, by rw [HGD.out hf]; simp⟩
          · exact ⟨[], by rw [HBD.out hf]; simp⟩
    · gi_wp2
      go_end0
      exact ⟨⟨_, rfl⟩, .inl ⟨pre, by rw [← HP.out, pcs_end b p (by rw [HLN.out]; omega)]; simp, HJ.out⟩⟩

theorem pieces_stops (n : Nat) (hn : 1 ≤ n) (w : World) (a : Option Addr) (len cap : Nat) (b : List UInt8) (h : BsAt w a len cap b) (hl : len ≤ 140737488355328) (Bs : Nat) (w0 : World) (hB : Below w.heap.size w w0) (hBs : Boxed w0 Bs 29 (.slice a len cap)) :
    SeqStopsK Fence.wide n Tryz.prog 139 #[.pointer (some ⟨Bs, 0, none⟩)] (PcX.vals (w := w) (b := b)) (Kp3 w.heap.size Bs) (fun xs => PcX.pcs xs = pcs b 0) (fun pre => ∃ t, PcX.pcs pre ++ t = pcs b 0) (pcs b 0).length w0 :=
  fun l J Jx W hW hJ _ hY h0 => pieces1_in n hn w a len cap b h hl l Bs J Jx W hJ hY (hB.trans (hW.mono hB.size)) ((hW.block _ hBs.lt).trans hBs) h0
set_option maxHeartbeats 400000 in
theorem pieces_any (a : Option Addr) (len cap : Nat) (w : World) : Calls Tryz.prog 87 #[.slice a len cap] w fun e w' => e = .returned (.func (.func 139) #[] #[.pointer (some ⟨w.heap.size, 0, none⟩)]) ∧ w' = w.alloc (.cells #[.slice a len cap] 29) := by
  go_enter Tryz.func87, Tryz.ntmps87
  go_wp2
  go_ret
  exact ⟨rfl, rfl⟩
end Go.Proofs.YtmlfbihlbiikeaaGreatDoor
