/- The contract of wal's pieceAt: the piece at a place of a log, or why there is none. -/
import Derived.Test.YtdhfimolgcnejaaW9Put
import Derived.Test.YtdhfimolgcnejaaConvInt
import Derived.Test.YtdhfimolgcnejaaW9Box
namespace Go.Proofs.Ytdhfimolgcnejaa
open Go.RowKit

def PcV (x : Pc) (a : Option Addr) (c : Nat) : Value := .agg #[.int .u8 (x.kind.toNat : Int), .slice a x.n c, .int .i64 (x.behind : Int)]
/-- What pieceAt leaves. -/
def PcEnd (w0 w : World) (b : List UInt8) (x : Pc) (e : Ending) (w' : World) : Prop :=
  ∃ a' c', e = .returned (.tuple #[PcV x a' c', .int .i64 (x.fault : Int)]) ∧ BsAt w0 a' x.n c' (x.body b) ∧ Below w.heap.size w w'
theorem PcEnd.fault {w0 w w' : World} {b : List UInt8} {x : Pc} {f : Nat} (h : x = ⟨f, 0, 0, 0⟩) (hb : Below w.heap.size w w') : PcEnd w0 w b x (.returned (.tuple #[.agg #[.int .u8 0, .slice none 0 0, .int .i64 0], .int .i64 (f : Int)])) w' := by
  subst h
  exact ⟨none, 0, rfl, by simp [Pc.body, BsAt.nil], hb⟩

set_option maxRecDepth 100000 in
set_option maxHeartbeats 1000000 in
theorem pieceAt_any (a : Option Addr) (len cap : Nat) (b : List UInt8) (p : Nat) (w0 w : World) (h0 : BsAt w0 a len cap b) (hb0 : Below w0.heap.size w0 w) (hp : p ≤ len) (hl : len ≤ 140737488355328) :
    Calls Try.prog 30 #[.slice a len cap, .int .i64 (p : Int)] w (PcEnd w0 w b (pcAt b p)) := by
  have h : BsAt w a len cap b := h0.below (Nat.le_refl _) hb0
  have HBS0 : Hid (BsAt w0 a len cap b) := h0
  clear h0 hb0
  have HLN : Hid (b.length = len) := h.size
  obtain ⟨ar, hsr, hsr'⟩ := slice_any h p hp
  have HRR : Hid (∀ W bs, BsAt W a len cap bs → BsAt W ar (len - p) (cap - p) (bs.drop p)) := hsr'
  clear hsr'
  have HBS : Hid (BsAt w a len cap b) := h
  clear h
  by_cases hc1 : len - p < 7
  · have HE : Hid (pcAt b p = ⟨1, 0, 0, 0⟩) := by unfold pcAt Hid; rw [HLN.out, if_pos hc1]
    go_enter Try.func30, Try.ntmps30
    go_wp2
    exact bodyPost_ret (v := .tuple #[.agg #[.int .u8 0, .slice none 0 0, .int .i64 0], .int .i64 1]) (by simp [results, Try.results30, go_sem]) rfl (PcEnd.fault HE.out ((Below.refl _ _).alloc (Nat.le_refl _) _))
  · obtain ⟨lr, cr, HLR⟩ : ∃ lr cr, Hid (len - p = lr ∧ cap - p = cr) := ⟨_, _, rfl, rfl⟩
    have hlr7 : 7 ≤ lr := by have := HLR.out; omega
    have hlrm : lr ≤ 140737488355328 := by have := HLR.out; omega
    rw [HLR.out.1, HLR.out.2] at hsr
    obtain ⟨R, HR⟩ : ∃ R, Hid (b.drop p = R) := ⟨_, rfl⟩
    have HBR : Hid (BsAt w ar lr cr R) := by
      have := HRR.out _ _ HBS.out
      rwa [HLR.out.1, HLR.out.2, HR.out] at this
    have HBR0 : Hid (BsAt w0 ar lr cr R) := by
      have := HRR.out _ _ HBS0.out
      rwa [HLR.out.1, HLR.out.2, HR.out] at this
    have hRl : R.length = lr := HBR.out.size
    obtain ⟨S, HS⟩ : ∃ S, Hid (leNat (R.take 4) = S) := ⟨_, rfl⟩
    obtain ⟨N, HN⟩ : ∃ N, Hid (leNat ((R.drop 4).take 2) = N) := ⟨_, rfl⟩
    have hN : N < 65536 := by
      have := leNat_take_lt (R.drop 4) 2 (by simp; omega)
      rw [HN.out] at this
      exact this
    have HFS : Hid (fxRead R 4 = (S, 0)) := by
      unfold Hid fxRead
      rw [if_neg (by omega), if_neg (by simp; omega), ← HS.out]
      rfl
    have HFN : Hid (fxRead (R.drop 4) 2 = (N, 0)) := by
      unfold Hid fxRead
      rw [if_neg (by omega), if_neg (by simp; omega), ← HN.out]
      rfl
    obtain ⟨a4, hs4, hs4'⟩ := slice_any HBR.out 4 (by omega)
    have HB4 : Hid (BsAt w a4 (lr - 4) (cr - 4) (R.drop 4)) := hs4' _ _ HBR.out
    obtain ⟨L, HL⟩ : ∃ L, Hid (leftN p = L) := ⟨_, rfl⟩
    have hL := leftN_pos p
    rw [HL.out] at hL
    have HC : Hid (cntN b p = N) := by
      unfold Hid cntN
      rw [← HN.out, ← HR.out, List.drop_drop]
    have hcv := conv_u64_int N (by omega)
    have hs4 : ∀ W : World, (Instr.slice 23 (.slice ar lr cr) (some (.int .i64 4)) none none).run Try.prog W = .ok (.slice a4 (lr - 4) (cr - 4)) W := hs4
    clear hs4' hc1
    go_enter Try.func30, Try.ntmps30
    go_wp2_with fail
    refine (fixed_eq (HBR.out.alloc _) HFS.out).mono ?_
    rintro e w1 ⟨rfl, rfl⟩
    go_wp2_with fail
    refine (fixed_eq (HB4.out.alloc _) HFN.out).mono ?_
    rintro e w2 ⟨rfl, rfl⟩
    go_wp2_with fail
    refine (left_at _ p L _ rfl (by omega) HL.out).mono ?_
    rintro e w3 ⟨rfl, rfl⟩
    by_cases hc2 : L < 7 + N
    · have HE : Hid (pcAt b p = ⟨2, 0, 0, 0⟩) := by
        unfold pcAt Hid
        rw [HLN.out, HC.out, HL.out, HLR.out.1, if_neg (by omega), if_pos hc2]
      go_wp2
      exact bodyPost_ret (v := .tuple #[.agg #[.int .u8 0, .slice none 0 0, .int .i64 0], .int .i64 2]) (by simp [results, Try.results30, go_sem]) rfl (PcEnd.fault HE.out ((Below.refl _ _).alloc (Nat.le_refl _) _))
    · by_cases hc3 : lr < 7 + N
      · have HE : Hid (pcAt b p = ⟨1, 0, 0, 0⟩) := by
          unfold pcAt Hid
          rw [HLN.out, HC.out, HL.out, HLR.out.1, if_neg (by omega), if_neg hc2, if_pos hc3]
        go_wp2
        exact bodyPost_ret (v := .tuple #[.agg #[.int .u8 0, .slice none 0 0, .int .i64 0], .int .i64 1]) (by simp [results, Try.results30, go_sem]) rfl (PcEnd.fault HE.out ((Below.refl _ _).alloc (Nat.le_refl _) _))
      · obtain ⟨a5, hs5, hs5'⟩ := slice_mid HBR.out 7 (7 + N) (by omega) (by omega)
        rw [Nat.add_sub_cancel_left] at hs5 hs5'
        have HB5 : Hid (BsAt w a5 N (cr - 7) ((R.drop 7).take N)) := hs5' _ _ HBR.out
        have HB50 : Hid (BsAt w0 a5 N (cr - 7) ((R.drop 7).take N)) := hs5' _ _ HBR0.out
        have hs5 : ∀ W : World, (Instr.slice 23 (.slice ar lr cr) (some (.int .i64 7)) (some (.int .i64 (7 + (N : Int)))) none).run Try.prog W = .ok (.slice a5 N (cr - 7)) W := hs5
        obtain ⟨k, HK⟩ : ∃ k, Hid (R.getD 6 0 = k) := ⟨_, rfl⟩
        obtain ⟨bb, off, rfl, hcR⟩ := HBR.out.here (by omega)
        have hc6 := hcR 6 (by omega)
        rw [HK.out] at hc6
        have hbb : bb < w.heap.size := World.block_lt_of_cell? w _ hc6
        have hk8 : k.toNat < 256 := UInt8.toNat_lt k
        have h6 : (6 : Int) < (lr : Int) := by omega
        clear hcR hs5'
        go_wp2_with fail
        go_region_held3 (fun W => W.cell? ⟨bb, off + 6, none⟩ = some (.int .u8 (k.toNat : Int))) (go_keep) (fail)
        go_wp2_with fail
        refine (sumOf_any k a5 N (cr - 7) ((R.drop 7).take N) _ ((HB5.out.alloc _).drew) (by omega)).mono ?_
        rintro e w4 ⟨rfl, hb4⟩
        obtain ⟨O, HO⟩ : ∃ O, Hid (sumN k ((R.drop 7).take N) = O) := ⟨_, rfl⟩
        rw [HO.out]
        have HBW : Hid (Below w.heap.size w w4) := ((((Below.refl _ w).alloc (Nat.le_refl _) _).drew)).trans (hb4.mono (by simp))
        have hbx : Box w4 w.heap.size 46 #[.int .u8 (k.toNat : Int), .slice a5 N (cr - 7), .int .i64 ((p : Int) + (7 + (N : Int)))] := Box.kept (Box.new w 46 _) (hb4.block _ (by simp))
        have y0 := hbx.cell 0
        have y1 := hbx.cell 1
        have y2 := hbx.cell 2
        have f0 := hbx.soft 0
        have f1 := hbx.soft 1
        have f2 := hbx.soft 2
        simp only [List.getElem?_toArray, List.getElem?_cons_zero, List.getElem?_cons_succ] at y0 y1 y2
        have HBX : Hid _ := hbx
        clear hb4 hbx
        have HQ : Hid (leNat ((b.drop p).take 4) = S ∧ sumN (b.getD (p + 6) 0) ((b.drop (p + 7)).take N) = O ∧ b.getD (p + 6) 0 = k) := by
          have e6 : b.getD (p + 6) 0 = k := by
            rw [← HK.out, ← HR.out]
            simp [List.getD]
          refine ⟨by rw [HR.out]; exact HS.out, ?_, e6⟩
          rw [e6, ← HO.out, ← HR.out, List.drop_drop]
        by_cases hc4 : S = O
        · have hne : ((S : Int) != (O : Int)) = false := by rw [hc4]; simp
          have HC4 : Hid (S = O) := hc4
          clear hc4
          by_cases hc6 : k.toNat < 1 ∨ 4 < k.toNat
          · have HE : Hid (pcAt b p = ⟨2, 0, 0, 0⟩) := by
              unfold pcAt Hid
              rw [HLN.out, HC.out, HL.out, HLR.out.1, if_neg (by omega), if_neg hc2, if_neg hc3, HQ.out.1, HQ.out.2.1, HQ.out.2.2, if_neg (by simp [HC4.out]), if_pos hc6]
            rcases hc6 with hc6 | hc6
            · have hc1' : decide ((k.toNat : Int) < 1) = true := by simp; omega
              clear hc6
              go_wp2
              exact bodyPost_ret (v := .tuple #[.agg #[.int .u8 0, .slice none 0 0, .int .i64 0], .int .i64 2]) (by simp [results, Try.results30, go_sem, y0, y1, y2]) rfl (PcEnd.fault HE.out (((HBW.out.setCell (Nat.le_refl _) _).setCell (Nat.le_refl _) _).setCell (Nat.le_refl _) _))
            · have hc1' : decide ((k.toNat : Int) < 1) = false := by simp; omega
              have hc2' : decide (4 < (k.toNat : Int)) = true := by simp; omega
              clear hc6
              go_wp2
              exact bodyPost_ret (v := .tuple #[.agg #[.int .u8 0, .slice none 0 0, .int .i64 0], .int .i64 2]) (by simp [results, Try.results30, go_sem, y0, y1, y2]) rfl (PcEnd.fault HE.out (((HBW.out.setCell (Nat.le_refl _) _).setCell (Nat.le_refl _) _).setCell (Nat.le_refl _) _))
          · have HE : Hid (pcAt b p = ⟨0, k, p + 7, N⟩) := by
              unfold pcAt Hid
              rw [HLN.out, HC.out, HL.out, HLR.out.1, if_neg (by omega), if_neg hc2, if_neg hc3, HQ.out.1, HQ.out.2.1, HQ.out.2.2, if_neg (by simp [HC4.out]), if_neg hc6]
            have hc1' : decide ((k.toNat : Int) < 1) = false := by simp; omega
            have hc2' : decide (4 < (k.toNat : Int)) = false := by simp; omega
            clear hc6
            go_wp2
            refine bodyPost_ret (v := .tuple #[.agg #[.int .u8 (k.toNat : Int), .slice a5 N (cr - 7), .int .i64 ((p : Int) + (7 + (N : Int)))], .int .i64 0]) (by simp [results, Try.results30, go_sem, y0, y1, y2]) rfl ?_
            rw [HE.out]
            refine ⟨a5, cr - 7, ?_, ?_, ((HBW.out.setCell (Nat.le_refl _) _).setCell (Nat.le_refl _) _).setCell (Nat.le_refl _) _⟩
            · simp [PcV, Pc.behind]
              omega
            · have := HB50.out
              rw [← HR.out, List.drop_drop] at this
              exact this
        · have hne : ((S : Int) != (O : Int)) = true := by simp; omega
          by_cases hc5 : 7 + N = lr
          · have HE : Hid (pcAt b p = ⟨1, 0, 0, 0⟩) := by
              unfold pcAt Hid
              rw [HLN.out, HC.out, HL.out, HLR.out.1, if_neg (by omega), if_neg hc2, if_neg hc3, HQ.out.1, HQ.out.2.1, if_pos hc4, if_pos hc5]
            have hb5 : ((7 + (N : Int)) == (lr : Int)) = true := by simp; omega
            clear hc5
            go_wp2
            exact bodyPost_ret (v := .tuple #[.agg #[.int .u8 0, .slice none 0 0, .int .i64 0], .int .i64 1]) (by simp [results, Try.results30, go_sem, y0, y1, y2]) rfl (PcEnd.fault HE.out (((HBW.out.setCell (Nat.le_refl _) _).setCell (Nat.le_refl _) _).setCell (Nat.le_refl _) _))
          · have HE : Hid (pcAt b p = ⟨2, 0, 0, 0⟩) := by
              unfold pcAt Hid
              rw [HLN.out, HC.out, HL.out, HLR.out.1, if_neg (by omega), if_neg hc2, if_neg hc3, HQ.out.1, HQ.out.2.1, if_pos hc4, if_neg hc5]
            have hb5 : ((7 + (N : Int)) == (lr : Int)) = false := by simp; omega
            clear hc5
            go_wp2
            exact bodyPost_ret (v := .tuple #[.agg #[.int .u8 0, .slice none 0 0, .int .i64 0], .int .i64 2]) (by simp [results, Try.results30, go_sem, y0, y1, y2]) rfl (PcEnd.fault HE.out (((HBW.out.setCell (Nat.le_refl _) _).setCell (Nat.le_refl _) _).setCell (Nat.le_refl _) _))
end Go.Proofs.Ytdhfimolgcnejaa
