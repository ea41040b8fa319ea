/- The contract of the document's own Hash. -/
import Derived.Test.YtbmimlplicdheaaB10Mix
import Derived.BigQuiet
namespace Go.Proofs.Ytbmimlplicdheaa
open Go.RowKit
theorem idx_key (s : ByteArray) (i : Nat) (hi : i < s.size) (W : World) : (Instr.index 9 (.string s) (.int .i64 (i : Int))).run Try.prog W = .ok (.int .u8 ((s.data.toList.getD i 0).toNat : Int)) W := by
  have hi' : i < s.data.size := hi
  have e : s.data.toList.getD i 0 = s.data[i]'hi' := by
    rw [List.getD_eq_getElem?_getD, Array.getElem?_toList, Array.getElem?_eq_getElem hi']
    rfl
  rw [run_index_string (P := Try.prog) W 9 s .i64 (i : Int) Try.underlying9, e, dif_pos ⟨by omega, by omega⟩]
  rfl
theorem below_dn {B : Nat} {w w' : World} (h : Below B w w') (d : Nat) : Below B w (w'.drewN d) := ⟨h.os, h.tape, h.output, h.size, h.block⟩
theorem drop_four (l : List UInt8) (k : Nat) (h : k + 4 ≤ l.length) : (l.drop k).take 4 = [l.getD k 0, l.getD (k + 1) 0, l.getD (k + 2) 0, l.getD (k + 3) 0] := by
  rw [drop_cons l k (by omega), drop_cons l (k + 1) (by omega), drop_cons l (k + 2) (by omega), drop_cons l (k + 3) (by omega)]
  rfl
theorem hash0_val' (n : Nat) : bits .xor .u32 3164544308 ((n : Int) % 4294967296 * 3332679571 % 4294967296) = ((3164544308 ^^^ (n % 4294967296 * 3332679571 % 4294967296) : Nat) : Int) := by
  have := nbits_xor32 3164544308 (n % 4294967296 * 3332679571 % 4294967296) (by omega) (Nat.mod_lt _ (by omega))
  rw [← this]
  congr 1
set_option maxRecDepth 100000 in
set_option maxHeartbeats 1000000 in
theorem rhash_any (s : ByteArray) (w : World) (hs : s.size ≤ 140737488351232) :
    Calls Try.prog 12 #[.string s] w fun e w' => e = .returned (.int .u32 (hashN s.data.toList : Nat)) ∧ Below w.heap.size w w' := by
  have hl : s.data.toList.length = s.size := by rw [Array.length_toList]; rfl
  have HL : Hid (s.data.toList.length = s.size) := hl
  obtain ⟨h0, H0, hh0, hv0⟩ : ∃ h0 : Nat, Hid (hashN s.data.toList = hashGo h0 s.data.toList) ∧ h0 < 4294967296 ∧ bits .xor .u32 3164544308 ((s.size : Int) % 4294967296 * 3332679571 % 4294967296) = (h0 : Int) :=
    ⟨_, by unfold Hid hashN; rw [hl], hash0_lt s.size, hash0_val' s.size⟩
  have HIX : Hid (∀ i, i < s.size → ∀ W, (Instr.index 9 (.string s) (.int .i64 (i : Int))).run Try.prog W = .ok (.int .u8 ((s.data.toList.getD i 0).toNat : Int)) W) := fun i hi W => idx_key s i hi W
  have HC8 : Hid (∀ i, (s.data.toList.getD i 0).toNat < 256) := fun i => UInt8.toNat_lt _
  clear hl
  go_enter Try.func12, Try.ntmps12
  go_wp2
  go_loopw [3, 4] (fun x i wr => ∃ (h k : Nat), h < 4294967296 ∧ k ≤ s.size ∧ x = .int .u32 (h : Int) ∧ i = .int .i64 (k : Int) ∧ Hid (hashN s.data.toList = hashGo h (s.data.toList.drop k)) ∧ Hid (Below w.heap.size w wr)) (fun _ i _ => s.size - (intOf i).toNat)
  case atStart => exact ⟨h0, 0, hh0, by omega, rfl, rfl, H0.out, Below.refl _ _⟩
  case round =>
    obtain ⟨h, k, hh, hk, rfl, rfl, HR, HB⟩ := hrel
    by_cases h4 : k + 4 ≤ s.size
    · have i0 := HIX.out k (by omega)
      have i1 := HIX.out (k + 1) (by omega)
      have i2 := HIX.out (k + 2) (by omega)
      have i3 := HIX.out (k + 3) (by omega)
      rw [show ((k + 1 : Nat) : Int) = (k : Int) + 1 from rfl] at i1
      rw [show ((k + 2 : Nat) : Int) = (k : Int) + 2 from rfl] at i2
      rw [show ((k + 3 : Nat) : Int) = (k : Int) + 3 from rfl] at i3
      have HST : Hid (hashN s.data.toList = hashGo (mixN h ((s.data.toList.getD k 0).toNat + 256 * ((s.data.toList.getD (k + 1) 0).toNat + 256 * ((s.data.toList.getD (k + 2) 0).toNat + 256 * (s.data.toList.getD (k + 3) 0).toNat))) 16) (s.data.toList.drop (k + 4))) := by
        unfold Hid
        rw [HR.out, hashGo_step h _ (by rw [List.length_drop, HL.out]; omega), drop_four _ _ (by rw [HL.out]; exact h4), List.drop_drop]
        simp only [leNat, Nat.mul_zero, Nat.add_zero]
      have b0 := HC8.out k
      have b1 := HC8.out (k + 1)
      have b2 := HC8.out (k + 2)
      have b3 := HC8.out (k + 3)
      generalize (s.data.toList.getD k 0).toNat = x0 at *
      generalize (s.data.toList.getD (k + 1) 0).toNat = x1 at *
      generalize (s.data.toList.getD (k + 2) 0).toNat = x2 at *
      generalize (s.data.toList.getD (k + 3) 0).toNat = x3 at *
      go_wp2
      go_quiet (fail)
      go_wp2
      refine ⟨⟨mixN h (x0 + 256 * (x1 + 256 * (x2 + 256 * x3))) 16, k + 4, mixN_lt _ _ _, h4, congrArg (Value.int .u32) ?_, rfl, HST.out, below_dn HB.out _⟩, ?_⟩
      · rw [← mix_val16, show ((x0 : Int) + (x1 : Int) * 256 + (x2 : Int) * 65536 + (x3 : Int) * 16777216) = ((x0 + 256 * (x1 + 256 * (x2 + 256 * x3)) : Nat) : Int) by omega]
      · simp [intOf]
        omega
    · by_cases h0 : k = s.size
      · have HE : Hid (hashN s.data.toList = h) := by
          unfold Hid
          rw [HR.out, List.drop_of_length_le (by rw [HL.out]; omega)]
          rfl
        have e1 : ((s.size : Int) - (k : Int)) = 0 := by omega
        go_wp2
        go_ret
        exact ⟨ret1 (by rw [HE.out]; rfl), HB.out⟩
      · have hk1 : k < s.size := by omega
        have i0 := HIX.out k hk1
        have b0 := HC8.out k
        by_cases h1 : s.size = k + 1
        · have HE : Hid (hashN s.data.toList = mixN h (s.data.toList.getD k 0).toNat 24) := by
            unfold Hid
            rw [HR.out, hashGo_last h _ (by rw [List.length_drop, HL.out]; omega) (by rw [List.length_drop, HL.out]; omega), drop_cons _ k (by rw [HL.out]; omega), List.drop_of_length_le (by rw [HL.out]; omega)]
            simp only [leNat, Nat.mul_zero, Nat.add_zero]
          generalize (s.data.toList.getD k 0).toNat = x0 at *
          have e1 : ((s.size : Int) - (k : Int)) = 1 := by omega
          go_wp2
          go_ret
          exact ⟨ret1 (by rw [HE.out]; exact congrArg (Value.int .u32) (mix_val24 h x0)), HB.out⟩
        · have i1 := HIX.out (k + 1) (by omega)
          rw [show ((k + 1 : Nat) : Int) = (k : Int) + 1 from rfl] at i1
          have b1 := HC8.out (k + 1)
          by_cases h2 : s.size = k + 2
          · have HE : Hid (hashN s.data.toList = mixN h ((s.data.toList.getD k 0).toNat + 256 * (s.data.toList.getD (k + 1) 0).toNat) 24) := by
              unfold Hid
              rw [HR.out, hashGo_last h _ (by rw [List.length_drop, HL.out]; omega) (by rw [List.length_drop, HL.out]; omega), drop_cons _ k (by rw [HL.out]; omega), drop_cons _ (k + 1) (by rw [HL.out]; omega), List.drop_of_length_le (by rw [HL.out]; omega)]
              simp only [leNat, Nat.mul_zero, Nat.add_zero]
            generalize (s.data.toList.getD k 0).toNat = x0 at *
            generalize (s.data.toList.getD (k + 1) 0).toNat = x1 at *
            have e1 : ((s.size : Int) - (k : Int)) = 2 := by omega
            go_wp2
            go_ret
            refine ⟨ret1 ?_, HB.out⟩
            rw [HE.out]
            refine congrArg (Value.int .u32) ?_
            rw [← mix_val24, show (h : Int) + (x1 : Int) * 256 + (x0 : Int) = (h : Int) + ((x0 + 256 * x1 : Nat) : Int) by omega]
          · have i2 := HIX.out (k + 2) (by omega)
            rw [show ((k + 2 : Nat) : Int) = (k : Int) + 2 from rfl] at i2
            have b2 := HC8.out (k + 2)
            have HE : Hid (hashN s.data.toList = mixN h ((s.data.toList.getD k 0).toNat + 256 * ((s.data.toList.getD (k + 1) 0).toNat + 256 * (s.data.toList.getD (k + 2) 0).toNat)) 24) := by
              unfold Hid
              rw [HR.out, hashGo_last h _ (by rw [List.length_drop, HL.out]; omega) (by rw [List.length_drop, HL.out]; omega), drop_cons _ k (by rw [HL.out]; omega), drop_cons _ (k + 1) (by rw [HL.out]; omega), drop_cons _ (k + 2) (by rw [HL.out]; omega), List.drop_of_length_le (by rw [HL.out]; omega)]
              simp only [leNat, Nat.mul_zero, Nat.add_zero]
            generalize (s.data.toList.getD k 0).toNat = x0 at *
            generalize (s.data.toList.getD (k + 1) 0).toNat = x1 at *
            generalize (s.data.toList.getD (k + 2) 0).toNat = x2 at *
            have e1 : ((s.size : Int) - (k : Int)) = 3 := by omega
            go_wp2
            go_ret
            refine ⟨ret1 ?_, HB.out⟩
            rw [HE.out]
            refine congrArg (Value.int .u32) ?_
            rw [← mix_val24, show (h : Int) + (x2 : Int) * 65536 + (x1 : Int) * 256 + (x0 : Int) = (h : Int) + ((x0 + 256 * (x1 + 256 * x2) : Nat) : Int) by omega]
end Go.Proofs.Ytbmimlplicdheaa
