/- The contract of the document's own Hash. -/
import Derived.Test.YtgegjcnjlibfdaaGreatQa14
import Derived.BigQuiet
import Derived.Test.YtgegjcnjlibfdaaGreatQa02
import Derived.Test.YtgegjcnjlibfdaaGreatQa00
namespace Go.Proofs.YtgegjcnjlibfdaaGreat
open Go.RowKit
theorem idx_key (s : ByteArray) (i : Nat) (hi : i < s.size) (W : World) : (Instr.index 9 (.string s) (.int .i64 (i : Int))).run Tryz.prog W = .ok (.int .u8 ((s.data.toList.getD i 0).toNat : Int)) W := by
  have hi' : i < s.data.size := hi
  have e : s.data.toList.getD i 0 = s.data[i]'hi' := by
    rw [List.getD_eq_getElem?_getD, Array.getElem?_toList, Array.getElem?_eq_getElem hi']
    rfl
  rw [run_index_string (P := Tryz.prog) W 9 s .i64 (i : Int) Tryz.underlying9, e, dif_pos ⟨by omega, by omega⟩]
  rfl
theorem below_dn {B : Nat} {w w' : World} (h : Below B w w') (d : Nat) : Below B w (w'.drewN d) := ⟨h.os, h.tape, h.output, h.size, h.block⟩
theorem drop_four (l : List UInt8) (k : Nat) (h : k + 4 ≤ l.length) : (l.drop k).take 4 = [l.getD k 0, l.getD (k + 1) 0, l.getD (k + 2) 0, l.getD (k + 3) 0] := by
  rw [drop_cons l k (by omega), drop_cons l (k + 1) (by omega), drop_cons l (k + 2) (by omega), drop_cons l (k + 3) (by omega)]
  rfl
theorem hash0_val' (n : Nat) : bits .xor .u32 3164544308 ((n : Int) % 4294967296 * 3332679571 % 4294967296) = ((3164544308 ^^^ (n % 4294967296 * 3332679571 % 4294967296) : Nat) : Int) := by
  have := nbits_xor32 3164544308 (n % 4294967296 * 3332679571 % 4294967296) (by omega) (Nat.mod_lt _ (by omega))
  rw [← this]
  congr 1
set_option maxRecDepth 100000 in
set_option maxHeartbeats 1000000 in
theorem rhash_any (s : ByteArray) (w : World) (hs : s.size ≤ 140737488351232) :
    Calls Tryz.prog 105 #[.string s] w fun e w' => e = .returned (.int .u32 (hashN s.data.toList : Nat)) ∧ Below w.heap.size w w' := by
  have hl : s.data.toList.length = s.size := by rw [Array.length_toList]; rfl
  have HL : Hid (s.data.toList.length = s.size) := hl
  obtain ⟨h0, H0, hh0, hv0⟩ : ∃ h0 : Nat, Hid (hashN s.data.toList = hashGo h0 s.data.toList) ∧ h0 < 4294967296 ∧ bits .xor .u32 3164544308 ((s.size : Int) % 4294967296 * 3332679571 % 4294967296) = (h0 : Int) :=
    ⟨_, by unfold Hid hashN; rw [hl], hash0_lt s.size, hash0_val' s.size⟩
  have HIX : Hid (∀ i, i < s.size → ∀ W, (Instr.index 9 (.string s) (.int .i64 (i : Int))).run Tryz.prog W = .ok (.int .u8 ((s.data.toList.getD i 0).toNat : Int)) W) := fun i hi W => idx_key s i hi W
  have HC8 : Hid (∀ i, (s.data.toList.getD i 0).toNat < 256) := fun i => UInt8.toNat_lt _
  clear hl
  go_enter Tryz.func105, Tryz.ntmps105
  go_wp2
  go_loopw [3, 4] (fun x i wr => ∃ (h k : Nat), h < 4294967296 ∧ k ≤ s.size ∧ x = .int .u32 (h : Int) ∧ i = .int .i64 (k : Int) ∧ Hid (hashN s.data.toList = hashGo h (s.data.toList.drop k)) ∧ Hid (Below w.heap.size w wr)) (fun _ i _ => s.size - (intOf i).toNat)
  case atStart => exact ⟨h0, 0, hh0, by omega, rfl, rfl, H0.out, Below.refl _ _⟩
  case round =>
    obtain ⟨h, k, hh, hk, rfl, rfl, HR, HB⟩ := hrel
    by_cases h4 : k + 4 ≤ s.size
    · have i0 := HIX.out k (by omega)
      have i1 := HIX.out (k + 1) (by omega)
      have i2 := HIX.out (k + 2) (by omega)
      have i3 := HIX.out (k + 3) (by omega)
      rw [show ((k + 1 : Nat) : Int) = (k : Int) + 1 from rfl] at i1
      rw [show ((k + 2 : Nat) : Int) = (k : Int) + 2 from rfl] at i2
      rw [show ((k + 3 : Nat) : Int) = (k : Int) + 3 from rfl] at i3
      have HST : Hid (hashN s.data.toList = hashGo (mixN h ((s.data.toList.getD k 0).toNat + 256 * ((s.data.toList.getD (k + 1) 0).toNat + 256 * ((s.data.toList.getD (k + 2) 0).toNat + 256 * (s.data.toList.getD (k + 3) 0).toNat))) 16) (s.data.toList.drop (k + 4))) := by
        unfold Hid
        rw [HR.out, hashGo_step h _ (by rw [List.length_drop, HL.out]; omega), drop_four _ _ (by rw [HL.out]; exact h4), List.drop_drop]
        simp only [leNat, Nat.mul_zero, Nat.add_zero]
      have b0 := HC8.out k
      have b1 := HC8.out (k + 1)
      have b2 := HC8.out (k + 2)
      have b3 := HC8.out (k + 3)
      generalize (s.data.toList.getD k 0).toNat = x0 at *
      generalize (s.data.toList.getD (k + 1) 0).toNat = x1 at *
      generalize (s.data.toList.getD (k + 2) 0).toNat = x2 at *
      generalize (s.data.toList.getD (k + 3) 0).toNat = x3 at *
      go_wp2
      go_quiet (fail)
      go_wp2
      refine ⟨⟨mixN h (x0 + 256 * (x1 + 256 * (x2 + 256 * x3))) 16, k + 4, mixN_lt _ _ _, h4, congrArg (Value.int .u32) ?_, rfl, HST.out, below_dn HB.out _⟩, ?_⟩
      · rw [← mix_val16, show ((x0 : Int) + (x1 : Int) * 256 + (x2 : Int) * 65536 + (x3 : Int) * 16777216) = ((x0 + 256 * (x1 + 256 * (x2 + 256 * x3)) : Nat) : Int) by omega]
      · simp [intOf]
        omega
    · by_cases h0 : k = s.size
      · have HE : Hid (hashN s.data.toList = h) := by
          unfold Hid
          rw [HR.out, List.drop_of_length_le (by rw [HL.out]; omega)]
          rfl
        have e1 : ((s.size : Int) - (k : Int)) = 0 := by omega
        go_wp2
        go_ret
        exact ⟨ret1 (by rw [HE.out]; rfl), HB.out⟩
      · have hk1 : k < s.size := by omega
        have i0 := HIX.out k hk1
        have b0 := HC8.out k
        by_cases h1 : s.size = k + 1
        · have HE : Hid (hashN s.data.toList = mixN h (s.data.toList.getD k 0).toNat 24) := by
            unfold Hid
            rw [HR.out, hashGo_last h _ (by rw [List.length_drop, HL.out]; omega) (by rw [List.length_drop, HL.out]; omega), drop_cons _ k (by rw [HL.out]; omega), List.drop_of_length_le (by rw [HL.out]; omega)]
            simp only [leNat, Nat.mul_zero, Nat.add_zero]
          generalize (s.data.toList.getD k 0).toNat = x0 at *
          have e1 : ((s.size : Int) - (k : Int)) = 1 := by omega
          go_wp2
          go_ret
          exact ⟨ret1 (by rw [HE.out]; exact congrArg (Value.int .u32) (mix_val24 h x0)), HB.out⟩
        · have i1 := HIX.out (k + 1) (by omega)
          rw [show ((k + 1 : Nat) : Int) = (k : Int) + 1 from rfl] at i1
          have b1 := HC8.out (k + 1)
          by_cases h2 : s.size = k + 2
          · have HE : Hid (hashN s.data.toList = mixN h ((s.data.toList.getD k 0).toNat + 256 * (s.data.toList.getD (k + 1) 0).toNat) 24) := by
              unfold Hid
              rw [HR.out, hashGo_last h _ (by rw [List.length_drop, HL.out]; omega) (by rw [List.length_drop, HL.out]; omega), drop_cons _ k (by rw [HL.out]; omega), drop_cons _ (k + 1) (by rw [HL.out]; omega), List.drop_of_length_le (by rw [HL.out]; omega)]
              simp only [leNat, Nat.mul_zero, Nat.add_zero]
            generalize (s.data.toList.getD k 0).toNat = x0 at *
            generalize (s.data.toList.getD (k + 1) 0).toNat = x1 at *
            have e1 : ((s.size : Int) - (k : Int)) = 2 := by omega
            go_wp2
            go_ret
            refine ⟨ret1 ?_, HB.out⟩
            rw [HE.out]
            refine congrArg (Value.int .u32) ?_
            rw [← mix_val24, show (h : Int) + (x1 : Int) * 256 + (x0 : Int) = (h : Int) + ((x0 + 256 * x1 : Nat) : Int) by omega]
          · have i2 := HIX.out (k + 2) (by omega)
            rw [show ((k + 2 : Nat) : Int) = (k : Int) + 2 from rfl] at i2
            have b2 := HC8.out (k + 2)
            have HE : Hid (hashN s.data.toList = mixN h ((s.data.toList.getD k 0).toNat + 256 * ((s.data.toList.getD (k + 1) 0).toNat + 256 * (s.data.toList.getD (k + 2) 0).toNat)) 24) := by
              unfold Hid
              rw [HR.out, hashGo_last h _ (by rw [List.length_drop, HL.out]; omega) (by rw [List.length_drop, HL.out]; omega), drop_cons _ k (by rw [HL.out]; omega), drop_cons _ (k + 1) (by rw [HL.out]; omega), drop_cons _ (k + 2) (by rw [HL.out]; omega), List.drop_of_length_le (by rw [HL.out]; omega)]
              simp only [leNat, Nat.mul_zero, Nat.add_zero]
            generalize (s.data.toList.getD k 0).toNat = x0 at *
            generalize (s.data.toList.getD (k + 1) 0).toNat = x1 at *
            generalize (s.data.toList.getD (k + 2) 0).toNat = x2 at *
            have e1 : ((s.size : Int) - (k : Int)) = 3 := by omega
            go_wp2
            go_ret
            refine ⟨ret1 ?_, HB.out⟩
            rw [HE.out]
            refine congrArg (Value.int .u32) ?_
            rw [← mix_val24, show (h : Int) + (x2 : Int) * 65536 + (x1 : Int) * 256 + (x0 : Int) = (h : Int) + ((x0 + 256 * (x1 + 256 * x2) : Nat) : Int) by omega]
end Go.Proofs.YtgegjcnjlibfdaaGreat
/- The contract of the document's own places. -/
namespace Go.Proofs.YtgegjcnjlibfdaaGreat
open Go.RowKit
def plcI (s : ByteArray) (count k : Nat) : List Int := (plc s.data.toList count k).map fun n : Nat => (n : Int)
theorem plc_succ (key : List UInt8) (count k : Nat) : plc key count (k + 1) = plc key count k ++ [atN (hashN key) k % count] := by
  simp [plc, List.range_succ]
set_option maxRecDepth 100000 in
set_option maxHeartbeats 1000000 in
theorem rplaces_any (s : ByteArray) (count probes : Nat) (w : World) (hs : s.size ≤ 140737488351232) (hc0 : 0 < count) (hc : count < 4294967296) (hp : probes ≤ 1000) :
    Calls Tryz.prog 67 #[.string s, .int .i64 (count : Int), .int .i64 (probes : Int)] w fun e w' => ∃ a c, e = .returned (.slice a probes c) ∧ OwnN w' w.heap.size a probes c (plcI s count probes) ∧ Below w.heap.size w w' := by
  obtain ⟨H, HH, hH⟩ : ∃ H : Nat, Hid (hashN s.data.toList = H) ∧ H < 4294967296 := ⟨_, rfl, hashN_lt _⟩
  have hha := fun W' => rhash_any s W' hs
  rw [HH.out] at hha
  have hne : ((count : Int) == 0) = false := by simp; omega
  go_enter Tryz.func67, Tryz.ntmps67
  go_wp2_with (go_at_call 105; refine (hha _).mono ?_; rintro e w1 ⟨rfl, hb1⟩)
  have hst := stepN_lt hH
  have HAT : Hid (∀ k, atN H (k + 1) = (atN H k + stepN H) % 4294967296) := fun k => atN_next H k
  have HA0 : Hid (atN H 0 = H) := atN_zero hH
  have HPS : Hid (∀ k, plcI s count (k + 1) = plcI s count k ++ [((atN H k % count : Nat) : Int)]) := fun k => by
    unfold plcI
    rw [plc_succ, HH.out, List.map_append]
    rfl
  rw [show (H : Int) / 131072 + (H : Int) * 32768 % 4294967296 = ((stepN H : Nat) : Int) by unfold stepN; omega]
  generalize stepN H = d at *
  generalize hF : atN H = A at *
  have HB1 : Hid (Below w.heap.size w w1) := hb1
  have HP0 : Hid (plcI s count 0 = []) := rfl
  clear hF hha hb1 HH
  go_loopw [7, 9, 10] (fun x t i wr => ∃ (k y : Nat) (a : Option Addr) (c : Nat), k ≤ probes ∧ y < 4294967296 ∧ i = .int .i64 (k : Int) ∧ x = .int .u32 (y : Int) ∧ t = .slice a k c ∧ Hid (y = A k) ∧ Hid (OwnN wr w.heap.size a k c (plcI s count k)) ∧ Hid (Below w.heap.size w wr)) (fun _ _ i _ => probes - (intOf i).toNat)
  case atStart => exact ⟨0, H, none, 0, by omega, hH, rfl, rfl, rfl, HA0.out.symm, by unfold Hid; rw [HP0.out]; exact OwnN.nil _ _, HB1.out⟩
  case round =>
    obtain ⟨k, y, a, c, hk, hy, rfl, rfl, rfl, HY, HO, HB⟩ := hrel
    by_cases hlt : k < probes
    · obtain ⟨q, hq, hqc, HQ⟩ : ∃ q : Nat, (y : Int) % (count : Int) = (q : Int) ∧ q < 4294967296 ∧ Hid (q = y % count) := ⟨y % count, by rw [Int.natCast_emod], by have := Nat.mod_lt y hc0; omega, rfl⟩
      have hin : in64 (q : Int) := by
        unfold in64
        omega
      go_wp2_with (at_builtin; refine wpList_pushN wr rfl _ _ rfl w.heap.size a k c _ rfl HO.out (q : Int) hin rfl (by omega) HB.out.size ?_; intro g3 c3 w3 ho3 hg3)
      go_roundw
      case rel =>
        refine ⟨k + 1, (y + d) % 4294967296, _, _, by omega, Nat.mod_lt _ (by omega), by go_num, by go_num, rfl, ?_, ?_, ?_⟩
        · unfold Hid
          rw [HAT.out, HY.out]
        · unfold Hid
          rw [HPS.out, ← HY.out, ← HQ.out]
          exact ho3
        · exact (HB.out.alloc HB.out.size _).trans ((Below.refl w.heap.size _).grown hg3 (by have := HB.out.size; simp; omega) (fun x e => HO.out.ge e))
      case measure => simp [intOf]; omega
    · obtain rfl : k = probes := by omega
      go_wp2
      go_ret
      exact ⟨a, c, rfl, HO.out, HB.out⟩
end Go.Proofs.YtgegjcnjlibfdaaGreat
/- The contract of the document's own May: for filters whose bits a number of 32 bits counts. -/
namespace Go.Proofs.YtgegjcnjlibfdaaGreat
open Go.RowKit
theorem shr_bitF : ∀ c : Fin 256, ∀ k : Fin 8, ((((c.val : Nat) : Int) / 2 ^ k.val).tmod 2 == 0) = !(c.val.testBit k.val) := by decide +kernel
theorem shr_bit (c k : Nat) (hc : c < 256) (hk : k < 8) : (((c : Int) / 2 ^ k).tmod 2 == 0) = !(c.testBit k) := shr_bitF ⟨c, hc⟩ ⟨k, hk⟩
theorem plcI_get (s : ByteArray) (count probes k : Nat) (hk : k < probes) : (plcI s count probes).getD k 0 = (((plc s.data.toList count probes).getD k 0 : Nat) : Int) := by
  simp [plcI, plc, List.getD, hk]
set_option maxRecDepth 100000 in
set_option maxHeartbeats 1000000 in
theorem rmay_range (a : Option Addr) (m cap : Nat) (bs : List UInt8) (s : ByteArray) (w : World) (h : BsAt w a (m + 1) cap bs) (hm : 1 ≤ m) (hl : 8 * m < 4294967296) (hs : s.size ≤ 140737488351232) (pr : Nat) (hpr : (bs.getD m 0).toNat = pr) (hp : pr ≤ 30) :
    Calls Tryz.prog 52 #[.slice a ((m + 1 : Nat)) cap, .string s] w fun e w' => e = .returned (.bool ((plc s.data.toList (8 * m) pr).all fun p => bitAt bs p)) ∧ Below w.heap.size w w' := by
  obtain ⟨b, off, rfl, hc⟩ := h.here (by omega)
  have HC : Hid (∀ j, j < m + 1 → w.cell? ⟨b, off + j, none⟩ = some (.int .u8 ((bs.getD j 0).toNat : Int))) := hc
  have hlast := hc m (by omega)
  rw [hpr] at hlast
  have hbl : b < w.heap.size := World.block_lt_of_cell? w _ hlast
  have hcap := h.le
  have hmax := h.max
  unfold maxLen at hmax
  clear h hc hpr
  have hrp := fun W => rplaces_any s (8 * m) pr W hs (by omega) hl (by omega)
  rw [show ((8 * m : Nat) : Int) = 8 * (m : Int) by omega] at hrp
  have HPI : Hid (∀ k, k < pr → (plcI s (8 * m) pr).getD k 0 = (((plc s.data.toList (8 * m) pr).getD k 0 : Nat) : Int)) := fun k hk => plcI_get s _ _ k hk
  have HPL : Hid (∀ k, k < pr → (plc s.data.toList (8 * m) pr).getD k 0 < 8 * m) := fun k hk => by
    have hl : k < (plc s.data.toList (8 * m) pr).length := by simp [plc, hk]
    have := plc_lt s.data.toList (count := 8 * m) (probes := pr) (by omega) _ (List.getElem_mem hl)
    simpa [List.getD, hl] using this
  have HLN : Hid ((plc s.data.toList (8 * m) pr).length = pr) := by simp [Hid, plc]
  generalize plc s.data.toList (8 * m) pr = PL at *
  go_enter Tryz.func52, Tryz.ntmps52
  go_wp2_with (go_at_call 67; refine (hrp _).mono ?_; rintro e w1 ⟨a1, c1, rfl, ho1, hb1⟩)
  have HIS : Hid (IsAt w1 a1 pr c1 (plcI s (8 * m) pr)) := ho1.is
  have HB1 : Hid (Below w.heap.size w w1) := hb1
  clear ho1 hb1 hrp
  go_loopw [8] (fun i wr => ∃ k : Nat, k ≤ pr ∧ i = .int .i64 (k : Int) ∧ Hid (Below w1.heap.size w1 wr) ∧ Hid (∀ p ∈ PL.take k, bitAt bs p = true)) (fun i _ => pr - (intOf i).toNat)
  case atStart => exact ⟨0, by omega, rfl, Below.refl _ _, by simp [Hid]⟩
  case round =>
    obtain ⟨k, hk, rfl, HB, HT⟩ := hrel
    by_cases hlt : k < pr
    · obtain ⟨b1, o1, rfl, hc1⟩ := HIS.out.here (by omega)
      have y1 := hc1 k hlt
      rw [HPI.out k hlt] at y1
      have hp8 := HPL.out k hlt
      have z1 : wr.cell? ⟨b1, o1 + k, none⟩ = some (.int .i64 ((PL.getD k 0 : Nat) : Int)) := by rw [HB.out.cell (World.block_lt_of_cell? w1 _ y1)]; exact y1
      have hle1 := HIS.out.le
      have hmx1 := HIS.out.max
      unfold maxLen at hmx1
      have HTS : Hid (PL.take (k + 1) = PL.take k ++ [PL.getD k 0]) := by
        unfold Hid
        rw [List.take_succ_eq_append_getElem (by rw [HLN.out]; exact hlt)]
        simp [List.getD, HLN.out, hlt]
      have HIN : Hid (PL.getD k 0 ∈ PL) := by
        have hl : k < PL.length := by rw [HLN.out]; exact hlt
        simp [Hid, List.getD, hl]
      generalize PL.getD k 0 = p at *
      have hq : p / 8 < m := by omega
      have z2 : wr.cell? ⟨b, off + p / 8, none⟩ = some (.int .u8 ((bs.getD (p / 8) 0).toNat : Int)) := by
        rw [(HB1.out.trans (HB.out.mono HB1.out.size)).cell hbl]
        exact HC.out _ (by omega)
      have hc8 : (bs.getD (p / 8) 0).toNat < 256 := UInt8.toNat_lt _
      have hbit := shr_bit _ (p % 8) hc8 (Nat.mod_lt _ (by omega))
      rw [show (bs.getD (p / 8) 0).toNat.testBit (p % 8) = bitAt bs p from rfl] at hbit
      generalize (bs.getD (p / 8) 0).toNat = c at *
      clear hc1 y1
      cases ht : bitAt bs p with
      | true =>
        rw [ht, Bool.not_true] at hbit
        have HBT : Hid (bitAt bs p = true) := ht
        clear ht
        go_wp2
        go_quiet (fail)
        go_wp2
        refine ⟨⟨k + 1, by omega, rfl, below_dn HB.out _, ?_⟩, ?_⟩
        · intro q hqm
          rw [HTS.out] at hqm
          rcases List.mem_append.1 hqm with hqm | hqm
          · exact HT.out q hqm
          · rw [List.mem_singleton.1 hqm]
            exact HBT.out
        · simp [intOf]
          omega
      | false =>
        rw [ht, Bool.not_false] at hbit
        have HR : Hid ((PL.all fun p => bitAt bs p) = false) := by
          unfold Hid
          rw [List.all_eq_false]
          exact ⟨p, HIN.out, by rw [ht]; simp⟩
        clear ht
        go_wp2
        go_quiet (fail)
        go_wp2
        go_ret
        exact ⟨ret1 (by rw [HR.out]; rfl), below_dn (HB1.out.trans (HB.out.mono HB1.out.size)) _⟩
    · obtain rfl : k = pr := by omega
      have HR : Hid ((PL.all fun p => bitAt bs p) = true) := by
        unfold Hid
        rw [List.all_eq_true]
        have := HT.out
        rw [List.take_of_length_le (by rw [HLN.out]; exact Nat.le_refl _)] at this
        exact this
      go_wp2
      go_ret
      exact ⟨ret1 (by rw [HR.out]; rfl), HB1.out.trans (HB.out.mono HB1.out.size)⟩
set_option maxRecDepth 100000 in
set_option maxHeartbeats 400000 in
theorem rmay_short (a : Option Addr) (len cap : Nat) (s : ByteArray) (w : World) (hl : len < 2) :
    Calls Tryz.prog 52 #[.slice a len cap, .string s] w fun e w' => e = .returned (.bool true) ∧ Below w.heap.size w w' := by
  go_enter Tryz.func52, Tryz.ntmps52
  go_wp2
  go_ret
  exact ⟨rfl, Below.refl _ _⟩
set_option maxRecDepth 100000 in
set_option maxHeartbeats 400000 in
theorem rmay_many (a : Option Addr) (m cap : Nat) (bs : List UInt8) (s : ByteArray) (w : World) (h : BsAt w a (m + 1) cap bs) (hl : m + 1 ≤ 140737488355328) (h1 : 1 ≤ m) (pr : Nat) (hpr : (bs.getD m 0).toNat = pr) (hp : 30 < pr) :
    Calls Tryz.prog 52 #[.slice a ((m + 1 : Nat)) cap, .string s] w fun e w' => e = .returned (.bool true) ∧ Below w.heap.size w w' := by
  obtain ⟨b, off, rfl, hc⟩ := h.here (by omega)
  have hlast := hc m (by omega)
  rw [hpr] at hlast
  have h256 : pr < 256 := by rw [← hpr]; exact UInt8.toNat_lt _
  have hcap := h.le
  have hmax := h.max
  unfold maxLen at hmax
  clear h hc hpr
  go_enter Tryz.func52, Tryz.ntmps52
  go_wp2
  go_ret
  exact ⟨rfl, Below.refl _ _⟩
/-- The document's own answer, for filters of less than 2^32 bits. -/
theorem rmay_any (a : Option Addr) (len cap : Nat) (bs : List UInt8) (s : ByteArray) (w : World) (h : BsAt w a len cap bs) (hl : len ≤ 536870912) (hs : s.size ≤ 140737488351232) :
    Calls Tryz.prog 52 #[.slice a len cap, .string s] w fun e w' => e = .returned (.bool (mayN bs s.data.toList)) ∧ Below w.heap.size w w' := by
  have hz := h.size
  by_cases h2 : len < 2
  · have e : mayN bs s.data.toList = true := by unfold mayN; rw [decide_eq_true (by omega)]; simp
    rw [e]
    exact rmay_short a len cap s w h2
  · obtain ⟨m, rfl⟩ : ∃ m, len = m + 1 := ⟨len - 1, by omega⟩
    have e : mayN bs s.data.toList = (decide ((bs.getD m 0).toNat < 1) || decide (30 < (bs.getD m 0).toNat) || (plc s.data.toList (8 * m) (bs.getD m 0).toNat).all fun p => bitAt bs p) := by
      unfold mayN
      rw [hz, decide_eq_false (by omega), Bool.false_or, Nat.add_sub_cancel]
    rw [e]
    by_cases hp : 30 < (bs.getD m 0).toNat
    · rw [decide_eq_true hp, Bool.or_true, Bool.true_or]
      exact rmay_many a m cap bs s w h (by omega) (by omega) _ rfl hp
    · rw [decide_eq_false hp, Bool.or_false]
      have hr := rmay_range a m cap bs s w h (by omega) (by omega) hs _ rfl (by omega)
      by_cases h0 : (bs.getD m 0).toNat < 1
      · have e0 : (plc s.data.toList (8 * m) (bs.getD m 0).toNat) = [] := by
          rw [show (bs.getD m 0).toNat = 0 by omega]
          rfl
        rw [e0] at hr ⊢
        rw [decide_eq_true h0, Bool.true_or]
        exact hr
      · rw [decide_eq_false h0, Bool.false_or]
        exact hr
end Go.Proofs.YtgegjcnjlibfdaaGreat
