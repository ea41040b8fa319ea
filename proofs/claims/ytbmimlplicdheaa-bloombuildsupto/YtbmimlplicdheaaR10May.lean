/- The contract of the document's own May: for filters whose bits a number of 32 bits counts. -/
import Derived.Test.YtbmimlplicdheaaR10Places
import Derived.Test.YtbmimlplicdheaaOwn
namespace Go.Proofs.Ytbmimlplicdheaa
open Go.RowKit
theorem shr_bitF : ∀ c : Fin 256, ∀ k : Fin 8, ((((c.val : Nat) : Int) / 2 ^ k.val).tmod 2 == 0) = !(c.val.testBit k.val) := by decide +kernel
theorem shr_bit (c k : Nat) (hc : c < 256) (hk : k < 8) : (((c : Int) / 2 ^ k).tmod 2 == 0) = !(c.testBit k) := shr_bitF ⟨c, hc⟩ ⟨k, hk⟩
theorem plcI_get (s : ByteArray) (count probes k : Nat) (hk : k < probes) : (plcI s count probes).getD k 0 = (((plc s.data.toList count probes).getD k 0 : Nat) : Int) := by
  simp [plcI, plc, List.getD, hk]
set_option maxRecDepth 100000 in
set_option maxHeartbeats 1000000 in
theorem rmay_range (a : Option Addr) (m cap : Nat) (bs : List UInt8) (s : ByteArray) (w : World) (h : BsAt w a (m + 1) cap bs) (hm : 1 ≤ m) (hl : 8 * m < 4294967296) (hs : s.size ≤ 140737488351232) (pr : Nat) (hpr : (bs.getD m 0).toNat = pr) (hp : pr ≤ 30) :
    Calls Try.prog 14 #[.slice a ((m + 1 : Nat)) cap, .string s] w fun e w' => e = .returned (.bool ((plc s.data.toList (8 * m) pr).all fun p => bitAt bs p)) ∧ Below w.heap.size w w' := by
  obtain ⟨b, off, rfl, hc⟩ := h.here (by omega)
  have HC : Hid (∀ j, j < m + 1 → w.cell? ⟨b, off + j, none⟩ = some (.int .u8 ((bs.getD j 0).toNat : Int))) := hc
  have hlast := hc m (by omega)
  rw [hpr] at hlast
  have hbl : b < w.heap.size := World.block_lt_of_cell? w _ hlast
  have hcap := h.le
  have hmax := h.max
  unfold maxLen at hmax
  clear h hc hpr
  have hrp := fun W => rplaces_any s (8 * m) pr W hs (by omega) hl (by omega)
  rw [show ((8 * m : Nat) : Int) = 8 * (m : Int) by omega] at hrp
  have HPI : Hid (∀ k, k < pr → (plcI s (8 * m) pr).getD k 0 = (((plc s.data.toList (8 * m) pr).getD k 0 : Nat) : Int)) := fun k hk => plcI_get s _ _ k hk
  have HPL : Hid (∀ k, k < pr → (plc s.data.toList (8 * m) pr).getD k 0 < 8 * m) := fun k hk => by
    have hl : k < (plc s.data.toList (8 * m) pr).length := by simp [plc, hk]
    have := plc_lt s.data.toList (count := 8 * m) (probes := pr) (by omega) _ (List.getElem_mem hl)
    simpa [List.getD, hl] using this
  have HLN : Hid ((plc s.data.toList (8 * m) pr).length = pr) := by simp [Hid, plc]
  generalize plc s.data.toList (8 * m) pr = PL at *
  go_enter Try.func14, Try.ntmps14
  go_wp2_with (go_at_call 18; refine (hrp _).mono ?_; rintro e w1 ⟨a1, c1, rfl, ho1, hb1⟩)
  have HIS : Hid (IsAt w1 a1 pr c1 (plcI s (8 * m) pr)) := ho1.is
  have HB1 : Hid (Below w.heap.size w w1) := hb1
  clear ho1 hb1 hrp
  go_loopw [8] (fun i wr => ∃ k : Nat, k ≤ pr ∧ i = .int .i64 (k : Int) ∧ Hid (Below w1.heap.size w1 wr) ∧ Hid (∀ p ∈ PL.take k, bitAt bs p = true)) (fun i _ => pr - (intOf i).toNat)
  case atStart => exact ⟨0, by omega, rfl, Below.refl _ _, by simp [Hid]⟩
  case round =>
    obtain ⟨k, hk, rfl, HB, HT⟩ := hrel
    by_cases hlt : k < pr
    · obtain ⟨b1, o1, rfl, hc1⟩ := HIS.out.here (by omega)
      have y1 := hc1 k hlt
      rw [HPI.out k hlt] at y1
      have hp8 := HPL.out k hlt
      have z1 : wr.cell? ⟨b1, o1 + k, none⟩ = some (.int .i64 ((PL.getD k 0 : Nat) : Int)) := by rw [HB.out.cell (World.block_lt_of_cell? w1 _ y1)]; exact y1
      have hle1 := HIS.out.le
      have hmx1 := HIS.out.max
      unfold maxLen at hmx1
      have HTS : Hid (PL.take (k + 1) = PL.take k ++ [PL.getD k 0]) := by
        unfold Hid
        rw [List.take_succ_eq_append_getElem (by rw [HLN.out]; exact hlt)]
        simp [List.getD, HLN.out, hlt]
      have HIN : Hid (PL.getD k 0 ∈ PL) := by
        have hl : k < PL.length := by rw [HLN.out]; exact hlt
        simp [Hid, List.getD, hl]
      generalize PL.getD k 0 = p at *
      have hq : p / 8 < m := by omega
      have z2 : wr.cell? ⟨b, off + p / 8, none⟩ = some (.int .u8 ((bs.getD (p / 8) 0).toNat : Int)) := by
        rw [(HB1.out.trans (HB.out.mono HB1.out.size)).cell hbl]
        exact HC.out _ (by omega)
      have hc8 : (bs.getD (p / 8) 0).toNat < 256 := UInt8.toNat_lt _
      have hbit := shr_bit _ (p % 8) hc8 (Nat.mod_lt _ (by omega))
      rw [show (bs.getD (p / 8) 0).toNat.testBit (p % 8) = bitAt bs p from rfl] at hbit
      generalize (bs.getD (p / 8) 0).toNat = c at *
      clear hc1 y1
      cases ht : bitAt bs p with
      | true =>
        rw [ht, Bool.not_true] at hbit
        have HBT : Hid (bitAt bs p = true) := ht
        clear ht
        go_wp2
        go_quiet (fail)
        go_wp2
        refine ⟨⟨k + 1, by omega, rfl, below_dn HB.out _, ?_⟩, ?_⟩
        · intro q hqm
          rw [HTS.out] at hqm
          rcases List.mem_append.1 hqm with hqm | hqm
          · exact HT.out q hqm
          · rw [List.mem_singleton.1 hqm]
            exact HBT.out
        · simp [intOf]
          omega
      | false =>
        rw [ht, Bool.not_false] at hbit
        have HR : Hid ((PL.all fun p => bitAt bs p) = false) := by
          unfold Hid
          rw [List.all_eq_false]
          exact ⟨p, HIN.out, by rw [ht]; simp⟩
        clear ht
        go_wp2
        go_quiet (fail)
        go_wp2
        go_ret
        exact ⟨ret1 (by rw [HR.out]; rfl), below_dn (HB1.out.trans (HB.out.mono HB1.out.size)) _⟩
    · obtain rfl : k = pr := by omega
      have HR : Hid ((PL.all fun p => bitAt bs p) = true) := by
        unfold Hid
        rw [List.all_eq_true]
        have := HT.out
        rw [List.take_of_length_le (by rw [HLN.out]; exact Nat.le_refl _)] at this
        exact this
      go_wp2
      go_ret
      exact ⟨ret1 (by rw [HR.out]; rfl), HB1.out.trans (HB.out.mono HB1.out.size)⟩
set_option maxRecDepth 100000 in
set_option maxHeartbeats 400000 in
theorem rmay_short (a : Option Addr) (len cap : Nat) (s : ByteArray) (w : World) (hl : len < 2) :
    Calls Try.prog 14 #[.slice a len cap, .string s] w fun e w' => e = .returned (.bool true) ∧ Below w.heap.size w w' := by
  go_enter Try.func14, Try.ntmps14
  go_wp2
  go_ret
  exact ⟨rfl, Below.refl _ _⟩
set_option maxRecDepth 100000 in
set_option maxHeartbeats 400000 in
theorem rmay_many (a : Option Addr) (m cap : Nat) (bs : List UInt8) (s : ByteArray) (w : World) (h : BsAt w a (m + 1) cap bs) (hl : m + 1 ≤ 140737488355328) (h1 : 1 ≤ m) (pr : Nat) (hpr : (bs.getD m 0).toNat = pr) (hp : 30 < pr) :
    Calls Try.prog 14 #[.slice a ((m + 1 : Nat)) cap, .string s] w fun e w' => e = .returned (.bool true) ∧ Below w.heap.size w w' := by
  obtain ⟨b, off, rfl, hc⟩ := h.here (by omega)
  have hlast := hc m (by omega)
  rw [hpr] at hlast
  have h256 : pr < 256 := by rw [← hpr]; exact UInt8.toNat_lt _
  have hcap := h.le
  have hmax := h.max
  unfold maxLen at hmax
  clear h hc hpr
  go_enter Try.func14, Try.ntmps14
  go_wp2
  go_ret
  exact ⟨rfl, Below.refl _ _⟩
/-- The document's own answer, for filters of less than 2^32 bits. -/
theorem rmay_any (a : Option Addr) (len cap : Nat) (bs : List UInt8) (s : ByteArray) (w : World) (h : BsAt w a len cap bs) (hl : len ≤ 536870912) (hs : s.size ≤ 140737488351232) :
    Calls Try.prog 14 #[.slice a len cap, .string s] w fun e w' => e = .returned (.bool (mayN bs s.data.toList)) ∧ Below w.heap.size w w' := by
  have hz := h.size
  by_cases h2 : len < 2
  · have e : mayN bs s.data.toList = true := by unfold mayN; rw [decide_eq_true (by omega)]; simp
    rw [e]
    exact rmay_short a len cap s w h2
  · obtain ⟨m, rfl⟩ : ∃ m, len = m + 1 := ⟨len - 1, by omega⟩
    have e : mayN bs s.data.toList = (decide ((bs.getD m 0).toNat < 1) || decide (30 < (bs.getD m 0).toNat) || (plc s.data.toList (8 * m) (bs.getD m 0).toNat).all fun p => bitAt bs p) := by
      unfold mayN
      rw [hz, decide_eq_false (by omega), Bool.false_or, Nat.add_sub_cancel]
    rw [e]
    by_cases hp : 30 < (bs.getD m 0).toNat
    · rw [decide_eq_true hp, Bool.or_true, Bool.true_or]
      exact rmay_many a m cap bs s w h (by omega) (by omega) _ rfl hp
    · rw [decide_eq_false hp, Bool.or_false]
      have hr := rmay_range a m cap bs s w h (by omega) (by omega) hs _ rfl (by omega)
      by_cases h0 : (bs.getD m 0).toNat < 1
      · have e0 : (plc s.data.toList (8 * m) (bs.getD m 0).toNat) = [] := by
          rw [show (bs.getD m 0).toNat = 0 by omega]
          rfl
        rw [e0] at hr ⊢
        rw [decide_eq_true h0, Bool.true_or]
        exact hr
      · rw [decide_eq_false h0, Bool.false_or]
        exact hr
end Go.Proofs.Ytbmimlplicdheaa
