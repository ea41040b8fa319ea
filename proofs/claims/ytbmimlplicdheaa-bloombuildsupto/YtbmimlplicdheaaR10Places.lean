/- The contract of the document's own places. -/
import Derived.Test.YtbmimlplicdheaaR10Hash
import Derived.Test.YtbmimlplicdheaaS7Rows
namespace Go.Proofs.Ytbmimlplicdheaa
open Go.RowKit
def plcI (s : ByteArray) (count k : Nat) : List Int := (plc s.data.toList count k).map fun n : Nat => (n : Int)
theorem plc_succ (key : List UInt8) (count k : Nat) : plc key count (k + 1) = plc key count k ++ [atN (hashN key) k % count] := by
  simp [plc, List.range_succ]
set_option maxRecDepth 100000 in
set_option maxHeartbeats 1000000 in
theorem rplaces_any (s : ByteArray) (count probes : Nat) (w : World) (hs : s.size ≤ 140737488351232) (hc0 : 0 < count) (hc : count < 4294967296) (hp : probes ≤ 1000) :
    Calls Try.prog 18 #[.string s, .int .i64 (count : Int), .int .i64 (probes : Int)] w fun e w' => ∃ a c, e = .returned (.slice a probes c) ∧ OwnN w' w.heap.size a probes c (plcI s count probes) ∧ Below w.heap.size w w' := by
  obtain ⟨H, HH, hH⟩ : ∃ H : Nat, Hid (hashN s.data.toList = H) ∧ H < 4294967296 := ⟨_, rfl, hashN_lt _⟩
  have hha := fun W' => rhash_any s W' hs
  rw [HH.out] at hha
  have hne : ((count : Int) == 0) = false := by simp; omega
  go_enter Try.func18, Try.ntmps18
  go_wp2_with (go_at_call 12; refine (hha _).mono ?_; rintro e w1 ⟨rfl, hb1⟩)
  have hst := stepN_lt hH
  have HAT : Hid (∀ k, atN H (k + 1) = (atN H k + stepN H) % 4294967296) := fun k => atN_next H k
  have HA0 : Hid (atN H 0 = H) := atN_zero hH
  have HPS : Hid (∀ k, plcI s count (k + 1) = plcI s count k ++ [((atN H k % count : Nat) : Int)]) := fun k => by
    unfold plcI
    rw [plc_succ, HH.out, List.map_append]
    rfl
  rw [show (H : Int) / 131072 + (H : Int) * 32768 % 4294967296 = ((stepN H : Nat) : Int) by unfold stepN; omega]
  generalize stepN H = d at *
  generalize hF : atN H = A at *
  have HB1 : Hid (Below w.heap.size w w1) := hb1
  have HP0 : Hid (plcI s count 0 = []) := rfl
  clear hF hha hb1 HH
  go_loopw [7, 9, 10] (fun x t i wr => ∃ (k y : Nat) (a : Option Addr) (c : Nat), k ≤ probes ∧ y < 4294967296 ∧ i = .int .i64 (k : Int) ∧ x = .int .u32 (y : Int) ∧ t = .slice a k c ∧ Hid (y = A k) ∧ Hid (OwnN wr w.heap.size a k c (plcI s count k)) ∧ Hid (Below w.heap.size w wr)) (fun _ _ i _ => probes - (intOf i).toNat)
  case atStart => exact ⟨0, H, none, 0, by omega, hH, rfl, rfl, rfl, HA0.out.symm, by unfold Hid; rw [HP0.out]; exact OwnN.nil _ _, HB1.out⟩
  case round =>
    obtain ⟨k, y, a, c, hk, hy, rfl, rfl, rfl, HY, HO, HB⟩ := hrel
    by_cases hlt : k < probes
    · obtain ⟨q, hq, hqc, HQ⟩ : ∃ q : Nat, (y : Int) % (count : Int) = (q : Int) ∧ q < 4294967296 ∧ Hid (q = y % count) := ⟨y % count, by rw [Int.natCast_emod], by have := Nat.mod_lt y hc0; omega, rfl⟩
      have hin : in64 (q : Int) := by
        unfold in64
        omega
      go_wp2_with (at_builtin; refine wpList_pushN wr rfl _ _ rfl w.heap.size a k c _ rfl HO.out (q : Int) hin rfl (by omega) HB.out.size ?_; intro g3 c3 w3 ho3 hg3)
      go_roundw
      case rel =>
        refine ⟨k + 1, (y + d) % 4294967296, _, _, by omega, Nat.mod_lt _ (by omega), by go_num, by go_num, rfl, ?_, ?_, ?_⟩
        · unfold Hid
          rw [HAT.out, HY.out]
        · unfold Hid
          rw [HPS.out, ← HY.out, ← HQ.out]
          exact ho3
        · exact (HB.out.alloc HB.out.size _).trans ((Below.refl w.heap.size _).grown hg3 (by have := HB.out.size; simp; omega) (fun x e => HO.out.ge e))
      case measure => simp [intOf]; omega
    · obtain rfl : k = probes := by omega
      go_wp2
      go_ret
      exact ⟨a, c, rfl, HO.out, HB.out⟩
end Go.Proofs.Ytbmimlplicdheaa
