/- The contract of the document's own SameNames; texts compared and cut. -/
import Derived.Test.YtkelahekfkhcfaaFsFace
namespace Go.Proofs.Ytkelahekfkhcfaa
open Go.RowKit
theorem strOf_same (x y : List UInt8) : ((strOf x).toList == (strOf y).toList) = (x == y) := by
  rw [ByteArray.toList_eq, ByteArray.toList_eq]
  simp [strOf]
theorem drop_ss (l : List (List UInt8)) (k : Nat) (h : k < l.length) : l.drop k = l.getD k [] :: l.drop (k + 1) := by
  rw [List.drop_eq_getElem_cons h]
  simp [List.getD, h]
theorem SsAt.below {B : Nat} {w w' : World} {a : Option Addr} {len cap : Nat} {l : List (List UInt8)} (h : SsAt w a len cap l) (hB : w.heap.size ≤ B) (hb : Below B w w') : SsAt w' a len cap l :=
  ⟨h.size, h.le, h.max, h.bare, fun hp => by
    obtain ⟨b, off, ha, hc⟩ := h.here hp
    refine ⟨b, off, ha, fun j hj => ?_⟩
    rw [hb.cell (Nat.lt_of_lt_of_le (World.block_lt_of_cell? w _ (hc j hj)) hB)]
    exact hc j hj⟩
set_option maxRecDepth 100000 in
set_option maxHeartbeats 1000000 in
theorem sameNames_any (a1 a2 : Option Addr) (n1 c1 n2 c2 : Nat) (l m : List (List UInt8)) (w : World) (h1 : SsAt w a1 n1 c1 l) (h2 : SsAt w a2 n2 c2 m) :
    Calls Try.prog 24 #[.slice a1 n1 c1, .slice a2 n2 c2] w fun e w' => e = .returned (.bool (l == m)) ∧ Below w.heap.size w w' := by
  have hs1 := h1.size
  have hs2 := h2.size
  have hm1 := h1.max
  have hl1 := h1.le
  have hm2 := h2.max
  have hl2 := h2.le
  unfold maxLen at hm1 hm2
  by_cases hn : n1 = n2
  · subst hn
    have H1 : Hid (SsAt w a1 n1 c1 l) := h1
    have H2 : Hid (SsAt w a2 n1 c2 m) := h2
    have HS1 : Hid (l.length = n1) := hs1
    have HS2 : Hid (m.length = n1) := hs2
    clear h1 h2 hs1 hs2
    go_enter Try.func24, Try.ntmps24
    go_wp2
    go_loopw [5] (fun i wr => ∃ k : Nat, k ≤ n1 ∧ i = .int .i64 k ∧ Hid ((l == m) = (l.drop k == m.drop k)) ∧ Hid (Below w.heap.size w wr)) (fun i _ => n1 - (intOf i).toNat)
    case atStart => exact ⟨0, Nat.zero_le _, rfl, by simp [Hid], Below.refl _ _⟩
    case round =>
      obtain ⟨k, hk, rfl, HR, HB⟩ := hrel
      by_cases hlt : k < n1
      · obtain ⟨b1, o1, rfl, hc1⟩ := (H1.out.below (Nat.le_refl _) HB.out).here (by omega)
        obtain ⟨b2, o2, rfl, hc2⟩ := (H2.out.below (Nat.le_refl _) HB.out).here (by omega)
        have p := hc1 k hlt
        have r := hc2 k hlt
        have HE : Hid ((l.drop k == m.drop k) = ((l.getD k [] == m.getD k []) && (l.drop (k + 1) == m.drop (k + 1)))) := by
          unfold Hid
          rw [drop_ss l k (by rw [HS1.out]; exact hlt), drop_ss m k (by rw [HS2.out]; exact hlt)]
          rfl
        have hq := strOf_same (l.getD k []) (m.getD k [])
        generalize l.getD k [] = x at p HE hq
        generalize m.getD k [] = y at r HE hq
        generalize strOf x = X at p hq
        generalize strOf y = Y at r hq
        clear hc1 hc2
        have hk1 : (0 : Int) ≤ (k : Int) := by omega
        have hk2 : (k : Int) < (n1 : Int) := by omega
        generalize (x == y) = E at hq HE
        cases E with
        | true =>
          go_wp2
          go_region
          go_wp2
          go_roundw
          case rel => exact ⟨k + 1, by omega, by go_num, by unfold Hid; rw [HR.out, HE.out]; rfl, HB.out.drew⟩
          case measure => simp [intOf]; omega
        | false =>
          go_wp2
          go_region
          go_wp2
          go_ret
          exact ⟨ret1 (by rw [HR.out, HE.out]; rfl), HB.out.drew⟩
      · have HE : Hid ((l == m) = true) := by
          unfold Hid
          rw [HR.out, List.drop_eq_nil_of_le (by rw [HS1.out]; omega), List.drop_eq_nil_of_le (by rw [HS2.out]; omega)]
          rfl
        go_wp2
        go_ret
        rw [HE.out]
        exact ⟨ret1 rfl, HB.out⟩
  · have HE : Hid ((l == m) = false) := by
      unfold Hid
      rw [beq_eq_false_iff_ne]
      intro e
      rw [e] at hs1
      omega
    have hn' : ((n1 : Int) != (n2 : Int)) = true := by simp; omega
    clear h1 h2 hs1 hs2
    go_enter Try.func24, Try.ntmps24
    go_wp2
    go_ret
    rw [HE.out]
    exact ⟨ret1 rfl, Below.refl _ _⟩
/-- The first letters of a text. -/
theorem slice_str (S : ByteArray) (n : Nat) (hn : n ≤ S.size) (W : World) : (Instr.slice 9 (.string S) none (some (.int .i64 (n : Int))) none).run Try.prog W = .ok (.string (strOf (S.data.toList.take n))) W := by
  simp [Instr.slice, run_underlying Try.underlying9, go_sem]
  rw [if_pos hn]
  have e : S.extract 0 n = strOf (S.data.toList.take n) := by
    apply ByteArray.ext
    rw [ByteArray.data_extract]
    apply Array.ext'
    simp [strOf]
  rw [e]
end Go.Proofs.Ytkelahekfkhcfaa
