/- The contracts of the document's own Same, where both lists read alike, and of the statements' own laid. -/
import Derived.Test.YtdhfimolgcnejaaW9Out
import Derived.Test.YtdhfimolgcnejaaW9Log
import Derived.BigQuiet
namespace Go.Proofs.Ytdhfimolgcnejaa
open Go.RowKit

theorem below_drewN {B : Nat} {w w' : World} (h : Below B w w') (d : Nat) : Below B w (w'.drewN d) := ⟨h.os, h.tape, h.output, h.size, h.block⟩
set_option maxRecDepth 100000 in
set_option maxHeartbeats 1000000 in
theorem same_true (a1 : Option Addr) (n c1 : Nat) (a2 : Option Addr) (c2 : Nat) (rs : List (List UInt8)) (w : World) (h1 : RsAt w a1 n c1 rs) (h2 : RsAt w a2 n c2 rs) :
    Calls Try.prog 14 #[.slice a1 n c1, .slice a2 n c2] w fun e w' => e = .returned (.bool true) ∧ Below w.heap.size w w' := by
  have hm := h1.max
  have hle := h1.le
  unfold maxLen at hm
  have H1 : Hid (RsAt w a1 n c1 rs) := h1
  have H2 : Hid (RsAt w a2 n c2 rs) := h2
  clear h1 h2
  go_enter Try.func14, Try.ntmps14
  go_wp2
  go_loopw [5] (fun i wr => ∃ k : Nat, k ≤ n ∧ i = .int .i64 (k : Int) ∧ Hid (Below w.heap.size w wr)) (fun i _ => n - (intOf i).toNat)
  case atStart => exact ⟨0, Nat.zero_le _, rfl, Below.refl _ _⟩
  case round =>
    obtain ⟨k, hk, rfl, HB⟩ := hrel
    by_cases hlt : k < n
    · obtain ⟨b1, o1, rfl, hc1⟩ := H1.out.here (by omega)
      obtain ⟨b2, o2, rfl, hc2⟩ := H2.out.here (by omega)
      obtain ⟨x1, y1, e1, hb1⟩ := hc1 k hlt
      obtain ⟨x2, y2, e2, hb2⟩ := hc2 k hlt
      have g1 : wr.cell? ⟨b1, o1 + k, none⟩ = some (.slice x1 (rs.getD k []).length y1) := by rw [HB.out.cell (World.block_lt_of_cell? w _ e1)]; exact e1
      have g2 : wr.cell? ⟨b2, o2 + k, none⟩ = some (.slice x2 (rs.getD k []).length y2) := by rw [HB.out.cell (World.block_lt_of_cell? w _ e2)]; exact e2
      have s1 : ∀ m, (convert 23 9 (.slice x1 (rs.getD k []).length y1)).run Try.prog (wr.drewN m) = .ok (.string (strOf (rs.getD k []))) (wr.drewN m) := fun m => conv_of (hb1.below (Nat.le_refl _) (below_drewN HB.out m))
      have s2 : ∀ m, (convert 23 9 (.slice x2 (rs.getD k []).length y2)).run Try.prog (wr.drewN m) = .ok (.string (strOf (rs.getD k []))) (wr.drewN m) := fun m => conv_of (hb2.below (Nat.le_refl _) (below_drewN HB.out m))
      generalize rs.getD k [] = rk at g1 g2 s1 s2
      generalize rk.length = lk at g1 g2 s1 s2
      have hki : (k : Int) < (n : Int) := by omega
      clear hc1 hc2 e1 e2 hb1 hb2
      go_wp2_with fail
      go_quiet (fail)
      go_wp2
      go_roundw
      case rel => exact ⟨k + 1, by omega, by go_num, below_drewN HB.out _⟩
      case measure => simp [intOf]; omega
    · obtain rfl : k = n := by omega
      go_wp2
      go_ret
      exact ⟨rfl, HB.out⟩

theorem take_snocL (rs : List (List UInt8)) (k : Nat) (h : k < rs.length) : rs.take (k + 1) = rs.take k ++ [rs.getD k []] := by
  rw [List.take_succ_eq_append_getElem h]
  simp [List.getD, h]
/-- What laid leaves. -/
def LaidEnd (w : World) (rs : List (List UInt8)) (e : Ending) (w' : World) : Prop :=
  (∃ a' c', (∀ j, j < rs.length → (rs.getD j []).length ≤ 131072) ∧ e = .returned (.tuple #[.slice a' (logFrom [] rs).length c', .bool true]) ∧ OwnB w' w.heap.size a' (logFrom [] rs).length c' (logFrom [] rs) ∧ (logFrom [] rs).length ≤ 139000 * rs.length ∧ Below w.heap.size w w') ∨
  ((∃ j, j < rs.length ∧ 131072 < (rs.getD j []).length) ∧ e = .returned (.tuple #[.slice none 0 0, .bool false]) ∧ Below w.heap.size w w')
set_option maxRecDepth 100000 in
set_option maxHeartbeats 1000000 in
theorem laid_any (a : Option Addr) (n c : Nat) (rs : List (List UInt8)) (w : World) (h : RsAt w a n c rs) (hn : n ≤ 30) :
    Calls Try.prog 15 #[.slice a n c] w (LaidEnd w rs) := by
  have hle := h.le
  have HN : Hid (rs.length = n) := h.size
  have H : Hid (RsAt w a n c rs) := h
  clear h
  go_enter Try.func15, Try.ntmps15
  go_wp2
  go_loopw [4, 5] (fun v i wr => ∃ (a3 : Option Addr) (c3 L k : Nat), k ≤ n ∧ L ≤ 139000 * k ∧ v = .slice a3 L c3 ∧ i = .int .i64 (k : Int) ∧ Hid (L = (logFrom [] (rs.take k)).length) ∧ Hid (OwnB wr w.heap.size a3 L c3 (logFrom [] (rs.take k))) ∧ Hid (Below w.heap.size w wr) ∧ Hid (∀ j, j < k → (rs.getD j []).length ≤ 131072)) (fun _ i _ => n - (intOf i).toNat)
  case atStart => exact ⟨none, 0, 0, 0, Nat.zero_le _, Nat.zero_le _, rfl, rfl, rfl, OwnB.nilAt _ _, Below.refl _ _, fun j hj => absurd hj (Nat.not_lt_zero _)⟩
  case round =>
    obtain ⟨a3, c3, L, k, hk, hL, rfl, rfl, HL, HO, HB, HA⟩ := hrel
    by_cases hlt : k < n
    · obtain ⟨bb, off, rfl, hc⟩ := H.out.here (by omega)
      obtain ⟨aj, cj, e1, hb1⟩ := hc k hlt
      have g1 : wr.cell? ⟨bb, off + k, none⟩ = some (.slice aj (rs.getD k []).length cj) := by rw [HB.out.cell (World.block_lt_of_cell? w _ e1)]; exact e1
      have HBk : Hid (BsAt wr aj (rs.getD k []).length cj (rs.getD k [])) := hb1.below (Nat.le_refl _) HB.out
      have HT : Hid (rs.take (k + 1) = rs.take k ++ [rs.getD k []]) := take_snocL rs k (by rw [HN.out]; exact hlt)
      obtain ⟨rk, HRK⟩ : ∃ rk, Hid (rs.getD k [] = rk) := ⟨_, rfl⟩
      rw [HRK.out] at g1 HBk HT
      obtain ⟨lk, HLK⟩ : ∃ lk, Hid (rk.length = lk) := ⟨_, rfl⟩
      rw [HLK.out] at g1 HBk
      clear hc e1 hb1
      by_cases hgr : lk ≤ 131072
      · obtain ⟨P, HP⟩ : ∃ P, Hid (putP L true rk = P) := ⟨_, rfl⟩
        obtain ⟨pl, HPL⟩ : ∃ pl, Hid (P.length = pl) := ⟨_, rfl⟩
        have hpl : pl ≤ 139000 := by
          have := put_short L rk
          rw [HP.out, HPL.out, HLK.out] at this
          omega
        go_wp2_with fail
        refine (put_at L aj lk cj rk _ HBk.out (by omega) hgr).mono ?_
        rintro e w1 ⟨a4, c4, rfl, ho4, hb4⟩
        rw [HP.out, HPL.out] at ho4 ⊢
        have HO1 : Hid (OwnB w1 w.heap.size a3 L c3 (logFrom [] (rs.take k))) := HO.out.below hb4
        have HB1 : Hid (Below w.heap.size w w1) := HB.out.trans (hb4.mono HB.out.size)
        have HP1 : Hid (BsAt w1 a4 pl c4 P) := ho4.bs
        clear ho4 hb4
        go_wp2_with (at_builtin; refine wpList_app _ rfl _ _ rfl w.heap.size _ _ _ (logFrom [] (rs.take k)) rfl HO1.out _ _ _ P rfl HP1.out (by omega) HB1.out.size ?_)
        intro a5 c5 w5 ho5 hb5 _
        have HO5 : Hid _ := ho5
        have HB5 : Hid (Below w.heap.size w w5) := HB1.out.trans hb5
        clear ho5 hb5
        go_wp2
        go_roundw
        case rel =>
          have hlog : logFrom [] (rs.take (k + 1)) = logFrom [] (rs.take k) ++ P := by rw [HT.out, logFrom_snoc, ← HL.out, HP.out]
          refine ⟨a5, c5, L + pl, k + 1, by omega, by omega, rfl, by go_num, ?_, ?_, HB5.out, ?_⟩
          · unfold Hid
            rw [hlog, List.length_append, ← HL.out, HPL.out]
          · unfold Hid
            rw [hlog]
            exact HO5.out
          · intro j hj
            by_cases he : j = k
            · rw [he, HRK.out, HLK.out]
              exact hgr
            · exact HA.out j (by omega)
        case measure => simp [intOf]; omega
      · go_wp2_with fail
        refine (put_great (L : Int) aj lk cj _ (by omega) (by omega)).mono ?_
        rintro e w1 ⟨rfl, rfl⟩
        go_wp2
        go_ret2
        exact .inr ⟨⟨k, by rw [HN.out]; exact hlt, by rw [HRK.out, HLK.out]; omega⟩, rfl, HB.out⟩
    · obtain rfl : k = n := by omega
      have ht : rs.take k = rs := List.take_of_length_le (by rw [HN.out]; exact Nat.le_refl _)
      rw [ht] at HL HO
      go_wp2
      go_ret2
      left
      refine ⟨a3, c3, fun j hj => HA.out j (by have := HN.out; omega), ret2 (by rw [← HL.out]; rfl) rfl, ?_, ?_, HB.out⟩
      · rw [← HL.out]; exact HO.out
      · rw [← HL.out, HN.out]; exact hL
end Go.Proofs.Ytdhfimolgcnejaa
