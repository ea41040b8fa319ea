/- SchedBegins: the walk. -/
import Derived.Test.YtehkcgjiimfdjaaBegPlain
import Derived.Test.YtehkcgjiimfdjaaAwake5
namespace Go.Proofs.Ytehkcgjiimfdjaa
open Go.RowKit
theorem IsAt.upTo {w : World} {a : Option Addr} {len cap : Nat} {l : List Int} (h : IsAt w a len cap l) {k : Nat} (hk : k ≤ len) : IsAt w a k cap (l.take k) := by
  have hs := h.size
  have hl := h.le
  have e : ∀ j, j < k → (l.take k).getD j 0 = l.getD j 0 := fun j hj => by simp [List.getD, hj]
  refine ⟨by simp; omega, by omega, h.max, h.bare, fun j hj => by rw [e j hj]; exact h.wf j (by omega), fun hp => ?_⟩
  obtain ⟨b, off, rfl, hc⟩ := h.here (by omega)
  exact ⟨b, off, rfl, fun j hj => by rw [hc j (by omega), e j hj]⟩
set_option maxRecDepth 100000 in
set_option maxHeartbeats 1000000 in
theorem schedBegins_walk (a0 : Option Addr) (len0 cap0 : Nat) (b0 : List (List Ins)) (a1 : Option Addr) (len1 cap1 : Nat) (b1 : List Int) (a2 : Option Addr) (len2 cap2 : Nat) (b2 : List Int) (a3 : Int) (w : World) (w0 : CdAt w a0 len0 cap0 b0) (w1 : IsAt w a1 len1 cap1 b1) (_ : cap1 ≤ 1048576) (w2 : IsAt w a2 len2 cap2 b2) (e2 : cap2 ≤ 1048576) (w3 : (Lit.int .i64 a3).wf = true) :
    Calls Try.prog 5 #[.slice a0 len0 cap0, .slice a1 len1 cap1, .slice a2 len2 cap2, .int .i64 a3] w fun e w' => e = .returned (.bool true) ∧ Below w.heap.size w w' := by
  have H0 : Hid (CdAt w a0 len0 cap0 b0) := w0
  have H1 : Hid (IsAt w a1 len1 cap1 b1) := w1
  have H2 : Hid (IsAt w a2 len2 cap2 b2) := w2
  have HS2 : Hid (b2.length = len2) := w2.size
  have hle2 := w2.le
  have hw3 : -9223372036854775808 ≤ a3 ∧ a3 ≤ 9223372036854775807 := by
    simp [Lit.wf, IntKind.min, IntKind.max, IntKind.bits, IntKind.signed] at w3
    omega
  obtain ⟨l3, u3⟩ := hw3
  clear w0 w1 w2 w3
  obtain ⟨k, HK⟩ : ∃ k, Hid (k = (fromZ a3).toNat % (len2 + 1)) := ⟨_, rfl⟩
  have hk : k ≤ len2 := by
    have := Nat.mod_lt (fromZ a3).toNat (show 0 < len2 + 1 by omega)
    rw [← HK.out] at this
    omega
  have hx1 : (0 : Int) ≤ (k : Int) := by omega
  have hx2 : (k : Int) ≤ (len2 : Int) := by omega
  rcases (by omega : a3 < 0 ∨ 0 ≤ a3) with hn | hn
  case' inl =>
    have HKV : Hid (-((a3 + 1).tmod ((len2 : Int) + 1)) = (k : Int)) := by
      unfold Hid
      rw [HK.out, ← Int.neg_tmod]
      have hz : fromZ a3 = -1 - a3 := by unfold fromZ; rw [if_pos hn]
      rw [hz]
      obtain ⟨z, hz2⟩ : ∃ z : Nat, -(a3 + 1) = (z : Int) := ⟨(-(a3 + 1)).toNat, by omega⟩
      rw [hz2, show (-1 - a3).toNat = z by omega]
      exact (Int.ofNat_tmod z (len2 + 1)).symm
  case' inr =>
    have HKV : Hid (a3 % ((len2 : Int) + 1) = (k : Int)) := by
      unfold Hid
      rw [HK.out]
      have hz : fromZ a3 = a3 := by unfold fromZ; rw [if_neg (by omega)]
      rw [hz]
      obtain ⟨z, hz2⟩ : ∃ z : Nat, a3 = (z : Int) := ⟨a3.toNat, by omega⟩
      rw [hz2]
      exact (Int.natCast_emod z (len2 + 1)).symm
  all_goals
    go_enter Try.func5, Try.ntmps5
    go_wp2_with fail
    refine (awake_any _).mono ?_
    rintro _ v1 ⟨rfl, hb1⟩
    have HB1 : Hid (Below w.heap.size w v1) := hb1
    clear hb1
    go_wp2_with fail
    rw [HKV.out]
    clear HK HKV hn
    refine (srun_at a0 len0 cap0 b0 a1 len1 cap1 b1 a2 len2 cap2 b2 (H0.out.below (Nat.le_refl _) HB1.out) (H1.out.below (Nat.le_refl _) HB1.out) (H2.out.below (Nat.le_refl _) HB1.out) (by rw [HS2.out]; omega) (fun h => by have := em_le h b2; rw [HS2.out] at this; omega)).mono ?_
    rintro e v2 h2
    rcases h2 with ⟨hr, rfl, hb2⟩ | ⟨hr, qa, ea, ca, sa, da, rfl, RA⟩
    · have HB2 : Hid (Below v1.heap.size v1 v2) := hb2
      clear hb2
      go_wp2_with fail
      generalize hV3 : v2.alloc (.cells #[.slice none 0 0, .slice none 0 0, .slice none 0 0, .int .i64 0] 27) = V3
      have HB3 : Hid (Below v1.heap.size v1 V3) := by unfold Hid; rw [← hV3]; exact HB2.out.alloc HB2.out.size _
      have HX3 : Hid (Box V3 v2.heap.size 27 #[.slice none 0 0, .slice none 0 0, .slice none 0 0, .int .i64 0]) := by unfold Hid; rw [← hV3]; exact Box.new v2 _ _
      have HW3 : Hid (Below w.heap.size w V3) := HB1.out.trans (HB3.out.mono HB1.out.size)
      clear hV3
      refine (srun_at a0 len0 cap0 b0 a1 len1 cap1 b1 a2 k cap2 (b2.take k) (H0.out.below (Nat.le_refl _) HW3.out) (H1.out.below (Nat.le_refl _) HW3.out) ((H2.out.upTo hk).below (Nat.le_refl _) HW3.out) (by rw [List.length_take]; omega) (fun h => by rw [hr] at h; cases h)).mono ?_
      rintro e v4 h4
      rcases h4 with ⟨_, rfl, hb4⟩ | ⟨h, _⟩
      case inr => rw [hr] at h; cases h
      have hx4 := HX3.out.kept (hb4.block _ HX3.out.lt)
      have z3 := hx4.cell 3
      simp at z3
      have l1 := hx4.lt
      have HW4 : Hid (Below w.heap.size w v4) := HW3.out.trans (hb4.mono HW3.out.size)
      clear hb4 hx4
      go_wp2
      go_returns
      exact ⟨rfl, HW4.out.alloc HW4.out.size _⟩
    · have HRA : Hid (Ran v1 v2 ((begins b0 b1).run b2) qa ea ca sa da) := RA
      obtain ⟨f1, f2, f3, xe, f4⟩ := begins_part hr (k := k) (ps := b2) (by rw [HS2.out]; exact hk)
      have HEM : Hid (((begins b0 b1).run b2).em = ((begins b0 b1).run (b2.take k)).em ++ xe) := f4
      have hemB := em_le hr (b2.take k)
      have hemA := em_le hr b2
      clear RA f4
      obtain ⟨sA, HSA⟩ : ∃ sA, Hid (sA = ((begins b0 b1).run b2).steps) := ⟨_, rfl⟩
      obtain ⟨sB, HSB⟩ : ∃ sB, Hid (sB = ((begins b0 b1).run (b2.take k)).steps) := ⟨_, rfl⟩
      obtain ⟨nA, HNA⟩ : ∃ nA, Hid (nA = ((begins b0 b1).run b2).em.length) := ⟨_, rfl⟩
      obtain ⟨nB, HNB⟩ : ∃ nB, Hid (nB = ((begins b0 b1).run (b2.take k)).em.length) := ⟨_, rfl⟩
      obtain ⟨tA, HTA⟩ : ∃ tA, Hid (tA = ((begins b0 b1).run b2).ts.length) := ⟨_, rfl⟩
      obtain ⟨tB, HTB⟩ : ∃ tB, Hid (tB = ((begins b0 b1).run (b2.take k)).ts.length) := ⟨_, rfl⟩
      have hnn : nB ≤ nA := by rw [HNA.out, HNB.out, HEM.out, List.length_append]; omega
      have hnA : nA ≤ 1048576 := by rw [HNA.out]; rw [HS2.out] at hemA; omega
      rw [← HSB.out] at f1 f2 f3
      rw [← HSA.out] at f2 f3
      rw [← HSA.out, ← HNA.out, ← HTA.out]
      have HB2 : Hid (Below v1.heap.size v1 v2) := HRA.out.base
      clear hemA
      go_wp2_with fail
      generalize hV3 : v2.alloc (.cells #[.slice (some ⟨qa, 0, none⟩) 16 16, .slice ea nA ca, .slice sa tA da, .int .i64 (sA : Int)] 27) = V3
      have HB23 : Hid (Below v2.heap.size v2 V3) := by unfold Hid; rw [← hV3]; exact (Below.refl _ _).alloc (Nat.le_refl _) _
      have HX3 : Hid (Box V3 v2.heap.size 27 #[.slice (some ⟨qa, 0, none⟩) 16 16, .slice ea nA ca, .slice sa tA da, .int .i64 (sA : Int)]) := by unfold Hid; rw [← hV3]; exact Box.new v2 _ _
      have HW3 : Hid (Below w.heap.size w V3) := HB1.out.trans ((HB2.out.trans (HB23.out.mono HB2.out.size)).mono HB1.out.size)
      clear hV3
      refine (srun_at a0 len0 cap0 b0 a1 len1 cap1 b1 a2 k cap2 (b2.take k) (H0.out.below (Nat.le_refl _) HW3.out) (H1.out.below (Nat.le_refl _) HW3.out) ((H2.out.upTo hk).below (Nat.le_refl _) HW3.out) (by rw [List.length_take]; omega) (fun h => by have := em_le h (b2.take k); rw [List.length_take] at this; omega)).mono ?_
      rintro e v4 h4
      rcases h4 with ⟨h, _⟩ | ⟨_, qb, eb, cb, sb, db, rfl, RB⟩
      case inl => rw [hr] at h; cases h
      have HRB : Hid (Ran V3 v4 ((begins b0 b1).run (b2.take k)) qb eb cb sb db) := RB
      clear RB
      rw [← HSB.out, ← HNB.out, ← HTB.out]
      have HB34 : Hid (Below V3.heap.size V3 v4) := HRB.out.base
      have HB24 : Hid (Below v2.heap.size v2 v4) := HB23.out.trans (HB34.out.mono HB23.out.size)
      have HW4 : Hid (Below w.heap.size w v4) := HW3.out.trans (HB34.out.mono HW3.out.size)
      have hxa := HX3.out.kept (HB34.out.block _ HX3.out.lt)
      have z1 := hxa.cell 1
      have z3 := hxa.cell 3
      simp at z1 z3
      have l1 := hxa.lt
      clear hxa
      have hi1 : (sB : Int) ≤ (k : Int) := by omega
      have hi2 : (sB : Int) ≤ (sA : Int) := by omega
      have hi3 : (nB : Int) ≤ (nA : Int) := by omega
      have HSAME : Hid (∀ j, j < nB → ((begins b0 b1).run b2).em.getD j (0, 0) = ((begins b0 b1).run (b2.take k)).em.getD j (0, 0)) := by
        intro j hj
        rw [HEM.out]
        rw [HNB.out] at hj
        simp [List.getD, List.getElem?_append_left hj]
      have HB45 : Hid (∀ o : Obj, Below v4.heap.size v4 (v4.alloc o)) := fun o => (Below.refl _ _).alloc (Nat.le_refl _) _
      rcases (by omega : sB < k ∨ k ≤ sB) with hlt | hlt
      case' inl =>
        obtain rfl : sA = sB := f3 hlt
        have hi4 : (sA : Int) < (k : Int) := by omega
      case' inr =>
        have hi4 : ¬ (sB : Int) < (k : Int) := by omega
      all_goals
        clear f1 f2 f3
        go_wp2
        go_loopw [14] (fun i wr => ∃ j : Nat, j ≤ nB ∧ i = .int .i64 (j : Int) ∧ Hid (Below v4.heap.size v4 wr) ∧ Hid (wr.cell? ⟨v4.heap.size, 1, none⟩ = some (.slice eb nB cb))) (fun i _ => nB - (intOf i).toNat)
        case atStart => exact ⟨0, Nat.zero_le _, rfl, HB45.out _, by unfold Hid; simp⟩
        case round =>
          obtain ⟨j, hj, rfl, HBr, HCr⟩ := hrel
          have y1 : wr.cell? ⟨v2.heap.size, 1, none⟩ = some (.slice ea nA ca) := (HBr.out.cell (p := ⟨v2.heap.size, 1, none⟩) l1).trans z1
          have y2 := HCr.out
          by_cases hjn : j < nB
          · obtain ⟨ra, rfl, r0, r1, r2, r3, r4⟩ := HRA.out.emitAt (j := j) (by rw [← HNA.out]; omega)
            obtain ⟨rb, rfl, s0, s1, s2, s3, s4⟩ := HRB.out.emitAt (j := j) (by rw [← HNB.out]; omega)
            rw [HSAME.out j hjn] at r0 r1
            rw [← HNA.out] at r2
            rw [← HNB.out] at s2
            unfold maxLen at r3 s3
            generalize ((begins b0 b1).run (b2.take k)).em.getD j (0, 0) = x at r0 r1 s0 s1
            have hb24 := HB24.out.trans (HBr.out.mono HB24.out.size)
            have p0 := (hb24.cell (p := ⟨ra, j * 2, none⟩) r4).trans r0
            have p1 := (hb24.cell (p := ⟨ra, j * 2 + 1, none⟩) r4).trans r1
            have p2 := (HBr.out.cell (p := ⟨rb, j * 2, none⟩) s4).trans s0
            have p3 := (HBr.out.cell (p := ⟨rb, j * 2 + 1, none⟩) s4).trans s1
            have hcmp : ∀ W : World, (binOp .neq 34 (.agg #[.int .i64 (x.1 : Int), .int .i64 x.2]) (.agg #[.int .i64 (x.1 : Int), .int .i64 x.2])).run Try.prog W = .ok (.bool false) W := fun W => by rw [run_neq_emit]; simp
            have hx5 : (0 : Int) ≤ (j : Int) := by omega
            have hx6 : (j : Int) < (nA : Int) := by omega
            have hx7 : (j : Int) < (nB : Int) := by omega
            clear r0 r1 s0 s1 hb24
            go_wp2
            go_quiet (fail)
            go_wp2
            go_roundw
            case rel => exact ⟨j + 1, by omega, by go_num, Below.drewN HBr.out _, HCr.out⟩
            case measure => simp [intOf]; omega
          · obtain rfl : j = nB := by omega
            go_wp2
            go_returns
            exact ⟨rfl, HW4.out.trans (HBr.out.mono HW4.out.size)⟩
end Go.Proofs.Ytehkcgjiimfdjaa
