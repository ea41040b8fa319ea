/- SchedRuns: the walk. -/
import Derived.Test.YtehkcgjiimfdjaaR5Do
import Derived.Test.YtehkcgjiimfdjaaAwake5
import Derived.Test.YtehkcgjiimfdjaaBegPlain
namespace Go.Proofs.Ytehkcgjiimfdjaa
open Go.RowKit
theorem IvAt.nil (w : World) : IvAt w none 0 0 [] := ⟨rfl, Nat.le_refl _, Nat.zero_le _, fun h => absurd h (Nat.lt_irrefl _)⟩
theorem EmAt.nil (w : World) : EmAt w none 0 0 [] := ⟨rfl, Nat.le_refl _, Nat.zero_le _, fun h => absurd h (Nat.lt_irrefl _)⟩
theorem Ran.iv {w w' : World} {B : PB} {qc : Nat} {ea : Option Addr} {ec : Nat} {sa : Option Addr} {sc : Nat} (h : Ran w w' B qc ea ec sa sc) : IvAt w' (some ⟨qc, 0, none⟩) 16 16 B.cells := by
  have hl := h.ok.cells
  refine ⟨hl, Nat.le_refl _, by unfold maxLen; omega, fun _ => ⟨qc, 0, rfl, fun j hj => ?_⟩⟩
  rw [h.cells.cell]
  simp [List.getD, hl, hj]
set_option maxRecDepth 100000 in
set_option maxHeartbeats 1000000 in
theorem schedRuns_walk (a0 : Option Addr) (len0 cap0 : Nat) (b0 : List (List Ins)) (a1 : Option Addr) (len1 cap1 : Nat) (b1 : List Int) (a2 : Option Addr) (len2 cap2 : Nat) (b2 : List Int) (w : World) (w0 : CdAt w a0 len0 cap0 b0) (w1 : IsAt w a1 len1 cap1 b1) (_ : cap1 ≤ 1048576) (w2 : IsAt w a2 len2 cap2 b2) (e2 : cap2 ≤ 1048576) :
    Calls Try.prog 4 #[.slice a0 len0 cap0, .slice a1 len1 cap1, .slice a2 len2 cap2] w fun e w' => e = .returned (.bool true) ∧ Below w.heap.size w w' := by
  have H0 : Hid (CdAt w a0 len0 cap0 b0) := w0
  have H1 : Hid (IsAt w a1 len1 cap1 b1) := w1
  have H2 : Hid (IsAt w a2 len2 cap2 b2) := w2
  have HS2 : Hid (b2.length = len2) := w2.size
  have hle2 := w2.le
  clear w0 w1 w2
  go_enter Try.func4, Try.ntmps4
  go_wp2_with fail
  refine (awake_any _).mono ?_
  rintro _ v1 ⟨rfl, hb1⟩
  have HB1 : Hid (Below w.heap.size w v1) := hb1
  clear hb1
  go_wp2_with fail
  refine (srun_at a0 len0 cap0 b0 a1 len1 cap1 b1 a2 len2 cap2 b2 (H0.out.below (Nat.le_refl _) HB1.out) (H1.out.below (Nat.le_refl _) HB1.out) (H2.out.below (Nat.le_refl _) HB1.out) (by rw [HS2.out]; omega) (fun h => by have := em_le h b2; rw [HS2.out] at this; omega)).mono ?_
  rintro e v2 h2
  rcases h2 with ⟨hr, rfl, hb2⟩ | ⟨hr, qa, ea, ca, sa, da, rfl, RA⟩
  · have HB2 : Hid (Below v1.heap.size v1 v2) := hb2
    clear hb2
    go_wp2_with fail
    generalize hV3 : v2.alloc (.cells #[.slice none 0 0, .slice none 0 0, .slice none 0 0, .int .i64 0] 27) = V3
    have HB3 : Hid (Below v1.heap.size v1 V3) := by unfold Hid; rw [← hV3]; exact HB2.out.alloc HB2.out.size _
    have HX3 : Hid (Box V3 v2.heap.size 27 #[.slice none 0 0, .slice none 0 0, .slice none 0 0, .int .i64 0]) := by unfold Hid; rw [← hV3]; exact Box.new v2 _ _
    have HW3 : Hid (Below w.heap.size w V3) := HB1.out.trans (HB3.out.mono HB1.out.size)
    clear hV3
    refine (rdo_at a0 len0 cap0 b0 a1 len1 cap1 b1 a2 len2 cap2 b2 (H0.out.below (Nat.le_refl _) HW3.out) (H1.out.below (Nat.le_refl _) HW3.out) (H2.out.below (Nat.le_refl _) HW3.out) (by rw [HS2.out]; omega) (fun h => by have := em_le h b2; rw [HS2.out] at this; omega)).mono ?_
    rintro e v4 h4
    rcases h4 with ⟨_, rfl, hb4⟩ | ⟨h, _⟩
    case inr => rw [hr] at h; cases h
    have hx4 := HX3.out.kept (hb4.block _ HX3.out.lt)
    have z0 := hx4.cell 0
    have z1 := hx4.cell 1
    have z2 := hx4.cell 2
    have z3 := hx4.cell 3
    simp at z0 z1 z2 z3
    have l1 := hx4.lt
    have HW4 : Hid (Below w.heap.size w v4) := HW3.out.trans (hb4.mono HW3.out.size)
    clear hb4 hx4
    go_wp2_with fail
    generalize hV5 : v4.alloc (.cells #[.slice none 0 0, .slice none 0 0, .slice none 0 0, .int .i64 0] 27) = V5
    have HW5 : Hid (Below w.heap.size w V5) := by unfold Hid; rw [← hV5]; exact HW4.out.alloc HW4.out.size _
    clear hV5
    refine (rsame_any none 0 0 [] none 0 none 0 0 [] none 0 none 0 0 [] none 0 0 V5 (IvAt.nil _) (IvAt.nil _) (EmAt.nil _) (EmAt.nil _) (IvAt.nil _) (IvAt.nil _)).mono ?_
    rintro _ v6 ⟨rfl, hb6⟩
    go_wp2
    go_returns
    exact ⟨rfl, HW5.out.trans (hb6.mono HW5.out.size)⟩
  · have HRA : Hid (Ran v1 v2 ((begins b0 b1).run b2) qa ea ca sa da) := RA
    clear RA
    obtain ⟨B, HBB⟩ : ∃ B, Hid (B = (begins b0 b1).run b2) := ⟨_, rfl⟩
    have HB2 : Hid (Below v1.heap.size v1 v2) := HRA.out.base
    have HI1 : Hid (IvAt v2 (some ⟨qa, 0, none⟩) 16 16 B.cells) := by unfold Hid; rw [HBB.out]; exact HRA.out.iv
    have HE1 : Hid (EmAt v2 ea B.em.length ca B.em) := by unfold Hid; rw [HBB.out]; exact EmAt.row HRA.out.emits rfl
    have HT1 : Hid (IvAt v2 sa B.ts.length da B.states) := by unfold Hid; rw [HBB.out]; exact IvAt.row HRA.out.states (by simp [PB.states])
    clear HRA
    rw [← HBB.out]
    obtain ⟨ne, HNE⟩ : ∃ ne, Hid (ne = B.em.length) := ⟨_, rfl⟩
    obtain ⟨nt, HNT⟩ : ∃ nt, Hid (nt = B.ts.length) := ⟨_, rfl⟩
    obtain ⟨st, HNS⟩ : ∃ st : Int, Hid (st = (B.steps : Int)) := ⟨_, rfl⟩
    rw [← HNE.out] at HE1
    rw [← HNT.out] at HT1
    rw [← HNE.out, ← HNT.out, ← HNS.out]
    go_wp2_with fail
    generalize hV3 : v2.alloc (.cells #[.slice (some ⟨qa, 0, none⟩) 16 16, .slice ea ne ca, .slice sa nt da, .int .i64 st] 27) = V3
    have HB3 : Hid (Below v2.heap.size v2 V3) := by unfold Hid; rw [← hV3]; exact (Below.refl _ _).alloc (Nat.le_refl _) _
    have HX3 : Hid (Box V3 v2.heap.size 27 #[.slice (some ⟨qa, 0, none⟩) 16 16, .slice ea ne ca, .slice sa nt da, .int .i64 st]) := by unfold Hid; rw [← hV3]; exact Box.new v2 _ _
    have HW3 : Hid (Below w.heap.size w V3) := HB1.out.trans ((HB2.out.trans (HB3.out.mono HB2.out.size)).mono HB1.out.size)
    clear hV3
    refine (rdo_at a0 len0 cap0 b0 a1 len1 cap1 b1 a2 len2 cap2 b2 (H0.out.below (Nat.le_refl _) HW3.out) (H1.out.below (Nat.le_refl _) HW3.out) (H2.out.below (Nat.le_refl _) HW3.out) (by rw [HS2.out]; omega) (fun h => by have := em_le h b2; rw [HS2.out] at this; omega)).mono ?_
    rintro e v4 h4
    rcases h4 with ⟨h, _⟩ | ⟨_, ac, kc, eb, cb, sb, db, rfl, x1, x2, x3, hb4⟩
    case inl => rw [hr] at h; cases h
    rw [← HBB.out] at x1 x2 x3
    rw [← HNE.out] at x2
    rw [← HNT.out] at x3
    rw [← HBB.out, ← HNE.out, ← HNT.out, ← HNS.out]
    have HB4 : Hid (Below V3.heap.size V3 v4) := hb4
    have HI2 : Hid (IvAt v4 ac 16 kc B.cells) := x1
    have HE2 : Hid (EmAt v4 eb ne cb B.em) := x2
    have HT2 : Hid (IvAt v4 sb nt db B.states) := x3
    have hx4 := HX3.out.kept (hb4.block _ HX3.out.lt)
    have z0 := hx4.cell 0
    have z1 := hx4.cell 1
    have z2 := hx4.cell 2
    have z3 := hx4.cell 3
    simp at z0 z1 z2 z3
    have l1 := hx4.lt
    clear hb4 hx4 x1 x2 x3
    go_wp2_with fail
    generalize hV5 : v4.alloc (.cells #[.slice ac 16 kc, .slice eb ne cb, .slice sb nt db, .int .i64 st] 27) = V5
    have HB5 : Hid (Below v4.heap.size v4 V5) := by unfold Hid; rw [← hV5]; exact (Below.refl _ _).alloc (Nat.le_refl _) _
    clear hV5
    have HB25 : Hid (Below v2.heap.size v2 V5) := HB3.out.trans ((HB4.out.trans (HB5.out.mono HB4.out.size)).mono HB3.out.size)
    have HW5 : Hid (Below w.heap.size w V5) := HW3.out.trans ((HB4.out.trans (HB5.out.mono HB4.out.size)).mono HW3.out.size)
    refine (rsame_any (some ⟨qa, 0, none⟩) 16 16 B.cells ac kc ea ne ca B.em eb cb sa nt da B.states sb db st V5 (HI1.out.below HB25.out) (HI2.out.below HB5.out) (HE1.out.below HB25.out) (HE2.out.below HB5.out) (HT1.out.below HB25.out) (HT2.out.below HB5.out)).mono ?_
    rintro _ v6 ⟨rfl, hb6⟩
    go_wp2
    go_returns
    exact ⟨rfl, HW5.out.trans (hb6.mono HW5.out.size)⟩
end Go.Proofs.Ytehkcgjiimfdjaa
