/- staddlelaw03.BatchJoins returns true, for arguments of bulk at most 1048576, and leaves memory as it was. -/
import Derived.Test.YtohhdbmkbfehfaaAwake3
import Derived.Test.YtohhdbmkbfehfaaOpsOwn
import Derived.Test.YtohhdbmkbfehfaaPlainBJoin
import Derived.Test.YtohhdbmkbfehfaaSliceFrom
namespace Go.Proofs.Ytohhdbmkbfehfaa
open Go.RowKit
set_option maxRecDepth 100000 in
set_option maxHeartbeats 4000000 in
theorem batchJoins_a (q : Nat) (a1 : Option Addr) (len1 cap1 : Nat) (b1 : List Opn) (a2 : Option Addr) (len2 cap2 : Nat) (b2 : List Opn) (X Y Z : List UInt8) (ca cb cz : Nat) (w : World) (H1 : Hid (OpsAt w a1 len1 cap1 b1)) (H2 : Hid (OpsAt w a2 len2 cap2 b2)) (hl1 : len1 ≤ 1048576) (hl2 : len2 ≤ 1048576)
    (HX : Hid (∀ W a n c, OpsAt W a n c b1 → Calls Try.prog 10 #[.int .u64 (q : Int), .slice a n c] W fun e w' => ∃ a' c', e = .returned (.tuple #[.slice a' X.length c', .int .i64 ((ca : Nat) : Int)]) ∧ BsAt w' a' X.length c' X ∧ Below W.heap.size W w'))
    (HY : Hid (∀ W a n c, OpsAt W a n c b2 → Calls Try.prog 10 #[.int .u64 (q : Int), .slice a n c] W fun e w' => ∃ a' c', e = .returned (.tuple #[.slice a' Y.length c', .int .i64 ((cb : Nat) : Int)]) ∧ BsAt w' a' Y.length c' Y ∧ Below W.heap.size W w'))
    (HZ : Hid (∀ W a n c, OpsAt W a n c (b1 ++ b2) → Calls Try.prog 10 #[.int .u64 (q : Int), .slice a n c] W fun e w' => ∃ a' c', e = .returned (.tuple #[.slice a' Z.length c', .int .i64 ((cz : Nat) : Int)]) ∧ BsAt w' a' Z.length c' Z ∧ Below W.heap.size W w'))
    (h1 : ca ≠ 0) :
    Calls Try.prog 7 #[.int .u64 (q : Int), .slice a1 len1 cap1, .slice a2 len2 cap2] w fun e w' => e = .returned (.bool true) ∧ Below w.heap.size w w' := by
  have h1' : ((ca : Int) != 0) = true := by simp; omega
  go_enter Try.func7, Try.ntmps7
  go_wp2_with fail
  refine (awake_any _).mono ?_
  rintro e v1 ⟨rfl, hb1⟩
  have HB1 : Hid (Below w.heap.size w v1) := hb1
  clear hb1
  go_wp2_with fail
  refine (HX.out _ _ _ _ (H1.out.below (Nat.le_refl _) HB1.out)).mono ?_
  rintro e v2 ⟨aX, cX, rfl, hX, hb2⟩
  have HB2 : Hid (Below w.heap.size w v2) := HB1.out.trans (hb2.mono HB1.out.size)
  have HX2 : Hid (BsAt v2 aX X.length cX X) := hX
  clear hb2 hX HB1
  go_wp2_with fail
  refine (HY.out _ _ _ _ (H2.out.below (Nat.le_refl _) HB2.out)).mono ?_
  rintro e v3 ⟨aY, cY, rfl, hY, hb3⟩
  have HB3 : Hid (Below w.heap.size w v3) := HB2.out.trans (hb3.mono HB2.out.size)
  have HX3 : Hid (BsAt v3 aX X.length cX X) := HX2.out.below (Nat.le_refl _) hb3
  have HY3 : Hid (BsAt v3 aY Y.length cY Y) := hY
  have HP3 : Hid (OpsAt v3 a1 len1 cap1 b1) := H1.out.below (Nat.le_refl _) HB3.out
  have HQ3 : Hid (OpsAt v3 a2 len2 cap2 b2) := H2.out.below (Nat.le_refl _) HB3.out
  clear hb3 hY HB2 HX2
  go_wp2_with (first
    | (at_builtin; refine wpList_appO _ rfl _ _ rfl v3.heap.size _ 0 0 [] rfl (OwnO.made v3) _ _ _ b1 rfl (HP3.out.alloc _) (by omega) (by simp) ?_; intro a4 c4 v4 ho4 hb4
       have hz4 : v3.heap.size ≤ v4.heap.size := by have := hb4.size; simp at this; omega
       have HB4 : Hid (Below v3.heap.size v3 v4) := ((Below.refl _ v3).alloc (Nat.le_refl _) _).trans hb4
       have HO4 : Hid (OwnO v4 v3.heap.size a4 len1 c4 b1) := by unfold Hid; simpa using ho4
       clear ho4 hb4)
    | (at_builtin; refine wpList_appO _ rfl _ _ rfl v3.heap.size _ _ _ b1 rfl HO4.out _ _ _ b2 rfl (HQ3.out.below (Nat.le_refl _) HB4.out) (by omega) hz4 ?_))
  intro a5 c5 v5 ho5 hb5
  have HB5 : Hid (Below w.heap.size w v5) := (HB3.out.trans (HB4.out.mono HB3.out.size)).trans (hb5.mono HB3.out.size)
  have HW5 : Hid (Below v3.heap.size v3 v5) := HB4.out.trans hb5
  have HO5 : Hid (OpsAt v5 a5 (len1 + len2) c5 (b1 ++ b2)) := ho5.ops
  clear ho5 hb5 HO4 HB4
  go_wp2_with fail
  refine (HZ.out _ _ _ _ HO5.out).mono ?_
  rintro e v6 ⟨aZ, cZ, rfl, hZ, hb6⟩
  have HB6 : Hid (Below w.heap.size w v6) := HB5.out.trans (hb6.mono HB5.out.size)
  have HX6 : Hid (BsAt v6 aX X.length cX X) := (HX3.out.below (Nat.le_refl _) HW5.out).below (Nat.le_refl _) hb6
  have HY6 : Hid (BsAt v6 aY Y.length cY Y) := (HY3.out.below (Nat.le_refl _) HW5.out).below (Nat.le_refl _) hb6
  have HZ6 : Hid (BsAt v6 aZ Z.length cZ Z) := hZ
  clear hb6 hZ HB5 HX3 HY3 HW5 HO5
  go_wp2_with fail
  go_ret
  exact ⟨ret1 (by simp), HB6.out⟩
set_option maxRecDepth 100000 in
set_option maxHeartbeats 4000000 in
theorem batchJoins_b (q : Nat) (a1 : Option Addr) (len1 cap1 : Nat) (b1 : List Opn) (a2 : Option Addr) (len2 cap2 : Nat) (b2 : List Opn) (X Y Z : List UInt8) (ca cb cz : Nat) (w : World) (H1 : Hid (OpsAt w a1 len1 cap1 b1)) (H2 : Hid (OpsAt w a2 len2 cap2 b2)) (hl1 : len1 ≤ 1048576) (hl2 : len2 ≤ 1048576)
    (HX : Hid (∀ W a n c, OpsAt W a n c b1 → Calls Try.prog 10 #[.int .u64 (q : Int), .slice a n c] W fun e w' => ∃ a' c', e = .returned (.tuple #[.slice a' X.length c', .int .i64 ((ca : Nat) : Int)]) ∧ BsAt w' a' X.length c' X ∧ Below W.heap.size W w'))
    (HY : Hid (∀ W a n c, OpsAt W a n c b2 → Calls Try.prog 10 #[.int .u64 (q : Int), .slice a n c] W fun e w' => ∃ a' c', e = .returned (.tuple #[.slice a' Y.length c', .int .i64 ((cb : Nat) : Int)]) ∧ BsAt w' a' Y.length c' Y ∧ Below W.heap.size W w'))
    (HZ : Hid (∀ W a n c, OpsAt W a n c (b1 ++ b2) → Calls Try.prog 10 #[.int .u64 (q : Int), .slice a n c] W fun e w' => ∃ a' c', e = .returned (.tuple #[.slice a' Z.length c', .int .i64 ((cz : Nat) : Int)]) ∧ BsAt w' a' Z.length c' Z ∧ Below W.heap.size W w'))
    (h1 : ca = 0) (h2 : cb ≠ 0) :
    Calls Try.prog 7 #[.int .u64 (q : Int), .slice a1 len1 cap1, .slice a2 len2 cap2] w fun e w' => e = .returned (.bool true) ∧ Below w.heap.size w w' := by
  subst h1
  have h2' : ((cb : Int) != 0) = true := by simp; omega
  go_enter Try.func7, Try.ntmps7
  go_wp2_with fail
  refine (awake_any _).mono ?_
  rintro e v1 ⟨rfl, hb1⟩
  have HB1 : Hid (Below w.heap.size w v1) := hb1
  clear hb1
  go_wp2_with fail
  refine (HX.out _ _ _ _ (H1.out.below (Nat.le_refl _) HB1.out)).mono ?_
  rintro e v2 ⟨aX, cX, rfl, hX, hb2⟩
  have HB2 : Hid (Below w.heap.size w v2) := HB1.out.trans (hb2.mono HB1.out.size)
  have HX2 : Hid (BsAt v2 aX X.length cX X) := hX
  clear hb2 hX HB1
  go_wp2_with fail
  refine (HY.out _ _ _ _ (H2.out.below (Nat.le_refl _) HB2.out)).mono ?_
  rintro e v3 ⟨aY, cY, rfl, hY, hb3⟩
  have HB3 : Hid (Below w.heap.size w v3) := HB2.out.trans (hb3.mono HB2.out.size)
  have HX3 : Hid (BsAt v3 aX X.length cX X) := HX2.out.below (Nat.le_refl _) hb3
  have HY3 : Hid (BsAt v3 aY Y.length cY Y) := hY
  have HP3 : Hid (OpsAt v3 a1 len1 cap1 b1) := H1.out.below (Nat.le_refl _) HB3.out
  have HQ3 : Hid (OpsAt v3 a2 len2 cap2 b2) := H2.out.below (Nat.le_refl _) HB3.out
  clear hb3 hY HB2 HX2
  go_wp2_with (first
    | (at_builtin; refine wpList_appO _ rfl _ _ rfl v3.heap.size _ 0 0 [] rfl (OwnO.made v3) _ _ _ b1 rfl (HP3.out.alloc _) (by omega) (by simp) ?_; intro a4 c4 v4 ho4 hb4
       have hz4 : v3.heap.size ≤ v4.heap.size := by have := hb4.size; simp at this; omega
       have HB4 : Hid (Below v3.heap.size v3 v4) := ((Below.refl _ v3).alloc (Nat.le_refl _) _).trans hb4
       have HO4 : Hid (OwnO v4 v3.heap.size a4 len1 c4 b1) := by unfold Hid; simpa using ho4
       clear ho4 hb4)
    | (at_builtin; refine wpList_appO _ rfl _ _ rfl v3.heap.size _ _ _ b1 rfl HO4.out _ _ _ b2 rfl (HQ3.out.below (Nat.le_refl _) HB4.out) (by omega) hz4 ?_))
  intro a5 c5 v5 ho5 hb5
  have HB5 : Hid (Below w.heap.size w v5) := (HB3.out.trans (HB4.out.mono HB3.out.size)).trans (hb5.mono HB3.out.size)
  have HW5 : Hid (Below v3.heap.size v3 v5) := HB4.out.trans hb5
  have HO5 : Hid (OpsAt v5 a5 (len1 + len2) c5 (b1 ++ b2)) := ho5.ops
  clear ho5 hb5 HO4 HB4
  go_wp2_with fail
  refine (HZ.out _ _ _ _ HO5.out).mono ?_
  rintro e v6 ⟨aZ, cZ, rfl, hZ, hb6⟩
  have HB6 : Hid (Below w.heap.size w v6) := HB5.out.trans (hb6.mono HB5.out.size)
  have HX6 : Hid (BsAt v6 aX X.length cX X) := (HX3.out.below (Nat.le_refl _) HW5.out).below (Nat.le_refl _) hb6
  have HY6 : Hid (BsAt v6 aY Y.length cY Y) := (HY3.out.below (Nat.le_refl _) HW5.out).below (Nat.le_refl _) hb6
  have HZ6 : Hid (BsAt v6 aZ Z.length cZ Z) := hZ
  clear hb6 hZ HB5 HX3 HY3 HW5 HO5
  go_wp2_with fail
  go_ret
  exact ⟨ret1 (by simp), HB6.out⟩
set_option maxRecDepth 100000 in
set_option maxHeartbeats 4000000 in
theorem batchJoins_m (q : Nat) (a1 : Option Addr) (len1 cap1 : Nat) (b1 : List Opn) (a2 : Option Addr) (len2 cap2 : Nat) (b2 : List Opn) (X Y Z : List UInt8) (ca cb cz : Nat) (w : World) (H1 : Hid (OpsAt w a1 len1 cap1 b1)) (H2 : Hid (OpsAt w a2 len2 cap2 b2)) (hl1 : len1 ≤ 1048576) (hl2 : len2 ≤ 1048576)
    (HX : Hid (∀ W a n c, OpsAt W a n c b1 → Calls Try.prog 10 #[.int .u64 (q : Int), .slice a n c] W fun e w' => ∃ a' c', e = .returned (.tuple #[.slice a' X.length c', .int .i64 ((ca : Nat) : Int)]) ∧ BsAt w' a' X.length c' X ∧ Below W.heap.size W w'))
    (HY : Hid (∀ W a n c, OpsAt W a n c b2 → Calls Try.prog 10 #[.int .u64 (q : Int), .slice a n c] W fun e w' => ∃ a' c', e = .returned (.tuple #[.slice a' Y.length c', .int .i64 ((cb : Nat) : Int)]) ∧ BsAt w' a' Y.length c' Y ∧ Below W.heap.size W w'))
    (HZ : Hid (∀ W a n c, OpsAt W a n c (b1 ++ b2) → Calls Try.prog 10 #[.int .u64 (q : Int), .slice a n c] W fun e w' => ∃ a' c', e = .returned (.tuple #[.slice a' Z.length c', .int .i64 ((cz : Nat) : Int)]) ∧ BsAt w' a' Z.length c' Z ∧ Below W.heap.size W w'))
    (h1 : ca = 0) (h2 : cb = 0) (h3 : cz = 30) :
    Calls Try.prog 7 #[.int .u64 (q : Int), .slice a1 len1 cap1, .slice a2 len2 cap2] w fun e w' => e = .returned (.bool true) ∧ Below w.heap.size w w' := by
  subst h1 h2 h3
  go_enter Try.func7, Try.ntmps7
  go_wp2_with fail
  refine (awake_any _).mono ?_
  rintro e v1 ⟨rfl, hb1⟩
  have HB1 : Hid (Below w.heap.size w v1) := hb1
  clear hb1
  go_wp2_with fail
  refine (HX.out _ _ _ _ (H1.out.below (Nat.le_refl _) HB1.out)).mono ?_
  rintro e v2 ⟨aX, cX, rfl, hX, hb2⟩
  have HB2 : Hid (Below w.heap.size w v2) := HB1.out.trans (hb2.mono HB1.out.size)
  have HX2 : Hid (BsAt v2 aX X.length cX X) := hX
  clear hb2 hX HB1
  go_wp2_with fail
  refine (HY.out _ _ _ _ (H2.out.below (Nat.le_refl _) HB2.out)).mono ?_
  rintro e v3 ⟨aY, cY, rfl, hY, hb3⟩
  have HB3 : Hid (Below w.heap.size w v3) := HB2.out.trans (hb3.mono HB2.out.size)
  have HX3 : Hid (BsAt v3 aX X.length cX X) := HX2.out.below (Nat.le_refl _) hb3
  have HY3 : Hid (BsAt v3 aY Y.length cY Y) := hY
  have HP3 : Hid (OpsAt v3 a1 len1 cap1 b1) := H1.out.below (Nat.le_refl _) HB3.out
  have HQ3 : Hid (OpsAt v3 a2 len2 cap2 b2) := H2.out.below (Nat.le_refl _) HB3.out
  clear hb3 hY HB2 HX2
  go_wp2_with (first
    | (at_builtin; refine wpList_appO _ rfl _ _ rfl v3.heap.size _ 0 0 [] rfl (OwnO.made v3) _ _ _ b1 rfl (HP3.out.alloc _) (by omega) (by simp) ?_; intro a4 c4 v4 ho4 hb4
       have hz4 : v3.heap.size ≤ v4.heap.size := by have := hb4.size; simp at this; omega
       have HB4 : Hid (Below v3.heap.size v3 v4) := ((Below.refl _ v3).alloc (Nat.le_refl _) _).trans hb4
       have HO4 : Hid (OwnO v4 v3.heap.size a4 len1 c4 b1) := by unfold Hid; simpa using ho4
       clear ho4 hb4)
    | (at_builtin; refine wpList_appO _ rfl _ _ rfl v3.heap.size _ _ _ b1 rfl HO4.out _ _ _ b2 rfl (HQ3.out.below (Nat.le_refl _) HB4.out) (by omega) hz4 ?_))
  intro a5 c5 v5 ho5 hb5
  have HB5 : Hid (Below w.heap.size w v5) := (HB3.out.trans (HB4.out.mono HB3.out.size)).trans (hb5.mono HB3.out.size)
  have HW5 : Hid (Below v3.heap.size v3 v5) := HB4.out.trans hb5
  have HO5 : Hid (OpsAt v5 a5 (len1 + len2) c5 (b1 ++ b2)) := ho5.ops
  clear ho5 hb5 HO4 HB4
  go_wp2_with fail
  refine (HZ.out _ _ _ _ HO5.out).mono ?_
  rintro e v6 ⟨aZ, cZ, rfl, hZ, hb6⟩
  have HB6 : Hid (Below w.heap.size w v6) := HB5.out.trans (hb6.mono HB5.out.size)
  have HX6 : Hid (BsAt v6 aX X.length cX X) := (HX3.out.below (Nat.le_refl _) HW5.out).below (Nat.le_refl _) hb6
  have HY6 : Hid (BsAt v6 aY Y.length cY Y) := (HY3.out.below (Nat.le_refl _) HW5.out).below (Nat.le_refl _) hb6
  have HZ6 : Hid (BsAt v6 aZ Z.length cZ Z) := hZ
  clear hb6 hZ HB5 HX3 HY3 HW5 HO5
  go_wp2_with fail
  go_ret
  exact ⟨ret1 (by simp), HB6.out⟩
set_option maxRecDepth 100000 in
set_option maxHeartbeats 4000000 in
theorem batchJoins_s (q : Nat) (a1 : Option Addr) (len1 cap1 : Nat) (b1 : List Opn) (a2 : Option Addr) (len2 cap2 : Nat) (b2 : List Opn) (X Y Z : List UInt8) (ca cb cz : Nat) (w : World) (H1 : Hid (OpsAt w a1 len1 cap1 b1)) (H2 : Hid (OpsAt w a2 len2 cap2 b2)) (hl1 : len1 ≤ 1048576) (hl2 : len2 ≤ 1048576)
    (HX : Hid (∀ W a n c, OpsAt W a n c b1 → Calls Try.prog 10 #[.int .u64 (q : Int), .slice a n c] W fun e w' => ∃ a' c', e = .returned (.tuple #[.slice a' X.length c', .int .i64 ((ca : Nat) : Int)]) ∧ BsAt w' a' X.length c' X ∧ Below W.heap.size W w'))
    (HY : Hid (∀ W a n c, OpsAt W a n c b2 → Calls Try.prog 10 #[.int .u64 (q : Int), .slice a n c] W fun e w' => ∃ a' c', e = .returned (.tuple #[.slice a' Y.length c', .int .i64 ((cb : Nat) : Int)]) ∧ BsAt w' a' Y.length c' Y ∧ Below W.heap.size W w'))
    (HZ : Hid (∀ W a n c, OpsAt W a n c (b1 ++ b2) → Calls Try.prog 10 #[.int .u64 (q : Int), .slice a n c] W fun e w' => ∃ a' c', e = .returned (.tuple #[.slice a' Z.length c', .int .i64 ((cz : Nat) : Int)]) ∧ BsAt w' a' Z.length c' Z ∧ Below W.heap.size W w'))
    (h1 : ca = 0) (h2 : cb = 0) (h3 : cz = 22) :
    Calls Try.prog 7 #[.int .u64 (q : Int), .slice a1 len1 cap1, .slice a2 len2 cap2] w fun e w' => e = .returned (.bool true) ∧ Below w.heap.size w w' := by
  subst h1 h2 h3
  go_enter Try.func7, Try.ntmps7
  go_wp2_with fail
  refine (awake_any _).mono ?_
  rintro e v1 ⟨rfl, hb1⟩
  have HB1 : Hid (Below w.heap.size w v1) := hb1
  clear hb1
  go_wp2_with fail
  refine (HX.out _ _ _ _ (H1.out.below (Nat.le_refl _) HB1.out)).mono ?_
  rintro e v2 ⟨aX, cX, rfl, hX, hb2⟩
  have HB2 : Hid (Below w.heap.size w v2) := HB1.out.trans (hb2.mono HB1.out.size)
  have HX2 : Hid (BsAt v2 aX X.length cX X) := hX
  clear hb2 hX HB1
  go_wp2_with fail
  refine (HY.out _ _ _ _ (H2.out.below (Nat.le_refl _) HB2.out)).mono ?_
  rintro e v3 ⟨aY, cY, rfl, hY, hb3⟩
  have HB3 : Hid (Below w.heap.size w v3) := HB2.out.trans (hb3.mono HB2.out.size)
  have HX3 : Hid (BsAt v3 aX X.length cX X) := HX2.out.below (Nat.le_refl _) hb3
  have HY3 : Hid (BsAt v3 aY Y.length cY Y) := hY
  have HP3 : Hid (OpsAt v3 a1 len1 cap1 b1) := H1.out.below (Nat.le_refl _) HB3.out
  have HQ3 : Hid (OpsAt v3 a2 len2 cap2 b2) := H2.out.below (Nat.le_refl _) HB3.out
  clear hb3 hY HB2 HX2
  go_wp2_with (first
    | (at_builtin; refine wpList_appO _ rfl _ _ rfl v3.heap.size _ 0 0 [] rfl (OwnO.made v3) _ _ _ b1 rfl (HP3.out.alloc _) (by omega) (by simp) ?_; intro a4 c4 v4 ho4 hb4
       have hz4 : v3.heap.size ≤ v4.heap.size := by have := hb4.size; simp at this; omega
       have HB4 : Hid (Below v3.heap.size v3 v4) := ((Below.refl _ v3).alloc (Nat.le_refl _) _).trans hb4
       have HO4 : Hid (OwnO v4 v3.heap.size a4 len1 c4 b1) := by unfold Hid; simpa using ho4
       clear ho4 hb4)
    | (at_builtin; refine wpList_appO _ rfl _ _ rfl v3.heap.size _ _ _ b1 rfl HO4.out _ _ _ b2 rfl (HQ3.out.below (Nat.le_refl _) HB4.out) (by omega) hz4 ?_))
  intro a5 c5 v5 ho5 hb5
  have HB5 : Hid (Below w.heap.size w v5) := (HB3.out.trans (HB4.out.mono HB3.out.size)).trans (hb5.mono HB3.out.size)
  have HW5 : Hid (Below v3.heap.size v3 v5) := HB4.out.trans hb5
  have HO5 : Hid (OpsAt v5 a5 (len1 + len2) c5 (b1 ++ b2)) := ho5.ops
  clear ho5 hb5 HO4 HB4
  go_wp2_with fail
  refine (HZ.out _ _ _ _ HO5.out).mono ?_
  rintro e v6 ⟨aZ, cZ, rfl, hZ, hb6⟩
  have HB6 : Hid (Below w.heap.size w v6) := HB5.out.trans (hb6.mono HB5.out.size)
  have HX6 : Hid (BsAt v6 aX X.length cX X) := (HX3.out.below (Nat.le_refl _) HW5.out).below (Nat.le_refl _) hb6
  have HY6 : Hid (BsAt v6 aY Y.length cY Y) := (HY3.out.below (Nat.le_refl _) HW5.out).below (Nat.le_refl _) hb6
  have HZ6 : Hid (BsAt v6 aZ Z.length cZ Z) := hZ
  clear hb6 hZ HB5 HX3 HY3 HW5 HO5
  go_wp2_with fail
  go_ret
  exact ⟨ret1 (by simp), HB6.out⟩
set_option maxRecDepth 100000 in
set_option maxHeartbeats 4000000 in
theorem batchJoins_yes (q : Nat) (a1 : Option Addr) (len1 cap1 : Nat) (b1 : List Opn) (a2 : Option Addr) (len2 cap2 : Nat) (b2 : List Opn) (X Y Z : List UInt8) (ca cb cz : Nat) (w : World) (H1 : Hid (OpsAt w a1 len1 cap1 b1)) (H2 : Hid (OpsAt w a2 len2 cap2 b2)) (hl1 : len1 ≤ 1048576) (hl2 : len2 ≤ 1048576)
    (HX : Hid (∀ W a n c, OpsAt W a n c b1 → Calls Try.prog 10 #[.int .u64 (q : Int), .slice a n c] W fun e w' => ∃ a' c', e = .returned (.tuple #[.slice a' X.length c', .int .i64 ((ca : Nat) : Int)]) ∧ BsAt w' a' X.length c' X ∧ Below W.heap.size W w'))
    (HY : Hid (∀ W a n c, OpsAt W a n c b2 → Calls Try.prog 10 #[.int .u64 (q : Int), .slice a n c] W fun e w' => ∃ a' c', e = .returned (.tuple #[.slice a' Y.length c', .int .i64 ((cb : Nat) : Int)]) ∧ BsAt w' a' Y.length c' Y ∧ Below W.heap.size W w'))
    (HZ : Hid (∀ W a n c, OpsAt W a n c (b1 ++ b2) → Calls Try.prog 10 #[.int .u64 (q : Int), .slice a n c] W fun e w' => ∃ a' c', e = .returned (.tuple #[.slice a' Z.length c', .int .i64 ((cz : Nat) : Int)]) ∧ BsAt w' a' Z.length c' Z ∧ Below W.heap.size W w'))
    (h1 : ca = 0) (h2 : cb = 0) (h3 : cz = 0) (hlX : 12 ≤ X.length) (hlY : 12 ≤ Y.length) (hlZ : 12 ≤ Z.length) (hsX : X.length ≤ 80000) (hsY : Y.length ≤ 80000) (hsZ : Z.length ≤ 80000) (hn : len1 + len2 ≤ 64)
    (HE8 : Hid (Z.take 8 = X.take 8)) (HE12 : Hid (Z.drop 12 = X.drop 12 ++ Y.drop 12)) (HE1 : Hid ((Z.getD 8 0).toNat = len1 + len2)) :
    Calls Try.prog 7 #[.int .u64 (q : Int), .slice a1 len1 cap1, .slice a2 len2 cap2] w fun e w' => e = .returned (.bool true) ∧ Below w.heap.size w w' := by
  subst h1 h2 h3
  go_enter Try.func7, Try.ntmps7
  go_wp2_with fail
  refine (awake_any _).mono ?_
  rintro e v1 ⟨rfl, hb1⟩
  have HB1 : Hid (Below w.heap.size w v1) := hb1
  clear hb1
  go_wp2_with fail
  refine (HX.out _ _ _ _ (H1.out.below (Nat.le_refl _) HB1.out)).mono ?_
  rintro e v2 ⟨aX, cX, rfl, hX, hb2⟩
  have HB2 : Hid (Below w.heap.size w v2) := HB1.out.trans (hb2.mono HB1.out.size)
  have HX2 : Hid (BsAt v2 aX X.length cX X) := hX
  clear hb2 hX HB1
  go_wp2_with fail
  refine (HY.out _ _ _ _ (H2.out.below (Nat.le_refl _) HB2.out)).mono ?_
  rintro e v3 ⟨aY, cY, rfl, hY, hb3⟩
  have HB3 : Hid (Below w.heap.size w v3) := HB2.out.trans (hb3.mono HB2.out.size)
  have HX3 : Hid (BsAt v3 aX X.length cX X) := HX2.out.below (Nat.le_refl _) hb3
  have HY3 : Hid (BsAt v3 aY Y.length cY Y) := hY
  have HP3 : Hid (OpsAt v3 a1 len1 cap1 b1) := H1.out.below (Nat.le_refl _) HB3.out
  have HQ3 : Hid (OpsAt v3 a2 len2 cap2 b2) := H2.out.below (Nat.le_refl _) HB3.out
  clear hb3 hY HB2 HX2
  go_wp2_with (first
    | (at_builtin; refine wpList_appO _ rfl _ _ rfl v3.heap.size _ 0 0 [] rfl (OwnO.made v3) _ _ _ b1 rfl (HP3.out.alloc _) (by omega) (by simp) ?_; intro a4 c4 v4 ho4 hb4
       have hz4 : v3.heap.size ≤ v4.heap.size := by have := hb4.size; simp at this; omega
       have HB4 : Hid (Below v3.heap.size v3 v4) := ((Below.refl _ v3).alloc (Nat.le_refl _) _).trans hb4
       have HO4 : Hid (OwnO v4 v3.heap.size a4 len1 c4 b1) := by unfold Hid; simpa using ho4
       clear ho4 hb4)
    | (at_builtin; refine wpList_appO _ rfl _ _ rfl v3.heap.size _ _ _ b1 rfl HO4.out _ _ _ b2 rfl (HQ3.out.below (Nat.le_refl _) HB4.out) (by omega) hz4 ?_))
  intro a5 c5 v5 ho5 hb5
  have HB5 : Hid (Below w.heap.size w v5) := (HB3.out.trans (HB4.out.mono HB3.out.size)).trans (hb5.mono HB3.out.size)
  have HW5 : Hid (Below v3.heap.size v3 v5) := HB4.out.trans hb5
  have HO5 : Hid (OpsAt v5 a5 (len1 + len2) c5 (b1 ++ b2)) := ho5.ops
  clear ho5 hb5 HO4 HB4
  go_wp2_with fail
  refine (HZ.out _ _ _ _ HO5.out).mono ?_
  rintro e v6 ⟨aZ, cZ, rfl, hZ, hb6⟩
  have HB6 : Hid (Below w.heap.size w v6) := HB5.out.trans (hb6.mono HB5.out.size)
  have HX6 : Hid (BsAt v6 aX X.length cX X) := (HX3.out.below (Nat.le_refl _) HW5.out).below (Nat.le_refl _) hb6
  have HY6 : Hid (BsAt v6 aY Y.length cY Y) := (HY3.out.below (Nat.le_refl _) HW5.out).below (Nat.le_refl _) hb6
  have HZ6 : Hid (BsAt v6 aZ Z.length cZ Z) := hZ
  clear hb6 hZ HB5 HX3 HY3 HW5 HO5
  have hlx := HX6.out.le
  have hly := HY6.out.le
  have hlz := HZ6.out.le
  obtain ⟨gX, oX, rfl, _⟩ := HX6.out.here (by omega)
  obtain ⟨gY, oY, rfl, _⟩ := HY6.out.here (by omega)
  obtain ⟨gZ, oZ, rfl, hcz⟩ := HZ6.out.here (by omega)
  have c8 := hcz 8 (by omega)
  rw [HE1.out] at c8
  have c8' : v6.drew.cell? ⟨gZ, oZ + 8, none⟩ = some (.int .u8 ((len1 + len2 : Nat) : Int)) := c8
  obtain ⟨pX, sX, bX⟩ := slice_from gX oX X.length cX 12 (by omega) hlx
  obtain ⟨pY, sY, bY⟩ := slice_from gY oY Y.length cY 12 (by omega) hly
  obtain ⟨pZ, sZ, bZ⟩ := slice_from gZ oZ Z.length cZ 12 (by omega) hlz
  have sX : ∀ W : World, (Instr.slice 25 (.slice (some ⟨gX, oX, none⟩) X.length cX) (some (.int .i64 12)) none none).run Try.prog W = .ok (.slice (some ⟨gX, pX, none⟩) (X.length - 12) (cX - 12)) W := sX
  have sY : ∀ W : World, (Instr.slice 25 (.slice (some ⟨gY, oY, none⟩) Y.length cY) (some (.int .i64 12)) none none).run Try.prog W = .ok (.slice (some ⟨gY, pY, none⟩) (Y.length - 12) (cY - 12)) W := sY
  have sZ : ∀ W : World, (Instr.slice 25 (.slice (some ⟨gZ, oZ, none⟩) Z.length cZ) (some (.int .i64 12)) none none).run Try.prog W = .ok (.slice (some ⟨gZ, pZ, none⟩) (Z.length - 12) (cZ - 12)) W := sZ
  have t1 := conv_of (bX _ _ HX6.out).drew
  have t2 := conv_of (bY _ _ HY6.out).drew
  have t3 := conv_of (bZ _ _ HZ6.out).drew
  have t4 := conv_of (HX6.out.upTo 8 (by omega)).drew
  have t5 := conv_of (HZ6.out.upTo 8 (by omega)).drew
  rw [HE8.out] at t5
  have hadd : ∀ W : World, (Op.stringOp .add (strOf (X.drop 12)) (strOf (Y.drop 12))).run Try.prog W = .ok (.string (strOf (X.drop 12) ++ strOf (Y.drop 12))) W := fun W => run_string_add_sum W _ _ (by
    have e1 : (strOf (X.drop 12)).size = (X.drop 12).length := by show (X.drop 12).toArray.size = _; simp
    have e2 : (strOf (Y.drop 12)).size = (Y.drop 12).length := by show (Y.drop 12).toArray.size = _; simp
    rw [e1, e2]
    simp
    omega)
  have hsum : strOf (Z.drop 12) = strOf (X.drop 12) ++ strOf (Y.drop 12) := by
    rw [HE12.out]
    have : (strOf (X.drop 12) ++ strOf (Y.drop 12)).data.toList = (strOf (X.drop 12 ++ Y.drop 12)).data.toList := by
      rw [ByteArray.data_append, Array.toList_append]
      simp [strOf]
    have h2 := congrArg strOf this
    rw [strOf_data, strOf_data] at h2
    exact h2.symm
  rw [hsum] at t3
  generalize strOf (X.drop 12) = S1 at t1 t3 hadd
  generalize strOf (Y.drop 12) = S2 at t2 t3 hadd
  generalize strOf (X.take 8) = S3 at t4 t5
  clear bX bY bZ hcz c8 hsum
  have k1 : 8 ≤ cX := by omega
  have k2 : 8 ≤ cZ := by omega
  have k3 : 8 < Z.length := by omega
  go_wp2_with fail
  go_region
  all_goals
    go_wp2_with fail
    go_ret
    exact ⟨ret1 (by simp), HB6.out.drew⟩

theorem batchJoins_walk (a0 : Int) (a1 : Option Addr) (len1 cap1 : Nat) (b1 : List Opn) (a2 : Option Addr) (len2 cap2 : Nat) (b2 : List Opn) (w : World) (w0 : (Lit.int .u64 a0).wf = true) (w1 : OpsAt w a1 len1 cap1 b1) (_f1 : ∀ o ∈ b1, (Lit.int .i64 o.kind).wf = true ∧ o.key.size ≤ maxLen ∧ o.val.size ≤ maxLen) (e1 : cap1 * 1 ≤ 1048576) (w2 : OpsAt w a2 len2 cap2 b2) (_f2 : ∀ o ∈ b2, (Lit.int .i64 o.kind).wf = true ∧ o.key.size ≤ maxLen ∧ o.val.size ≤ maxLen) (e2 : cap2 * 1 ≤ 1048576) :
    Calls Try.prog 7 #[.int .u64 a0, .slice a1 len1 cap1, .slice a2 len2 cap2] w fun e w' => e = .returned (.bool true) ∧ Below w.heap.size w w' := by
  obtain ⟨q, rfl, hq⟩ : ∃ n : Nat, a0 = (n : Int) ∧ n < 18446744073709551616 := by
    simp [Lit.wf, IntKind.min, IntKind.max, IntKind.bits, IntKind.signed] at w0
    exact ⟨a0.toNat, by omega, by omega⟩
  have hs1 := w1.size
  have hs2 := w2.size
  have hl1 : len1 ≤ 1048576 := by have := w1.le; omega
  have hl2 : len2 ≤ 1048576 := by have := w2.le; omega
  have HX := fun W a n c (h : OpsAt W a n c b1) => bencode_any q a n c b1 W hq h
  have HY := fun W a n c (h : OpsAt W a n c b2) => bencode_any q a n c b2 W hq h
  have HZ := fun W a n c (h : OpsAt W a n c (b1 ++ b2)) => bencode_any q a n c (b1 ++ b2) W hq h
  by_cases ha : bchk q b1 = 0
  · by_cases hb : bchk q b2 = 0
    · rcases bchk_join ha hb with hz | hz | hz
      · obtain ⟨j1, j2, j3⟩ := bEnc_join ha hb hz
        have hn := (bchk_zero hz).1
        rw [List.length_append] at hn
        rw [hs1, hs2] at hn j3
        exact batchJoins_yes q a1 len1 cap1 b1 a2 len2 cap2 b2 _ _ _ _ _ _ w w1 w2 hl1 hl2 HX HY HZ ha hb hz (bEnc_small ha).2 (bEnc_small hb).2 (bEnc_small hz).2 (bEnc_small ha).1 (bEnc_small hb).1 (bEnc_small hz).1 hn j1 j2 j3
      · exact batchJoins_m q a1 len1 cap1 b1 a2 len2 cap2 b2 _ _ _ _ _ _ w w1 w2 hl1 hl2 HX HY HZ ha hb hz
      · exact batchJoins_s q a1 len1 cap1 b1 a2 len2 cap2 b2 _ _ _ _ _ _ w w1 w2 hl1 hl2 HX HY HZ ha hb hz
    · exact batchJoins_b q a1 len1 cap1 b1 a2 len2 cap2 b2 _ _ _ _ _ _ w w1 w2 hl1 hl2 HX HY HZ ha hb
  · exact batchJoins_a q a1 len1 cap1 b1 a2 len2 cap2 b2 _ _ _ _ _ _ w w1 w2 hl1 hl2 HX HY HZ ha
end Go.Proofs.Ytohhdbmkbfehfaa
