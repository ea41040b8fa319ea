/- The contract of the document's own Own, once more: the rows' blocks are apart. -/
import Derived.Test.YtmlfbihlbiikeaaGreatDoorQd37
namespace Go.Proofs.YtmlfbihlbiikeaaGreatDoor
open Go.RowKit
set_option linter.unusedVariables false
set_option linter.unusedSimpArgs false
def ApV (k : Nat) (t : SV) : Prop := ∀ m n, m < k → n < k → m ≠ n → ∀ b, blkOf (t.a m) = some b → blkOf (t.a n) ≠ some b
theorem ApV.upd {k S : Nat} {t : SV} {a : Option Addr} {c : Nat} (h : ApV k t) (old : ∀ m, m < k → ∀ b, blkOf (t.a m) = some b → b < S) (new : ∀ b, blkOf a = some b → S ≤ b) : ApV (k + 1) (t.upd k a c) := fun m n hm hn hne b hb => by
  simp only [SV.upd] at hb ⊢
  by_cases h1 : m = k
  · rw [if_pos h1] at hb
    rw [if_neg (by omega)]
    intro e
    have := old n (by omega) b e
    have := new b hb
    omega
  · rw [if_neg h1] at hb
    by_cases h2 : n = k
    · rw [if_pos h2]
      intro e
      have := old m (by omega) b hb
      have := new b e
      omega
    · rw [if_neg h2]
      exact h m n (by omega) (by omega) hne b hb
set_option maxRecDepth 100000 in
set_option maxHeartbeats 8000000 in
theorem rown_apart (v : PV) (s : SV) (w : World) (h : VnAt w v s) (hn : v.all.length < 65536) :
    Calls Tryz.prog 24 #[.agg #[.slice (s.a 0) (v 0).length (s.c 0), .slice (s.a 1) (v 1).length (s.c 1), .slice (s.a 2) (v 2).length (s.c 2), .slice (s.a 3) (v 3).length (s.c 3)]] w fun e w' => ∃ t : SV, e = .returned (.agg #[.slice (t.a 0) (v 0).length (t.c 0), .slice (t.a 1) (v 1).length (t.c 1), .slice (t.a 2) (v 2).length (t.c 2), .slice (t.a 3) (v 3).length (t.c 3)]) ∧ OwnV w' w.heap.size v t ∧ Below w.heap.size w w' ∧ ApV 4 t := by
  have HV : Hid (VnAt w v s ∧ v.all.length < 65536) := ⟨h, hn⟩
  obtain ⟨W1, e1, HW⟩ : ∃ W1, W1 = ((w.alloc (.cells #[.slice (s.a 0) (v 0).length (s.c 0), .slice (s.a 1) (v 1).length (s.c 1), .slice (s.a 2) (v 2).length (s.c 2), .slice (s.a 3) (v 3).length (s.c 3)] TVn)).alloc (.cells #[.slice none 0 0, .slice none 0 0, .slice none 0 0, .slice none 0 0] TVn)).alloc (.cells #[.slice none 0 0, .slice none 0 0, .slice none 0 0, .slice none 0 0] TVn) ∧ Hid (Vr w (w.heap.size + 1 + 1) (uptoV v 0) sv0 W1 ∧ Box W1 w.heap.size TVn (vA v s) ∧ Box W1 (w.heap.size + 1) TVn #[.slice none 0 0, .slice none 0 0, .slice none 0 0, .slice none 0 0]) := by
    have b2 : Box (((w.alloc (.cells (vA v s) TVn)).alloc (.cells #[.slice none 0 0, .slice none 0 0, .slice none 0 0, .slice none 0 0] TVn)).alloc (.cells #[.slice none 0 0, .slice none 0 0, .slice none 0 0, .slice none 0 0] TVn)) (w.heap.size + 1 + 1) TVn #[.slice none 0 0, .slice none 0 0, .slice none 0 0, .slice none 0 0] := by
      have := Box.new ((w.alloc (.cells (vA v s) TVn)).alloc (.cells #[.slice none 0 0, .slice none 0 0, .slice none 0 0, .slice none 0 0] TVn)) TVn #[.slice none 0 0, .slice none 0 0, .slice none 0 0, .slice none 0 0]
      rw [World.size_alloc, World.size_alloc] at this
      exact this
    have b1 : Box (((w.alloc (.cells (vA v s) TVn)).alloc (.cells #[.slice none 0 0, .slice none 0 0, .slice none 0 0, .slice none 0 0] TVn)).alloc (.cells #[.slice none 0 0, .slice none 0 0, .slice none 0 0, .slice none 0 0] TVn)) (w.heap.size + 1) TVn #[.slice none 0 0, .slice none 0 0, .slice none 0 0, .slice none 0 0] := by
      have := (Box.new (w.alloc (.cells (vA v s) TVn)) TVn #[.slice none 0 0, .slice none 0 0, .slice none 0 0, .slice none 0 0]).alloc (.cells #[.slice none 0 0, .slice none 0 0, .slice none 0 0, .slice none 0 0] TVn)
      rw [World.size_alloc] at this
      exact this
    refine ⟨_, rfl, ⟨(((Below.refl _ _).alloc (Nat.le_refl _) _).alloc (by simp) _).alloc (by simp; omega) _, ?_, ?_, by omega⟩, ((Box.new w _ _).alloc _).alloc _, b1⟩
    · rw [uptoV_zero]
      exact b2
    · rw [uptoV_zero]
      exact OwnV.none _ _
  clear h hn
  go_enter Tryz.func24, Tryz.ntmps24
  go_upto_region 2 with fail
  rw [← e1]
  clear e1
  go_wp2_with fail
  go_loopw [4] (fun s4 wr => ∃ (k : Nat) (t : SV), k ≤ 4 ∧ s4 = .int .i64 (k : Int) ∧ Hid (Vr w (w.heap.size + 1 + 1) (uptoV v k) t wr ∧ Box wr w.heap.size TVn (vA v s) ∧ Box wr (w.heap.size + 1) TVn #[.slice none 0 0, .slice none 0 0, .slice none 0 0, .slice none 0 0] ∧ ApV k t)) (fun s4 _ => 4 - (intOf s4).toNat)
  case atStart => exact ⟨0, sv0, by omega, rfl, HW.out.1, HW.out.2.1, HW.out.2.2, fun m n hm => absurd hm (by omega)⟩
  case round =>
    obtain ⟨k, t, hk4, rfl, HI⟩ := hrel
    clear HW
    by_cases hk : k < 4
    · have hkI : (k : Int) < 4 := by omega
      have hx := idxL_arr w.heap.size k hk
      have hy := idxL_arr (w.heap.size + 1 + 1) k hk
      have hlk : (v k).length < 65536 := Nat.lt_of_le_of_lt (all_le v hk) HV.out.2
      have hcell := HI.out.2.1.level hk
      have hplt : w.heap.size < wr.heap.size := HI.out.2.1.lt
      have HA : Hid (OwnF (wr.alloc (.cells #[] TF)) (w.heap.size + 1 + 1 + 1) (some ⟨wr.heap.size, 0, none⟩) 0 0 [] ∧ FlAt (wr.alloc (.cells #[] TF)) (s.a k) (v k).length (s.c k) (v k) ∧ w.heap.size + 1 + 1 + 1 ≤ (wr.alloc (.cells #[] TF)).heap.size ∧ Below wr.heap.size wr (wr.alloc (.cells #[] TF))) := by
        have hb : Below wr.heap.size wr (wr.alloc (.cells #[] TF)) := (Below.refl _ _).alloc (Nat.le_refl _) _
        exact ⟨(OwnF.made wr).less HI.out.1.box.lt, ((HV.out.1 k hk).below HI.out.1.below).below hb, HI.out.1.grown hb, hb⟩
      generalize hvk : v k = lk at hlk hcell HA
      have HVK : Hid (v k = lk) := hvk
      clear hvk
      generalize s.a k = ak at hcell HA
      generalize s.c k = ck at hcell HA
      go_wp2_with (at_builtin; refine wpList_appFl (wr.alloc (.cells #[] TF)) rfl _ _ rfl wr.heap.size (some ⟨wr.heap.size, 0, none⟩) 0 0 [] rfl (OwnF.made wr) ak lk.length ck lk rfl HA.out.2.1 (by omega) HA.out.2.2.2.size ?_; intro a2 c2 w2 ho2 hb2 hg2; have H2 : Hid (Vr w (w.heap.size + 1 + 1) (uptoV v k) t w2 ∧ Box w2 w.heap.size TVn (vA v s) ∧ Box w2 (w.heap.size + 1) TVn #[.slice none 0 0, .slice none 0 0, .slice none 0 0, .slice none 0 0] ∧ OwnF w2 (w.heap.size + 1 + 1 + 1) a2 lk.length c2 lk) := rown_step HI.out.1 HI.out.2.1 HI.out.2.2.1 (ho2.less HI.out.1.box.lt) (hb2.mono HI.out.1.box.lt) hg2; have HN2 : Hid (∀ b, blkOf a2 = some b → wr.heap.size ≤ b) := (fun b hb => ho2.ge hb); have cf := H2.out.1.box.soft k; have cl := H2.out.1.box.level hk; clear ho2 hb2 hg2)
      clear HA hcell
      go_wp2
      go_roundw
      case rel =>
        refine ⟨k + 1, t.upd k a2 c2, hk, by go_num, ?_⟩
        have h1 := H2.out.1.put hk H2.out.2.2.2
        rw [← HVK.out, uptoV_succ] at h1
        rw [← HVK.out]
        exact ⟨h1, H2.out.2.1.other (by omega) _ _, H2.out.2.2.1.other (by omega) _ _, HI.out.2.2.2.upd (S := wr.heap.size) (fun m hm b hb => tag_lt ((HI.out.1.own m (by omega)).tag hb)) HN2.out⟩
      case measure => simp only [intOf]; omega
    · obtain rfl : k = 4 := by omega
      have H2 : Hid (Box wr (w.heap.size + 1 + 1) TVn (vA v t) ∧ OwnV wr (w.heap.size + 1 + 1 + 1) v t ∧ Below w.heap.size w wr ∧ Box wr (w.heap.size + 1) TVn #[.slice none 0 0, .slice none 0 0, .slice none 0 0, .slice none 0 0]) := ⟨HI.out.1.box.eq (uptoV_four v t), HI.out.1.own.four, HI.out.1.below, HI.out.2.2.1⟩
      have HAP : Hid (ApV 4 t) := HI.out.2.2.2
      clear HI
      obtain ⟨q0, q1, q2, q3⟩ := H2.out.1.fourV
      obtain ⟨r0, r1, r2, r3⟩ := (show Box wr (w.heap.size + 1) TVn (vA noV sv0) from H2.out.2.2.2).fourV
      have rs : ∀ j, wr.frozen? ⟨w.heap.size + 1, j, none⟩ = false := fun j => H2.out.2.2.2.soft j
      obtain ⟨Z, eZ, z0, z1, z2, z3, HZ⟩ := H2.out.2.2.2.back (.slice (t.a 0) (v 0).length (t.c 0)) (.slice (t.a 1) (v 1).length (t.c 1)) (.slice (t.a 2) (v 2).length (t.c 2)) (.slice (t.a 3) (v 3).length (t.c 3))
      have HF : Hid (Below w.heap.size w Z ∧ OwnV Z w.heap.size v t) := by
        refine ⟨H2.out.2.2.1.trans (HZ.out.below (fun k hk => by omega) H2.out.2.2.1.size), fun n hn => ?_⟩
        have h1 := H2.out.2.1 n hn
        refine (h1.kept (fun g hg => HZ.out.block _ (tag_lt (h1.tag hg)) (fun e => ?_))).less (by omega)
        have := h1.ge hg
        omega
      go_wp2
      rw [← eZ]
      refine bodyPost_ret (v := .agg #[.slice (t.a 0) (v 0).length (t.c 0), .slice (t.a 1) (v 1).length (t.c 1), .slice (t.a 2) (v 2).length (t.c 2), .slice (t.a 3) (v 3).length (t.c 3)]) (by simp [results, Tryz.results24, go_sem, z0, z1, z2, z3]) rfl ?_
      exact ⟨t, rfl, HF.out.2, HF.out.1, HAP.out⟩
end Go.Proofs.YtmlfbihlbiikeaaGreatDoor
