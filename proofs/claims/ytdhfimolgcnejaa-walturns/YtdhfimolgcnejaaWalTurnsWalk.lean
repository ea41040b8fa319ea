/- staddlelaw09.WalTurns returns true at any records, any place and any bytes behind, and leaves memory as it was. -/
import Derived.Test.YtdhfimolgcnejaaW9Same
import Derived.Test.YtdhfimolgcnejaaW9Turn
import Derived.Deep.DeepCutAuto
namespace Go.Proofs.Ytdhfimolgcnejaa
open Go.RowKit
theorem turn_all : ∀ (c : Fin 256) (s : Fin 8), bits .xor .u8 ((c.val : Nat) : Int) (2 ^ s.val % 256) = (((c.val ^^^ 2 ^ s.val : Nat)) : Int) ∧ c.val ^^^ 2 ^ s.val < 256 ∧ c.val ^^^ 2 ^ s.val ≠ c.val := by decide +kernel
theorem turn_byte (c s : Nat) (hc : c < 256) (hs : s < 8) : ∃ x : UInt8, bits .xor .u8 (c : Int) (2 ^ s % 256) = (x.toNat : Int) ∧ x.toNat ≠ c := by
  obtain ⟨h1, h2, h3⟩ := turn_all ⟨c, hc⟩ ⟨s, hs⟩
  simp only at h1 h2 h3
  generalize c ^^^ 2 ^ s = y at h1 h2 h3
  have e : (UInt8.ofNat y).toNat = y := by simp; omega
  exact ⟨UInt8.ofNat y, by rw [e]; exact h1, by rw [e]; exact h3⟩
/-- A byte of the call's own is stored. -/
theorem OwnB.store {w : World} {B g len cap : Nat} {bs : List UInt8} (h : OwnB w B (some ⟨g, 0, none⟩) len cap bs) (j : Nat) (x : UInt8) : OwnB (w.setCell ⟨g, j, none⟩ (.int .u8 (x.toNat : Int))) B (some ⟨g, 0, none⟩) len cap (bs.set j x) := by
  have hs := h.size
  refine ⟨by simp [hs], by rw [cellsB_length]; simp [hs], ?_⟩
  rcases h.row.2 with ⟨hv, _⟩ | ⟨g', c, cur, hv, hb, hg, hn, hc, hz, ht⟩
  · simp at hv
  · simp only [Value.slice.injEq, Option.some.injEq, Addr.mk.injEq, true_and, and_true] at hv
    obtain ⟨rfl, rfl⟩ := hv
    refine .inr ⟨g, cap, cur.setIfInBounds j (.int .u8 (x.toNat : Int)), rfl, hb, Box.set (w := w) (p := g) (t := 5) hg j _, hn, hc, by simpa using hz, ?_⟩
    rw [Nat.mul_one] at ht ⊢
    rw [Array.toList_setIfInBounds, List.take_set, ht]
    simp [cellsB]
theorem rsAt_two (w : World) (a0 a1 : Option Addr) (l0 c0 l1 c1 : Nat) (b0 b1 : List UInt8) (h0 : BsAt w a0 l0 c0 b0) (h1 : BsAt w a1 l1 c1 b1) (e : TypeId) :
    RsAt (w.alloc (.cells #[.slice a0 l0 c0, .slice a1 l1 c1] e)) (some ⟨w.heap.size, 0, none⟩) 2 2 [b0, b1] := by
  refine ⟨rfl, Nat.le_refl _, by unfold maxLen; omega, by simp, fun _ => ⟨w.heap.size, 0, rfl, fun j hj => ?_⟩⟩
  have hs0 := h0.size
  have hs1 := h1.size
  obtain rfl | rfl : j = 0 ∨ j = 1 := by omega
  · refine ⟨a0, c0, ?_, ?_⟩
    · subst hs0
      simp
    · subst hs0
      exact h0.alloc _
  · refine ⟨a1, c1, ?_, ?_⟩
    · subst hs1
      simp
    · subst hs1
      exact h1.alloc _
theorem laid_two (a : Option Addr) (c : Nat) (b0 b1 : List UInt8) (w : World) (h : RsAt w a 2 c [b0, b1]) (h0 : b0.length ≤ 40) (h1 : b1.length ≤ 40) (L : Nat) (hL : L = 14 + b0.length + b1.length) :
    Calls Try.prog 15 #[.slice a 2 c] w fun e w' => ∃ g c', e = .returned (.tuple #[.slice (some ⟨g, 0, none⟩) L c', .bool true]) ∧ OwnB w' w.heap.size (some ⟨g, 0, none⟩) L c' (logFrom [] [b0, b1]) ∧ w.heap.size ≤ g ∧ Below w.heap.size w w' := by
  have hl0 : leftN 0 = 128 := rfl
  have hlog : logFrom [] [b0, b1] = pcEnc 1 b0 ++ pcEnc 1 b1 := by
    simp only [logFrom, List.nil_append, List.length_nil]
    rw [putP_whole 0 b0 (by omega), pcEnc_length, putP_whole _ b1 (by unfold leftN; omega)]
  have hlen : (logFrom [] [b0, b1]).length = L := by
    rw [hlog, List.length_append, pcEnc_length, pcEnc_length]
    omega
  refine (laid_any a 2 c _ w h (by omega)).mono ?_
  rintro e w' (⟨a', c', _, rfl, ho, _, hb⟩ | ⟨⟨j, hj, hg⟩, _⟩)
  · rw [hlen] at ho ⊢
    obtain ⟨g, rfl, hg, _, _⟩ := ho.cells (by omega)
    exact ⟨g, c', rfl, ho, hg, hb⟩
  · exfalso
    simp only [List.length_cons, List.length_nil] at hj
    obtain rfl | rfl : j = 0 ∨ j = 1 := by omega
    · simp [List.getD] at hg
      omega
    · simp [List.getD] at hg
      omega
set_option maxRecDepth 100000 in
set_option maxHeartbeats 1000000 in
theorem walTurns_walk (a0 : Option Addr) (len0 cap0 : Nat) (b0 : List UInt8) (a1 : Option Addr) (len1 cap1 : Nat) (b1 : List UInt8) (a2 : Int) (a3 : Option Addr) (len3 cap3 : Nat) (b3 : List UInt8) (w : World)
    (w0 : BsAt w a0 len0 cap0 b0) (_e0 : cap0 ≤ 140737488351232) (w1 : BsAt w a1 len1 cap1 b1) (_e1 : cap1 ≤ 140737488351232) (w2 : (Lit.int .i64 a2).wf = true) (w3 : BsAt w a3 len3 cap3 b3) (e3 : cap3 ≤ 140737488351232) :
    Calls Try.prog 7 #[.slice a0 len0 cap0, .slice a1 len1 cap1, .int .i64 a2, .slice a3 len3 cap3] w fun e w' => e = .returned (.bool true) ∧ Below w.heap.size w w' := by
  have hle3 := w3.le
  have hr : -9223372036854775808 ≤ a2 ∧ a2 ≤ 9223372036854775807 := by
    simp [Lit.wf, IntKind.min, IntKind.max, IntKind.bits, IntKind.signed] at w2
    omega
  clear w2
  by_cases h0 : 40 < len0
  · go_enter Try.func7, Try.ntmps7
    go_wp2_with (go_at_call 9; refine (awake_any _).mono ?_; rintro e v1 ⟨rfl, hb1⟩)
    go_ret
    exact ⟨rfl, hb1⟩
  · have h0' : decide (40 < (len0 : Int)) = false := by simp; omega
    by_cases h1 : 40 < len1
    · go_enter Try.func7, Try.ntmps7
      go_wp2_with (go_at_call 9; refine (awake_any _).mono ?_; rintro e v1 ⟨rfl, hb1⟩)
      go_ret
      exact ⟨rfl, hb1⟩
    · have h1' : decide (40 < (len1 : Int)) = false := by simp; omega
      have H0 : Hid (BsAt w a0 len0 cap0 b0) := w0
      have H1 : Hid (BsAt w a1 len1 cap1 b1) := w1
      have H3 : Hid (BsAt w a3 len3 cap3 b3) := w3
      have HS : Hid (b0.length = len0 ∧ b1.length = len1) := ⟨w0.size, w1.size⟩
      clear w0 w1 w3
      obtain ⟨L, HL⟩ : ∃ L, Hid (L = 14 + len0 + len1) := ⟨_, rfl⟩
      have hLb : L ≤ 94 := by have := HL.out; omega
      have hLn : ((L : Int) != 7 + (len0 : Int) + 7 + (len1 : Int)) = false := by have := HL.out; simp; omega
      go_enter Try.func7, Try.ntmps7
      go_wp2_with (go_at_call 9; refine (awake_any _).mono ?_; rintro e v1 ⟨rfl, hb1⟩)
      have HB1 : Hid (Below w.heap.size w v1) := hb1
      clear hb1
      have HRS := rsAt_two v1 a0 a1 len0 cap0 len1 cap1 b0 b1 (H0.out.below (Nat.le_refl _) HB1.out) (H1.out.below (Nat.le_refl _) HB1.out) TBs
      refine (laid_two _ _ b0 b1 _ HRS (by have := HS.out; omega) (by have := HS.out; omega) L (by have := HS.out; have := HL.out; omega)).mono ?_
      rintro e v2 ⟨g, c2, rfl, ho2, hg2, hb2⟩
      have HB2 : Hid (Below w.heap.size w v2) := (HB1.out.alloc HB1.out.size _).trans (hb2.mono (by have := HB1.out.size; simp; omega))
      have hgw : w.heap.size ≤ g := by have := HB1.out.size; simp at hg2; omega
      have HO2 : Hid (OwnB v2 w.heap.size (some ⟨g, 0, none⟩) L c2 (logFrom [] [b0, b1])) := ho2.mono (by have := HB1.out.size; simp; omega)
      clear ho2 hb2 hg2 HRS
      go_upto_if 47 with fail
      go_cut [2] (fun s wc => ∃ q : Nat, s = .int .i64 q ∧ q ≤ 9223372036854775807 ∧ wc = v2)
      case first =>
        by_cases hq : a2 < 0
        · obtain ⟨q, e⟩ : ∃ q : Nat, -(a2 + 1) = (q : Int) := ⟨(-(a2 + 1)).toNat, by omega⟩
          have HE : Hid (-(a2 + 1) = (q : Int)) := e
          clear e
          go_wp2_with fail
          go_meet
          exact ⟨q, by rw [HE.out], by have := HE.out; omega, rfl⟩
        · go_wp2_with fail
          go_meet
          exact ⟨a2.toNat, by rw [show ((a2.toNat : Nat) : Int) = a2 by omega], by omega, rfl⟩
      case rest =>
        obtain ⟨m, rfl, hm, rfl⟩ := hcut
        clear hr
        obtain ⟨j, s, hj, hs, hmr, hq, hrm⟩ : ∃ j s : Nat, j < 7 + len1 ∧ s < 8 ∧ (m : Int) % (8 * (7 + (len1 : Int))) = ((8 * j + s : Nat) : Int) ∧ ((8 * j + s : Nat) : Int) / 8 = (j : Int) ∧ ((8 * j + s : Nat) : Int) % 8 = (s : Int) := by
          have h1 : m % (8 * (7 + len1)) < 8 * (7 + len1) := Nat.mod_lt _ (by omega)
          refine ⟨m % (8 * (7 + len1)) / 8, m % (8 * (7 + len1)) % 8, by omega, by omega, ?_, by omega, by omega⟩
          rw [Nat.div_add_mod]
          simp
        generalize hrr : 8 * j + s = r at hmr hq hrm
        clear hrr
        by_cases hj45 : j = 4 ∨ j = 5
        · rcases hj45 with rfl | rfl
          · go_wp2
            go_ret
            exact ⟨rfl, HB2.out⟩
          · go_wp2
            go_ret
            exact ⟨rfl, HB2.out⟩
        · have hj4 : ((j : Int) == 4) = false := by simp; omega
          have hj5 : ((j : Int) == 5) = false := by simp; omega
          obtain ⟨ix, HIX, hix⟩ : ∃ ix : Nat, Hid (ix = 7 + len0 + j) ∧ 7 + (len0 : Int) + (j : Int) = (ix : Int) := ⟨7 + len0 + j, rfl, by omega⟩
          have hixL : ix < L := by have := HIX.out; have := HL.out; omega
          obtain ⟨_, hge, _, hglt, hc⟩ := HO2.out.cells (by omega)
          obtain rfl : g = _ := by simpa using hge
          have hcx := hc ix hixL
          have hfx := HO2.out.unfrozen ix
          have hc8 : ((logFrom [] [b0, b1]).getD ix 0).toNat < 256 := UInt8.toNat_lt _
          generalize hcd : ((logFrom [] [b0, b1]).getD ix 0).toNat = c at hcx hc8
          obtain ⟨x, hx, hxc⟩ := turn_byte c s hc8 hs
          have HST : Hid (OwnB (wc.setCell ⟨g, ix, none⟩ (.int .u8 (x.toNat : Int))) w.heap.size (some ⟨g, 0, none⟩) L c2 ((logFrom [] [b0, b1]).set ix x)) := HO2.out.store ix x
          have HBW : Hid (Below w.heap.size w (wc.setCell ⟨g, ix, none⟩ (.int .u8 (x.toNat : Int)))) := HB2.out.setCell hgw _
          obtain ⟨f, HF⟩ : ∃ f, Hid (f ≠ 0 ∧ walRead ((logFrom [] [b0, b1]).set ix x ++ b3) = ([b0], 7 + len0, f) ∧ (pcs ((logFrom [] [b0, b1]).set ix x ++ b3) 0).length ≤ 2) := by
            have h1 := HS.out
            have h2 := HIX.out
            have := read_turned b0 b1 b3 j x (by omega) (by omega) (by omega) (by omega) (by omega) (by rw [h1.1, ← h2]; intro e; exact hxc (by rw [← hcd, e]))
            rw [h1.1, ← h2] at this
            exact this
          clear hcd hc hxc hge
          go_wp2_with (at_builtin; refine wpList_app _ rfl _ _ rfl w.heap.size _ _ _ ((logFrom [] [b0, b1]).set ix x) rfl HST.out _ _ _ b3 rfl (H3.out.below (Nat.le_refl _) HBW.out) (by omega) HBW.out.size ?_; intro a5 c5 v5 ho5 hb5 _)
          have HB5 : Hid (Below w.heap.size w v5) := HBW.out.trans hb5
          have HO5 : Hid (BsAt v5 a5 (L + len3) c5 ((logFrom [] [b0, b1]).set ix x ++ b3)) := ho5.bs
          clear ho5 hb5
          refine (read_eq a5 (L + len3) c5 _ [b0] (7 + len0) f _ HO5.out (by omega) (by have := HF.out.2.2; omega) HF.out.2.1).mono ?_
          rintro e v6 ⟨ra, rc, rfl, hrs, hb6⟩
          have HB6 : Hid (Below w.heap.size w v6) := HB5.out.trans (hb6.mono HB5.out.size)
          obtain ⟨bb, off, rfl, hcell⟩ := hrs.rs.here (by simp)
          obtain ⟨aj, cj, hc0, hbj⟩ := hcell 0 (by simp)
          simp only [List.getD_cons_zero, HS.out.1, Nat.add_zero] at hc0 hbj
          have s1 : ∀ m, (convert 23 9 (.slice aj len0 cj)).run Try.prog (v6.drewN m) = .ok (.string (strOf b0)) (v6.drewN m) := fun m => conv_of (hbj.below (Nat.le_refl _) (below_drewN (Below.refl _ _) m))
          have s2 : ∀ m, (convert 23 9 (.slice a0 len0 cap0)).run Try.prog (v6.drewN m) = .ok (.string (strOf b0)) (v6.drewN m) := fun m => conv_of (H0.out.below (Nat.le_refl _) (below_drewN HB6.out m))
          have hfn : ((f : Int) != 0) = true := by have := HF.out.1; simp; omega
          have hl1 : ([b0] : List (List UInt8)).length = 1 := rfl
          rw [hl1]
          clear hcell hbj hrs hb6
          go_wp2_with fail
          go_quiet (fail)
          go_wp2
          go_ret
          exact ⟨ret1 (by simp), below_drewN HB6.out _⟩
end Go.Proofs.Ytdhfimolgcnejaa
