/- staddlelaw03.BatchReads returns true, for every argument, and leaves memory as it was. -/
import Derived.Test.YtohhdbmkbfehfaaAwake3
import Derived.Test.YtohhdbmkbfehfaaOpsOwn
import Derived.Test.YtohhdbmkbfehfaaRBDec
import Derived.Test.YtohhdbmkbfehfaaSame
namespace Go.Proofs.Ytohhdbmkbfehfaa
open Go.RowKit
/-- A cell of another block is stored: the operations are as they were. -/
theorem OpsAt.store_far {w : World} {a : Option Addr} {len cap : Nat} {l : List Opn} (h : OpsAt w a len cap l) (p : Addr) (v : Value) (hf : ∀ ad, a = some ad → ad.block ≠ p.block) : OpsAt (w.setCell p v) a len cap l :=
  ⟨h.size, h.le, h.max, h.bare, fun hp => by
    obtain ⟨b, off, ha, hc⟩ := h.here hp
    have hb := hf _ ha
    refine ⟨b, off, ha, fun j hj => ?_⟩
    obtain ⟨h0, h1, h2⟩ := hc j hj
    have hne : ∀ o, p ≠ (⟨b, o, none⟩ : Addr) := fun o e => hb (by rw [e])
    refine ⟨?_, ?_, ?_⟩
    · rw [World.cell?_setCell_other _ _ _ _ (hne _)]; exact h0
    · rw [World.cell?_setCell_other _ _ _ _ (hne _)]; exact h1
    · rw [World.cell?_setCell_other _ _ _ _ (hne _)]; exact h2⟩
set_option maxRecDepth 100000 in
set_option maxHeartbeats 1000000 in
theorem batchReads_walk (a0 : Option Addr) (len0 cap0 : Nat) (b0 : List UInt8) (w : World) (w0 : BsAt w a0 len0 cap0 b0) (e0 : cap0 ≤ 140737488351232) :
    Calls Try.prog 5 #[.slice a0 len0 cap0] w fun e w' => e = .returned (.bool true) ∧ Below w.heap.size w w' := by
  have hle := w0.le
  have H0 : Hid (BsAt w a0 len0 cap0 b0) := w0
  have hdec := fun W a n c (h : BsAt W a n c b0) => bdecode_any a n c b0 W h
  have hrdec := fun W a n c (h : BsAt W a n c b0) => rbdecode_any a n c b0 W h
  generalize bDec b0 = D at hdec hrdec
  obtain ⟨q, l, er⟩ := D
  have HDEC : Hid (∀ W a n c, _) := hdec
  have HRDEC : Hid (∀ W a n c, _) := hrdec
  clear w0 hdec hrdec
  go_enter Try.func5, Try.ntmps5
  go_wp2_with (first
    | (go_at_call 9; refine (awake_any _).mono ?_; rintro e v1 ⟨rfl, hb1⟩)
    | (at_builtin; refine wpList_app0 v1 rfl _ _ rfl rfl _ _ _ b0 rfl (H0.out.below (Nat.le_refl _) hb1) (by omega) ?_))
  intro a2 c2 v2 ho2 hb2
  have HB2 : Hid (Below w.heap.size w v2) := hb1.trans (hb2.mono hb1.size)
  have HO2 : Hid (OwnB v2 w.heap.size a2 len0 c2 b0) := ho2.mono hb1.size
  clear ho2 hb2 hb1
  go_wp2_with fail
  refine (HDEC.out _ _ _ _ HO2.out.bs).mono ?_
  rintro e v3 ⟨a3, n3, c3, rfl, ho3, hf3, hb3⟩
  have HB3 : Hid (Below w.heap.size w v3) := HB2.out.trans (hb3.mono HB2.out.size)
  have HO3 : Hid (OwnB v3 w.heap.size a2 len0 c2 b0) := HO2.out.below hb3
  have HL3 : Hid (OpsAt v3 a3 n3 c3 l) := ho3
  have HF3 : Hid (∀ ad, a3 = some ad → v2.heap.size ≤ ad.block) := hf3
  clear ho3 hf3 hb3
  go_wp2_with fail
  go_loopw [8] (fun i wr => ∃ (k : Nat) (bs : List UInt8), k ≤ len0 ∧ i = .int .i64 (k : Int) ∧ Hid (BsAt wr a2 len0 c2 bs) ∧ Hid (∀ g, a2 = some ⟨g, 0, none⟩ → ∀ j, wr.frozen? ⟨g, j, none⟩ = false) ∧ Hid (OpsAt wr a3 n3 c3 l) ∧ Hid (Below w.heap.size w wr)) (fun i _ => len0 - (intOf i).toNat)
  case atStart => exact ⟨0, b0, Nat.zero_le _, rfl, HO3.out.bs, (fun g e j => by subst e; exact HO3.out.unfrozen j), HL3.out, HB3.out⟩
  case round =>
    obtain ⟨k, bs, hk, rfl, HX, HZ, HL, HW⟩ := hrel
    by_cases hlt : k < len0
    · obtain ⟨g, rfl, hBg, hgs, _⟩ := HO2.out.cells (by omega)
      obtain ⟨g', off, he, hc⟩ := HX.out.here (by omega)
      simp only [Option.some.injEq, Addr.mk.injEq, and_true] at he
      obtain ⟨rfl, rfl⟩ := he
      have hck := hc k hlt
      have hfk := HZ.out g rfl k
      rw [Nat.zero_add] at hck
      have hx1 : (0 : Int) ≤ (k : Int) := by omega
      have hx2 : (k : Int) < (len0 : Int) := by omega
      have HS : Hid (BsAt (wr.setCell ⟨g, k, none⟩ (.int .u8 99)) (some ⟨g, 0, none⟩) len0 c2 (bs.set k 99)) := by
        have := HX.out.store k hlt 99
        rw [Nat.zero_add] at this
        exact this
      have HLS : Hid (OpsAt (wr.setCell ⟨g, k, none⟩ (.int .u8 99)) a3 n3 c3 l) := HL.out.store_far _ _ (fun ad e => by have := HF3.out ad e; simp only; omega)
      have HWS : Hid (Below w.heap.size w (wr.setCell ⟨g, k, none⟩ (.int .u8 99))) := HW.out.setCell hBg _
      clear hc
      go_wp2_with fail
      go_roundw
      case rel => exact ⟨k + 1, bs.set k 99, by omega, by go_num, HS.out, (fun g' e j => by rw [World.frozen?_setCell]; exact HZ.out g' e j), HLS.out, HWS.out⟩
      case measure => simp [intOf]; omega
    · go_wp2_with fail
      refine (HRDEC.out _ _ _ _ (H0.out.below (Nat.le_refl _) HW.out)).mono ?_
      rintro e v5 ⟨a5, n5, c5, rfl, ho5, _, hb5⟩
      have HB5 : Hid (Below w.heap.size w v5) := HW.out.trans (hb5.mono HW.out.size)
      have HL5 : Hid (OpsAt v5 a3 n3 c3 l) := HL.out.below (Nat.le_refl _) hb5
      have HM5 : Hid (OpsAt v5 a5 n5 c5 l) := ho5
      clear ho5 hb5
      go_wp2_with fail
      have HS := same_any _ _ _ _ _ _ _ _ _ HL5.out HM5.out
      rw [show opsEq l l = true from (opsEq_iff _ _).2 rfl] at HS
      refine HS.mono ?_
      clear HS
      rintro e v6 ⟨rfl, hb6⟩
      have HB6 : Hid (Below w.heap.size w v6) := HB5.out.trans (hb6.mono HB5.out.size)
      clear hb6
      go_wp2_with fail
      go_ret
      exact ⟨ret1 (by simp), HB6.out⟩
end Go.Proofs.Ytohhdbmkbfehfaa
