/- staddlelaw09.WalReads returns true at any bytes (so many at most), and leaves memory as it was. -/
import Derived.Test.YtdhfimolgcnejaaR9Read
import Derived.Test.YtdhfimolgcnejaaW9Same
import Derived.Test.YtdhfimolgcnejaaW9Turn
namespace Go.Proofs.Ytdhfimolgcnejaa
open Go.RowKit
/-- A byte of the call's own is stored. -/
theorem OwnB.store {w : World} {B g len cap : Nat} {bs : List UInt8} (h : OwnB w B (some ⟨g, 0, none⟩) len cap bs) (j : Nat) (x : UInt8) : OwnB (w.setCell ⟨g, j, none⟩ (.int .u8 (x.toNat : Int))) B (some ⟨g, 0, none⟩) len cap (bs.set j x) := by
  have hs := h.size
  refine ⟨by simp [hs], by rw [cellsB_length]; simp [hs], ?_⟩
  rcases h.row.2 with ⟨hv, _⟩ | ⟨g', c, cur, hv, hb, hg, hn, hc, hz, ht⟩
  · simp at hv
  · simp only [Value.slice.injEq, Option.some.injEq, Addr.mk.injEq, true_and, and_true] at hv
    obtain ⟨rfl, rfl⟩ := hv
    refine .inr ⟨g, cap, cur.setIfInBounds j (.int .u8 (x.toNat : Int)), rfl, hb, Box.set (w := w) (p := g) (t := 5) hg j _, hn, hc, by simpa using hz, ?_⟩
    rw [Nat.mul_one] at ht ⊢
    rw [Array.toList_setIfInBounds, List.take_set, ht]
    simp [cellsB]
theorem rread_eq (a : Option Addr) (len cap : Nat) (b : List UInt8) (rs : List (List UInt8)) (size en : Nat) (w : World) (h : BsAt w a len cap b) (hl : len ≤ 2000000) (hr : walRead b = (rs, size, en)) :
    Calls Try.prog 13 #[.slice a len cap] w fun e w' => ∃ ra rc, e = .returned (.tuple #[.slice ra rs.length rc, .int .i64 (size : Int), .int .i64 (en : Int)]) ∧ OwnRs w' w.heap.size ra rs.length rc rs ∧ Below w.heap.size w w' := by
  have := rread_any a len cap b w h hl
  unfold RefEnd at this
  rw [hr] at this
  exact this
set_option maxRecDepth 100000 in
set_option maxHeartbeats 1000000 in
theorem walReads_walk (a0 : Option Addr) (len0 cap0 : Nat) (b0 : List UInt8) (w : World) (w0 : BsAt w a0 len0 cap0 b0) (e0 : cap0 ≤ 1048576) :
    Calls Try.prog 5 #[.slice a0 len0 cap0] w fun e w' => e = .returned (.bool true) ∧ Below w.heap.size w w' := by
  have hle := w0.le
  have HLN : Hid (b0.length = len0) := w0.size
  have HBS : Hid (BsAt w a0 len0 cap0 b0) := w0
  clear w0
  obtain ⟨rs, sz, en, HW⟩ : ∃ rs sz en, Hid (walRead b0 = (rs, sz, en)) := ⟨_, _, _, rfl⟩
  obtain ⟨rl, HRL⟩ : ∃ rl, Hid (rs.length = rl) := ⟨_, rfl⟩
  go_enter Try.func5, Try.ntmps5
  go_wp2_with (first
    | (go_at_call 9; refine (awake_any _).mono ?_; rintro e v1 ⟨rfl, hb1⟩)
    | (at_builtin; refine wpList_app0 v1 rfl _ _ rfl rfl _ _ _ b0 rfl (HBS.out.below (Nat.le_refl _) hb1) (by omega) ?_; intro al cl v2 ho2 hb2))
  have HB2 : Hid (Below w.heap.size w v2) := hb1.trans (hb2.mono hb1.size)
  have HO2 : Hid (OwnB v2 w.heap.size al len0 cl b0) := ho2.mono hb1.size
  have hcl : len0 ≤ cl := ho2.bs.le
  clear hb1 hb2 ho2
  refine (read_eq al len0 cl b0 rs sz en _ HO2.out.bs (by omega) (by have := pcs_few b0; rw [HLN.out] at this; omega) HW.out).mono ?_
  rintro e v3 ⟨ra, rc, rfl, hrs3, hb3⟩
  rw [HRL.out] at hrs3 ⊢
  have HB3 : Hid (Below w.heap.size w v3) := HB2.out.trans (hb3.mono HB2.out.size)
  have HO3 : Hid (OwnB v3 w.heap.size al len0 cl b0) := HO2.out.below hb3
  have HR3 : Hid (OwnRs v3 v2.heap.size ra rl rc rs) := hrs3
  have HG : Hid (∀ k, blkOf al = some k → k < v2.heap.size) := fun k e => by
    obtain ⟨_, arr, ha⟩ := HO2.out.block e
    exact (Array.getElem?_eq_some_iff.1 ha).1
  clear hrs3 hb3
  go_wp2
  go_loopw [8] (fun i wr => ∃ k : Nat, k ≤ len0 ∧ i = .int .i64 (k : Int) ∧ Hid (∃ X, OwnB wr w.heap.size al len0 cl X) ∧ Hid (Below w.heap.size w wr) ∧ Hid (OwnRs wr v2.heap.size ra rl rc rs)) (fun i _ => len0 - (intOf i).toNat)
  case atStart => exact ⟨0, Nat.zero_le _, rfl, ⟨_, HO3.out⟩, HB3.out, HR3.out⟩
  case round =>
    obtain ⟨k, hk, rfl, HX, HB, HR⟩ := hrel
    by_cases hlt : k < len0
    · obtain ⟨X, hX⟩ := HX.out
      obtain ⟨g, rfl, hgw, _, hc⟩ := hX.cells (by omega)
      have hck := hc k hlt
      have hfk := hX.unfrozen k
      have hg2 := HG.out g rfl
      have HXX : Hid (OwnB (wr.setCell ⟨g, k, none⟩ (.int .u8 99)) w.heap.size (some ⟨g, 0, none⟩) len0 cl (X.set k 99)) := hX.store k 99
      have HBB : Hid (Below w.heap.size w (wr.setCell ⟨g, k, none⟩ (.int .u8 99))) := HB.out.setCell hgw _
      have HRR : Hid (OwnRs (wr.setCell ⟨g, k, none⟩ (.int .u8 99)) v2.heap.size ra rl rc rs) := HR.out.keep (fun i hi _ => Below.heap_setCell _ _ _ i (fun e => by simp only at e; omega))
      generalize (X.getD k 0).toNat = xk at hck
      clear hc hX
      go_wp2
      go_roundw
      case rel => exact ⟨k + 1, by omega, by go_num, ⟨_, HXX.out⟩, HBB.out, HRR.out⟩
      case measure => simp [intOf]; omega
    · obtain rfl : k = len0 := by omega
      go_wp2_with fail
      refine (rread_eq a0 k cap0 b0 rs sz en _ (HBS.out.below (Nat.le_refl _) HB.out) (by omega) HW.out).mono ?_
      rintro e v5 ⟨ra5, rc5, rfl, hrs5, hb5⟩
      rw [HRL.out] at hrs5 ⊢
      have HB5 : Hid (Below w.heap.size w v5) := HB.out.trans (hb5.mono HB.out.size)
      have HR5 : Hid (RsAt v5 ra rl rc rs) := (HR.out.below hb5).rs
      have HS5 : Hid (RsAt v5 ra5 rl rc5 rs) := hrs5.rs
      clear hrs5 hb5
      go_wp2_with fail
      refine (same_true ra rl rc ra5 rc5 rs _ HR5.out HS5.out).mono ?_
      rintro e v6 ⟨rfl, hb6⟩
      have HB6 : Hid (Below w.heap.size w v6) := HB5.out.trans (hb6.mono HB5.out.size)
      clear hb6
      go_wp2
      go_ret
      exact ⟨ret1 (by simp), HB6.out⟩
end Go.Proofs.Ytdhfimolgcnejaa
