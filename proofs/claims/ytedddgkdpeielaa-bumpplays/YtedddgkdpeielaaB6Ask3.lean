/- asked: Get. -/
import Derived.Test.YtedddgkdpeielaaB6Low
namespace Go.Proofs.Ytedddgkdpeielaa
open Go.RowKit
set_option linter.unusedVariables false
set_option maxRecDepth 100000 in
set_option maxHeartbeats 2000000 in
theorem asked_3 {w0 w : World} {p q : Nat} {A : PA} (h : Both w0 w p q A) (pos n m : Int) (ba : Option Addr) (bl bc : Nat) (bs : List UInt8) (hp : in64 pos) (hn : in64 n) (hm : in64 m) (hb : BsAt w0 ba bl bc bs) (hbc : bc ≤ 140737488351232) : Calls Try.prog 11 #[at_ p, at_ q, .agg #[.int .i64 3, .int .i64 pos, .int .i64 n, .int .i64 m, .slice ba bl bc]] w fun e w' => e = .returned (.bool true) ∧ ∃ A', Both w0 w' p q A' := by
  obtain ⟨gb, ac, cc, hr⟩ := h.rf
  have HB : Hid (Both w0 (w.alloc (.cells #[.int .i64 3, .int .i64 pos, .int .i64 n, .int .i64 m, .slice ba bl bc] TC)) p q A) := h.below ((Below.refl _ _).alloc (Nat.le_refl _) _)
  have HR : Hid (RfAt (w.alloc (.cells #[.int .i64 3, .int .i64 pos, .int .i64 n, .int .i64 m, .slice ba bl bc] TC)) w0.heap.size q gb ac cc A) := hr.alloc _
  have HX : Hid (Box (w.alloc (.cells #[.int .i64 3, .int .i64 pos, .int .i64 n, .int .i64 m, .slice ba bl bc] TC)) w.heap.size TC #[.int .i64 3, .int .i64 pos, .int .i64 n, .int .i64 m, .slice ba bl bc]) := Box.new w _ _
  have HPS : Hid (in64 pos) := hp
  have HNS : Hid (in64 n) := hn
  have HMS : Hid (in64 m) := hm
  clear h hr hp hn hm
  clear hb hbc
  obtain ⟨W, HW⟩ : ∃ W, Hid (W = w.alloc (.cells #[.int .i64 3, .int .i64 pos, .int .i64 n, .int .i64 m, .slice ba bl bc] 34)) := ⟨_, rfl⟩
  go_enter Try.func11, Try.ntmps11
  go_wp2_with fail
  have hW := HW.out
  rw [← hW] at HB HR HX ⊢
  clear hW HW
  have hxlt : w.heap.size < W.heap.size := HX.out.lt
  have c1 := HX.out.cell 1
  have c2 := HX.out.cell 2
  simp at c1 c2
  refine (get_at HB.out.ar pos n HPS.out).mono ?_
  rintro _ w1 ⟨a1, l1, c1', rfl, o1, hl1, hb1⟩
  have d1 : w1.cell? ⟨w.heap.size, 1, none⟩ = some (.int .i64 pos) := by rw [hb1.cell hxlt]; exact c1
  have d2 : w1.cell? ⟨w.heap.size, 2, none⟩ = some (.int .i64 n) := by rw [hb1.cell hxlt]; exact c2
  have HO1 : Hid (OwnB w1 W.heap.size a1 l1 c1' (A.get pos n).1) := o1
  have HB1 : Hid (Below W.heap.size W w1) := hb1
  have hs1 : W.heap.size ≤ w1.heap.size := hb1.size
  clear o1 hb1 c1 c2
  go_wp2_with fail
  refine (rget_at (HR.out.below HB1.out) pos n HPS.out).mono ?_
  rintro _ w2 ⟨a2, l2, c2', rfl, o2, hb2⟩
  have HO2 : Hid (OwnB w2 W.heap.size a1 l1 c1' (A.get pos n).1) := HO1.out.below hb2
  have HB2 : Hid (Below W.heap.size W w2) := HB1.out.trans (hb2.mono hs1)
  have hs2 : W.heap.size ≤ w2.heap.size := HB2.out.size
  have hv1 := conv_of HO2.out.bs
  have hv2 := conv_of o2
  clear o2 hb2 HO1 HB1 hs1 d1 d2
  have HL : Hid (BsAt (w2.alloc (.cells #[.int .u8 99] 5)) (some ⟨w2.heap.size, 0, none⟩) 1 1 [99]) := BsAt.one rfl
  go_wp2_with (first | (at_builtin; refine wpList_app _ rfl _ _ rfl W.heap.size a1 l1 c1' _ rfl (HO2.out.alloc _) _ 1 1 [99] rfl HL.out (by omega) (by simp; omega) ?_))
  intro a3 c3' w3 o3 hb3 _
  have HL3 : Hid (∃ l, OwnB w3 W.heap.size a3 (l1 + 1) c3' l) := ⟨_, o3⟩
  have HB3 : Hid (Below W.heap.size W w3) := (HB2.out.alloc HB2.out.size _).trans hb3
  clear o3 hb3 HL hv1 hv2 HO2 HB2 hs2
  go_wp2_with fail
  go_loopw [19] (fun i wr => ∃ t : Nat, t ≤ l1 + 1 ∧ i = .int .i64 (t : Int) ∧ Hid (∃ l, OwnB wr W.heap.size a3 (l1 + 1) c3' l) ∧ Hid (Below W.heap.size W wr)) (fun i _ => l1 + 1 - (intOf i).toNat)
  case atStart => exact ⟨0, Nat.zero_le _, rfl, HL3, HB3⟩
  case round =>
    obtain ⟨t, ht, rfl, HL4, HB4⟩ := hrel
    clear HL3 HB3
    by_cases htl : t < l1 + 1
    · obtain ⟨l, ho⟩ := HL4.out
      obtain ⟨g, ha3, hgB, hglt, hcell⟩ := ho.cells (by omega)
      have e0 := hcell t htl
      subst ha3
      have e1 := ho.unfrozen t
      have HO5 : Hid (OwnB (wr.setCell ⟨g, t, none⟩ (.int .u8 99)) W.heap.size (some ⟨g, 0, none⟩) (l1 + 1) c3' (l.set t 99)) := ho.put t 99
      have HB5 : Hid (Below W.heap.size W (wr.setCell ⟨g, t, none⟩ (.int .u8 99))) := HB4.out.setCell hgB _
      generalize (l.getD t 0) = y at e0
      have hx3 : (0 : Int) ≤ (t : Int) := by omega
      have hx4 : (t : Int) < ((l1 + 1 : Nat) : Int) := by omega
      clear ho hcell
      go_wp2
      go_roundw
      case rel => exact ⟨t + 1, by omega, by go_num, ⟨_, HO5.out⟩, HB5⟩
      case measure => simp [intOf]; omega
    · obtain rfl : t = l1 + 1 := by omega
      go_wp2
      go_returns
      exact ⟨rfl, _, HB.out.low (Nat.le_refl _) HB4.out⟩
end Go.Proofs.Ytedddgkdpeielaa
