/- asked: Put. -/
import Derived.Test.YtedddgkdpeielaaB6Low
import Derived.Deep.DeepCutAuto
namespace Go.Proofs.Ytedddgkdpeielaa
open Go.RowKit
set_option linter.unusedVariables false
set_option maxRecDepth 100000 in
set_option maxHeartbeats 2000000 in
theorem asked_2 {w0 w : World} {p q : Nat} {A : PA} (h : Both w0 w p q A) (pos n m : Int) (ba : Option Addr) (bl bc : Nat) (bs : List UInt8) (hp : in64 pos) (hn : in64 n) (hm : in64 m) (hb : BsAt w0 ba bl bc bs) (hbc : bc ≤ 140737488351232) : Calls Try.prog 11 #[at_ p, at_ q, .agg #[.int .i64 2, .int .i64 pos, .int .i64 n, .int .i64 m, .slice ba bl bc]] w fun e w' => e = .returned (.bool true) ∧ ∃ A', Both w0 w' p q A' := by
  obtain ⟨gb, ac, cc, hr⟩ := h.rf
  have HB : Hid (Both w0 (w.alloc (.cells #[.int .i64 2, .int .i64 pos, .int .i64 n, .int .i64 m, .slice ba bl bc] TC)) p q A) := h.below ((Below.refl _ _).alloc (Nat.le_refl _) _)
  have HR : Hid (RfAt (w.alloc (.cells #[.int .i64 2, .int .i64 pos, .int .i64 n, .int .i64 m, .slice ba bl bc] TC)) w0.heap.size q gb ac cc A) := hr.alloc _
  have HX : Hid (Box (w.alloc (.cells #[.int .i64 2, .int .i64 pos, .int .i64 n, .int .i64 m, .slice ba bl bc] TC)) w.heap.size TC #[.int .i64 2, .int .i64 pos, .int .i64 n, .int .i64 m, .slice ba bl bc]) := Box.new w _ _
  have HPS : Hid (in64 pos) := hp
  have HNS : Hid (in64 n) := hn
  have HMS : Hid (in64 m) := hm
  clear h hr hp hn hm
  have HBS : Hid (BsAt w0 ba bl bc bs) := hb
  have hble := hb.le
  obtain ⟨W, HW⟩ : ∃ W, Hid (W = w.alloc (.cells #[.int .i64 2, .int .i64 pos, .int .i64 n, .int .i64 m, .slice ba bl bc] 34)) := ⟨_, rfl⟩
  clear hb
  go_enter Try.func11, Try.ntmps11
  go_upto_region 7 with fail
  have hW := HW.out
  rw [← hW] at HB HR HX ⊢
  clear hW HW
  have hxlt : w.heap.size < W.heap.size := HX.out.lt
  have b4 := HX.out.cell 4
  simp at b4
  have HBW : Hid (BsAt W ba bl bc bs) := HBS.out.below (Nat.le_refl _) HB.out.base
  go_wp2_with (first | (at_builtin; refine wpList_app0 W rfl _ _ rfl rfl ba bl bc bs rfl HBW.out (by omega) ?_))
  intro a3 c3 w3 o3 hb3
  have hx3 : Box w3 w.heap.size TC #[.int .i64 2, .int .i64 pos, .int .i64 n, .int .i64 m, .slice ba bl bc] := HX.out.kept (hb3.block _ hxlt)
  have c1 := hx3.cell 1
  simp at c1
  have HO3 : Hid (OwnB w3 W.heap.size a3 bl c3 bs) := o3
  have HA3 : Hid (ArAt w3 p A) := HB.out.ar.below hb3
  have HR3 : Hid (RfAt w3 w0.heap.size q gb ac cc A) := HR.out.below hb3
  have HW3 : Hid (Below w0.heap.size w0 w3) := HB.out.base.trans (hb3.mono HB.out.base.size)
  have hs3 : W.heap.size ≤ w3.heap.size := hb3.size
  have HX3 : Hid (Box w3 w.heap.size TC #[.int .i64 2, .int .i64 pos, .int .i64 n, .int .i64 m, .slice ba bl bc]) := hx3
  have hplt : p < W.heap.size := HB.out.ar.lt
  have HFT : Hid (∀ k, RFoot q gb ac k → k < W.heap.size) := fun k hk => HR.out.foot_lt hk
  have HPG : Hid (w0.heap.size ≤ p) := HB.out.hp
  clear o3 hb3 hx3 HBW HB HR HX b4
  go_wp2_with fail
  refine (put_at HA3.out pos HPS.out a3 bl c3 bs HO3.out.bs).mono ?_
  rintro _ w4 ⟨rfl, a4, k4⟩
  have HA4 : Hid (ArAt w4 p (A.put pos bs).2) := a4
  have HR4 : Hid (RfAt w4 w0.heap.size q gb ac cc A) := HR3.out.chg k4 (fun k hk => HR3.out.offAr HA3.out hk)
  have HO4 : Hid (OwnB w4 W.heap.size a3 bl c3 bs) := HO3.out.keptB (fun k hk => k4.block k hk.2 (fun e => by have := hk.1; simp only [On] at e; omega))
  have HX4 : Hid (Box w4 w.heap.size TC #[.int .i64 2, .int .i64 pos, .int .i64 n, .int .i64 m, .slice ba bl bc]) := HX3.out.kept (k4.block _ HX3.out.lt (tag_ne HX3.out.tag HA3.out.box.tag (by decide)))
  have HW4 : Hid (Below w0.heap.size w0 w4) := HW3.out.trans (k4.below (fun k hk => by rw [hk]; exact HPG.out) HW3.out.size)
  have hs4 : W.heap.size ≤ w4.heap.size := Nat.le_trans hs3 k4.size
  have HW0 : Hid (w0.heap.size ≤ W.heap.size) := by have := HPG.out; unfold Hid; omega
  have HL0 : Hid (∃ l, OwnB w4 W.heap.size a3 bl c3 l) := ⟨_, HO4.out⟩
  clear a4 k4 HA3 HR3 HO3 HX3 HW3 HO4 c1
  go_wp2_with fail
  go_loopw [13] (fun i wr => ∃ t : Nat, t ≤ bl ∧ i = .int .i64 (t : Int) ∧ Hid (∃ l, OwnB wr W.heap.size a3 bl c3 l) ∧ Hid (Below W.heap.size w4 wr)) (fun i _ => bl - (intOf i).toNat)
  case atStart => exact ⟨0, Nat.zero_le _, rfl, HL0, Below.refl _ _⟩
  case round =>
    obtain ⟨t, ht, rfl, HL4, HB4⟩ := hrel
    clear HL0
    by_cases htl : t < bl
    · obtain ⟨l, ho⟩ := HL4.out
      obtain ⟨g, ha3, hgB, hglt, hcell⟩ := ho.cells (by omega)
      have e0 := hcell t htl
      subst ha3
      have e1 := ho.unfrozen t
      have HO5 : Hid (OwnB (wr.setCell ⟨g, t, none⟩ (.int .u8 99)) W.heap.size (some ⟨g, 0, none⟩) bl c3 (l.set t 99)) := ho.put t 99
      have HB5 : Hid (Below W.heap.size w4 (wr.setCell ⟨g, t, none⟩ (.int .u8 99))) := HB4.out.setCell hgB _
      generalize (l.getD t 0) = y at e0
      have hx3 : (0 : Int) ≤ (t : Int) := by omega
      have hx4 : (t : Int) < (bl : Int) := by omega
      clear ho hcell
      go_wp2
      go_roundw
      case rel => exact ⟨t + 1, by omega, by go_num, ⟨_, HO5.out⟩, HB5⟩
      case measure => simp [intOf]; omega
    · obtain rfl : t = bl := by omega
      have hx5 : Box wr w.heap.size TC #[.int .i64 2, .int .i64 pos, .int .i64 n, .int .i64 m, .slice ba t bc] := HX4.out.kept (HB4.out.block _ hxlt)
      have c1 := hx5.cell 1
      have c4 := hx5.cell 4
      simp at c1 c4
      have HA5 : Hid (ArAt wr p (A.put pos bs).2) := HA4.out.low hplt HB4.out
      have HR5 : Hid (RfAt wr w0.heap.size q gb ac cc A) := HR4.out.kept (fun k hk => HB4.out.block k (HFT.out k hk))
      have HW5 : Hid (Below w0.heap.size w0 wr) := HW4.out.trans (HB4.out.mono HW0.out)
      clear hx5
      go_wp2_with fail
      refine (rput_at HR5.out HW5.out pos HPS.out ba t bc bs HBS.out).mono ?_
      rintro _ w6 ⟨rfl, r6, k6⟩
      go_wp2
      go_returns
      refine ⟨rfl, _, HA5.out.chg k6 (fun hk => HR5.out.offAr HA5.out hk rfl), ⟨_, _, _, r6⟩, HPG.out, HW5.out.trans (k6.below (fun k hk => HR5.out.foot_ge hk) HW5.out.size)⟩
end Go.Proofs.Ytedddgkdpeielaa
