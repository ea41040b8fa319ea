/- The walk of VersionAsks. -/
import Derived.Test.YtcdfgcjecmpjhaaV14Awake
import Derived.Test.YtcdfgcjecmpjhaaV14RSame
import Derived.Test.YtcdfgcjecmpjhaaV14Size
import Derived.Test.YtcdfgcjecmpjhaaV14ROver
import Derived.Test.YtcdfgcjecmpjhaaV14RNums
import Derived.Deep.DeepCutAuto
import Derived.BigQuiet
namespace Go.Proofs.Ytcdfgcjecmpjhaa
open Go.RowKit
set_option linter.unusedVariables false
set_option linter.unusedSimpArgs false
/-- A version in a variable, and what lies below. -/
structure Va (w : World) (v : PV) (s : SV) (V : World) : Prop where
  below : Below w.heap.size w V
  box : Box V w.heap.size TVn (vA v s)
theorem Va.later {w V V' : World} {v : PV} {s : SV} (h : Va w v s V) (hb : Below V.heap.size V V') : Va w v s V' := ⟨h.below.trans (hb.mono h.below.size), h.box.kept (hb.block _ h.box.lt)⟩
set_option maxRecDepth 100000 in
set_option maxHeartbeats 8000000 in
theorem versionAsks_walk (v : PV) (s : SV) (l : Int) (a b : ByteArray) (w : World) (h : VnAt w v s) (hwf : WfV v) (hlen : ∀ n, n < 4 → (v n).length * 88 ≤ 140737488351232) (_hl : (Lit.int .i64 l).wf = true) (_ha : a.size ≤ 140737488351232) (_hb : b.size ≤ 140737488351232) :
    Calls Try.prog 5 #[.agg #[.slice (s.a 0) (v 0).length (s.c 0), .slice (s.a 1) (v 1).length (s.c 1), .slice (s.a 2) (v 2).length (s.c 2), .slice (s.a 3) (v 3).length (s.c 3)], .int .i64 l, .string a, .string b] w fun e w' => e = .returned (.bool true) ∧ Below w.heap.size w w' := by
  have HV : Hid (VnAt w v s ∧ ∀ n, n < 4 → (v n).length ≤ 2000000000000) := ⟨h, fun n hn => by have := hlen n hn; omega⟩
  have HB0 : Hid (Va w v s (w.alloc (.cells (vA v s) TVn))) := ⟨(Below.refl _ _).alloc (Nat.le_refl _) _, Box.new _ _ _⟩
  clear h hwf hlen _hl _ha _hb
  go_enter Try.func5, Try.ntmps5
  go_wp2_with fail
  refine (awake_any _).mono ?_
  rintro _ w1 ⟨rfl, hb1⟩
  have H1 : Hid (Va w v s w1) := HB0.out.later hb1
  clear hb1 HB0
  obtain ⟨c0, c1, c2, c3⟩ := H1.out.box.fourV
  go_wp2_with fail
  refine (many_any (HV.out.1.below H1.out.below) HV.out.2).mono ?_
  rintro _ w2 ⟨rfl, hb2⟩
  have H2 : Hid (Va w v s w2) := H1.out.later hb2
  clear hb2 H1 c0 c1 c2 c3
  by_cases hmany : 1000 < v.all.length
  · rw [decide_eq_true hmany]
    go_wp2
    go_ret
    exact ⟨ret1 rfl, H2.out.below⟩
  rw [decide_eq_false hmany]
  have hn : v.all.length < 65536 := by omega
  have HVN : Hid (VnAt w v s ∧ v.all.length < 65536) := ⟨HV.out.1, hn⟩
  clear hn hmany HV
  obtain ⟨c0, c1, c2, c3⟩ := H2.out.box.fourV
  go_wp2_with fail
  refine (over_any v s l a b w2 (HVN.out.1.below H2.out.below) HVN.out.2).mono ?_
  rintro _ w3 ⟨a3, k3, rfl, ho3, hb3⟩
  have H3 : Hid (Va w v s w3 ∧ FlAt w3 a3 (overV v l a b).length k3 (overV v l a b)) := ⟨H2.out.later hb3, ho3.fs⟩
  clear ho3 hb3 H2 c0 c1 c2 c3
  obtain ⟨c0, c1, c2, c3⟩ := H3.out.1.box.fourV
  go_wp2_with fail
  refine (rover_any v s l a b w3 (HVN.out.1.below H3.out.1.below) HVN.out.2).mono ?_
  rintro _ w4 ⟨a4, k4, rfl, ho4, hb4⟩
  have H4 : Hid (Va w v s w4 ∧ FlAt w4 a3 (overV v l a b).length k3 (overV v l a b) ∧ FlAt w4 a4 (overV v l a b).length k4 (overV v l a b)) := ⟨H3.out.1.later hb4, H3.out.2.below hb4, ho4.fs⟩
  clear ho4 hb4 H3 c0 c1 c2 c3
  generalize overV v l a b = ov at H4 ⊢
  obtain ⟨c0, c1, c2, c3⟩ := H4.out.1.box.fourV
  go_wp2_with fail
  refine (ask_any v s a w4 (HVN.out.1.below H4.out.1.below) HVN.out.2).mono ?_
  rintro _ w5 ⟨a5, k5, rfl, ho5, hb5⟩
  have H5 : Hid (Va w v s w5 ∧ FlAt w5 a3 ov.length k3 ov ∧ FlAt w5 a4 ov.length k4 ov ∧ FlAt w5 a5 (askV v 4 a).length k5 (askV v 4 a)) := ⟨H4.out.1.later hb5, H4.out.2.1.below hb5, H4.out.2.2.below hb5, ho5.fs⟩
  clear ho5 hb5 H4 c0 c1 c2 c3
  obtain ⟨c0, c1, c2, c3⟩ := H5.out.1.box.fourV
  go_wp2_with fail
  refine (rask_any v s a w5 (HVN.out.1.below H5.out.1.below) HVN.out.2).mono ?_
  rintro _ w6 ⟨a6, k6, rfl, ho6, hb6⟩
  have H6 : Hid (Va w v s w6 ∧ FlAt w6 a3 ov.length k3 ov ∧ FlAt w6 a4 ov.length k4 ov ∧ FlAt w6 a5 (askV v 4 a).length k5 (askV v 4 a) ∧ FlAt w6 a6 (askV v 4 a).length k6 (askV v 4 a)) := ⟨H5.out.1.later hb6, H5.out.2.1.below hb6, H5.out.2.2.1.below hb6, H5.out.2.2.2.below hb6, ho6.fs⟩
  clear ho6 hb6 H5 c0 c1 c2 c3
  generalize askV v 4 a = av at H6 ⊢
  go_wp2_with fail
  refine (sameFiles_eq H6.out.2.1 H6.out.2.2.1).mono ?_
  rintro _ w7 ⟨rfl, hb7⟩
  have H7 : Hid (Va w v s w7 ∧ FlAt w7 a5 av.length k5 av ∧ FlAt w7 a6 av.length k6 av) := ⟨H6.out.1.later hb7, H6.out.2.2.2.1.below hb7, H6.out.2.2.2.2.below hb7⟩
  clear hb7 H6
  go_wp2_with fail
  refine (sameFiles_eq H7.out.2.1 H7.out.2.2).mono ?_
  rintro _ w8 ⟨rfl, hb8⟩
  have H8 : Hid (Va w v s w8) := H7.out.1.later hb8
  clear hb8 H7
  obtain ⟨c0, c1, c2, c3⟩ := H8.out.box.fourV
  go_wp2_with fail
  refine (nums_any v s w8 (HVN.out.1.below H8.out.below) HVN.out.2).mono ?_
  rintro _ w9 ⟨a9, n9, k9, l9, rfl, ho9, hp9, hr9, hb9⟩
  have H9 : Hid (Va w v s w9 ∧ UsAt w9 a9 n9 k9 l9 ∧ l9.Perm (v.all.map PF.num) ∧ l9.Pairwise (· ≤ ·)) := ⟨H8.out.later hb9, ho9.us, hp9, hr9⟩
  clear ho9 hp9 hr9 hb9 H8 c0 c1 c2 c3
  obtain ⟨c0, c1, c2, c3⟩ := H9.out.1.box.fourV
  go_wp2_with fail
  refine (rnums_any v s w9 (HVN.out.1.below H9.out.1.below) HVN.out.2).mono ?_
  rintro _ wA ⟨aA, nA, kA, lA, rfl, hoA, hpA, hrA, hbA⟩
  obtain rfl : lA = l9 := rise_eq (hpA.trans H9.out.2.2.1.symm) hrA H9.out.2.2.2
  obtain rfl : nA = n9 := by rw [← hoA.size, H9.out.2.1.size]
  have hn9 : nA < 65536 := by
    have h1 := hoA.size
    have h2 := hpA.length_eq
    have h3 := HVN.out.2
    rw [List.length_map] at h2
    omega
  have HA : Hid (Va w v s wA ∧ UsAt wA a9 nA k9 lA ∧ UsAt wA aA nA kA lA) := ⟨H9.out.1.later hbA, H9.out.2.1.below hbA, hoA.us⟩
  clear hoA hpA hrA hbA H9 c0 c1 c2 c3
  go_wp2_with fail
  go_loopw [18] (fun s18 wq => ∃ i : Nat, i ≤ nA ∧ s18 = .int .i64 (i : Int) ∧ Hid (Below wA.heap.size wA wq)) (fun s18 _ => nA - (intOf s18).toNat)
  case atStart => exact ⟨0, Nat.zero_le _, rfl, Below.refl _ _⟩
  case round =>
    obtain ⟨i, hin, rfl, HJ⟩ := hrel
    by_cases hi : i < nA
    · have hil : i < lA.length := by rw [HA.out.2.1.size]; exact hi
      have hiI : (i : Int) < (nA : Int) := by omega
      obtain ⟨b1, o1, hidx, _, hcs⟩ := HA.out.2.1.at hil
      obtain ⟨b2, o2, hidx', _, hcs'⟩ := HA.out.2.2.at hil
      have c0 := hcs wr HJ.out
      have c1 := hcs' wr HJ.out
      clear hcs hcs'
      generalize lA[i] = p at c0 c1
      go_wp2_with fail
      go_quiet (fail)
      go_wp2
      go_roundw
      case rel => exact ⟨i + 1, by omega, by go_num, HJ.out.trans ⟨rfl, rfl, rfl, Nat.le_refl _, fun _ _ => rfl⟩⟩
      case measure => simp only [intOf]; omega
    · have hiI : ¬ (i : Int) < (nA : Int) := by omega
      have HL : Hid (Va w v s wr) := HA.out.1.later HJ.out
      have c0 := fun p : Bel wr => (HL.out.later p.h).box.fourV.1
      have c1 := fun p : Bel wr => (HL.out.later p.h).box.fourV.2.1
      have c2 := fun p : Bel wr => (HL.out.later p.h).box.fourV.2.2.1
      have c3 := fun p : Bel wr => (HL.out.later p.h).box.fourV.2.2.2
      have hne : Nonempty (Bel wr) := ⟨⟨wr, Below.refl _ _⟩⟩
      have HC1 : Hid (∀ p : Bel wr, Calls Try.prog 23 #[.agg #[.slice (s.a 0) (v 0).length (s.c 0), .slice (s.a 1) (v 1).length (s.c 1), .slice (s.a 2) (v 2).length (s.c 2), .slice (s.a 3) (v 3).length (s.c 3)], .int .i64 l] p.now fun e w' => e = .returned (.int .i64 (sizeV v l)) ∧ Below p.now.heap.size p.now w') := fun p => size_any v s l p.now (HVN.out.1.below (HL.out.later p.h).below) HVN.out.2
      have HC2 : Hid (∀ p : Bel wr, Calls Try.prog 24 #[.agg #[.slice (s.a 0) (v 0).length (s.c 0), .slice (s.a 1) (v 1).length (s.c 1), .slice (s.a 2) (v 2).length (s.c 2), .slice (s.a 3) (v 3).length (s.c 3)], .int .i64 l] p.now fun e w' => e = .returned (.int .i64 (sizeV v l)) ∧ Below p.now.heap.size p.now w') := fun p => rsize_any v s l p.now (HVN.out.1.below (HL.out.later p.h).below) HVN.out.2
      generalize sizeV v l = sz at HC1 HC2
      go_wp2_with fail
      refine wp_region_bel (by kernel_rfl) (by kernel_rfl) ?_
      repeat (quiet_step (first | (refine bel_call (HC1.out _)) | (refine bel_call (HC2.out _))))
      refine wpQuiet_nil ?_
      rintro _ ⟨p, rfl⟩
      have H3 : Hid (Below w.heap.size w p.now) := (HL.out.later p.h).below
      clear c0 c1 c2 c3
      generalize p.now = w3 at H3 ⊢
      go_wp2
      go_ret
      exact ⟨ret1 rfl, H3.out⟩
end Go.Proofs.Ytcdfgcjecmpjhaa
