/- The contract of awake. -/
import Derived.Test.YtnjkfmglohcmhaaS7Own
namespace Go.Proofs.Ytnjkfmglohcmhaa
open Go.RowKit
set_option linter.unusedVariables false
abbrev kA : ByteArray := ⟨#[97]⟩
abbrev kB : ByteArray := ⟨#[98]⟩
abbrev kC : ByteArray := ⟨#[99]⟩
abbrev kAA : ByteArray := ⟨#[97, 97]⟩
theorem kl_ab : kl kA kB = true := by unfold kl; rw [ByteArray.toList_eq, ByteArray.toList_eq]; decide
theorem kl_aaa : kl kA kAA = true := by unfold kl; rw [ByteArray.toList_eq, ByteArray.toList_eq]; decide
theorem kl_baa : kl kB kAA = false := by unfold kl; rw [ByteArray.toList_eq, ByteArray.toList_eq]; decide
abbrev two : PS := ((PS.new 2).begin kB 2).begin kA 1
theorem two_keys : two.keys = [kB, kA] := rfl
theorem two_hs : two.hs = [2, 1] := rfl
theorem kAB : kA ≠ kB := kl_ne kl_ab
theorem kC_no : kC ∉ two.keys := by
  rw [two_keys]
  intro h
  simp only [List.mem_cons, List.not_mem_nil, or_false] at h
  rcases h with h | h <;> exact absurd h (by simp)
/-- What is there when both are done. -/
theorem two_done {S : PS} (hi : S.Inv) (hg : Goes two S) (h0 : S.done 0 = true) (h1 : S.done 1 = true) : S.lev 0 = [1, 0] ∧ (S.lev 1).length = 1 ∧ keyAt S (cntK S kAA) = kB ∧ cntK S kAA < (S.lev 0).length := by
  have hlen : S.ops.length = 2 := hg.len
  have hk : S.keys = [kB, kA] := hg.keys.trans two_keys
  have hh : S.hs = [2, 1] := hg.hs.trans two_hs
  have hall : S.allDone := fun i h => by
    rw [hlen] at h
    rcases (by omega : i = 0 ∨ i = 1) with rfl | rfl
    · exact h0
    · exact h1
  have k0 : S.key 0 = kB := by rw [PS.key_of_keys (by omega), hk]; rfl
  have k1 : S.key 1 = kA := by rw [PS.key_of_keys (by omega), hk]; rfl
  have e0 : S.lev 0 = [1, 0] := sorted_ext (r := fun x y => kl (S.key x) (S.key y) = true) (fun x y a b => kl_asym2 a b) (hi.sorted 0 (by omega)) (by simp [k0, k1, kl_ab]) fun x => by
    rw [hi.mem_done hall (by omega), hlen, hh]
    constructor
    · rintro ⟨a, _⟩
      simp
      omega
    · intro hx
      simp at hx
      rcases hx with rfl | rfl <;> simp
  have e1 : S.lev 1 = [0] := sorted_ext (r := fun x y => kl (S.key x) (S.key y) = true) (fun x y a b => kl_asym2 a b) (hi.sorted 1 (by omega)) (by simp) fun x => by
    rw [hi.mem_done hall (by omega), hlen, hh]
    constructor
    · rintro ⟨a, b⟩
      rcases (by omega : x = 0 ∨ x = 1) with rfl | rfl
      · simp
      · simp at b
    · intro hx
      simp at hx
      subst hx
      simp
  have ec : cntK S kAA = 1 := by
    unfold cntK cnt
    rw [e0]
    simp [k0, k1, kl_aaa, kl_baa]
  refine ⟨e0, by rw [e1]; rfl, ?_, by rw [ec, e0]; decide⟩
  rw [ec, keyAt_in (by rw [e0]; decide)]
  simp only [e0]
  exact k0
theorem two_left {S : PS} (hi : S.Inv) (hg : Goes two S) {i : Nat} (hl : i < 2) : S.left i ≤ [2, 1].getD i 0 * 18 + 16 := by
  have hlen : S.ops.length = 2 := hg.len
  have := hi.left_le (i := i) (by omega)
  rw [PS.height_of_hs (by omega), hg.hs.trans two_hs, hlen] at this
  exact this
set_option maxRecDepth 100000 in
set_option maxHeartbeats 4000000 in
theorem awake_any (w : World) : Calls Try.prog 9 #[] w fun e w' => e = .returned (.bool true) ∧ Below w.heap.size w w' := by
  go_enter Try.func9, Try.ntmps9
  go_wp2_with fail
  refine (new_at 2 w (by omega)).mono ?_
  rintro _ w1 ⟨p, g, rfl, h1, b1, f1⟩
  have H1 : Hid (Own7 w w1 p (PS.new 2) g) := ⟨h1, b1, f1⟩
  clear h1 b1 f1
  go_wp2_with fail
  refine (begin_new (h := 2) H1.out.at' (key := kB) (by decide) (by omega) (by intro h; cases h) (by decide)).mono ?_
  rintro _ w2 ⟨rfl, g2, h2, c2, f2⟩
  have H2 : Hid (Own7 w w2 p ((PS.new 2).begin kB 2) g2) := H1.out.chg h2 c2 f2
  clear h2 c2 f2 H1
  go_wp2_with fail
  refine (begin_new (h := 1) H2.out.at' (key := kA) (by decide) (by omega) (by rw [PS.begin_keys]; simp [PS.keys, PS.new]) (by decide)).mono ?_
  rintro _ w3 ⟨rfl, g3, h3, c3, f3⟩
  have H3 : Hid (Own7 w w3 p two g3) := H2.out.chg h3 c3 f3
  clear h3 c3 f3 H2
  go_wp2_with fail
  refine (begin_same H3.out.at' (key := kA) (by decide) 1 (by omega) (by rw [two_keys]; simp)).mono ?_
  rintro _ w4 ⟨rfl, h4, c4⟩
  have H4 : Hid (Own7 w w4 p two g3) := H3.out.below c4
  clear h4 c4 H3
  go_wp2_with fail
  refine (begin_full H4.out.at' (key := kC) (by decide) 1 (by omega) kC_no (by decide)).mono ?_
  rintro _ w5 ⟨rfl, h5, c5⟩
  have H5 : Hid (Own7 w w5 p two g3) := H4.out.below c5
  clear h5 c5 H4
  go_wp2_with fail
  refine (whole_at (i := 0) H5.out.at' (by decide) (most := 60) (Nat.le_trans (two_left H5.out.at'.inv (Goes.refl _) (by omega)) (by decide)) (by omega) (by omega)).mono ?_
  rintro _ w6 ⟨r6, S6, rfl, hr6, _, x6⟩
  have H6 : Hid (Own7 w w6 p S6 g3 ∧ Goes two S6 ∧ S6.done 0 = true) := ⟨H5.out.step x6.at' x6.chg, x6.goes, x6.done⟩
  clear x6 H5
  go_wp2_with fail
  refine (whole_at (i := 1) H6.out.1.at' (by rw [H6.out.2.1.len]; decide) (most := 40) (Nat.le_trans (two_left H6.out.1.at'.inv H6.out.2.1 (by omega)) (by decide)) (by omega) (by omega)).mono ?_
  rintro _ w7 ⟨r7, S7, rfl, hr7, _, x7⟩
  have H7 : Hid (Own7 w w7 p S7 g3 ∧ S7.lev 0 = [1, 0] ∧ (S7.lev 1).length = 1 ∧ keyAt S7 (cntK S7 kAA) = kB ∧ cntK S7 kAA < (S7.lev 0).length) := ⟨H6.out.1.step x7.at' x7.chg, two_done x7.at'.inv (H6.out.2.1.trans x7.goes) (x7.goes.done 0 H6.out.2.2) x7.done⟩
  clear x7 H6
  have HSK : Hid (Calls Try.prog 19 #[at_ p, .string kAA] w7 fun e w' => e = .returned (.tuple #[.string kB, .bool true]) ∧ Below w7.heap.size w7 w') := by
    have := seek_at H7.out.1.at' kAA
    rw [H7.out.2.2.2.1, decide_eq_true H7.out.2.2.2.2] at this
    exact this
  go_wp2_with fail
  refine HSK.out.mono ?_
  rintro _ w8 ⟨rfl, c8⟩
  have H8 : Hid (Own7 w w8 p S7 g3 ∧ (S7.lev 0).length = 2 ∧ (S7.lev 1).length = 1) := ⟨H7.out.1.below c8, by rw [H7.out.2.1]; rfl, H7.out.2.2.1⟩
  clear c8 HSK H7
  have hq : (kB.toList == kB.toList) = true := by simp
  have hr6' : (0 : Int) < (r6 : Int) := by omega
  have hr7' : (0 : Int) < (r7 : Int) := by omega
  go_wp2_with fail
  refine (keys_at H8.out.1.at' (l := 0) (by omega)).mono ?_
  rw [H8.out.2.1]
  rintro _ w9 ⟨a9, c9, rfl, _, b9⟩
  have H9 : Hid (Own7 w w9 p S7 g3 ∧ (S7.lev 1).length = 1) := ⟨H8.out.1.below b9, H8.out.2.2⟩
  clear b9 H8
  go_wp2_with fail
  refine (keys_at H9.out.1.at' (l := 1) (by omega)).mono ?_
  rw [H9.out.2]
  rintro _ w10 ⟨a10, c10, rfl, _, b10⟩
  have H10 : Hid (Below w.heap.size w w10) := (H9.out.1.below b10).base
  clear b10 H9
  go_wp2
  go_returns
  exact ⟨rfl, H10.out⟩
end Go.Proofs.Ytnjkfmglohcmhaa
