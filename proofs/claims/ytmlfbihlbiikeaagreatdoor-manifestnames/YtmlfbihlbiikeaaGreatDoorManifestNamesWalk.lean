/- The walk of ManifestNames. -/
import Derived.Test.YtmlfbihlbiikeaaGreatDoorQa46
import Derived.Test.YtmlfbihlbiikeaaGreatDoorQa21
import Derived.Test.YtmlfbihlbiikeaaGreatDoorQa36
namespace Go.Proofs.YtmlfbihlbiikeaaGreatDoor
open Go.RowKit
set_option linter.unusedVariables false
set_option linter.unusedSimpArgs false
set_option maxRecDepth 100000
theorem parseR_lt (s : List UInt8) : (parseR s).2 < 18446744073709551616 ∧ WfI (parseR s).1 := by
  have h := digV_lt s
  have key : ∀ (k : Int) (n : Nat), (-9223372036854775808 ≤ k ∧ k ≤ 9223372036854775807) → n < 18446744073709551616 → ((k, n) : Int × Nat).2 < 18446744073709551616 ∧ (-9223372036854775808 ≤ ((k, n) : Int × Nat).1 ∧ ((k, n) : Int × Nat).1 ≤ 9223372036854775807) := fun k n a b => ⟨b, a⟩
  unfold parseR WfI
  split
  · exact key _ _ (by decide) (by decide)
  · split
    · exact key _ _ (by decide) (by decide)
    · split
      · exact key _ _ (by decide) h
      · split
        · exact key _ _ (by decide) h
        · split
          · exact key _ _ (by decide) h
          · exact key _ _ (by decide) (by decide)
theorem empty_str (m : List UInt8) : (strOf m).toList.isEmpty = m.isEmpty := by
  rw [ByteArray.toList_eq]
  rfl
set_option maxHeartbeats 4000000 in
theorem manifestNames_walk (kind : Int) (num : Nat) (name : ByteArray) (w : World) (hk0 : (Lit.int .i64 kind).wf = true) (hn0 : (Lit.int .u64 (num : Int)).wf = true) (hl0 : name.size ≤ 140737488351232) (hg : Gl w) (h8 : 6 ≤ w.heap.size) :
    Calls Tryz.prog 4 #[.int .i64 kind, .int .u64 (num : Int), .string name] w fun e w' => e = .returned (.bool true) ∧ Below w.heap.size w w' := by
  have hk : WfI kind := by simp [Lit.wf, IntKind.min, IntKind.max, IntKind.bits, IntKind.signed] at hk0; unfold WfI; omega
  have hn : num < 18446744073709551616 := by simp [Lit.wf, IntKind.min, IntKind.max, IntKind.bits, IntKind.signed] at hn0; omega
  have hl : name.size ≤ 281474976710656 := by omega
  clear hk0 hn0 hl0
  obtain ⟨s, rfl⟩ : ∃ s, name = strOf s := ⟨name.data.toList, rfl⟩
  have hls : s.length ≤ 281474976710656 := by rw [← strOf_size]; exact hl
  have HA := awake_yes w hg h8
  have HNM := fun (W : World) (h : Gl W) => name_any kind hk num hn W h
  have HRN := fun (W : World) (h : Gl W) => rname_any kind num hn W h
  have HPS := fun (W : World) (h : Gl W) => parse_any s hls W h
  have HRP := fun (W : World) (h : Gl W) => rparse_any s hls W h
  have hml : (nameP kind num).length ≤ 281474976710656 := by
    unfold nameP
    split
    · decide
    · split
      · decide
      · split
        · decide
        · rename_i h3
          have h5 := numB_len (n := num) (by omega)
          split
          · rw [List.length_append]; have : logB.length = 4 := rfl; omega
          · split
            · rw [List.length_append]; have : tabB.length = 4 := rfl; omega
            · split
              · rw [List.length_append]; have : manB.length = 9 := rfl; omega
              · decide
  have HPM := fun (W : World) (h : Gl W) => parse_any (nameP kind num) hml W h
  have hback := fun h => (parseR_names s).back h
  have hmade := fun h => Names.made h (parseR_names (nameP kind num))
  have hwf := parseR_lt s
  have HMZ : Hid (nameP kind num = [] ∨ (nameP kind num ≠ [] ∧ (parseR (nameP kind num)).1 = kind ∧ (kind < 4 → (parseR (nameP kind num)).2 = num))) := by
    by_cases h : nameP kind num = []
    · exact .inl h
    · exact .inr ⟨h, hmade h⟩
  generalize nameP kind num = m at HNM HRN HPM HMZ
  generalize parseR m = pm at HPM HMZ
  obtain ⟨pj, po⟩ := pm
  have HBK : Hid ((parseR s).1 ≠ 0 → nameP (parseR s).1 (parseR s).2 = s) := hback
  generalize parseR s = ps at HPS HRP HBK hwf
  obtain ⟨pk, pn⟩ := ps
  dsimp only at HPS HRP HBK hwf HPM HMZ
  have HNB : Hid (∀ W, Gl W → pk ≠ 0 → Calls Tryz.prog 10 #[.int .i64 pk, .int .u64 (pn : Int)] W fun e w' => e = .returned (.string (strOf s)) ∧ Below W.heap.size W w') := fun W h h0 => by
    have := name_any pk hwf.2 pn hwf.1 W h
    rw [HBK.out h0] at this
    exact this
  have HG : Hid (Gl w) := hg
  obtain ⟨b0, hb0, HB0⟩ : ∃ b, (strOf m).toList.isEmpty = b ∧ Hid (b = m.isEmpty) := ⟨_, rfl, empty_str m⟩
  clear hmade hback hwf hml hls hl hg
  go_enter Tryz.func4, Tryz.ntmps4
  go_wp2_with fail
  refine HA.mono ?_
  rintro _ w1 ⟨rfl, hb1⟩
  have H1 : Hid (Below w.heap.size w w1 ∧ Gl w1) := ⟨hb1, HG.out.later hb1⟩
  clear hb1 HA
  go_wp2_with fail
  refine (HNM _ H1.out.2).mono ?_
  rintro _ w2 ⟨rfl, hb2⟩
  have H2 : Hid (Below w.heap.size w w2 ∧ Gl w2) := ⟨H1.out.1.trans (hb2.mono H1.out.1.size), H1.out.2.later hb2⟩
  clear hb2 HNM H1
  go_wp2_with fail
  refine (HPS _ H2.out.2).mono ?_
  rintro _ w3 ⟨rfl, hb3⟩
  have H3 : Hid (Below w.heap.size w w3 ∧ Gl w3) := ⟨H2.out.1.trans (hb3.mono H2.out.1.size), H2.out.2.later hb3⟩
  clear hb3 HPS H2
  go_wp2_with fail
  refine (HRP _ H3.out.2).mono ?_
  rintro _ w4 ⟨rfl, hb4⟩
  have H4 : Hid (Below w.heap.size w w4 ∧ Gl w4) := ⟨H3.out.1.trans (hb4.mono H3.out.1.size), H3.out.2.later hb4⟩
  clear hb4 HRP H3
  go_wp2_with fail
  refine (HRN _ H4.out.2).mono ?_
  rintro _ w5 ⟨rfl, hb5⟩
  have H5 : Hid (Below w.heap.size w w5 ∧ Gl w5) := ⟨H4.out.1.trans (hb5.mono H4.out.1.size), H4.out.2.later hb5⟩
  clear hb5 HRN H4
  have HEND : ∀ (W : World), Below w5.heap.size w5 W → Gl W := fun W h => H5.out.2.later h
  go_upto_if 45 with fail
  cases b0 with
  | true =>
    by_cases hk0 : pk = 0
    · subst hk0
      go_wp2
      try go_ret
      exact ⟨ret1 rfl, H5.out.1⟩
    · have hkb : (pk == 0) = false := beq_eq_false_iff_ne.2 hk0
      have HN := HNB.out w5 H5.out.2 hk0
      go_wp2_with fail
      refine HN.mono ?_
      rintro _ w6 ⟨rfl, hb6⟩
      go_wp2
      try go_ret
      exact ⟨ret1 rfl, H5.out.1.trans (hb6.mono H5.out.1.size)⟩
  | false =>
    have HM2 : Hid (pj = kind ∧ (kind < 4 → po = num)) := by
      rcases HMZ.out with h | h
      · have := HB0.out
        simp [h] at this
      · exact h.2
    clear HMZ
    go_wp2_with fail
    refine (HPM _ H5.out.2).mono ?_
    rintro _ w6 ⟨rfl, hb6⟩
    have H6 : Hid (Below w.heap.size w w6 ∧ Gl w6) := ⟨H5.out.1.trans (hb6.mono H5.out.1.size), H5.out.2.later hb6⟩
    obtain ⟨hjk, hon⟩ := HM2.out
    subst hjk
    clear HPM hb6 HM2 HEND
    by_cases hk4 : pj < 4
    · have hpo := hon hk4
      subst hpo
      by_cases hk0 : pk = 0
      · subst hk0
        go_wp2
        try go_ret
        exact ⟨ret1 rfl, H6.out.1⟩
      · have hkb : (pk == 0) = false := beq_eq_false_iff_ne.2 hk0
        have HN := HNB.out w6 H6.out.2 hk0
        go_wp2_with fail
        refine HN.mono ?_
        rintro _ w7 ⟨rfl, hb7⟩
        go_wp2
        try go_ret
        exact ⟨ret1 rfl, H6.out.1.trans (hb7.mono H6.out.1.size)⟩
    · obtain ⟨b1, hb1⟩ : ∃ b, ((po : Int) != (num : Int)) = b := ⟨_, rfl⟩
      clear hon
      by_cases hk0 : pk = 0
      · subst hk0
        cases b1
        all_goals
          go_wp2
          try go_ret
          exact ⟨ret1 rfl, H6.out.1⟩
      · have hkb : (pk == 0) = false := beq_eq_false_iff_ne.2 hk0
        have HN := HNB.out w6 H6.out.2 hk0
        cases b1
        all_goals
          go_wp2_with fail
          refine HN.mono ?_
          rintro _ w7 ⟨rfl, hb7⟩
          go_wp2
          try go_ret
          exact ⟨ret1 rfl, H6.out.1.trans (hb7.mono H6.out.1.size)⟩
end Go.Proofs.YtmlfbihlbiikeaaGreatDoor
