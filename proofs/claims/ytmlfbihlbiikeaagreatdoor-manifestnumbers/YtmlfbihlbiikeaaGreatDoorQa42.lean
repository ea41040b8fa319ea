/- The contract of edit's taken. -/
import Derived.Test.YtmlfbihlbiikeaaGreatDoorQa16
import Derived.Test.YtmlfbihlbiikeaaGreatDoorQa06
import Derived.Deep.RegionHeld3
namespace Go.Proofs.YtmlfbihlbiikeaaGreatDoor
open Go.RowKit
set_option linter.unusedVariables false
set_option linter.unusedSimpArgs false
theorem numR_len {b r : List UInt8} {n : Nat} (h : numR b = some (n, r)) : r.length ≤ b.length := by
  unfold numR at h
  split at h
  · simp only [Option.some.injEq, Prod.mk.injEq] at h
    rw [← h.2, List.length_drop]
    omega
  · cases h
theorem keyR_len {b r : List UInt8} {k : IK} (h : keyR b = some (k, r)) : r.length ≤ b.length ∧ k.err = 0 := by
  unfold keyR at h
  split at h
  · simp only [Option.some.injEq, Prod.mk.injEq] at h
    rename_i hk
    refine ⟨by rw [← h.2, List.length_drop]; omega, ?_⟩
    rw [← h.1]
    exact (decKey_ok hk.2).1
  · cases h
theorem takeG_len {b r : List UInt8} {g : PG} (h : takeG b = some (g, r)) : r.length ≤ b.length := by
  unfold takeG at h
  simp only [Option.bind_eq_some_iff, Option.some.injEq, Prod.mk.injEq, Prod.exists] at h
  obtain ⟨a1, r1, h1, a2, r2, h2, _, rfl⟩ := h
  have := numR_len h1
  have := numR_len h2
  omega
theorem cntR_len {lim : Nat} {b r : List UInt8} {n : Nat} (h : cntR lim b = some (n, r)) : r.length ≤ b.length := by
  unfold cntR at h
  simp only [Option.bind_eq_some_iff, Prod.exists] at h
  obtain ⟨a1, r1, h1, h2⟩ := h
  split at h2
  · obtain ⟨rfl, rfl⟩ := Prod.mk.inj (Option.some.inj h2)
    exact numR_len h1
  · cases h2
section
variable {b b1 b2 b3 b4 : List UInt8} {g : PG} {n : Nat} {k k' : IK}
theorem takeF_1 (h : takeG b = none) : takeF b = none := by unfold takeF; rw [h]; rfl
theorem takeF_2 (h : takeG b = some (g, b1)) (h2 : numR b1 = none) : takeF b = none := by unfold takeF; rw [h, Option.bind_some, h2]; rfl
theorem takeF_3 (h : takeG b = some (g, b1)) (h2 : numR b1 = some (n, b2)) (h3 : keyR b2 = none) : takeF b = none := by unfold takeF; rw [h, Option.bind_some, h2, Option.bind_some, h3]; rfl
theorem takeF_4 (h : takeG b = some (g, b1)) (h2 : numR b1 = some (n, b2)) (h3 : keyR b2 = some (k, b3)) (h4 : keyR b3 = none) : takeF b = none := by unfold takeF; rw [h, Option.bind_some, h2, Option.bind_some, h3, Option.bind_some, h4]; rfl
theorem takeF_5 (h : takeG b = some (g, b1)) (h2 : numR b1 = some (n, b2)) (h3 : keyR b2 = some (k, b3)) (h4 : keyR b3 = some (k', b4)) : takeF b = some (⟨g.level, g.num, toI n, k, k'⟩, b4) := by unfold takeF; rw [h, Option.bind_some, h2, Option.bind_some, h3, Option.bind_some, h4]; rfl
end
set_option maxRecDepth 100000 in
set_option maxHeartbeats 4000000 in
theorem taken_any (a : Option Addr) (n c : Nat) (b : List UInt8) (w : World) (h : BsAt w a n c b) (hl : n ≤ 200000000000000) :
    Calls Tryz.prog 142 #[.slice a n c] w fun r w' => Below w.heap.size w w' ∧ ((takeE b = none ∧ r = gaveUp) ∨ ∃ (x : PE) (s : SE), takeE b = some x ∧ r = .returned (.agg #[.int .u64 (x.log : Int), .int .u64 (x.next : Int), .int .u64 (x.last : Int), .slice s.a x.dels.length s.c, .slice s.a' x.adds.length s.c']) ∧ OwnG w' w.heap.size s.a x.dels.length s.c x.dels ∧ OwnF w' w.heap.size s.a' x.adds.length s.c' x.adds) := by
  have hmf : ∀ (fn : Fn) (first cap : Array Value) (w : World), (Instr.makeFunc fn first cap).run Tryz.prog w = .ok (.func fn first cap) w := fun _ _ _ _ => rfl
  obtain ⟨W1, e1, HW⟩ : ∃ W1, W1 = (w.alloc (.cells (eA ez sz0) TE)).alloc (.cells #[.slice a n c] TT) ∧ Hid (Tk w W1 (w.heap.size + 1) b ∧ Box W1 w.heap.size TE (eA ez sz0) ∧ W1.heap.size = w.heap.size + 2) := by
    refine ⟨_, rfl, ⟨⟨a, n, c, ?_, h⟩, ((Below.refl _ _).alloc (Nat.le_refl _) _).alloc (by simp) _, by omega⟩, (Box.new _ _ _).alloc _, by simp⟩
    have := Box.new (w.alloc (.cells (eA ez sz0) TE)) TT #[.slice a n c]
    simpa using this
  have HZ : Hid (∀ W, W = (w.alloc (.cells (eA ez sz0) TE)).alloc (.cells #[.slice a n c] TT) → W = W1) := by rintro W rfl; exact e1.symm
  have HL : Hid (b.length ≤ 200000000000000) := by show b.length ≤ _; rw [h.size]; exact hl
  have hn1 : ∀ W, W = (w.alloc (.cells (eA ez sz0) TE)).alloc (.cells #[.slice a n c] TT) → Calls Tryz.prog 192 #[at_ (w.heap.size + 1)] W fun r w' => Chg (· = w.heap.size + 1) W1 w' ∧ w'.heap.size = W1.heap.size ∧ ((numR b = none ∧ r = gaveUp) ∨ ∃ x b', numR b = some (x, b') ∧ r = .returned (.int .u64 (x : Int)) ∧ Tk w w' (w.heap.size + 1) b') := by
    rintro W rfl
    rw [← e1]
    exact number_at HW.out.1
  clear e1 h
  go_enter Tryz.func142, Tryz.ntmps142
  go_wp2_with fail
  refine (hn1 _ rfl).mono ?_
  rintro _ w2 ⟨hc2, hz2, ⟨hno, rfl⟩ | ⟨lg, b2, hx2, rfl, htk2⟩⟩
  · exact ⟨rfl, HW.out.1.stepB hc2, .inl ⟨by unfold takeE; rw [hno]; rfl, rfl⟩⟩
  have hn2 := number_at htk2
  clear hn1
  go_wp2_with fail
  refine hn2.mono ?_
  rintro _ w3 ⟨hc3, hz3, ⟨hno, rfl⟩ | ⟨nx, b3, hx3, rfl, htk3⟩⟩
  · exact ⟨rfl, htk2.stepB hc3, .inl ⟨by unfold takeE; rw [hx2, Option.bind_some, hno]; rfl, rfl⟩⟩
  have hn3 := number_at htk3
  clear hn2
  go_wp2_with fail
  refine hn3.mono ?_
  rintro _ w4 ⟨hc4, hz4, ⟨hno, rfl⟩ | ⟨la, b4, hx4, rfl, htk4⟩⟩
  · exact ⟨rfl, htk3.stepB hc4, .inl ⟨by unfold takeE; rw [hx2, Option.bind_some, hx3, Option.bind_some, hno]; rfl, rfl⟩⟩
  have HX : Hid (takeE b = (cntR 20000 b4).bind fun c => (readL takeG c.1 c.2).bind fun d => (cntR 100 d.2).bind fun m => (readL takeF m.1 m.2).bind fun a => some ⟨lg, nx, la, d.1, a.1⟩) := by
    show takeE b = _
    unfold takeE
    rw [hx2, Option.bind_some, hx3, Option.bind_some, hx4, Option.bind_some]
  have HL4 : Hid (b4.length ≤ 200000000000000) := by
    have := HL.out
    have := numR_len hx2
    have := numR_len hx3
    have := numR_len hx4
    show b4.length ≤ _
    omega
  have hs4 : w4.heap.size = w.heap.size + 2 := by rw [hz4, hz3, hz2, HW.out.2.2]
  obtain ⟨W5, e5, H5⟩ : ∃ W5, W5 = w4.alloc (.cells (eA ⟨lg, nx, la, [], []⟩ sz0) TE) ∧ Hid (TkS w W5 b4 ⟨lg, nx, la, [], []⟩ sz0) := by
    refine ⟨_, rfl, htk4.alloc _, ?_, ?_, OwnG.nil _ _, OwnF.nil _ _⟩
    · refine Box.alloc ?_ _
      have k2 := HW.out.2.1.kept (hc2.block _ HW.out.2.1.lt (by omega))
      have k3 := k2.kept (hc3.block _ k2.lt (by omega))
      exact k3.kept (hc4.block _ k3.lt (by omega))
    · have := Box.new w4 TE (eA ⟨lg, nx, la, [], []⟩ sz0)
      rw [hs4] at this
      exact this
  have hct : ∀ W, W = w4.alloc (.cells (eA ⟨lg, nx, la, [], []⟩ sz0) TE) → Calls Tryz.prog 193 #[numV (w.heap.size + 1), .int .u64 20000] W fun r w' => Chg (· = w.heap.size + 1) W5 w' ∧ ((cntR 20000 b4 = none ∧ r = gaveUp) ∨ ∃ x b', cntR 20000 b4 = some (x, b') ∧ x ≤ 20000 ∧ r = .returned (.int .u64 (x : Int)) ∧ Tk w w' (w.heap.size + 1) b') := by
    rintro W rfl
    rw [← e5]
    exact count_at 20000 H5.out.tk
  clear hn3 hc2 hc3 hc4 hz2 hz3 hz4 hx2 hx3 hx4 htk2 htk3 htk4 e5 HZ HW
  go_wp2_with fail
  refine (hct _ rfl).mono ?_
  rintro _ w6 ⟨hc6, ⟨hno, rfl⟩ | ⟨N, b6, hx6, hN, rfl, htk6⟩⟩
  · exact ⟨rfl, H5.out.die hc6, .inl ⟨by rw [HX.out, hno]; rfl, rfl⟩⟩
  have HX6 : Hid (takeE b = (readL takeG N b6).bind fun d => (cntR 100 d.2).bind fun m => (readL takeF m.1 m.2).bind fun a => some ⟨lg, nx, la, d.1, a.1⟩) := by
    show takeE b = _
    rw [HX.out, hx6, Option.bind_some]
  have HL6 : Hid (b6.length ≤ 200000000000000) := by
    have := HL4.out
    have := cntR_len hx6
    show b6.length ≤ _
    omega
  have H6 : Hid (TkS w w6 b6 ⟨lg, nx, la, [], []⟩ sz0) := H5.out.turn hc6 htk6
  clear hct hc6 hx6 htk6 H5 HX
  go_wp2_with fail
  go_loopw [21] (fun i wr => ∃ k : Nat, k ≤ N ∧ i = .int .u64 (k : Int) ∧ Hid (∃ r dels s, TkS w wr r ⟨lg, nx, la, dels, []⟩ s ∧ dels.length = k ∧ Part takeG N b6 (N - k) dels r ∧ r.length ≤ 200000000000000)) (fun i _ => N - (intOf i).toNat)
  case atStart => exact ⟨0, Nat.zero_le _, rfl, b6, [], sz0, H6.out, rfl, Part.start _ _ _, HL6.out⟩
  case round =>
    obtain ⟨k, hk, rfl, HR⟩ := hrel
    by_cases hkn : k < N
    · obtain ⟨r, dels, s, hT, hdl, hP, hrl⟩ := HR.out
      obtain ⟨m, hm⟩ : ∃ m, N - k = m + 1 := ⟨N - k - 1, by omega⟩
      rw [hm] at hP
      have HP : Hid (Part takeG N b6 (m + 1) dels r ∧ dels.length = k ∧ N - (k + 1) = m ∧ r.length ≤ 200000000000000) := ⟨hP, hdl, by omega, hrl⟩
      have HT : Hid (TkS w wr r ⟨lg, nx, la, dels, []⟩ s) := hT
      have HTd : Hid (TkS w wr.drew r ⟨lg, nx, la, dels, []⟩ s) := hT.drew
      have c3 : wr.drew.cell? ⟨w.heap.size + 2, 3, none⟩ = some (.slice s.a dels.length s.c) := HTd.out.var.cell 3
      have hq := HTd.out.big
      clear hT hdl hP hrl hm HR
      go_wp2_with fail
      replace HT := HTd
      clear HTd
      refine wp_region_held_drew (S := (fun _ => True)) (by kernel_rfl) trivial (fun hHeld => ?_)
      refine wpAnyH_take (i := 0) (v := ?_) rfl (by kernel_rfl) (by kernel_rfl) (by kernel_rfl) (fun _ _ _ h => h) (Or.inl ⟨by rfl, ?_⟩) hHeld ?_
      rotate_left
      · intro w hSw
        try dsimp only at hSw
        go_simp
        try with_reducible rfl
      try simp only [Act.put, List.getElem_toArray, List.getElem_cons_succ, List.getElem_cons_zero, Array.getInternal_eq_getElem, List.setIfInBounds_toArray, List.set_cons_zero, List.set_cons_succ]
      refine wpAnyH_take (i := 2) (v := ?_) rfl (by kernel_rfl) (by kernel_rfl) (by kernel_rfl) (fun _ _ _ h => h) (Or.inl ⟨by rfl, ?_⟩) hHeld ?_
      rotate_left
      · intro w hSw
        try dsimp only at hSw
        go_simp
        try with_reducible rfl
      try simp only [Act.put, List.getElem_toArray, List.getElem_cons_succ, List.getElem_cons_zero, Array.getInternal_eq_getElem, List.setIfInBounds_toArray, List.set_cons_zero, List.set_cons_succ]
      refine wpAnyH_ready (rs := [1, 3]) (by kernel_rfl) (by simp) ?_
      refine AllReadyH.cons rfl (fun K hK => ?_) ?_
      · go_simp
        refine hK.out _ _ trivial (fun hHeld => ?_)
        clear hK K
        try simp only [Act.put, List.getElem_toArray, List.getElem_cons_succ, List.getElem_cons_zero, Array.getInternal_eq_getElem, List.setIfInBounds_toArray, List.set_cons_zero, List.set_cons_succ]
        refine wpAnyH_ready (rs := [3]) (by kernel_rfl) (by simp) ?_
        refine AllReadyH.cons rfl (fun K hK => ?_) (AllReadyH.nil)
        go_simp
        refine (gone_at HT.out.tk).mono ?_
        rintro _ vx ⟨hcx, ⟨hno, rfl⟩ | ⟨g, r', hg, rfl, htx⟩⟩
        · exact ⟨rfl, HT.out.die hcx, .inl ⟨by rw [HX6.out, HP.out.1.none hno]; rfl, rfl⟩⟩
        have HT1 : Hid (TkS w vx r' ⟨lg, nx, la, dels, []⟩ s) := HT.out.turn hcx htx
        have HP1 : Hid (Part takeG N b6 m (dels ++ [g]) r' ∧ r'.length ≤ 200000000000000) := ⟨HP.out.1.step hg, Nat.le_trans (takeG_len hg) HP.out.2.2.2⟩
        have hq1 := HT1.out.big
        have d3 : vx.cell? ⟨w.heap.size + 2, 3, none⟩ = some (.slice s.a dels.length s.c) := HT1.out.var.cell 3
        have f3 : (vx.alloc (.cells #[.int .i64 g.level, .int .u64 (g.num : Int)] 135)).cell? ⟨w.heap.size + 2, 3, none⟩ = some (.slice s.a dels.length s.c) := (HT1.out.alloc _).var.cell 3
        clear hcx hg htx
        refine hK.out _ _ trivial (fun hHeld => ?_)
        clear hK K
        try simp only [Act.put, List.getElem_toArray, List.getElem_cons_succ, List.getElem_cons_zero, Array.getInternal_eq_getElem, List.setIfInBounds_toArray, List.set_cons_zero, List.set_cons_succ]
        refine wpAnyH_ready (rs := [4]) (by kernel_rfl) (by simp) ?_
        refine AllReadyH.cons rfl (fun K hK => ?_) (AllReadyH.nil)
        go_simp
        refine hK.out _ _ trivial (fun hHeld => ?_)
        clear hK K
        try simp only [Act.put, List.getElem_toArray, List.getElem_cons_succ, List.getElem_cons_zero, Array.getInternal_eq_getElem, List.setIfInBounds_toArray, List.set_cons_zero, List.set_cons_succ]
        refine wpAnyH_ready (rs := [5]) (by kernel_rfl) (by simp) ?_
        refine AllReadyH.cons rfl (fun K hK => ?_) (AllReadyH.nil)
        refine step_pushG vx rfl (.tmp 24) (.tmp 27) rfl (w.heap.size + 3) s.a dels.length s.c dels (by simp [Act.eval]) HT1.out.gs g vx.heap.size rfl (by simp [Act.eval]) (by have := HP.out.2.1; omega) hq1 ?_
        intro a6 c6 w6 ho6 hb6 hg6
        have HV : Hid (TkS w (w6.setCell ⟨w.heap.size + 2, 3, none⟩ (.slice a6 (dels.length + 1) c6)) r' ⟨lg, nx, la, dels ++ [g], []⟩ ⟨a6, c6, s.a', s.c'⟩) := HT1.out.pushG ho6 hb6 _ hg6
        have hv6 := HT1.out.var.kept (hb6.block _ (by omega))
        have x3 : w6.cell? ⟨w.heap.size + 2, 3, none⟩ = some (.slice s.a dels.length s.c) := hv6.cell 3
        have z3 := hv6.soft 3
        clear ho6 hb6 hg6 hv6
        refine hK.out _ _ trivial (fun hHeld => ?_)
        clear hK K
        try simp only [Act.put, List.getElem_toArray, List.getElem_cons_succ, List.getElem_cons_zero, Array.getInternal_eq_getElem, List.setIfInBounds_toArray, List.set_cons_zero, List.set_cons_succ]
        refine wpAnyH_take (i := 6) (v := ?_) rfl (by kernel_rfl) (by kernel_rfl) (by kernel_rfl) (fun _ _ _ h => h) (Or.inl ⟨by rfl, ?_⟩) hHeld ?_
        rotate_left
        · intro w hSw
          try dsimp only at hSw
          go_simp
          try with_reducible rfl
        try simp only [Act.put, List.getElem_toArray, List.getElem_cons_succ, List.getElem_cons_zero, Array.getInternal_eq_getElem, List.setIfInBounds_toArray, List.set_cons_zero, List.set_cons_succ]
        refine wpAnyH_ready (rs := [7]) (by kernel_rfl) (by simp) ?_
        refine AllReadyH.cons rfl (fun K hK => ?_) (AllReadyH.nil)
        go_simp
        refine hK.out _ _ trivial (fun hHeld => ?_)
        clear hK K
        try simp only [Act.put, List.getElem_toArray, List.getElem_cons_succ, List.getElem_cons_zero, Array.getInternal_eq_getElem, List.setIfInBounds_toArray, List.set_cons_zero, List.set_cons_succ]
        refine wpAnyH_done (by kernel_rfl) ?_ _
        generalize w6.setCell ⟨w.heap.size + 2, 3, none⟩ (.slice a6 (dels.length + 1) c6) = w7 at HV ⊢
        clear x3 z3 d3 f3
        go_wp2
        go_roundw
        case rel => exact ⟨k + 1, hkn, by go_num, r', dels ++ [g], ⟨a6, c6, s.a', s.c'⟩, HV.out, by rw [List.length_append, HP.out.2.1]; rfl, by rw [HP.out.2.2.1]; exact HP1.out.1, HP1.out.2⟩
        case measure => simp only [intOf]; omega
      refine AllReadyH.cons rfl (fun K hK => ?_) (AllReadyH.nil)
      go_simp
      refine (gone_at HT.out.tk).mono ?_
      rintro _ vx ⟨hcx, ⟨hno, rfl⟩ | ⟨g, r', hg, rfl, htx⟩⟩
      · exact ⟨rfl, HT.out.die hcx, .inl ⟨by rw [HX6.out, HP.out.1.none hno]; rfl, rfl⟩⟩
      have HT1 : Hid (TkS w vx r' ⟨lg, nx, la, dels, []⟩ s) := HT.out.turn hcx htx
      have HP1 : Hid (Part takeG N b6 m (dels ++ [g]) r' ∧ r'.length ≤ 200000000000000) := ⟨HP.out.1.step hg, Nat.le_trans (takeG_len hg) HP.out.2.2.2⟩
      have hq1 := HT1.out.big
      have d3 : vx.cell? ⟨w.heap.size + 2, 3, none⟩ = some (.slice s.a dels.length s.c) := HT1.out.var.cell 3
      have f3 : (vx.alloc (.cells #[.int .i64 g.level, .int .u64 (g.num : Int)] 135)).cell? ⟨w.heap.size + 2, 3, none⟩ = some (.slice s.a dels.length s.c) := (HT1.out.alloc _).var.cell 3
      clear hcx hg htx
      refine hK.out _ _ trivial (fun hHeld => ?_)
      clear hK K
      try simp only [Act.put, List.getElem_toArray, List.getElem_cons_succ, List.getElem_cons_zero, Array.getInternal_eq_getElem, List.setIfInBounds_toArray, List.set_cons_zero, List.set_cons_succ]
      refine wpAnyH_ready (rs := [1, 4]) (by kernel_rfl) (by simp) ?_
      refine AllReadyH.cons rfl (fun K hK => ?_) ?_
      · go_simp
        refine hK.out _ _ trivial (fun hHeld => ?_)
        clear hK K
        try simp only [Act.put, List.getElem_toArray, List.getElem_cons_succ, List.getElem_cons_zero, Array.getInternal_eq_getElem, List.setIfInBounds_toArray, List.set_cons_zero, List.set_cons_succ]
        refine wpAnyH_ready (rs := [4]) (by kernel_rfl) (by simp) ?_
        refine AllReadyH.cons rfl (fun K hK => ?_) (AllReadyH.nil)
        go_simp
        refine hK.out _ _ trivial (fun hHeld => ?_)
        clear hK K
        try simp only [Act.put, List.getElem_toArray, List.getElem_cons_succ, List.getElem_cons_zero, Array.getInternal_eq_getElem, List.setIfInBounds_toArray, List.set_cons_zero, List.set_cons_succ]
        refine wpAnyH_ready (rs := [5]) (by kernel_rfl) (by simp) ?_
        refine AllReadyH.cons rfl (fun K hK => ?_) (AllReadyH.nil)
        refine step_pushG vx rfl (.tmp 24) (.tmp 27) rfl (w.heap.size + 3) s.a dels.length s.c dels (by simp [Act.eval]) HT1.out.gs g vx.heap.size rfl (by simp [Act.eval]) (by have := HP.out.2.1; omega) hq1 ?_
        intro a6 c6 w6 ho6 hb6 hg6
        have HV : Hid (TkS w (w6.setCell ⟨w.heap.size + 2, 3, none⟩ (.slice a6 (dels.length + 1) c6)) r' ⟨lg, nx, la, dels ++ [g], []⟩ ⟨a6, c6, s.a', s.c'⟩) := HT1.out.pushG ho6 hb6 _ hg6
        have hv6 := HT1.out.var.kept (hb6.block _ (by omega))
        have x3 : w6.cell? ⟨w.heap.size + 2, 3, none⟩ = some (.slice s.a dels.length s.c) := hv6.cell 3
        have z3 := hv6.soft 3
        clear ho6 hb6 hg6 hv6
        refine hK.out _ _ trivial (fun hHeld => ?_)
        clear hK K
        try simp only [Act.put, List.getElem_toArray, List.getElem_cons_succ, List.getElem_cons_zero, Array.getInternal_eq_getElem, List.setIfInBounds_toArray, List.set_cons_zero, List.set_cons_succ]
        refine wpAnyH_take (i := 6) (v := ?_) rfl (by kernel_rfl) (by kernel_rfl) (by kernel_rfl) (fun _ _ _ h => h) (Or.inl ⟨by rfl, ?_⟩) hHeld ?_
        rotate_left
        · intro w hSw
          try dsimp only at hSw
          go_simp
          try with_reducible rfl
        try simp only [Act.put, List.getElem_toArray, List.getElem_cons_succ, List.getElem_cons_zero, Array.getInternal_eq_getElem, List.setIfInBounds_toArray, List.set_cons_zero, List.set_cons_succ]
        refine wpAnyH_ready (rs := [7]) (by kernel_rfl) (by simp) ?_
        refine AllReadyH.cons rfl (fun K hK => ?_) (AllReadyH.nil)
        go_simp
        refine hK.out _ _ trivial (fun hHeld => ?_)
        clear hK K
        try simp only [Act.put, List.getElem_toArray, List.getElem_cons_succ, List.getElem_cons_zero, Array.getInternal_eq_getElem, List.setIfInBounds_toArray, List.set_cons_zero, List.set_cons_succ]
        refine wpAnyH_done (by kernel_rfl) ?_ _
        generalize w6.setCell ⟨w.heap.size + 2, 3, none⟩ (.slice a6 (dels.length + 1) c6) = w7 at HV ⊢
        clear x3 z3 d3 f3
        go_wp2
        go_roundw
        case rel => exact ⟨k + 1, hkn, by go_num, r', dels ++ [g], ⟨a6, c6, s.a', s.c'⟩, HV.out, by rw [List.length_append, HP.out.2.1]; rfl, by rw [HP.out.2.2.1]; exact HP1.out.1, HP1.out.2⟩
        case measure => simp only [intOf]; omega
      refine AllReadyH.cons rfl (fun K hK => ?_) (AllReadyH.nil)
      go_simp
      refine hK.out _ _ trivial (fun hHeld => ?_)
      clear hK K
      try simp only [Act.put, List.getElem_toArray, List.getElem_cons_succ, List.getElem_cons_zero, Array.getInternal_eq_getElem, List.setIfInBounds_toArray, List.set_cons_zero, List.set_cons_succ]
      refine wpAnyH_ready (rs := [1]) (by kernel_rfl) (by simp) ?_
      refine AllReadyH.cons rfl (fun K hK => ?_) (AllReadyH.nil)
      go_simp
      refine hK.out _ _ trivial (fun hHeld => ?_)
      clear hK K
      try simp only [Act.put, List.getElem_toArray, List.getElem_cons_succ, List.getElem_cons_zero, Array.getInternal_eq_getElem, List.setIfInBounds_toArray, List.set_cons_zero, List.set_cons_succ]
      refine wpAnyH_ready (rs := [5]) (by kernel_rfl) (by simp) ?_
      refine AllReadyH.cons rfl (fun K hK => ?_) (AllReadyH.nil)
      refine step_pushG vx rfl (.tmp 24) (.tmp 27) rfl (w.heap.size + 3) s.a dels.length s.c dels (by simp [Act.eval]) HT1.out.gs g vx.heap.size rfl (by simp [Act.eval]) (by have := HP.out.2.1; omega) hq1 ?_
      intro a6 c6 w6 ho6 hb6 hg6
      have HV : Hid (TkS w (w6.setCell ⟨w.heap.size + 2, 3, none⟩ (.slice a6 (dels.length + 1) c6)) r' ⟨lg, nx, la, dels ++ [g], []⟩ ⟨a6, c6, s.a', s.c'⟩) := HT1.out.pushG ho6 hb6 _ hg6
      have hv6 := HT1.out.var.kept (hb6.block _ (by omega))
      have x3 : w6.cell? ⟨w.heap.size + 2, 3, none⟩ = some (.slice s.a dels.length s.c) := hv6.cell 3
      have z3 := hv6.soft 3
      clear ho6 hb6 hg6 hv6
      refine hK.out _ _ trivial (fun hHeld => ?_)
      clear hK K
      try simp only [Act.put, List.getElem_toArray, List.getElem_cons_succ, List.getElem_cons_zero, Array.getInternal_eq_getElem, List.setIfInBounds_toArray, List.set_cons_zero, List.set_cons_succ]
      refine wpAnyH_take (i := 6) (v := ?_) rfl (by kernel_rfl) (by kernel_rfl) (by kernel_rfl) (fun _ _ _ h => h) (Or.inl ⟨by rfl, ?_⟩) hHeld ?_
      rotate_left
      · intro w hSw
        try dsimp only at hSw
        go_simp
        try with_reducible rfl
      try simp only [Act.put, List.getElem_toArray, List.getElem_cons_succ, List.getElem_cons_zero, Array.getInternal_eq_getElem, List.setIfInBounds_toArray, List.set_cons_zero, List.set_cons_succ]
      refine wpAnyH_ready (rs := [7]) (by kernel_rfl) (by simp) ?_
      refine AllReadyH.cons rfl (fun K hK => ?_) (AllReadyH.nil)
      go_simp
      refine hK.out _ _ trivial (fun hHeld => ?_)
      clear hK K
      try simp only [Act.put, List.getElem_toArray, List.getElem_cons_succ, List.getElem_cons_zero, Array.getInternal_eq_getElem, List.setIfInBounds_toArray, List.set_cons_zero, List.set_cons_succ]
      refine wpAnyH_done (by kernel_rfl) ?_ _
      generalize w6.setCell ⟨w.heap.size + 2, 3, none⟩ (.slice a6 (dels.length + 1) c6) = w7 at HV ⊢
      clear x3 z3 d3 f3
      go_wp2
      go_roundw
      case rel => exact ⟨k + 1, hkn, by go_num, r', dels ++ [g], ⟨a6, c6, s.a', s.c'⟩, HV.out, by rw [List.length_append, HP.out.2.1]; rfl, by rw [HP.out.2.2.1]; exact HP1.out.1, HP1.out.2⟩
      case measure => simp only [intOf]; omega
    · obtain ⟨r, dels, s, hT, hdl, hP, hrl⟩ := HR.out
      rw [show N - k = 0 by omega] at hP
      have HX7 : Hid (takeE b = (cntR 100 r).bind fun m => (readL takeF m.1 m.2).bind fun a => some ⟨lg, nx, la, dels, a.1⟩) := by
        show takeE b = _
        rw [HX6.out, hP.done, Option.bind_some]
      have HT : Hid (TkS w wr r ⟨lg, nx, la, dels, []⟩ s ∧ r.length ≤ 200000000000000) := ⟨hT, hrl⟩
      have hct := count_at 100 hT.tk
      clear hT hdl hP hrl HR
      go_wp2_with fail
      refine hct.mono ?_
      rintro _ w8 ⟨hc8, ⟨hno, rfl⟩ | ⟨M, b8, hx8, hM, rfl, htk8⟩⟩
      · exact ⟨rfl, HT.out.1.die hc8, .inl ⟨by rw [HX7.out, hno]; rfl, rfl⟩⟩
      have HX8 : Hid (takeE b = (readL takeF M b8).bind fun a => some ⟨lg, nx, la, dels, a.1⟩) := by
        show takeE b = _
        rw [HX7.out, hx8, Option.bind_some]
      have H8 : Hid (TkS w w8 b8 ⟨lg, nx, la, dels, []⟩ s ∧ b8.length ≤ 200000000000000) := ⟨HT.out.1.turn hc8 htk8, Nat.le_trans (cntR_len hx8) HT.out.2⟩
      clear hct hc8 hx8 htk8 HT HX7 HX6
      go_wp2_with fail
      go_loopw [33] (fun i wr => ∃ k : Nat, k ≤ M ∧ i = .int .u64 (k : Int) ∧ Hid (∃ r adds s, TkS w wr r ⟨lg, nx, la, dels, adds⟩ s ∧ adds.length = k ∧ Part takeF M b8 (M - k) adds r ∧ r.length ≤ 200000000000000)) (fun i _ => M - (intOf i).toNat)
      case atStart => exact ⟨0, Nat.zero_le _, rfl, b8, [], s, H8.out.1, rfl, Part.start _ _ _, H8.out.2⟩
      case round =>
        obtain ⟨j, hj, rfl, HR⟩ := hrel
        by_cases hjn : j < M
        · obtain ⟨r, adds, s, hT, hdl, hP, hrl⟩ := HR.out
          obtain ⟨m, hm⟩ : ∃ m, M - j = m + 1 := ⟨M - j - 1, by omega⟩
          rw [hm] at hP
          have HP : Hid (Part takeF M b8 (m + 1) adds r ∧ adds.length = j ∧ M - (j + 1) = m ∧ r.length ≤ 200000000000000) := ⟨hP, hdl, by omega, hrl⟩
          have HT : Hid (TkS w wr r ⟨lg, nx, la, dels, adds⟩ s) := hT
          have hgo := gone_at hT.tk
          clear hT hdl hP hrl hm HR
          go_wp2_with fail
          refine hgo.mono ?_
          rintro _ w9 ⟨hc9, ⟨hno, rfl⟩ | ⟨g, r1, hg, rfl, htk9⟩⟩
          · exact ⟨rfl, HT.out.die hc9, .inl ⟨by rw [HX8.out, HP.out.1.none (takeF_1 hno)]; rfl, rfl⟩⟩
          have HG : Hid (takeG r = some (g, r1) ∧ r1.length ≤ 200000000000000) := ⟨hg, Nat.le_trans (takeG_len hg) HP.out.2.2.2⟩
          have hT9 := HT.out.turn hc9 htk9
          have hb9 := hT9.big
          have hgd9 : Box ((w9.alloc (.cells (gA g) TG)).drew) w9.heap.size TG (gA g) := Box.new w9 TG (gA g)
          have HT0 : Hid (TkS w ((w9.alloc (.cells (gA g) TG)).drew) r1 ⟨lg, nx, la, dels, adds⟩ s ∧ Box ((w9.alloc (.cells (gA g) TG)).drew) w9.heap.size TG (gA g)) := ⟨(hT9.alloc _).drew, hgd9⟩
          clear hc9 hg htk9 hT9 hgo HT hgd9
          go_wp2_with fail
          generalize hpl : w9.heap.size = pl at *
          generalize hwa : w9.alloc (.cells #[.int .i64 g.level, .int .u64 (g.num : Int)] 135) = wa
          have HTa : Hid (TkS w wa.drew r1 ⟨lg, nx, la, dels, adds⟩ s ∧ Box wa.drew pl TG (gA g)) := by rw [← hwa]; exact HT0.out
          clear HT0 hwa hpl
          have c4 : wa.drew.cell? ⟨w.heap.size + 2, 4, none⟩ = some (.slice s.a' adds.length s.c') := HTa.out.1.var.cell 4
          have p0 : wa.drew.cell? ⟨pl, 0, none⟩ = some (.int .i64 g.level) := HTa.out.2.cell 0
          have p1 : wa.drew.cell? ⟨pl, 1, none⟩ = some (.int .u64 (g.num : Int)) := HTa.out.2.cell 1
          refine wp_region_held_drew (S := (fun V => V.cell? ⟨pl, 0, none⟩ = some (.int .i64 g.level) ∧ V.cell? ⟨pl, 1, none⟩ = some (.int .u64 (g.num : Int)))) (by kernel_rfl) ⟨p0, p1⟩ (fun hHeld => ?_)
          refine wpAnyH_take (i := 0) (v := ?_) rfl (by kernel_rfl) (by kernel_rfl) (by kernel_rfl) (fun _ _ _ h => h) (Or.inl ⟨by rfl, ?_⟩) hHeld ?_
          rotate_left
          · intro w hSw
            try dsimp only at hSw
            go_simp
            try with_reducible rfl
          try simp only [Act.put, List.getElem_toArray, List.getElem_cons_succ, List.getElem_cons_zero, Array.getInternal_eq_getElem, List.setIfInBounds_toArray, List.set_cons_zero, List.set_cons_succ]
          refine wpAnyH_take (i := 2) (v := ?_) rfl (by kernel_rfl) (by kernel_rfl) (by kernel_rfl) (fun _ _ _ h => h) (Or.inl ⟨by rfl, ?_⟩) hHeld ?_
          rotate_left
          · intro w hSw
            try dsimp only at hSw
            go_simp
            try with_reducible rfl
          try simp only [Act.put, List.getElem_toArray, List.getElem_cons_succ, List.getElem_cons_zero, Array.getInternal_eq_getElem, List.setIfInBounds_toArray, List.set_cons_zero, List.set_cons_succ]
          refine wpAnyH_take (i := 3) (v := ?_) rfl (by kernel_rfl) (by kernel_rfl) (by kernel_rfl) (fun _ _ _ h => h) (Or.inl ⟨by rfl, ?_⟩) hHeld ?_
          rotate_left
          · intro w hSw
            try dsimp only at hSw
            go_simp
            try with_reducible rfl
          try simp only [Act.put, List.getElem_toArray, List.getElem_cons_succ, List.getElem_cons_zero, Array.getInternal_eq_getElem, List.setIfInBounds_toArray, List.set_cons_zero, List.set_cons_succ]
          refine wpAnyH_take (i := 4) (v := ?_) rfl (by kernel_rfl) (by kernel_rfl) (by kernel_rfl) (fun _ _ _ h => h) (Or.inl ⟨by rfl, ?_⟩) hHeld ?_
          rotate_left
          · intro w hSw
            try dsimp only at hSw
            go_simp
            try with_reducible rfl
          try simp only [Act.put, List.getElem_toArray, List.getElem_cons_succ, List.getElem_cons_zero, Array.getInternal_eq_getElem, List.setIfInBounds_toArray, List.set_cons_zero, List.set_cons_succ]
          refine wpAnyH_take (i := 5) (v := ?_) rfl (by kernel_rfl) (by kernel_rfl) (by kernel_rfl) (fun _ _ _ h => h) (Or.inl ⟨by rfl, ?_⟩) hHeld ?_
          rotate_left
          · intro w hSw
            try dsimp only at hSw
            go_simp
            try with_reducible rfl
          try simp only [Act.put, List.getElem_toArray, List.getElem_cons_succ, List.getElem_cons_zero, Array.getInternal_eq_getElem, List.setIfInBounds_toArray, List.set_cons_zero, List.set_cons_succ]
          refine wpAnyH_take (i := 6) (v := ?_) rfl (by kernel_rfl) (by kernel_rfl) (by kernel_rfl) (fun _ _ _ h => h) (Or.inl ⟨by rfl, ?_⟩) hHeld ?_
          rotate_left
          · intro w hSw
            try dsimp only at hSw
            go_simp
            try with_reducible rfl
          try simp only [Act.put, List.getElem_toArray, List.getElem_cons_succ, List.getElem_cons_zero, Array.getInternal_eq_getElem, List.setIfInBounds_toArray, List.set_cons_zero, List.set_cons_succ]
          refine wpAnyH_take (i := 9) (v := ?_) rfl (by kernel_rfl) (by kernel_rfl) (by kernel_rfl) (fun _ _ _ h => h) (Or.inl ⟨by rfl, ?_⟩) hHeld ?_
          rotate_left
          · intro w hSw
            try dsimp only at hSw
            go_simp
            try with_reducible rfl
          try simp only [Act.put, List.getElem_toArray, List.getElem_cons_succ, List.getElem_cons_zero, Array.getInternal_eq_getElem, List.setIfInBounds_toArray, List.set_cons_zero, List.set_cons_succ]
          refine wpAnyH_take (i := 11) (v := ?_) rfl (by kernel_rfl) (by kernel_rfl) (by kernel_rfl) (fun _ _ _ h => h) (Or.inl ⟨by rfl, ?_⟩) hHeld ?_
          rotate_left
          · intro w hSw
            try dsimp only at hSw
            go_simp
            try with_reducible rfl
          try simp only [Act.put, List.getElem_toArray, List.getElem_cons_succ, List.getElem_cons_zero, Array.getInternal_eq_getElem, List.setIfInBounds_toArray, List.set_cons_zero, List.set_cons_succ]
          refine wpAnyH_ready (rs := [1, 7]) (by kernel_rfl) (by simp) ?_
          refine AllReadyH.cons rfl (fun K hK => ?_) ?_
          · go_simp
            refine hK.out _ _ ⟨p0, p1⟩ (fun hHeld => ?_)
            clear hK K
            try simp only [Act.put, List.getElem_toArray, List.getElem_cons_succ, List.getElem_cons_zero, Array.getInternal_eq_getElem, List.setIfInBounds_toArray, List.set_cons_zero, List.set_cons_succ]
            refine wpAnyH_ready (rs := [7]) (by kernel_rfl) (by simp) ?_
            refine AllReadyH.cons rfl (fun K hK => ?_) (AllReadyH.nil)
            go_simp
            refine (number_at HTa.out.1.tk).mono ?_
            rintro _ v1 ⟨hcx, _, ⟨hno, rfl⟩ | ⟨sz, r2, hx, rfl, htx⟩⟩
            · exact ⟨rfl, HTa.out.1.die hcx, .inl ⟨by rw [HX8.out, HP.out.1.none (takeF_2 HG.out.1 hno)]; rfl, rfl⟩⟩
            have HT1 : Hid (TkS w v1 r2 ⟨lg, nx, la, dels, adds⟩ s ∧ Box v1 pl TG (gA g)) := ⟨HTa.out.1.turn hcx htx, HTa.out.2.kept (hcx.block _ HTa.out.2.lt (by omega))⟩
            have HN1 : Hid (numR r1 = some (sz, r2) ∧ r2.length ≤ 200000000000000) := ⟨hx, Nat.le_trans (numR_len hx) HG.out.2⟩
            have c41 : v1.cell? ⟨w.heap.size + 2, 4, none⟩ = some (.slice s.a' adds.length s.c') := HT1.out.1.var.cell 4
            have p01 : v1.cell? ⟨pl, 0, none⟩ = some (.int .i64 g.level) := HT1.out.2.cell 0
            have p11 : v1.cell? ⟨pl, 1, none⟩ = some (.int .u64 (g.num : Int)) := HT1.out.2.cell 1
            clear hcx hx htx
            have hcv := conv_toI sz
            refine hK.out _ _ ⟨p01, p11⟩ (fun hHeld => ?_)
            clear hK K
            try simp only [Act.put, List.getElem_toArray, List.getElem_cons_succ, List.getElem_cons_zero, Array.getInternal_eq_getElem, List.setIfInBounds_toArray, List.set_cons_zero, List.set_cons_succ]
            refine wpAnyH_take (i := 8) (v := ?_) rfl (by kernel_rfl) (by kernel_rfl) (by kernel_rfl) (fun _ _ _ h => h) (Or.inl ⟨by rfl, ?_⟩) hHeld ?_
            rotate_left
            · intro w hSw
              try dsimp only at hSw
              go_simp
              try with_reducible rfl
            try simp only [Act.put, List.getElem_toArray, List.getElem_cons_succ, List.getElem_cons_zero, Array.getInternal_eq_getElem, List.setIfInBounds_toArray, List.set_cons_zero, List.set_cons_succ]
            refine wpAnyH_ready (rs := [10]) (by kernel_rfl) (by simp) ?_
            refine AllReadyH.cons rfl (fun K hK => ?_) (AllReadyH.nil)
            go_simp
            refine (key_at HT1.out.1.tk HN1.out.2).mono ?_
            rintro _ v2 ⟨hcx, ⟨hno, rfl⟩ | ⟨ka, r3, hx, rfl, htx⟩⟩
            · exact ⟨rfl, HT1.out.1.die hcx, .inl ⟨by rw [HX8.out, HP.out.1.none (takeF_3 HG.out.1 HN1.out.1 hno)]; rfl, rfl⟩⟩
            have HT2 : Hid (TkS w v2 r3 ⟨lg, nx, la, dels, adds⟩ s ∧ Box v2 pl TG (gA g)) := ⟨HT1.out.1.turn hcx htx, HT1.out.2.kept (hcx.block _ HT1.out.2.lt (by omega))⟩
            have HN2 : Hid (keyR r2 = some (ka, r3) ∧ r3.length ≤ 200000000000000) := ⟨hx, Nat.le_trans (keyR_len hx).1 HN1.out.2⟩
            have c42 : v2.cell? ⟨w.heap.size + 2, 4, none⟩ = some (.slice s.a' adds.length s.c') := HT2.out.1.var.cell 4
            have p02 : v2.cell? ⟨pl, 0, none⟩ = some (.int .i64 g.level) := HT2.out.2.cell 0
            have p12 : v2.cell? ⟨pl, 1, none⟩ = some (.int .u64 (g.num : Int)) := HT2.out.2.cell 1
            clear hcx hx htx
            refine hK.out _ _ ⟨p02, p12⟩ (fun hHeld => ?_)
            clear hK K
            try simp only [Act.put, List.getElem_toArray, List.getElem_cons_succ, List.getElem_cons_zero, Array.getInternal_eq_getElem, List.setIfInBounds_toArray, List.set_cons_zero, List.set_cons_succ]
            refine wpAnyH_ready (rs := [12]) (by kernel_rfl) (by simp) ?_
            refine AllReadyH.cons rfl (fun K hK => ?_) (AllReadyH.nil)
            go_simp
            refine (key_at HT2.out.1.tk HN2.out.2).mono ?_
            rintro _ v3 ⟨hcx, ⟨hno, rfl⟩ | ⟨kb, r4, hx, rfl, htx⟩⟩
            · exact ⟨rfl, HT2.out.1.die hcx, .inl ⟨by rw [HX8.out, HP.out.1.none (takeF_4 HG.out.1 HN1.out.1 HN2.out.1 hno)]; rfl, rfl⟩⟩
            have HT3 : Hid (TkS w v3 r4 ⟨lg, nx, la, dels, adds⟩ s ∧ Box v3 pl TG (gA g)) := ⟨HT2.out.1.turn hcx htx, HT2.out.2.kept (hcx.block _ HT2.out.2.lt (by omega))⟩
            have HN3 : Hid (keyR r3 = some (kb, r4) ∧ r4.length ≤ 200000000000000) := ⟨hx, Nat.le_trans (keyR_len hx).1 HN2.out.2⟩
            have c43 : v3.cell? ⟨w.heap.size + 2, 4, none⟩ = some (.slice s.a' adds.length s.c') := HT3.out.1.var.cell 4
            have p03 : v3.cell? ⟨pl, 0, none⟩ = some (.int .i64 g.level) := HT3.out.2.cell 0
            have p13 : v3.cell? ⟨pl, 1, none⟩ = some (.int .u64 (g.num : Int)) := HT3.out.2.cell 1
            clear hcx hx htx
            have HFF : Hid (takeF r = some (⟨g.level, g.num, toI sz, ka, kb⟩, r4)) := takeF_5 HG.out.1 HN1.out.1 HN2.out.1 HN3.out.1
            have hq3 := HT3.out.1.big
            have f4 : (v3.alloc (.cells #[.int .i64 g.level, .int .u64 (g.num : Int), .int .i64 (toI sz), .string ka.user, .int .u64 (ka.seq : Int), .int .i64 ka.kind, .string kb.user, .int .u64 (kb.seq : Int), .int .i64 kb.kind] 59)).cell? ⟨w.heap.size + 2, 4, none⟩ = some (.slice s.a' adds.length s.c') := (HT3.out.1.alloc _).var.cell 4
            have q0 : (v3.alloc (.cells #[.int .i64 g.level, .int .u64 (g.num : Int), .int .i64 (toI sz), .string ka.user, .int .u64 (ka.seq : Int), .int .i64 ka.kind, .string kb.user, .int .u64 (kb.seq : Int), .int .i64 kb.kind] 59)).cell? ⟨pl, 0, none⟩ = some (.int .i64 g.level) := (HT3.out.2.alloc _).cell 0
            have q1 : (v3.alloc (.cells #[.int .i64 g.level, .int .u64 (g.num : Int), .int .i64 (toI sz), .string ka.user, .int .u64 (ka.seq : Int), .int .i64 ka.kind, .string kb.user, .int .u64 (kb.seq : Int), .int .i64 kb.kind] 59)).cell? ⟨pl, 1, none⟩ = some (.int .u64 (g.num : Int)) := (HT3.out.2.alloc _).cell 1
            refine hK.out _ _ ⟨p03, p13⟩ (fun hHeld => ?_)
            clear hK K
            try simp only [Act.put, List.getElem_toArray, List.getElem_cons_succ, List.getElem_cons_zero, Array.getInternal_eq_getElem, List.setIfInBounds_toArray, List.set_cons_zero, List.set_cons_succ]
            refine wpAnyH_take (i := 13) (v := ?_) rfl (by kernel_rfl) (by kernel_rfl) (by kernel_rfl) (fun _ _ _ h => h) (Or.inl ⟨by rfl, ?_⟩) hHeld ?_
            rotate_left
            · intro w hSw
              try dsimp only at hSw
              go_simp
              try with_reducible rfl
            try simp only [Act.put, List.getElem_toArray, List.getElem_cons_succ, List.getElem_cons_zero, Array.getInternal_eq_getElem, List.setIfInBounds_toArray, List.set_cons_zero, List.set_cons_succ]
            refine wpAnyH_ready (rs := [14]) (by kernel_rfl) (by simp) ?_
            refine AllReadyH.cons rfl (fun K hK => ?_) (AllReadyH.nil)
            go_simp
            refine hK.out _ _ ⟨q0, q1⟩ (fun hHeld => ?_)
            clear hK K
            try simp only [Act.put, List.getElem_toArray, List.getElem_cons_succ, List.getElem_cons_zero, Array.getInternal_eq_getElem, List.setIfInBounds_toArray, List.set_cons_zero, List.set_cons_succ]
            refine wpAnyH_ready (rs := [15]) (by kernel_rfl) (by simp) ?_
            refine AllReadyH.cons rfl (fun K hK => ?_) (AllReadyH.nil)
            refine step_pushF v3 rfl (.tmp 38) (.tmp 51) rfl (w.heap.size + 3) s.a' adds.length s.c' adds (by simp [Act.eval]) HT3.out.1.fs ⟨g.level, g.num, toI sz, ka, kb⟩ v3.heap.size rfl (by simp [Act.eval]) (by have := HP.out.2.1; omega) hq3 ?_
            intro a6 c6 w6 ho6 hb6 hg6
            have HV : Hid (TkS w (w6.setCell ⟨w.heap.size + 2, 4, none⟩ (.slice a6 (adds.length + 1) c6)) r4 ⟨lg, nx, la, dels, adds ++ [⟨g.level, g.num, toI sz, ka, kb⟩]⟩ ⟨s.a, s.c, a6, c6⟩) := HT3.out.1.pushF ho6 hb6 _ hg6
            have hv6 := HT3.out.1.var.kept (hb6.block _ (by omega))
            have x4 : w6.cell? ⟨w.heap.size + 2, 4, none⟩ = some (.slice s.a' adds.length s.c') := hv6.cell 4
            have z4 := hv6.soft 4
            have hp6 : Box w6 pl TG (gA g) := by
              refine HT3.out.2.kept ?_
              rw [(Chg.grown hg6).block pl (by have := HT3.out.2.lt; simp; omega) (fun e => tag_ne (HT3.out.1.fs.tag e) HT3.out.2.tag (by decide) rfl)]
              exact Below.heap_alloc _ _ _ HT3.out.2.lt
            have y0 : w6.cell? ⟨pl, 0, none⟩ = some (.int .i64 g.level) := hp6.cell 0
            have y1 : w6.cell? ⟨pl, 1, none⟩ = some (.int .u64 (g.num : Int)) := hp6.cell 1
            have hpq : w.heap.size + 2 ≠ pl := by omega
            have y2 : (w6.setCell ⟨w.heap.size + 2, 4, none⟩ (.slice a6 (adds.length + 1) c6)).cell? ⟨pl, 0, none⟩ = some (.int .i64 g.level) := (hp6.other (Ne.symm hpq) _ _).cell 0
            have y3 : (w6.setCell ⟨w.heap.size + 2, 4, none⟩ (.slice a6 (adds.length + 1) c6)).cell? ⟨pl, 1, none⟩ = some (.int .u64 (g.num : Int)) := (hp6.other (Ne.symm hpq) _ _).cell 1
            clear ho6 hb6 hg6 hv6 hp6
            refine hK.out _ _ ⟨y0, y1⟩ (fun hHeld => ?_)
            clear hK K
            try simp only [Act.put, List.getElem_toArray, List.getElem_cons_succ, List.getElem_cons_zero, Array.getInternal_eq_getElem, List.setIfInBounds_toArray, List.set_cons_zero, List.set_cons_succ]
            refine wpAnyH_take (i := 16) (v := ?_) rfl (by kernel_rfl) (by kernel_rfl) (by kernel_rfl) (fun _ _ _ h => h) (Or.inl ⟨by rfl, ?_⟩) hHeld ?_
            rotate_left
            · intro w hSw
              try dsimp only at hSw
              go_simp
              try with_reducible rfl
            try simp only [Act.put, List.getElem_toArray, List.getElem_cons_succ, List.getElem_cons_zero, Array.getInternal_eq_getElem, List.setIfInBounds_toArray, List.set_cons_zero, List.set_cons_succ]
            refine wpAnyH_ready (rs := [17]) (by kernel_rfl) (by simp) ?_
            refine AllReadyH.cons rfl (fun K hK => ?_) (AllReadyH.nil)
            go_simp
            refine hK.out _ _ ⟨y2, y3⟩ (fun hHeld => ?_)
            clear hK K
            try simp only [Act.put, List.getElem_toArray, List.getElem_cons_succ, List.getElem_cons_zero, Array.getInternal_eq_getElem, List.setIfInBounds_toArray, List.set_cons_zero, List.set_cons_succ]
            refine wpAnyH_done (by kernel_rfl) ?_ _
            generalize w6.setCell ⟨w.heap.size + 2, 4, none⟩ (.slice a6 (adds.length + 1) c6) = w7 at HV ⊢
            clear x4 z4 y0 y1 y2 y3 f4 q0 q1
            go_wp2
            go_roundw
            case rel => exact ⟨j + 1, hjn, by go_num, r4, adds ++ [⟨g.level, g.num, toI sz, ka, kb⟩], ⟨s.a, s.c, a6, c6⟩, HV.out, by rw [List.length_append, HP.out.2.1]; rfl, by rw [HP.out.2.2.1]; exact HP.out.1.step HFF.out, HN3.out.2⟩
            case measure => simp only [intOf]; omega
          refine AllReadyH.cons rfl (fun K hK => ?_) (AllReadyH.nil)
          go_simp
          refine (number_at HTa.out.1.tk).mono ?_
          rintro _ v1 ⟨hcx, _, ⟨hno, rfl⟩ | ⟨sz, r2, hx, rfl, htx⟩⟩
          · exact ⟨rfl, HTa.out.1.die hcx, .inl ⟨by rw [HX8.out, HP.out.1.none (takeF_2 HG.out.1 hno)]; rfl, rfl⟩⟩
          have HT1 : Hid (TkS w v1 r2 ⟨lg, nx, la, dels, adds⟩ s ∧ Box v1 pl TG (gA g)) := ⟨HTa.out.1.turn hcx htx, HTa.out.2.kept (hcx.block _ HTa.out.2.lt (by omega))⟩
          have HN1 : Hid (numR r1 = some (sz, r2) ∧ r2.length ≤ 200000000000000) := ⟨hx, Nat.le_trans (numR_len hx) HG.out.2⟩
          have c41 : v1.cell? ⟨w.heap.size + 2, 4, none⟩ = some (.slice s.a' adds.length s.c') := HT1.out.1.var.cell 4
          have p01 : v1.cell? ⟨pl, 0, none⟩ = some (.int .i64 g.level) := HT1.out.2.cell 0
          have p11 : v1.cell? ⟨pl, 1, none⟩ = some (.int .u64 (g.num : Int)) := HT1.out.2.cell 1
          clear hcx hx htx
          have hcv := conv_toI sz
          refine hK.out _ _ ⟨p01, p11⟩ (fun hHeld => ?_)
          clear hK K
          try simp only [Act.put, List.getElem_toArray, List.getElem_cons_succ, List.getElem_cons_zero, Array.getInternal_eq_getElem, List.setIfInBounds_toArray, List.set_cons_zero, List.set_cons_succ]
          refine wpAnyH_take (i := 8) (v := ?_) rfl (by kernel_rfl) (by kernel_rfl) (by kernel_rfl) (fun _ _ _ h => h) (Or.inl ⟨by rfl, ?_⟩) hHeld ?_
          rotate_left
          · intro w hSw
            try dsimp only at hSw
            go_simp
            try with_reducible rfl
          try simp only [Act.put, List.getElem_toArray, List.getElem_cons_succ, List.getElem_cons_zero, Array.getInternal_eq_getElem, List.setIfInBounds_toArray, List.set_cons_zero, List.set_cons_succ]
          refine wpAnyH_ready (rs := [1, 10]) (by kernel_rfl) (by simp) ?_
          refine AllReadyH.cons rfl (fun K hK => ?_) ?_
          · go_simp
            refine hK.out _ _ ⟨p01, p11⟩ (fun hHeld => ?_)
            clear hK K
            try simp only [Act.put, List.getElem_toArray, List.getElem_cons_succ, List.getElem_cons_zero, Array.getInternal_eq_getElem, List.setIfInBounds_toArray, List.set_cons_zero, List.set_cons_succ]
            refine wpAnyH_ready (rs := [10]) (by kernel_rfl) (by simp) ?_
            refine AllReadyH.cons rfl (fun K hK => ?_) (AllReadyH.nil)
            go_simp
            refine (key_at HT1.out.1.tk HN1.out.2).mono ?_
            rintro _ v2 ⟨hcx, ⟨hno, rfl⟩ | ⟨ka, r3, hx, rfl, htx⟩⟩
            · exact ⟨rfl, HT1.out.1.die hcx, .inl ⟨by rw [HX8.out, HP.out.1.none (takeF_3 HG.out.1 HN1.out.1 hno)]; rfl, rfl⟩⟩
            have HT2 : Hid (TkS w v2 r3 ⟨lg, nx, la, dels, adds⟩ s ∧ Box v2 pl TG (gA g)) := ⟨HT1.out.1.turn hcx htx, HT1.out.2.kept (hcx.block _ HT1.out.2.lt (by omega))⟩
            have HN2 : Hid (keyR r2 = some (ka, r3) ∧ r3.length ≤ 200000000000000) := ⟨hx, Nat.le_trans (keyR_len hx).1 HN1.out.2⟩
            have c42 : v2.cell? ⟨w.heap.size + 2, 4, none⟩ = some (.slice s.a' adds.length s.c') := HT2.out.1.var.cell 4
            have p02 : v2.cell? ⟨pl, 0, none⟩ = some (.int .i64 g.level) := HT2.out.2.cell 0
            have p12 : v2.cell? ⟨pl, 1, none⟩ = some (.int .u64 (g.num : Int)) := HT2.out.2.cell 1
            clear hcx hx htx
            refine hK.out _ _ ⟨p02, p12⟩ (fun hHeld => ?_)
            clear hK K
            try simp only [Act.put, List.getElem_toArray, List.getElem_cons_succ, List.getElem_cons_zero, Array.getInternal_eq_getElem, List.setIfInBounds_toArray, List.set_cons_zero, List.set_cons_succ]
            refine wpAnyH_ready (rs := [12]) (by kernel_rfl) (by simp) ?_
            refine AllReadyH.cons rfl (fun K hK => ?_) (AllReadyH.nil)
            go_simp
            refine (key_at HT2.out.1.tk HN2.out.2).mono ?_
            rintro _ v3 ⟨hcx, ⟨hno, rfl⟩ | ⟨kb, r4, hx, rfl, htx⟩⟩
            · exact ⟨rfl, HT2.out.1.die hcx, .inl ⟨by rw [HX8.out, HP.out.1.none (takeF_4 HG.out.1 HN1.out.1 HN2.out.1 hno)]; rfl, rfl⟩⟩
            have HT3 : Hid (TkS w v3 r4 ⟨lg, nx, la, dels, adds⟩ s ∧ Box v3 pl TG (gA g)) := ⟨HT2.out.1.turn hcx htx, HT2.out.2.kept (hcx.block _ HT2.out.2.lt (by omega))⟩
            have HN3 : Hid (keyR r3 = some (kb, r4) ∧ r4.length ≤ 200000000000000) := ⟨hx, Nat.le_trans (keyR_len hx).1 HN2.out.2⟩
            have c43 : v3.cell? ⟨w.heap.size + 2, 4, none⟩ = some (.slice s.a' adds.length s.c') := HT3.out.1.var.cell 4
            have p03 : v3.cell? ⟨pl, 0, none⟩ = some (.int .i64 g.level) := HT3.out.2.cell 0
            have p13 : v3.cell? ⟨pl, 1, none⟩ = some (.int .u64 (g.num : Int)) := HT3.out.2.cell 1
            clear hcx hx htx
            have HFF : Hid (takeF r = some (⟨g.level, g.num, toI sz, ka, kb⟩, r4)) := takeF_5 HG.out.1 HN1.out.1 HN2.out.1 HN3.out.1
            have hq3 := HT3.out.1.big
            have f4 : (v3.alloc (.cells #[.int .i64 g.level, .int .u64 (g.num : Int), .int .i64 (toI sz), .string ka.user, .int .u64 (ka.seq : Int), .int .i64 ka.kind, .string kb.user, .int .u64 (kb.seq : Int), .int .i64 kb.kind] 59)).cell? ⟨w.heap.size + 2, 4, none⟩ = some (.slice s.a' adds.length s.c') := (HT3.out.1.alloc _).var.cell 4
            have q0 : (v3.alloc (.cells #[.int .i64 g.level, .int .u64 (g.num : Int), .int .i64 (toI sz), .string ka.user, .int .u64 (ka.seq : Int), .int .i64 ka.kind, .string kb.user, .int .u64 (kb.seq : Int), .int .i64 kb.kind] 59)).cell? ⟨pl, 0, none⟩ = some (.int .i64 g.level) := (HT3.out.2.alloc _).cell 0
            have q1 : (v3.alloc (.cells #[.int .i64 g.level, .int .u64 (g.num : Int), .int .i64 (toI sz), .string ka.user, .int .u64 (ka.seq : Int), .int .i64 ka.kind, .string kb.user, .int .u64 (kb.seq : Int), .int .i64 kb.kind] 59)).cell? ⟨pl, 1, none⟩ = some (.int .u64 (g.num : Int)) := (HT3.out.2.alloc _).cell 1
            refine hK.out _ _ ⟨p03, p13⟩ (fun hHeld => ?_)
            clear hK K
            try simp only [Act.put, List.getElem_toArray, List.getElem_cons_succ, List.getElem_cons_zero, Array.getInternal_eq_getElem, List.setIfInBounds_toArray, List.set_cons_zero, List.set_cons_succ]
            refine wpAnyH_take (i := 13) (v := ?_) rfl (by kernel_rfl) (by kernel_rfl) (by kernel_rfl) (fun _ _ _ h => h) (Or.inl ⟨by rfl, ?_⟩) hHeld ?_
            rotate_left
            · intro w hSw
              try dsimp only at hSw
              go_simp
              try with_reducible rfl
            try simp only [Act.put, List.getElem_toArray, List.getElem_cons_succ, List.getElem_cons_zero, Array.getInternal_eq_getElem, List.setIfInBounds_toArray, List.set_cons_zero, List.set_cons_succ]
            refine wpAnyH_ready (rs := [14]) (by kernel_rfl) (by simp) ?_
            refine AllReadyH.cons rfl (fun K hK => ?_) (AllReadyH.nil)
            go_simp
            refine hK.out _ _ ⟨q0, q1⟩ (fun hHeld => ?_)
            clear hK K
            try simp only [Act.put, List.getElem_toArray, List.getElem_cons_succ, List.getElem_cons_zero, Array.getInternal_eq_getElem, List.setIfInBounds_toArray, List.set_cons_zero, List.set_cons_succ]
            refine wpAnyH_ready (rs := [15]) (by kernel_rfl) (by simp) ?_
            refine AllReadyH.cons rfl (fun K hK => ?_) (AllReadyH.nil)
            refine step_pushF v3 rfl (.tmp 38) (.tmp 51) rfl (w.heap.size + 3) s.a' adds.length s.c' adds (by simp [Act.eval]) HT3.out.1.fs ⟨g.level, g.num, toI sz, ka, kb⟩ v3.heap.size rfl (by simp [Act.eval]) (by have := HP.out.2.1; omega) hq3 ?_
            intro a6 c6 w6 ho6 hb6 hg6
            have HV : Hid (TkS w (w6.setCell ⟨w.heap.size + 2, 4, none⟩ (.slice a6 (adds.length + 1) c6)) r4 ⟨lg, nx, la, dels, adds ++ [⟨g.level, g.num, toI sz, ka, kb⟩]⟩ ⟨s.a, s.c, a6, c6⟩) := HT3.out.1.pushF ho6 hb6 _ hg6
            have hv6 := HT3.out.1.var.kept (hb6.block _ (by omega))
            have x4 : w6.cell? ⟨w.heap.size + 2, 4, none⟩ = some (.slice s.a' adds.length s.c') := hv6.cell 4
            have z4 := hv6.soft 4
            have hp6 : Box w6 pl TG (gA g) := by
              refine HT3.out.2.kept ?_
              rw [(Chg.grown hg6).block pl (by have := HT3.out.2.lt; simp; omega) (fun e => tag_ne (HT3.out.1.fs.tag e) HT3.out.2.tag (by decide) rfl)]
              exact Below.heap_alloc _ _ _ HT3.out.2.lt
            have y0 : w6.cell? ⟨pl, 0, none⟩ = some (.int .i64 g.level) := hp6.cell 0
            have y1 : w6.cell? ⟨pl, 1, none⟩ = some (.int .u64 (g.num : Int)) := hp6.cell 1
            have hpq : w.heap.size + 2 ≠ pl := by omega
            have y2 : (w6.setCell ⟨w.heap.size + 2, 4, none⟩ (.slice a6 (adds.length + 1) c6)).cell? ⟨pl, 0, none⟩ = some (.int .i64 g.level) := (hp6.other (Ne.symm hpq) _ _).cell 0
            have y3 : (w6.setCell ⟨w.heap.size + 2, 4, none⟩ (.slice a6 (adds.length + 1) c6)).cell? ⟨pl, 1, none⟩ = some (.int .u64 (g.num : Int)) := (hp6.other (Ne.symm hpq) _ _).cell 1
            clear ho6 hb6 hg6 hv6 hp6
            refine hK.out _ _ ⟨y0, y1⟩ (fun hHeld => ?_)
            clear hK K
            try simp only [Act.put, List.getElem_toArray, List.getElem_cons_succ, List.getElem_cons_zero, Array.getInternal_eq_getElem, List.setIfInBounds_toArray, List.set_cons_zero, List.set_cons_succ]
            refine wpAnyH_take (i := 16) (v := ?_) rfl (by kernel_rfl) (by kernel_rfl) (by kernel_rfl) (fun _ _ _ h => h) (Or.inl ⟨by rfl, ?_⟩) hHeld ?_
            rotate_left
            · intro w hSw
              try dsimp only at hSw
              go_simp
              try with_reducible rfl
            try simp only [Act.put, List.getElem_toArray, List.getElem_cons_succ, List.getElem_cons_zero, Array.getInternal_eq_getElem, List.setIfInBounds_toArray, List.set_cons_zero, List.set_cons_succ]
            refine wpAnyH_ready (rs := [17]) (by kernel_rfl) (by simp) ?_
            refine AllReadyH.cons rfl (fun K hK => ?_) (AllReadyH.nil)
            go_simp
            refine hK.out _ _ ⟨y2, y3⟩ (fun hHeld => ?_)
            clear hK K
            try simp only [Act.put, List.getElem_toArray, List.getElem_cons_succ, List.getElem_cons_zero, Array.getInternal_eq_getElem, List.setIfInBounds_toArray, List.set_cons_zero, List.set_cons_succ]
            refine wpAnyH_done (by kernel_rfl) ?_ _
            generalize w6.setCell ⟨w.heap.size + 2, 4, none⟩ (.slice a6 (adds.length + 1) c6) = w7 at HV ⊢
            clear x4 z4 y0 y1 y2 y3 f4 q0 q1
            go_wp2
            go_roundw
            case rel => exact ⟨j + 1, hjn, by go_num, r4, adds ++ [⟨g.level, g.num, toI sz, ka, kb⟩], ⟨s.a, s.c, a6, c6⟩, HV.out, by rw [List.length_append, HP.out.2.1]; rfl, by rw [HP.out.2.2.1]; exact HP.out.1.step HFF.out, HN3.out.2⟩
            case measure => simp only [intOf]; omega
          refine AllReadyH.cons rfl (fun K hK => ?_) (AllReadyH.nil)
          go_simp
          refine (key_at HT1.out.1.tk HN1.out.2).mono ?_
          rintro _ v2 ⟨hcx, ⟨hno, rfl⟩ | ⟨ka, r3, hx, rfl, htx⟩⟩
          · exact ⟨rfl, HT1.out.1.die hcx, .inl ⟨by rw [HX8.out, HP.out.1.none (takeF_3 HG.out.1 HN1.out.1 hno)]; rfl, rfl⟩⟩
          have HT2 : Hid (TkS w v2 r3 ⟨lg, nx, la, dels, adds⟩ s ∧ Box v2 pl TG (gA g)) := ⟨HT1.out.1.turn hcx htx, HT1.out.2.kept (hcx.block _ HT1.out.2.lt (by omega))⟩
          have HN2 : Hid (keyR r2 = some (ka, r3) ∧ r3.length ≤ 200000000000000) := ⟨hx, Nat.le_trans (keyR_len hx).1 HN1.out.2⟩
          have c42 : v2.cell? ⟨w.heap.size + 2, 4, none⟩ = some (.slice s.a' adds.length s.c') := HT2.out.1.var.cell 4
          have p02 : v2.cell? ⟨pl, 0, none⟩ = some (.int .i64 g.level) := HT2.out.2.cell 0
          have p12 : v2.cell? ⟨pl, 1, none⟩ = some (.int .u64 (g.num : Int)) := HT2.out.2.cell 1
          clear hcx hx htx
          refine hK.out _ _ ⟨p02, p12⟩ (fun hHeld => ?_)
          clear hK K
          try simp only [Act.put, List.getElem_toArray, List.getElem_cons_succ, List.getElem_cons_zero, Array.getInternal_eq_getElem, List.setIfInBounds_toArray, List.set_cons_zero, List.set_cons_succ]
          refine wpAnyH_ready (rs := [1, 12]) (by kernel_rfl) (by simp) ?_
          refine AllReadyH.cons rfl (fun K hK => ?_) ?_
          · go_simp
            refine hK.out _ _ ⟨p02, p12⟩ (fun hHeld => ?_)
            clear hK K
            try simp only [Act.put, List.getElem_toArray, List.getElem_cons_succ, List.getElem_cons_zero, Array.getInternal_eq_getElem, List.setIfInBounds_toArray, List.set_cons_zero, List.set_cons_succ]
            refine wpAnyH_ready (rs := [12]) (by kernel_rfl) (by simp) ?_
            refine AllReadyH.cons rfl (fun K hK => ?_) (AllReadyH.nil)
            go_simp
            refine (key_at HT2.out.1.tk HN2.out.2).mono ?_
            rintro _ v3 ⟨hcx, ⟨hno, rfl⟩ | ⟨kb, r4, hx, rfl, htx⟩⟩
            · exact ⟨rfl, HT2.out.1.die hcx, .inl ⟨by rw [HX8.out, HP.out.1.none (takeF_4 HG.out.1 HN1.out.1 HN2.out.1 hno)]; rfl, rfl⟩⟩
            have HT3 : Hid (TkS w v3 r4 ⟨lg, nx, la, dels, adds⟩ s ∧ Box v3 pl TG (gA g)) := ⟨HT2.out.1.turn hcx htx, HT2.out.2.kept (hcx.block _ HT2.out.2.lt (by omega))⟩
            have HN3 : Hid (keyR r3 = some (kb, r4) ∧ r4.length ≤ 200000000000000) := ⟨hx, Nat.le_trans (keyR_len hx).1 HN2.out.2⟩
            have c43 : v3.cell? ⟨w.heap.size + 2, 4, none⟩ = some (.slice s.a' adds.length s.c') := HT3.out.1.var.cell 4
            have p03 : v3.cell? ⟨pl, 0, none⟩ = some (.int .i64 g.level) := HT3.out.2.cell 0
            have p13 : v3.cell? ⟨pl, 1, none⟩ = some (.int .u64 (g.num : Int)) := HT3.out.2.cell 1
            clear hcx hx htx
            have HFF : Hid (takeF r = some (⟨g.level, g.num, toI sz, ka, kb⟩, r4)) := takeF_5 HG.out.1 HN1.out.1 HN2.out.1 HN3.out.1
            have hq3 := HT3.out.1.big
            have f4 : (v3.alloc (.cells #[.int .i64 g.level, .int .u64 (g.num : Int), .int .i64 (toI sz), .string ka.user, .int .u64 (ka.seq : Int), .int .i64 ka.kind, .string kb.user, .int .u64 (kb.seq : Int), .int .i64 kb.kind] 59)).cell? ⟨w.heap.size + 2, 4, none⟩ = some (.slice s.a' adds.length s.c') := (HT3.out.1.alloc _).var.cell 4
            have q0 : (v3.alloc (.cells #[.int .i64 g.level, .int .u64 (g.num : Int), .int .i64 (toI sz), .string ka.user, .int .u64 (ka.seq : Int), .int .i64 ka.kind, .string kb.user, .int .u64 (kb.seq : Int), .int .i64 kb.kind] 59)).cell? ⟨pl, 0, none⟩ = some (.int .i64 g.level) := (HT3.out.2.alloc _).cell 0
            have q1 : (v3.alloc (.cells #[.int .i64 g.level, .int .u64 (g.num : Int), .int .i64 (toI sz), .string ka.user, .int .u64 (ka.seq : Int), .int .i64 ka.kind, .string kb.user, .int .u64 (kb.seq : Int), .int .i64 kb.kind] 59)).cell? ⟨pl, 1, none⟩ = some (.int .u64 (g.num : Int)) := (HT3.out.2.alloc _).cell 1
            refine hK.out _ _ ⟨p03, p13⟩ (fun hHeld => ?_)
            clear hK K
            try simp only [Act.put, List.getElem_toArray, List.getElem_cons_succ, List.getElem_cons_zero, Array.getInternal_eq_getElem, List.setIfInBounds_toArray, List.set_cons_zero, List.set_cons_succ]
            refine wpAnyH_take (i := 13) (v := ?_) rfl (by kernel_rfl) (by kernel_rfl) (by kernel_rfl) (fun _ _ _ h => h) (Or.inl ⟨by rfl, ?_⟩) hHeld ?_
            rotate_left
            · intro w hSw
              try dsimp only at hSw
              go_simp
              try with_reducible rfl
            try simp only [Act.put, List.getElem_toArray, List.getElem_cons_succ, List.getElem_cons_zero, Array.getInternal_eq_getElem, List.setIfInBounds_toArray, List.set_cons_zero, List.set_cons_succ]
            refine wpAnyH_ready (rs := [14]) (by kernel_rfl) (by simp) ?_
            refine AllReadyH.cons rfl (fun K hK => ?_) (AllReadyH.nil)
            go_simp
            refine hK.out _ _ ⟨q0, q1⟩ (fun hHeld => ?_)
            clear hK K
            try simp only [Act.put, List.getElem_toArray, List.getElem_cons_succ, List.getElem_cons_zero, Array.getInternal_eq_getElem, List.setIfInBounds_toArray, List.set_cons_zero, List.set_cons_succ]
            refine wpAnyH_ready (rs := [15]) (by kernel_rfl) (by simp) ?_
            refine AllReadyH.cons rfl (fun K hK => ?_) (AllReadyH.nil)
            refine step_pushF v3 rfl (.tmp 38) (.tmp 51) rfl (w.heap.size + 3) s.a' adds.length s.c' adds (by simp [Act.eval]) HT3.out.1.fs ⟨g.level, g.num, toI sz, ka, kb⟩ v3.heap.size rfl (by simp [Act.eval]) (by have := HP.out.2.1; omega) hq3 ?_
            intro a6 c6 w6 ho6 hb6 hg6
            have HV : Hid (TkS w (w6.setCell ⟨w.heap.size + 2, 4, none⟩ (.slice a6 (adds.length + 1) c6)) r4 ⟨lg, nx, la, dels, adds ++ [⟨g.level, g.num, toI sz, ka, kb⟩]⟩ ⟨s.a, s.c, a6, c6⟩) := HT3.out.1.pushF ho6 hb6 _ hg6
            have hv6 := HT3.out.1.var.kept (hb6.block _ (by omega))
            have x4 : w6.cell? ⟨w.heap.size + 2, 4, none⟩ = some (.slice s.a' adds.length s.c') := hv6.cell 4
            have z4 := hv6.soft 4
            have hp6 : Box w6 pl TG (gA g) := by
              refine HT3.out.2.kept ?_
              rw [(Chg.grown hg6).block pl (by have := HT3.out.2.lt; simp; omega) (fun e => tag_ne (HT3.out.1.fs.tag e) HT3.out.2.tag (by decide) rfl)]
              exact Below.heap_alloc _ _ _ HT3.out.2.lt
            have y0 : w6.cell? ⟨pl, 0, none⟩ = some (.int .i64 g.level) := hp6.cell 0
            have y1 : w6.cell? ⟨pl, 1, none⟩ = some (.int .u64 (g.num : Int)) := hp6.cell 1
            have hpq : w.heap.size + 2 ≠ pl := by omega
            have y2 : (w6.setCell ⟨w.heap.size + 2, 4, none⟩ (.slice a6 (adds.length + 1) c6)).cell? ⟨pl, 0, none⟩ = some (.int .i64 g.level) := (hp6.other (Ne.symm hpq) _ _).cell 0
            have y3 : (w6.setCell ⟨w.heap.size + 2, 4, none⟩ (.slice a6 (adds.length + 1) c6)).cell? ⟨pl, 1, none⟩ = some (.int .u64 (g.num : Int)) := (hp6.other (Ne.symm hpq) _ _).cell 1
            clear ho6 hb6 hg6 hv6 hp6
            refine hK.out _ _ ⟨y0, y1⟩ (fun hHeld => ?_)
            clear hK K
            try simp only [Act.put, List.getElem_toArray, List.getElem_cons_succ, List.getElem_cons_zero, Array.getInternal_eq_getElem, List.setIfInBounds_toArray, List.set_cons_zero, List.set_cons_succ]
            refine wpAnyH_take (i := 16) (v := ?_) rfl (by kernel_rfl) (by kernel_rfl) (by kernel_rfl) (fun _ _ _ h => h) (Or.inl ⟨by rfl, ?_⟩) hHeld ?_
            rotate_left
            · intro w hSw
              try dsimp only at hSw
              go_simp
              try with_reducible rfl
            try simp only [Act.put, List.getElem_toArray, List.getElem_cons_succ, List.getElem_cons_zero, Array.getInternal_eq_getElem, List.setIfInBounds_toArray, List.set_cons_zero, List.set_cons_succ]
            refine wpAnyH_ready (rs := [17]) (by kernel_rfl) (by simp) ?_
            refine AllReadyH.cons rfl (fun K hK => ?_) (AllReadyH.nil)
            go_simp
            refine hK.out _ _ ⟨y2, y3⟩ (fun hHeld => ?_)
            clear hK K
            try simp only [Act.put, List.getElem_toArray, List.getElem_cons_succ, List.getElem_cons_zero, Array.getInternal_eq_getElem, List.setIfInBounds_toArray, List.set_cons_zero, List.set_cons_succ]
            refine wpAnyH_done (by kernel_rfl) ?_ _
            generalize w6.setCell ⟨w.heap.size + 2, 4, none⟩ (.slice a6 (adds.length + 1) c6) = w7 at HV ⊢
            clear x4 z4 y0 y1 y2 y3 f4 q0 q1
            go_wp2
            go_roundw
            case rel => exact ⟨j + 1, hjn, by go_num, r4, adds ++ [⟨g.level, g.num, toI sz, ka, kb⟩], ⟨s.a, s.c, a6, c6⟩, HV.out, by rw [List.length_append, HP.out.2.1]; rfl, by rw [HP.out.2.2.1]; exact HP.out.1.step HFF.out, HN3.out.2⟩
            case measure => simp only [intOf]; omega
          refine AllReadyH.cons rfl (fun K hK => ?_) (AllReadyH.nil)
          go_simp
          refine (key_at HT2.out.1.tk HN2.out.2).mono ?_
          rintro _ v3 ⟨hcx, ⟨hno, rfl⟩ | ⟨kb, r4, hx, rfl, htx⟩⟩
          · exact ⟨rfl, HT2.out.1.die hcx, .inl ⟨by rw [HX8.out, HP.out.1.none (takeF_4 HG.out.1 HN1.out.1 HN2.out.1 hno)]; rfl, rfl⟩⟩
          have HT3 : Hid (TkS w v3 r4 ⟨lg, nx, la, dels, adds⟩ s ∧ Box v3 pl TG (gA g)) := ⟨HT2.out.1.turn hcx htx, HT2.out.2.kept (hcx.block _ HT2.out.2.lt (by omega))⟩
          have HN3 : Hid (keyR r3 = some (kb, r4) ∧ r4.length ≤ 200000000000000) := ⟨hx, Nat.le_trans (keyR_len hx).1 HN2.out.2⟩
          have c43 : v3.cell? ⟨w.heap.size + 2, 4, none⟩ = some (.slice s.a' adds.length s.c') := HT3.out.1.var.cell 4
          have p03 : v3.cell? ⟨pl, 0, none⟩ = some (.int .i64 g.level) := HT3.out.2.cell 0
          have p13 : v3.cell? ⟨pl, 1, none⟩ = some (.int .u64 (g.num : Int)) := HT3.out.2.cell 1
          clear hcx hx htx
          have HFF : Hid (takeF r = some (⟨g.level, g.num, toI sz, ka, kb⟩, r4)) := takeF_5 HG.out.1 HN1.out.1 HN2.out.1 HN3.out.1
          have hq3 := HT3.out.1.big
          have f4 : (v3.alloc (.cells #[.int .i64 g.level, .int .u64 (g.num : Int), .int .i64 (toI sz), .string ka.user, .int .u64 (ka.seq : Int), .int .i64 ka.kind, .string kb.user, .int .u64 (kb.seq : Int), .int .i64 kb.kind] 59)).cell? ⟨w.heap.size + 2, 4, none⟩ = some (.slice s.a' adds.length s.c') := (HT3.out.1.alloc _).var.cell 4
          have q0 : (v3.alloc (.cells #[.int .i64 g.level, .int .u64 (g.num : Int), .int .i64 (toI sz), .string ka.user, .int .u64 (ka.seq : Int), .int .i64 ka.kind, .string kb.user, .int .u64 (kb.seq : Int), .int .i64 kb.kind] 59)).cell? ⟨pl, 0, none⟩ = some (.int .i64 g.level) := (HT3.out.2.alloc _).cell 0
          have q1 : (v3.alloc (.cells #[.int .i64 g.level, .int .u64 (g.num : Int), .int .i64 (toI sz), .string ka.user, .int .u64 (ka.seq : Int), .int .i64 ka.kind, .string kb.user, .int .u64 (kb.seq : Int), .int .i64 kb.kind] 59)).cell? ⟨pl, 1, none⟩ = some (.int .u64 (g.num : Int)) := (HT3.out.2.alloc _).cell 1
          refine hK.out _ _ ⟨p03, p13⟩ (fun hHeld => ?_)
          clear hK K
          try simp only [Act.put, List.getElem_toArray, List.getElem_cons_succ, List.getElem_cons_zero, Array.getInternal_eq_getElem, List.setIfInBounds_toArray, List.set_cons_zero, List.set_cons_succ]
          refine wpAnyH_take (i := 13) (v := ?_) rfl (by kernel_rfl) (by kernel_rfl) (by kernel_rfl) (fun _ _ _ h => h) (Or.inl ⟨by rfl, ?_⟩) hHeld ?_
          rotate_left
          · intro w hSw
            try dsimp only at hSw
            go_simp
            try with_reducible rfl
          try simp only [Act.put, List.getElem_toArray, List.getElem_cons_succ, List.getElem_cons_zero, Array.getInternal_eq_getElem, List.setIfInBounds_toArray, List.set_cons_zero, List.set_cons_succ]
          refine wpAnyH_ready (rs := [1, 14]) (by kernel_rfl) (by simp) ?_
          refine AllReadyH.cons rfl (fun K hK => ?_) ?_
          · go_simp
            refine hK.out _ _ ⟨p03, p13⟩ (fun hHeld => ?_)
            clear hK K
            try simp only [Act.put, List.getElem_toArray, List.getElem_cons_succ, List.getElem_cons_zero, Array.getInternal_eq_getElem, List.setIfInBounds_toArray, List.set_cons_zero, List.set_cons_succ]
            refine wpAnyH_ready (rs := [14]) (by kernel_rfl) (by simp) ?_
            refine AllReadyH.cons rfl (fun K hK => ?_) (AllReadyH.nil)
            go_simp
            refine hK.out _ _ ⟨q0, q1⟩ (fun hHeld => ?_)
            clear hK K
            try simp only [Act.put, List.getElem_toArray, List.getElem_cons_succ, List.getElem_cons_zero, Array.getInternal_eq_getElem, List.setIfInBounds_toArray, List.set_cons_zero, List.set_cons_succ]
            refine wpAnyH_ready (rs := [15]) (by kernel_rfl) (by simp) ?_
            refine AllReadyH.cons rfl (fun K hK => ?_) (AllReadyH.nil)
            refine step_pushF v3 rfl (.tmp 38) (.tmp 51) rfl (w.heap.size + 3) s.a' adds.length s.c' adds (by simp [Act.eval]) HT3.out.1.fs ⟨g.level, g.num, toI sz, ka, kb⟩ v3.heap.size rfl (by simp [Act.eval]) (by have := HP.out.2.1; omega) hq3 ?_
            intro a6 c6 w6 ho6 hb6 hg6
            have HV : Hid (TkS w (w6.setCell ⟨w.heap.size + 2, 4, none⟩ (.slice a6 (adds.length + 1) c6)) r4 ⟨lg, nx, la, dels, adds ++ [⟨g.level, g.num, toI sz, ka, kb⟩]⟩ ⟨s.a, s.c, a6, c6⟩) := HT3.out.1.pushF ho6 hb6 _ hg6
            have hv6 := HT3.out.1.var.kept (hb6.block _ (by omega))
            have x4 : w6.cell? ⟨w.heap.size + 2, 4, none⟩ = some (.slice s.a' adds.length s.c') := hv6.cell 4
            have z4 := hv6.soft 4
            have hp6 : Box w6 pl TG (gA g) := by
              refine HT3.out.2.kept ?_
              rw [(Chg.grown hg6).block pl (by have := HT3.out.2.lt; simp; omega) (fun e => tag_ne (HT3.out.1.fs.tag e) HT3.out.2.tag (by decide) rfl)]
              exact Below.heap_alloc _ _ _ HT3.out.2.lt
            have y0 : w6.cell? ⟨pl, 0, none⟩ = some (.int .i64 g.level) := hp6.cell 0
            have y1 : w6.cell? ⟨pl, 1, none⟩ = some (.int .u64 (g.num : Int)) := hp6.cell 1
            have hpq : w.heap.size + 2 ≠ pl := by omega
            have y2 : (w6.setCell ⟨w.heap.size + 2, 4, none⟩ (.slice a6 (adds.length + 1) c6)).cell? ⟨pl, 0, none⟩ = some (.int .i64 g.level) := (hp6.other (Ne.symm hpq) _ _).cell 0
            have y3 : (w6.setCell ⟨w.heap.size + 2, 4, none⟩ (.slice a6 (adds.length + 1) c6)).cell? ⟨pl, 1, none⟩ = some (.int .u64 (g.num : Int)) := (hp6.other (Ne.symm hpq) _ _).cell 1
            clear ho6 hb6 hg6 hv6 hp6
            refine hK.out _ _ ⟨y0, y1⟩ (fun hHeld => ?_)
            clear hK K
            try simp only [Act.put, List.getElem_toArray, List.getElem_cons_succ, List.getElem_cons_zero, Array.getInternal_eq_getElem, List.setIfInBounds_toArray, List.set_cons_zero, List.set_cons_succ]
            refine wpAnyH_take (i := 16) (v := ?_) rfl (by kernel_rfl) (by kernel_rfl) (by kernel_rfl) (fun _ _ _ h => h) (Or.inl ⟨by rfl, ?_⟩) hHeld ?_
            rotate_left
            · intro w hSw
              try dsimp only at hSw
              go_simp
              try with_reducible rfl
            try simp only [Act.put, List.getElem_toArray, List.getElem_cons_succ, List.getElem_cons_zero, Array.getInternal_eq_getElem, List.setIfInBounds_toArray, List.set_cons_zero, List.set_cons_succ]
            refine wpAnyH_ready (rs := [17]) (by kernel_rfl) (by simp) ?_
            refine AllReadyH.cons rfl (fun K hK => ?_) (AllReadyH.nil)
            go_simp
            refine hK.out _ _ ⟨y2, y3⟩ (fun hHeld => ?_)
            clear hK K
            try simp only [Act.put, List.getElem_toArray, List.getElem_cons_succ, List.getElem_cons_zero, Array.getInternal_eq_getElem, List.setIfInBounds_toArray, List.set_cons_zero, List.set_cons_succ]
            refine wpAnyH_done (by kernel_rfl) ?_ _
            generalize w6.setCell ⟨w.heap.size + 2, 4, none⟩ (.slice a6 (adds.length + 1) c6) = w7 at HV ⊢
            clear x4 z4 y0 y1 y2 y3 f4 q0 q1
            go_wp2
            go_roundw
            case rel => exact ⟨j + 1, hjn, by go_num, r4, adds ++ [⟨g.level, g.num, toI sz, ka, kb⟩], ⟨s.a, s.c, a6, c6⟩, HV.out, by rw [List.length_append, HP.out.2.1]; rfl, by rw [HP.out.2.2.1]; exact HP.out.1.step HFF.out, HN3.out.2⟩
            case measure => simp only [intOf]; omega
          refine AllReadyH.cons rfl (fun K hK => ?_) (AllReadyH.nil)
          go_simp
          refine hK.out _ _ ⟨q0, q1⟩ (fun hHeld => ?_)
          clear hK K
          try simp only [Act.put, List.getElem_toArray, List.getElem_cons_succ, List.getElem_cons_zero, Array.getInternal_eq_getElem, List.setIfInBounds_toArray, List.set_cons_zero, List.set_cons_succ]
          refine wpAnyH_ready (rs := [1]) (by kernel_rfl) (by simp) ?_
          refine AllReadyH.cons rfl (fun K hK => ?_) (AllReadyH.nil)
          go_simp
          refine hK.out _ _ ⟨q0, q1⟩ (fun hHeld => ?_)
          clear hK K
          try simp only [Act.put, List.getElem_toArray, List.getElem_cons_succ, List.getElem_cons_zero, Array.getInternal_eq_getElem, List.setIfInBounds_toArray, List.set_cons_zero, List.set_cons_succ]
          refine wpAnyH_ready (rs := [15]) (by kernel_rfl) (by simp) ?_
          refine AllReadyH.cons rfl (fun K hK => ?_) (AllReadyH.nil)
          refine step_pushF v3 rfl (.tmp 38) (.tmp 51) rfl (w.heap.size + 3) s.a' adds.length s.c' adds (by simp [Act.eval]) HT3.out.1.fs ⟨g.level, g.num, toI sz, ka, kb⟩ v3.heap.size rfl (by simp [Act.eval]) (by have := HP.out.2.1; omega) hq3 ?_
          intro a6 c6 w6 ho6 hb6 hg6
          have HV : Hid (TkS w (w6.setCell ⟨w.heap.size + 2, 4, none⟩ (.slice a6 (adds.length + 1) c6)) r4 ⟨lg, nx, la, dels, adds ++ [⟨g.level, g.num, toI sz, ka, kb⟩]⟩ ⟨s.a, s.c, a6, c6⟩) := HT3.out.1.pushF ho6 hb6 _ hg6
          have hv6 := HT3.out.1.var.kept (hb6.block _ (by omega))
          have x4 : w6.cell? ⟨w.heap.size + 2, 4, none⟩ = some (.slice s.a' adds.length s.c') := hv6.cell 4
          have z4 := hv6.soft 4
          have hp6 : Box w6 pl TG (gA g) := by
            refine HT3.out.2.kept ?_
            rw [(Chg.grown hg6).block pl (by have := HT3.out.2.lt; simp; omega) (fun e => tag_ne (HT3.out.1.fs.tag e) HT3.out.2.tag (by decide) rfl)]
            exact Below.heap_alloc _ _ _ HT3.out.2.lt
          have y0 : w6.cell? ⟨pl, 0, none⟩ = some (.int .i64 g.level) := hp6.cell 0
          have y1 : w6.cell? ⟨pl, 1, none⟩ = some (.int .u64 (g.num : Int)) := hp6.cell 1
          have hpq : w.heap.size + 2 ≠ pl := by omega
          have y2 : (w6.setCell ⟨w.heap.size + 2, 4, none⟩ (.slice a6 (adds.length + 1) c6)).cell? ⟨pl, 0, none⟩ = some (.int .i64 g.level) := (hp6.other (Ne.symm hpq) _ _).cell 0
          have y3 : (w6.setCell ⟨w.heap.size + 2, 4, none⟩ (.slice a6 (adds.length + 1) c6)).cell? ⟨pl, 1, none⟩ = some (.int .u64 (g.num : Int)) := (hp6.other (Ne.symm hpq) _ _).cell 1
          clear ho6 hb6 hg6 hv6 hp6
          refine hK.out _ _ ⟨y0, y1⟩ (fun hHeld => ?_)
          clear hK K
          try simp only [Act.put, List.getElem_toArray, List.getElem_cons_succ, List.getElem_cons_zero, Array.getInternal_eq_getElem, List.setIfInBounds_toArray, List.set_cons_zero, List.set_cons_succ]
          refine wpAnyH_take (i := 16) (v := ?_) rfl (by kernel_rfl) (by kernel_rfl) (by kernel_rfl) (fun _ _ _ h => h) (Or.inl ⟨by rfl, ?_⟩) hHeld ?_
          rotate_left
          · intro w hSw
            try dsimp only at hSw
            go_simp
            try with_reducible rfl
          try simp only [Act.put, List.getElem_toArray, List.getElem_cons_succ, List.getElem_cons_zero, Array.getInternal_eq_getElem, List.setIfInBounds_toArray, List.set_cons_zero, List.set_cons_succ]
          refine wpAnyH_ready (rs := [17]) (by kernel_rfl) (by simp) ?_
          refine AllReadyH.cons rfl (fun K hK => ?_) (AllReadyH.nil)
          go_simp
          refine hK.out _ _ ⟨y2, y3⟩ (fun hHeld => ?_)
          clear hK K
          try simp only [Act.put, List.getElem_toArray, List.getElem_cons_succ, List.getElem_cons_zero, Array.getInternal_eq_getElem, List.setIfInBounds_toArray, List.set_cons_zero, List.set_cons_succ]
          refine wpAnyH_done (by kernel_rfl) ?_ _
          generalize w6.setCell ⟨w.heap.size + 2, 4, none⟩ (.slice a6 (adds.length + 1) c6) = w7 at HV ⊢
          clear x4 z4 y0 y1 y2 y3 f4 q0 q1
          go_wp2
          go_roundw
          case rel => exact ⟨j + 1, hjn, by go_num, r4, adds ++ [⟨g.level, g.num, toI sz, ka, kb⟩], ⟨s.a, s.c, a6, c6⟩, HV.out, by rw [List.length_append, HP.out.2.1]; rfl, by rw [HP.out.2.2.1]; exact HP.out.1.step HFF.out, HN3.out.2⟩
          case measure => simp only [intOf]; omega
        · obtain ⟨r, adds, s, hT, hdl, hP, hrl⟩ := HR.out
          rw [show M - j = 0 by omega] at hP
          have HF : Hid (takeE b = some ⟨lg, nx, la, dels, adds⟩) := by
            show takeE b = _
            rw [HX8.out, hP.done, Option.bind_some]
          have HT : Hid (TkS w wr r ⟨lg, nx, la, dels, adds⟩ s) := hT
          obtain ⟨c0, c1, c2, c3, c4⟩ := hT.var.five
          simp only at c0 c1 c2 c3 c4
          obtain ⟨x0, x1, x2, x3, x4⟩ := hT.res.five
          have z0 := hT.res.soft 0
          have z1 := hT.res.soft 1
          have z2 := hT.res.soft 2
          have z3 := hT.res.soft 3
          have z4 := hT.res.soft 4
          clear hT hdl hP hrl HR
          go_wp2
          refine bodyPost_ret (v := .agg #[.int .u64 (lg : Int), .int .u64 (nx : Int), .int .u64 (la : Int), .slice s.a dels.length s.c, .slice s.a' adds.length s.c']) (by simp [results, Tryz.results142, go_sem, x0, x1, x2, x3, x4]) rfl ⟨((((HT.out.base.setCell (by simp) _).setCell (by simp) _).setCell (by simp) _).setCell (by simp) _).setCell (by simp) _, .inr ⟨⟨lg, nx, la, dels, adds⟩, s, HF.out, rfl, ?_, ?_⟩⟩
          · refine (HT.out.gs.less (by omega)).kept fun k e => ?_
            have hge := HT.out.gs.ge e
            rw [Below.heap_setCell _ _ _ _ (by show k ≠ w.heap.size; omega), Below.heap_setCell _ _ _ _ (by show k ≠ w.heap.size; omega), Below.heap_setCell _ _ _ _ (by show k ≠ w.heap.size; omega), Below.heap_setCell _ _ _ _ (by show k ≠ w.heap.size; omega), Below.heap_setCell _ _ _ _ (by show k ≠ w.heap.size; omega)]
          · refine (HT.out.fs.less (by omega)).kept fun k e => ?_
            have hge := HT.out.fs.ge e
            rw [Below.heap_setCell _ _ _ _ (by show k ≠ w.heap.size; omega), Below.heap_setCell _ _ _ _ (by show k ≠ w.heap.size; omega), Below.heap_setCell _ _ _ _ (by show k ≠ w.heap.size; omega), Below.heap_setCell _ _ _ _ (by show k ≠ w.heap.size; omega), Below.heap_setCell _ _ _ _ (by show k ≠ w.heap.size; omega)]
end Go.Proofs.YtmlfbihlbiikeaaGreatDoor
