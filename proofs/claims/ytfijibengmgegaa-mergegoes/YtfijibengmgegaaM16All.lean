/- The contract of the document's own All. -/
import Derived.Test.YtfijibengmgegaaM16Mem
import Derived.Deep.DeepCutAuto
namespace Go.Proofs.Ytfijibengmgegaa
open Go.RowKit
set_option linter.unusedVariables false
set_option linter.unusedSimpArgs false
def slLen16 : Value → Nat
  | .slice _ n _ => n
  | _ => 0
def encI : Option Nat → Int
  | none => -1
  | some b => (b : Int)
/-- What All keeps: its row of numbers, what it has. -/
structure Al (w W : World) (L : List (List KV)) (v : Nat → Nat) (n : Nat) (a' : Option Addr) (m c' : Nat) : Prop where
  low : Below w.heap.size w W
  box : Box W w.heap.size 3 (atA v n)
  own : OwnK W (w.heap.size + 1) a' m c' ((allL L).take m)
  cut : CutL L v
  sum : sumV v n = m
theorem Al.below {w W W' : World} {L : List (List KV)} {v : Nat → Nat} {n : Nat} {a' : Option Addr} {m c' : Nat} (h : Al w W L v n a' m c') (hb : Below W.heap.size W W') : Al w W' L v n a' m c' :=
  ⟨h.low.trans (hb.mono h.low.size), h.box.kept (hb.block _ h.box.lt), h.own.below hb, h.cut, h.sum⟩
theorem rowL_at {L : List (List KV)} {i j : Nat} (hj : j < (rowL L i).length) : (rowL L i)[j] = entL L (i, j) := by
  show _ = (L.getD i []).getD j kvZ
  have : (rowL L i).getD j kvZ = (rowL L i)[j] := by simp [List.getD, hj]
  exact this.symm
/-- What stands at a place, as it is read for a call. -/
theorem LsAt.place {w : World} {a : Option Addr} {n c : Nat} {L : List (List KV)} (h : LsAt w a n c L) {i j : Nat} (hi : i < n) (hj : j < lenL L i) :
    ∃ (b o : Nat) (ai : Option Addr) (ci q r : Nat), (∀ W : World, (Instr.indexAt 23 (.slice a n c) (.int .i64 (i : Int))).run Try.prog W = .ok (.pointer (some ⟨b, o, none⟩)) W) ∧
      (∀ W : World, (Instr.indexAt 26 (.slice ai (lenL L i) ci) (.int .i64 (j : Int))).run Try.prog W = .ok (.pointer (some ⟨q, r, none⟩)) W) ∧
      ∀ W, Below w.heap.size w W → W.cell? ⟨b, o, none⟩ = some (.slice ai (lenL L i) ci) ∧ W.cell? ⟨q, r, none⟩ = some (.string (entL L (i, j)).1.user) ∧ W.cell? ⟨q, r + 1, none⟩ = some (.int .u64 ((entL L (i, j)).1.seq : Int)) ∧ W.cell? ⟨q, r + 2, none⟩ = some (.int .i64 (entL L (i, j)).1.kind) ∧ W.cell? ⟨q, r + 3, none⟩ = some (.string (entL L (i, j)).2) := by
  obtain ⟨b, off, hx, hb, hc⟩ := h.spots (by omega)
  obtain ⟨ai, ci, h1, h2, _⟩ := hc i hi
  obtain ⟨q, r, hx2, hq, hc2⟩ := h2.spots (show 0 < (rowL L i).length from Nat.lt_of_le_of_lt (Nat.zero_le _) hj)
  refine ⟨b, off + i, ai, ci, q, r + j * 4, hx i hi, hx2 j hj, fun W hW => ⟨h1 W hW, ?_⟩⟩
  have := hc2 W hW j hj
  rw [rowL_at hj] at this
  exact this
theorem best_succ_no {L : List (List KV)} {v : Nat → Nat} {n : Nat} (h : ¬ v n < lenL L n) : bestP L v (n + 1) = bestP L v n := by
  conv => lhs; unfold bestP
  cases e : bestP L v n with
  | none => dsimp only; rw [if_neg h]
  | some b => dsimp only; rw [if_neg (fun x => h x.1)]
theorem best_succ_first {L : List (List KV)} {v : Nat → Nat} {n : Nat} (h : v n < lenL L n) (e : bestP L v n = none) : bestP L v (n + 1) = some n := by
  conv => lhs; unfold bestP
  rw [e]
  dsimp only
  rw [if_pos h]
theorem best_succ_yes {L : List (List KV)} {v : Nat → Nat} {n b : Nat} (h : v n < lenL L n) (e : bestP L v n = some b) (hc : cmpL L (n, v n) (b, v b) < 0) : bestP L v (n + 1) = some n := by
  conv => lhs; unfold bestP
  rw [e]
  dsimp only
  rw [if_pos ⟨h, hc⟩]
theorem best_succ_old {L : List (List KV)} {v : Nat → Nat} {n b : Nat} (e : bestP L v n = some b) (hc : ¬ cmpL L (n, v n) (b, v b) < 0) : bestP L v (n + 1) = some b := by
  conv => lhs; unfold bestP
  rw [e]
  dsimp only
  rw [if_neg (fun x => hc x.2)]
theorem sum_ge (v : Nat → Nat) (b : Nat) : ∀ n, b < n → v b ≤ sumV v n
  | 0, h => absurd h (Nat.not_lt_zero _)
  | n + 1, h => by
    show v b ≤ sumV v n + v n
    by_cases e : b = n
    · subst e; omega
    · have := sum_ge v b n (by omega); omega
set_option maxRecDepth 100000 in
set_option maxHeartbeats 8000000 in
theorem all_any (a : Option Addr) (n c : Nat) (L : List (List KV)) (w : World) (h : LsAt w a n c L) (hL : RiseL L) (hn : n ≤ 1000000) (hall : (allL L).length ≤ 1000000) :
    Calls Try.prog 26 #[.slice a n c] w fun e w' => ∃ a' c', e = .returned (.slice a' (allL L).length c') ∧ OwnK w' w.heap.size a' (allL L).length c' (allL L) ∧ Below w.heap.size w w' := by
  have HS : Hid (L.length = n ∧ RiseL L ∧ (allL L).length ≤ 1000000 ∧ (allL L).length = (allP L).length) := ⟨h.size, hL, hall, by simp [allL]⟩
  have HK : Hid (LsAt w a n c L) := h
  have hmk := made_int n (by omega) w
  clear h hL hall
  have HI0 : Hid (Al w (w.alloc (.cells (atA (fun _ => 0) n) 3)) L (fun _ => 0) n none 0 0) := ⟨(Below.refl _ _).alloc (Nat.le_refl _) _, Box.new _ _ _, OwnK.nil _ _, cut_zero L, by
    have hz : ∀ k, sumV (fun _ => 0) k = 0 := fun k => by
      induction k with
      | zero => rfl
      | succ k ih => show sumV _ k + 0 = 0; rw [ih]
    exact hz n⟩
  go_enter Try.func26, Try.ntmps26
  go_wp2_with fail
  clear hmk
  go_loopw [3] (fun s3 wr => ∃ (v : Nat → Nat) (m : Nat) (a' : Option Addr) (c' : Nat), m ≤ (allL L).length ∧ s3 = .slice a' m c' ∧ Hid (Al w wr L v n a' m c')) (fun s3 _ => (allL L).length - slLen16 s3)
  case atStart => exact ⟨fun _ => 0, 0, none, 0, Nat.zero_le _, rfl, HI0.out⟩
  case round =>
    clear HI0
    obtain ⟨v, m, a', c', hmle, rfl, HI⟩ := hrel
    go_wp2_with fail
    go_loopw [5, 6] (fun s5 s6 wr => ∃ (i : Nat), i ≤ n ∧ s6 = .int .i64 (i : Int) ∧ s5 = .int .i64 (encI (bestP L v i)) ∧ Hid (Al w wr L v n a' m c')) (fun _ s6 _ => n - (intOf s6).toNat)
    case atStart => exact ⟨0, Nat.zero_le _, rfl, rfl, HI.out⟩
    case round =>
      clear HI
      obtain ⟨i, hin, rfl, rfl, HI⟩ := hrel
      by_cases hi : i < n
      · have hiI : (i : Int) < (n : Int) := by omega
        obtain ⟨b0, o0, hx0, HL0⟩ : ∃ b o, (∀ W : World, (Instr.indexAt 23 (.slice a n c) (.int .i64 (i : Int))).run Try.prog W = .ok (.pointer (some ⟨b, o, none⟩)) W) ∧ ∃ ai ci, ∀ W, Below w.heap.size w W → W.cell? ⟨b, o, none⟩ = some (.slice ai (lenL L i) ci) := by
          obtain ⟨b, off, hx, _, hc⟩ := HK.out.spots (by omega)
          obtain ⟨ai, ci, h1, _⟩ := hc i hi
          exact ⟨b, off + i, hx i hi, ai, ci, h1⟩
        obtain ⟨ai, ci, HL1⟩ := HL0
        have hxn := fun W => idxN W (b := w.heap.size) (c := n) hi
        have HLC : Hid (∀ W, Below w.heap.size w W → W.cell? ⟨b0, o0, none⟩ = some (.slice ai (lenL L i) ci)) := HL1
        clear HL1
        by_cases hv : v i < lenL L i
        · cases hbp : bestP L v i with
          | none =>
            have HBP : Hid (encI (bestP L v (i + 1)) = (i : Int)) := by unfold Hid; rw [best_succ_first hv hbp]; rfl
            have hcl := HLC.out wr HI.out.low
            have hcn := HI.out.box.cell i
            rw [atA_get v hi] at hcn
            have hee : ((v i : Int) == (lenL L i : Int)) = false := by simp; omega
            clear hbp
            rw [show encI none = -1 from rfl]
            generalize lenL L i = ll at *
            generalize v i = vi at *
            go_wp2_with fail
            go_quiet (fail)
            go_wp2_with fail
            go_quiet (fail)
            go_wp2
            go_roundw
            case rel => exact ⟨i + 1, by omega, by go_num, by rw [HBP.out], HI.out.below (Below.drewM (Below.refl _ _) _)⟩
            case measure => simp only [intOf]; omega
          | some b =>
            obtain ⟨hbi, hvb, _⟩ := best_some hbp
            obtain ⟨p1, r1, a1, c1, q1, s1, hx1, hy1, hz1⟩ := HK.out.place hi hv
            obtain ⟨p2, r2, a2, c2, q2, s2, hx2, hy2, hz2⟩ := HK.out.place (show b < n by omega) hvb
            have HZ : Hid (∀ W, Below w.heap.size w W → Box W w.heap.size 3 (atA v n) → W.cell? ⟨w.heap.size, i, none⟩ = some (.int .i64 (v i : Int)) ∧ W.cell? ⟨w.heap.size, b, none⟩ = some (.int .i64 (v b : Int)) ∧ W.cell? ⟨p1, r1, none⟩ = some (.slice a1 (lenL L i) c1) ∧ W.cell? ⟨p2, r2, none⟩ = some (.slice a2 (lenL L b) c2) ∧ W.cell? ⟨q1, s1, none⟩ = some (.string (entL L (i, v i)).1.user) ∧ W.cell? ⟨q1, s1 + 1, none⟩ = some (.int .u64 ((entL L (i, v i)).1.seq : Int)) ∧ W.cell? ⟨q1, s1 + 2, none⟩ = some (.int .i64 (entL L (i, v i)).1.kind) ∧ W.cell? ⟨q2, s2, none⟩ = some (.string (entL L (b, v b)).1.user) ∧ W.cell? ⟨q2, s2 + 1, none⟩ = some (.int .u64 ((entL L (b, v b)).1.seq : Int)) ∧ W.cell? ⟨q2, s2 + 2, none⟩ = some (.int .i64 (entL L (b, v b)).1.kind)) := fun W hW hB => by
              obtain ⟨t0, t1, t2, t3, _⟩ := hz1 W hW
              obtain ⟨u0, u1, u2, u3, _⟩ := hz2 W hW
              exact ⟨by rw [hB.cell, atA_get v hi], by rw [hB.cell, atA_get v (by omega)], t0, u0, t1, t2, t3, u1, u2, u3⟩
            have HY : Hid ((entL L (i, v i)).1.cmp (entL L (b, v b)).1 < 0 → encI (bestP L v (i + 1)) = (i : Int)) := fun x => by rw [best_succ_yes hv hbp x]; rfl
            have HN : Hid (0 ≤ (entL L (i, v i)).1.cmp (entL L (b, v b)).1 → encI (bestP L v (i + 1)) = (b : Int)) := fun x => by rw [best_succ_old hbp (show ¬ (entL L (i, v i)).1.cmp (entL L (b, v b)).1 < 0 by omega)]; rfl
            have HCP : Hid (∀ W : World, Calls Try.prog 20 #[.agg #[.string (entL L (i, v i)).1.user, .int .u64 ((entL L (i, v i)).1.seq : Int), .int .i64 (entL L (i, v i)).1.kind], .agg #[.string (entL L (b, v b)).1.user, .int .u64 ((entL L (b, v b)).1.seq : Int), .int .i64 (entL L (b, v b)).1.kind]] W fun r w' => r = .returned (.int .i64 ((entL L (i, v i)).1.cmp (entL L (b, v b)).1)) ∧ Below W.heap.size W w') := fun W => rcompare_any _ _ _ _ _ _ W
            have hcl := HLC.out wr HI.out.low
            have hcn := HI.out.box.cell i
            rw [atA_get v hi] at hcn
            have hee : ((v i : Int) == (lenL L i : Int)) = false := by simp; omega
            have hxb := fun W => idxN W (b := w.heap.size) (c := n) (show b < n by omega)
            clear hbp hz1 hz2
            rw [show encI (some b) = (b : Int) from rfl]
            generalize (entL L (i, v i)).1 = eA at HZ HY HN HCP
            generalize (entL L (b, v b)).1 = eB at HZ HY HN HCP
            generalize eA.cmp eB = cv at HY HN HCP
            generalize lenL L i = l1 at *
            generalize lenL L b = l2 at *
            generalize v i = vi at *
            generalize v b = vb at *
            have hb0 : ¬ (b : Int) < 0 := by omega
            go_wp2_with fail
            go_quiet (fail)
            go_wp2_with fail
            have HQ : Hid (Al w (wr.drewN nq) L v n a' m c') := HI.out.below (Below.drewM (Below.refl _ _) _)
            generalize wr.drewN nq = wq at HQ ⊢
            have HB1 : Hid (Al w wq.drew L v n a' m c') := HQ.out.below (Below.refl _ _).drew
            clear HI HQ hcl hcn hx0
            obtain ⟨x0, x1, x2, x3, x4, x5, x6, x7, x8, x9⟩ := HZ.out _ HB1.out.low HB1.out.box
            have hgd : decide ((b : Int) < 0) = false := decide_eq_false (by omega)
            go_region_held3 (fun V => V.cell? ⟨w.heap.size, i, none⟩ = some (.int .i64 (vi : Int)) ∧ V.cell? ⟨w.heap.size, b, none⟩ = some (.int .i64 (vb : Int)) ∧ V.cell? ⟨p1, r1, none⟩ = some (.slice a1 l1 c1) ∧ V.cell? ⟨p2, r2, none⟩ = some (.slice a2 l2 c2) ∧ V.cell? ⟨q1, s1, none⟩ = some (.string eA.user) ∧ V.cell? ⟨q1, s1 + 1, none⟩ = some (.int .u64 (eA.seq : Int)) ∧ V.cell? ⟨q1, s1 + 2, none⟩ = some (.int .i64 eA.kind) ∧ V.cell? ⟨q2, s2, none⟩ = some (.string eB.user) ∧ V.cell? ⟨q2, s2 + 1, none⟩ = some (.int .u64 (eB.seq : Int)) ∧ V.cell? ⟨q2, s2 + 2, none⟩ = some (.int .i64 eB.kind)) (first | exact ⟨x0, x1, x2, x3, x4, x5, x6, x7, x8, x9⟩ | go_keep)
              (first
               | (go_at_call 20; refine (HCP.out _).mono ?_; rintro _ vx ⟨rfl, hbx⟩
                  have HB1 : Hid (Al w vx L v n a' m c') := HB1.out.below hbx
                  obtain ⟨x0, x1, x2, x3, x4, x5, x6, x7, x8, x9⟩ := HZ.out _ HB1.out.low HB1.out.box
                  clear hbx))
            by_cases hcv : cv < 0
            · go_wp2
              go_roundw
              case rel => exact ⟨i + 1, by omega, by go_num, by rw [HY.out hcv], HB1.out⟩
              case measure => simp only [intOf]; omega
            · go_wp2
              go_roundw
              case rel => exact ⟨i + 1, by omega, by go_num, by rw [HN.out (by omega)], HB1.out⟩
              case measure => simp only [intOf]; omega
        · have hve : v i = lenL L i := by have := HI.out.cut.le i; omega
          have HBP : Hid (encI (bestP L v (i + 1)) = encI (bestP L v i)) := by unfold Hid; rw [best_succ_no hv]
          have hcl := HLC.out wr HI.out.low
          have hcn := HI.out.box.cell i
          rw [atA_get v hi] at hcn
          have hee : ((v i : Int) == (lenL L i : Int)) = true := by simp; omega
          generalize encI (bestP L v i) = e0 at *
          generalize lenL L i = ll at *
          generalize v i = vi at *
          subst hve
          go_wp2_with fail
          go_quiet (fail)
          go_wp2
          go_roundw
          case rel => exact ⟨i + 1, by omega, by go_num, by rw [HBP.out], HI.out.below (Below.drewM (Below.refl _ _) _)⟩
          case measure => simp only [intOf]; omega
      · obtain rfl : i = n := by omega
        have HSM : Hid (sumV v i = m) := HI.out.sum
        cases hbp : bestP L v i with
        | none =>
          have HM : Hid (m = (allL L).length) := by
            have h1 := best_none hbp
            have h2 := sum_le (v := lenL L) (u := v) i h1
            have h3 := all_len L
            rw [HS.out.1] at h3
            have h4 := HS.out.2.2.2
            have h5 := HSM.out
            unfold Hid
            omega
          rw [show encI none = -1 from rfl]
          go_wp2
          go_ret
          have e := HM.out
          subst e
          have ho := HI.out.own
          rw [List.take_length] at ho
          exact ⟨a', c', ret1 rfl, ho.less (by omega), HI.out.low⟩
        | some b =>
          obtain ⟨hbi, hvb, hmin⟩ := best_some hbp
          obtain ⟨hat, hcut⟩ := cut_next HS.out.2.1 HI.out.cut hvb (fun k hk hne => hmin k (by
            apply Classical.byContradiction
            intro hx
            have := lenL_out (L := L) (i := k) (by have := HS.out.1; omega)
            omega) hk hne)
          rw [HS.out.1, HI.out.sum] at hat
          obtain ⟨hml, hme⟩ := List.getElem?_eq_some_iff.1 hat
          have hml2 : m < (allL L).length := by have := HS.out.2.2.2; omega
          have HTK : Hid ((allL L).take (m + 1) = (allL L).take m ++ [entL L (b, v b)] ∧ CutL L (upV v b) ∧ sumV (upV v b) i = m + 1) := by
            refine ⟨?_, hcut, ?_⟩
            · rw [List.take_succ_eq_append_getElem hml2]
              congr 2
              show ((allP L).map (entL L))[m]'(by simpa [allL] using hml2) = _
              rw [List.getElem_map, hme]
            · have := sum_upd v b i hbi
              rw [HI.out.sum] at this
              exact this
          obtain ⟨p2, r2, a2, c2, q2, s2, hx2, hy2, hz2⟩ := HK.out.place hbi hvb
          have HZ : Hid (∀ W, Below w.heap.size w W → Box W w.heap.size 3 (atA v i) → W.cell? ⟨w.heap.size, b, none⟩ = some (.int .i64 (v b : Int)) ∧ W.cell? ⟨p2, r2, none⟩ = some (.slice a2 (lenL L b) c2) ∧ W.cell? ⟨q2, s2, none⟩ = some (.string (entL L (b, v b)).1.user) ∧ W.cell? ⟨q2, s2 + 1, none⟩ = some (.int .u64 ((entL L (b, v b)).1.seq : Int)) ∧ W.cell? ⟨q2, s2 + 2, none⟩ = some (.int .i64 (entL L (b, v b)).1.kind) ∧ W.cell? ⟨q2, s2 + 3, none⟩ = some (.string (entL L (b, v b)).2)) := fun W hW hB => by
            obtain ⟨u0, u1, u2, u3, u4⟩ := hz2 W hW
            exact ⟨by rw [hB.cell, atA_get v (by omega)], u0, u1, u2, u3, u4⟩
          have hxb := fun W => idxN W (b := w.heap.size) (c := i) hbi
          have HSET : Hid ((atA v i).setIfInBounds b (.int .i64 ((v b + 1 : Nat) : Int)) = atA (upV v b) i) := atA_set v i b
          have hvm : v b ≤ 1000000 := by
            have h1 := HS.out.2.2.1
            have h2 : v b ≤ (allP L).length := by
              have h3 : (b, v b) ∈ allP L := List.mem_of_getElem? hat
              have h4 := HI.out.cut.le b
              have h5 := sum_ge (lenL L) b L.length (by have := HS.out.1; omega)
              rw [← all_len] at h5
              omega
            have h3 := HS.out.2.2.2
            omega
          have hmm : m ≤ 1000000 := by have := HS.out.2.2.1; omega
          clear hbp hz2 hmin hat hcut hme hml
          rw [show encI (some b) = (b : Int) from rfl]
          generalize entL L (b, v b) = e at HZ HTK
          generalize lenL L b = l2 at *
          generalize v b = vb at HZ HSET hvm hvb hy2
          have hwv : IntKind.i64.wrap ((vb : Int) + 1) = (vb : Int) + 1 := by rw [IntKind.wrap_i64]; omega
          go_wp2_with fail
          have HB1 : Hid (Al w wr.drew L v i a' m c') := HI.out.below (Below.refl _ _).drew
          clear HI
          obtain ⟨x0, x1, x2, x3, x4, x5⟩ := HZ.out _ HB1.out.low HB1.out.box
          go_region_held3 (fun V => V.cell? ⟨w.heap.size, b, none⟩ = some (.int .i64 (vb : Int)) ∧ V.cell? ⟨p2, r2, none⟩ = some (.slice a2 l2 c2) ∧ V.cell? ⟨q2, s2, none⟩ = some (.string e.1.user) ∧ V.cell? ⟨q2, s2 + 1, none⟩ = some (.int .u64 (e.1.seq : Int)) ∧ V.cell? ⟨q2, s2 + 2, none⟩ = some (.int .i64 e.1.kind) ∧ V.cell? ⟨q2, s2 + 3, none⟩ = some (.string e.2)) (first | exact ⟨x0, x1, x2, x3, x4, x5⟩ | exact HZ.out _ (HB1.out.low.alloc HB1.out.low.size _) (HB1.out.box.alloc _) | exact HZ.out _ H3.out.1 H3.out.2.1 | go_keep)
            (first
             | (refine step_pushE wr.drew rfl (.tmp 58) (.tmp 69) rfl (w.heap.size + 1) a' m c' ((allL L).take m) (by simp [Act.eval]) HB1.out.own e #[.string e.1.user, .int .u64 (e.1.seq : Int), .int .i64 e.1.kind, .string e.2] rfl wr.drew.heap.size rfl (by simp [Act.eval]) (by omega) HB1.out.box.lt ?_
                intro a3 c3 w3 ho3 hb3 hg3
                have H3 : Hid (Below w.heap.size w w3 ∧ Box w3 w.heap.size 3 (atA v i) ∧ OwnK w3 (w.heap.size + 1) a3 (m + 1) c3 ((allL L).take (m + 1))) := ⟨HB1.out.low.trans (hb3.mono (by omega)), HB1.out.box.othk (othk_push HB1.out.own _ hg3) (by decide), by rw [HTK.out.1]; exact ho3⟩
                clear ho3 hb3 hg3))
          have y0 := (HZ.out _ H3.out.1 H3.out.2.1).1
          have y1 := H3.out.2.1.soft b
          go_wp2
          go_roundw
          case rel =>
            refine ⟨upV v b, m + 1, a3, c3, hml2, rfl, ?_⟩
            have hlt := H3.out.2.1.lt
            refine ⟨H3.out.1.setCell (p := ⟨w.heap.size, b, none⟩) (Nat.le_refl _) _, ?_, H3.out.2.2.kept fun k hk => ?_, HTK.out.2.1, HTK.out.2.2⟩
            · have := H3.out.2.1.set b (.int .i64 ((vb + 1 : Nat) : Int))
              rw [HSET.out] at this
              simpa using this
            · have := H3.out.2.2.ge hk
              exact Below.heap_setCell _ _ _ _ (show k ≠ w.heap.size by omega)
          case measure => simp only [slLen16]; omega
end Go.Proofs.Ytfijibengmgegaa
