/- The contract of the document's own All. -/
import Derived.Test.YtjoamhcehpjepaaQa03
import Derived.Deep.DeepCutAuto
import Derived.WalkSmall
import Derived.Deep.RegionHeld3
import Derived.BigQuiet
namespace Go.Proofs.Ytjoamhcehpjepaa
open Go.RowKit
set_option linter.unusedVariables false
set_option linter.unusedSimpArgs false
def slLen16 : Value → Nat
  | .slice _ n _ => n
  | _ => 0
def encI : Option Nat → Int
  | none => -1
  | some b => (b : Int)
/-- What All keeps: its row of numbers, what it has. -/
structure Al (w W : World) (L : List (List KV)) (v : Nat → Nat) (n : Nat) (a' : Option Addr) (m c' : Nat) : Prop where
  low : Below w.heap.size w W
  box : Box W w.heap.size 3 (atA v n)
  own : OwnK W (w.heap.size + 1) a' m c' ((allL L).take m)
  cut : CutL L v
  sum : sumV v n = m
theorem Al.below {w W W' : World} {L : List (List KV)} {v : Nat → Nat} {n : Nat} {a' : Option Addr} {m c' : Nat} (h : Al w W L v n a' m c') (hb : Below W.heap.size W W') : Al w W' L v n a' m c' :=
  ⟨h.low.trans (hb.mono h.low.size), h.box.kept (hb.block _ h.box.lt), h.own.below hb, h.cut, h.sum⟩
theorem rowL_at {L : List (List KV)} {i j : Nat} (hj : j < (rowL L i).length) : (rowL L i)[j] = entL L (i, j) := by
  show _ = (L.getD i []).getD j kvZ
  have : (rowL L i).getD j kvZ = (rowL L i)[j] := by simp [List.getD, hj]
  exact this.symm
/-- What stands at a place, as it is read for a call. -/
theorem LsAt.place {w : World} {a : Option Addr} {n c : Nat} {L : List (List KV)} (h : LsAt w a n c L) {i j : Nat} (hi : i < n) (hj : j < lenL L i) :
    ∃ (b o : Nat) (ai : Option Addr) (ci q r : Nat), (∀ W : World, (Instr.indexAt 22 (.slice a n c) (.int .i64 (i : Int))).run Try.prog W = .ok (.pointer (some ⟨b, o, none⟩)) W) ∧
      (∀ W : World, (Instr.indexAt 43 (.slice ai (lenL L i) ci) (.int .i64 (j : Int))).run Try.prog W = .ok (.pointer (some ⟨q, r, none⟩)) W) ∧
      ∀ W, Below w.heap.size w W → W.cell? ⟨b, o, none⟩ = some (.slice ai (lenL L i) ci) ∧ W.cell? ⟨q, r, none⟩ = some (.string (entL L (i, j)).1.user) ∧ W.cell? ⟨q, r + 1, none⟩ = some (.int .u64 ((entL L (i, j)).1.seq : Int)) ∧ W.cell? ⟨q, r + 2, none⟩ = some (.int .i64 (entL L (i, j)).1.kind) ∧ W.cell? ⟨q, r + 3, none⟩ = some (.string (entL L (i, j)).2) := by
  obtain ⟨b, off, hx, hb, hc⟩ := h.spots (by omega)
  obtain ⟨ai, ci, h1, h2, _⟩ := hc i hi
  obtain ⟨q, r, hx2, hq, hc2⟩ := h2.spots (show 0 < (rowL L i).length from Nat.lt_of_le_of_lt (Nat.zero_le _) hj)
  refine ⟨b, off + i, ai, ci, q, r + j * 4, hx i hi, hx2 j hj, fun W hW => ⟨h1 W hW, ?_⟩⟩
  have := hc2 W hW j hj
  rw [rowL_at hj] at this
  exact this
theorem best_succ_no {L : List (List KV)} {v : Nat → Nat} {n : Nat} (h : ¬ v n < lenL L n) : bestP L v (n + 1) = bestP L v n := by
  conv => lhs; unfold bestP
  cases e : bestP L v n with
  | none => dsimp only; rw [if_neg h]
  | some b => dsimp only; rw [if_neg (fun x => h x.1)]
theorem best_succ_first {L : List (List KV)} {v : Nat → Nat} {n : Nat} (h : v n < lenL L n) (e : bestP L v n = none) : bestP L v (n + 1) = some n := by
  conv => lhs; unfold bestP
  rw [e]
  dsimp only
  rw [if_pos h]
theorem best_succ_yes {L : List (List KV)} {v : Nat → Nat} {n b : Nat} (h : v n < lenL L n) (e : bestP L v n = some b) (hc : cmpL L (n, v n) (b, v b) < 0) : bestP L v (n + 1) = some n := by
  conv => lhs; unfold bestP
  rw [e]
  dsimp only
  rw [if_pos ⟨h, hc⟩]
theorem best_succ_old {L : List (List KV)} {v : Nat → Nat} {n b : Nat} (e : bestP L v n = some b) (hc : ¬ cmpL L (n, v n) (b, v b) < 0) : bestP L v (n + 1) = some b := by
  conv => lhs; unfold bestP
  rw [e]
  dsimp only
  rw [if_neg (fun x => hc x.2)]
theorem sum_ge (v : Nat → Nat) (b : Nat) : ∀ n, b < n → v b ≤ sumV v n
  | 0, h => absurd h (Nat.not_lt_zero _)
  | n + 1, h => by
    show v b ≤ sumV v n + v n
    by_cases e : b = n
    · subst e; omega
    · have := sum_ge v b n (by omega); omega
set_option maxRecDepth 100000 in
set_option maxHeartbeats 8000000 in
theorem all_any (a : Option Addr) (n c : Nat) (L : List (List KV)) (w : World) (h : LsAt w a n c L) (hL : RiseL L) (hn : n ≤ 1000000) (hall : (allL L).length ≤ 1000000) :
    Calls Try.prog 41 #[.slice a n c] w fun e w' => ∃ a' c', e = .returned (.slice a' (allL L).length c') ∧ OwnK w' w.heap.size a' (allL L).length c' (allL L) ∧ Below w.heap.size w w' := by
  have HS : Hid (L.length = n ∧ RiseL L ∧ (allL L).length ≤ 1000000 ∧ (allL L).length = (allP L).length) := ⟨h.size, hL, hall, by simp [allL]⟩
  have HK : Hid (LsAt w a n c L) := h
  have hmk := made_int n (by omega) w
  clear h hL hall
  have HI0 : Hid (Al w (w.alloc (.cells (atA (fun _ => 0) n) 3)) L (fun _ => 0) n none 0 0) := ⟨(Below.refl _ _).alloc (Nat.le_refl _) _, Box.new _ _ _, OwnK.nil _ _, cut_zero L, by
    have hz : ∀ k, sumV (fun _ => 0) k = 0 := fun k => by
      induction k with
      | zero => rfl
      | succ k ih => show sumV _ k + 0 = 0; rw [ih]
    exact hz n⟩
  go_enter Try.func41, Try.ntmps41
  go_wp2_with fail
  clear hmk
  go_loopw [3] (fun s3 wr => ∃ (v : Nat → Nat) (m : Nat) (a' : Option Addr) (c' : Nat), m ≤ (allL L).length ∧ s3 = .slice a' m c' ∧ Hid (Al w wr L v n a' m c')) (fun s3 _ => (allL L).length - slLen16 s3)
  case atStart => exact ⟨fun _ => 0, 0, none, 0, Nat.zero_le _, rfl, HI0.out⟩
  case round =>
    clear HI0
    obtain ⟨v, m, a', c', hmle, rfl, HI⟩ := hrel
    go_wp2_with fail
    go_loopw [5, 6] (fun s5 s6 wr => ∃ (i : Nat), i ≤ n ∧ s6 = .int .i64 (i : Int) ∧ s5 = .int .i64 (encI (bestP L v i)) ∧ Hid (Al w wr L v n a' m c')) (fun _ s6 _ => n - (intOf s6).toNat)
    case atStart => exact ⟨0, Nat.zero_le _, rfl, rfl, HI.out⟩
    case round =>
      clear HI
      obtain ⟨i, hin, rfl, rfl, HI⟩ := hrel
      by_cases hi : i < n
      · have hiI : (i : Int) < (n : Int) := by omega
        obtain ⟨b0, o0, hx0, HL0⟩ : ∃ b o, (∀ W : World, (Instr.indexAt 22 (.slice a n c) (.int .i64 (i : Int))).run Try.prog W = .ok (.pointer (some ⟨b, o, none⟩)) W) ∧ ∃ ai ci, ∀ W, Below w.heap.size w W → W.cell? ⟨b, o, none⟩ = some (.slice ai (lenL L i) ci) := by
          obtain ⟨b, off, hx, _, hc⟩ := HK.out.spots (by omega)
          obtain ⟨ai, ci, h1, _⟩ := hc i hi
          exact ⟨b, off + i, hx i hi, ai, ci, h1⟩
        obtain ⟨ai, ci, HL1⟩ := HL0
        have hxn := fun W => idxN W (b := w.heap.size) (c := n) hi
        have HLC : Hid (∀ W, Below w.heap.size w W → W.cell? ⟨b0, o0, none⟩ = some (.slice ai (lenL L i) ci)) := HL1
        clear HL1
        by_cases hv : v i < lenL L i
        · cases hbp : bestP L v i with
          | none =>
            have HBP : Hid (encI (bestP L v (i + 1)) = (i : Int)) := by unfold Hid; rw [best_succ_first hv hbp]; rfl
            have hcl := HLC.out wr HI.out.low
            have hcn := HI.out.box.cell i
            rw [atA_get v hi] at hcn
            have hee : ((v i : Int) == (lenL L i : Int)) = false := by simp; omega
            clear hbp
            rw [show encI none = -1 from rfl]
            generalize lenL L i = ll at *
            generalize v i = vi at *
            go_wp2_with fail
            go_quiet (fail)
            go_wp2_with fail
            go_quiet (fail)
            go_wp2
            go_roundw
            case rel => exact ⟨i + 1, by omega, by go_num, by rw [HBP.out], HI.out.below (Below.drewM (Below.refl _ _) _)⟩
            case measure => simp only [intOf]; omega
          | some b =>
            obtain ⟨hbi, hvb, _⟩ := best_some hbp
            obtain ⟨p1, r1, a1, c1, q1, s1, hx1, hy1, hz1⟩ := HK.out.place hi hv
            obtain ⟨p2, r2, a2, c2, q2, s2, hx2, hy2, hz2⟩ := HK.out.place (show b < n by omega) hvb
            have HZ : Hid (∀ W, Below w.heap.size w W → Box W w.heap.size 3 (atA v n) → W.cell? ⟨w.heap.size, i, none⟩ = some (.int .i64 (v i : Int)) ∧ W.cell? ⟨w.heap.size, b, none⟩ = some (.int .i64 (v b : Int)) ∧ W.cell? ⟨p1, r1, none⟩ = some (.slice a1 (lenL L i) c1) ∧ W.cell? ⟨p2, r2, none⟩ = some (.slice a2 (lenL L b) c2) ∧ W.cell? ⟨q1, s1, none⟩ = some (.string (entL L (i, v i)).1.user) ∧ W.cell? ⟨q1, s1 + 1, none⟩ = some (.int .u64 ((entL L (i, v i)).1.seq : Int)) ∧ W.cell? ⟨q1, s1 + 2, none⟩ = some (.int .i64 (entL L (i, v i)).1.kind) ∧ W.cell? ⟨q2, s2, none⟩ = some (.string (entL L (b, v b)).1.user) ∧ W.cell? ⟨q2, s2 + 1, none⟩ = some (.int .u64 ((entL L (b, v b)).1.seq : Int)) ∧ W.cell? ⟨q2, s2 + 2, none⟩ = some (.int .i64 (entL L (b, v b)).1.kind)) := fun W hW hB => by
              obtain ⟨t0, t1, t2, t3, _⟩ := hz1 W hW
              obtain ⟨u0, u1, u2, u3, _⟩ := hz2 W hW
              exact ⟨by rw [hB.cell, atA_get v hi], by rw [hB.cell, atA_get v (by omega)], t0, u0, t1, t2, t3, u1, u2, u3⟩
            have HY : Hid ((entL L (i, v i)).1.cmp (entL L (b, v b)).1 < 0 → encI (bestP L v (i + 1)) = (i : Int)) := fun x => by rw [best_succ_yes hv hbp x]; rfl
            have HN : Hid (0 ≤ (entL L (i, v i)).1.cmp (entL L (b, v b)).1 → encI (bestP L v (i + 1)) = (b : Int)) := fun x => by rw [best_succ_old hbp (show ¬ (entL L (i, v i)).1.cmp (entL L (b, v b)).1 < 0 by omega)]; rfl
            have HCP : Hid (∀ W : World, Calls Try.prog 33 #[.agg #[.string (entL L (i, v i)).1.user, .int .u64 ((entL L (i, v i)).1.seq : Int), .int .i64 (entL L (i, v i)).1.kind], .agg #[.string (entL L (b, v b)).1.user, .int .u64 ((entL L (b, v b)).1.seq : Int), .int .i64 (entL L (b, v b)).1.kind]] W fun r w' => r = .returned (.int .i64 ((entL L (i, v i)).1.cmp (entL L (b, v b)).1)) ∧ Below W.heap.size W w') := fun W => rcompare_any _ _ _ _ _ _ W
            have hcl := HLC.out wr HI.out.low
            have hcn := HI.out.box.cell i
            rw [atA_get v hi] at hcn
            have hee : ((v i : Int) == (lenL L i : Int)) = false := by simp; omega
            have hxb := fun W => idxN W (b := w.heap.size) (c := n) (show b < n by omega)
            clear hbp hz1 hz2
            rw [show encI (some b) = (b : Int) from rfl]
            generalize (entL L (i, v i)).1 = eA at HZ HY HN HCP
            generalize (entL L (b, v b)).1 = eB at HZ HY HN HCP
            generalize eA.cmp eB = cv at HY HN HCP
            generalize lenL L i = l1 at *
            generalize lenL L b = l2 at *
            generalize v i = vi at *
            generalize v b = vb at *
            have hb0 : ¬ (b : Int) < 0 := by omega
            go_wp2_with fail
            go_quiet (fail)
            go_wp2_with fail
            have HQ : Hid (Al w (wr.drewN nq) L v n a' m c') := HI.out.below (Below.drewM (Below.refl _ _) _)
            generalize wr.drewN nq = wq at HQ ⊢
            have HB1 : Hid (Al w wq.drew L v n a' m c') := HQ.out.below (Below.refl _ _).drew
            clear HI HQ hcl hcn hx0
            obtain ⟨x0, x1, x2, x3, x4, x5, x6, x7, x8, x9⟩ := HZ.out _ HB1.out.low HB1.out.box
            have hgd : decide ((b : Int) < 0) = false := decide_eq_false (by omega)
            go_region_held3 (fun V => V.cell? ⟨w.heap.size, i, none⟩ = some (.int .i64 (vi : Int)) ∧ V.cell? ⟨w.heap.size, b, none⟩ = some (.int .i64 (vb : Int)) ∧ V.cell? ⟨p1, r1, none⟩ = some (.slice a1 l1 c1) ∧ V.cell? ⟨p2, r2, none⟩ = some (.slice a2 l2 c2) ∧ V.cell? ⟨q1, s1, none⟩ = some (.string eA.user) ∧ V.cell? ⟨q1, s1 + 1, none⟩ = some (.int .u64 (eA.seq : Int)) ∧ V.cell? ⟨q1, s1 + 2, none⟩ = some (.int .i64 eA.kind) ∧ V.cell? ⟨q2, s2, none⟩ = some (.string eB.user) ∧ V.cell? ⟨q2, s2 + 1, none⟩ = some (.int .u64 (eB.seq : Int)) ∧ V.cell? ⟨q2, s2 + 2, none⟩ = some (.int .i64 eB.kind)) (first | exact ⟨x0, x1, x2, x3, x4, x5, x6, x7, x8, x9⟩ | go_keep)
              (first
               | (go_at_call 33; refine (HCP.out _).mono ?_; rintro _ vx ⟨rfl, hbx⟩
                  have HB1 : Hid (Al w vx L v n a' m c') := HB1.out.below hbx
                  obtain ⟨x0, x1, x2, x3, x4, x5, x6, x7, x8, x9⟩ := HZ.out _ HB1.out.low HB1.out.box
                  clear hbx))
            by_cases hcv : cv < 0
            · go_wp2
              go_roundw
              case rel => exact ⟨i + 1, by omega, by go_num, by rw [HY.out hcv], HB1.out⟩
              case measure => simp only [intOf]; omega
            · go_wp2
              go_roundw
              case rel => exact ⟨i + 1, by omega, by go_num, by rw [HN.out (by omega)], HB1.out⟩
              case measure => simp only [intOf]; omega
        · have hve : v i = lenL L i := by have := HI.out.cut.le i; omega
          have HBP : Hid (encI (bestP L v (i + 1)) = encI (bestP L v i)) := by unfold Hid; rw [best_succ_no hv]
          have hcl := HLC.out wr HI.out.low
          have hcn := HI.out.box.cell i
          rw [atA_get v hi] at hcn
          have hee : ((v i : Int) == (lenL L i : Int)) = true := by simp; omega
          generalize encI (bestP L v i) = e0 at *
          generalize lenL L i = ll at *
          generalize v i = vi at *
          subst hve
          go_wp2_with fail
          go_quiet (fail)
          go_wp2
          go_roundw
          case rel => exact ⟨i + 1, by omega, by go_num, by rw [HBP.out], HI.out.below (Below.drewM (Below.refl _ _) _)⟩
          case measure => simp only [intOf]; omega
      · obtain rfl : i = n := by omega
        have HSM : Hid (sumV v i = m) := HI.out.sum
        cases hbp : bestP L v i with
        | none =>
          have HM : Hid (m = (allL L).length) := by
            have h1 := best_none hbp
            have h2 := sum_le (v := lenL L) (u := v) i h1
            have h3 := all_len L
            rw [HS.out.1] at h3
            have h4 := HS.out.2.2.2
            have h5 := HSM.out
            unfold Hid
            omega
          rw [show encI none = -1 from rfl]
          go_wp2
          go_ret
          have e := HM.out
          subst e
          have ho := HI.out.own
          rw [List.take_length] at ho
          exact ⟨a', c', ret1 rfl, ho.less (by omega), HI.out.low⟩
        | some b =>
          obtain ⟨hbi, hvb, hmin⟩ := best_some hbp
          obtain ⟨hat, hcut⟩ := cut_next HS.out.2.1 HI.out.cut hvb (fun k hk hne => hmin k (by
            apply Classical.byContradiction
            intro hx
            have := lenL_out (L := L) (i := k) (by have := HS.out.1; omega)
            omega) hk hne)
          rw [HS.out.1, HI.out.sum] at hat
          obtain ⟨hml, hme⟩ := List.getElem?_eq_some_iff.1 hat
          have hml2 : m < (allL L).length := by have := HS.out.2.2.2; omega
          have HTK : Hid ((allL L).take (m + 1) = (allL L).take m ++ [entL L (b, v b)] ∧ CutL L (upV v b) ∧ sumV (upV v b) i = m + 1) := by
            refine ⟨?_, hcut, ?_⟩
            · rw [List.take_succ_eq_append_getElem hml2]
              congr 2
              show ((allP L).map (entL L))[m]'(by simpa [allL] using hml2) = _
              rw [List.getElem_map, hme]
            · have := sum_upd v b i hbi
              rw [HI.out.sum] at this
              exact this
          obtain ⟨p2, r2, a2, c2, q2, s2, hx2, hy2, hz2⟩ := HK.out.place hbi hvb
          have HZ : Hid (∀ W, Below w.heap.size w W → Box W w.heap.size 3 (atA v i) → W.cell? ⟨w.heap.size, b, none⟩ = some (.int .i64 (v b : Int)) ∧ W.cell? ⟨p2, r2, none⟩ = some (.slice a2 (lenL L b) c2) ∧ W.cell? ⟨q2, s2, none⟩ = some (.string (entL L (b, v b)).1.user) ∧ W.cell? ⟨q2, s2 + 1, none⟩ = some (.int .u64 ((entL L (b, v b)).1.seq : Int)) ∧ W.cell? ⟨q2, s2 + 2, none⟩ = some (.int .i64 (entL L (b, v b)).1.kind) ∧ W.cell? ⟨q2, s2 + 3, none⟩ = some (.string (entL L (b, v b)).2)) := fun W hW hB => by
            obtain ⟨u0, u1, u2, u3, u4⟩ := hz2 W hW
            exact ⟨by rw [hB.cell, atA_get v (by omega)], u0, u1, u2, u3, u4⟩
          have hxb := fun W => idxN W (b := w.heap.size) (c := i) hbi
          have HSET : Hid ((atA v i).setIfInBounds b (.int .i64 ((v b + 1 : Nat) : Int)) = atA (upV v b) i) := atA_set v i b
          have hvm : v b ≤ 1000000 := by
            have h1 := HS.out.2.2.1
            have h2 : v b ≤ (allP L).length := by
              have h3 : (b, v b) ∈ allP L := List.mem_of_getElem? hat
              have h4 := HI.out.cut.le b
              have h5 := sum_ge (lenL L) b L.length (by have := HS.out.1; omega)
              rw [← all_len] at h5
              omega
            have h3 := HS.out.2.2.2
            omega
          have hmm : m ≤ 1000000 := by have := HS.out.2.2.1; omega
          clear hbp hz2 hmin hat hcut hme hml
          rw [show encI (some b) = (b : Int) from rfl]
          generalize entL L (b, v b) = e at HZ HTK
          generalize lenL L b = l2 at *
          generalize v b = vb at HZ HSET hvm hvb hy2
          have hwv : IntKind.i64.wrap ((vb : Int) + 1) = (vb : Int) + 1 := by rw [IntKind.wrap_i64]; omega
          go_wp2_with fail
          have HB1 : Hid (Al w wr.drew L v i a' m c') := HI.out.below (Below.refl _ _).drew
          clear HI
          obtain ⟨x0, x1, x2, x3, x4, x5⟩ := HZ.out _ HB1.out.low HB1.out.box
          go_region_held3 (fun V => V.cell? ⟨w.heap.size, b, none⟩ = some (.int .i64 (vb : Int)) ∧ V.cell? ⟨p2, r2, none⟩ = some (.slice a2 l2 c2) ∧ V.cell? ⟨q2, s2, none⟩ = some (.string e.1.user) ∧ V.cell? ⟨q2, s2 + 1, none⟩ = some (.int .u64 (e.1.seq : Int)) ∧ V.cell? ⟨q2, s2 + 2, none⟩ = some (.int .i64 e.1.kind) ∧ V.cell? ⟨q2, s2 + 3, none⟩ = some (.string e.2)) (first | exact ⟨x0, x1, x2, x3, x4, x5⟩ | exact HZ.out _ (HB1.out.low.alloc HB1.out.low.size _) (HB1.out.box.alloc _) | exact HZ.out _ H3.out.1 H3.out.2.1 | go_keep)
            (first
             | (refine step_pushE wr.drew rfl (.tmp 58) (.tmp 69) rfl (w.heap.size + 1) a' m c' ((allL L).take m) (by simp [Act.eval]) HB1.out.own e #[.string e.1.user, .int .u64 (e.1.seq : Int), .int .i64 e.1.kind, .string e.2] rfl wr.drew.heap.size rfl (by simp [Act.eval]) (by omega) HB1.out.box.lt ?_
                intro a3 c3 w3 ho3 hb3 hg3
                have H3 : Hid (Below w.heap.size w w3 ∧ Box w3 w.heap.size 3 (atA v i) ∧ OwnK w3 (w.heap.size + 1) a3 (m + 1) c3 ((allL L).take (m + 1))) := ⟨HB1.out.low.trans (hb3.mono (by omega)), HB1.out.box.othk (othk_push HB1.out.own _ hg3) (by decide), by rw [HTK.out.1]; exact ho3⟩
                clear ho3 hb3 hg3))
          have y0 := (HZ.out _ H3.out.1 H3.out.2.1).1
          have y1 := H3.out.2.1.soft b
          go_wp2
          go_roundw
          case rel =>
            refine ⟨upV v b, m + 1, a3, c3, hml2, rfl, ?_⟩
            have hlt := H3.out.2.1.lt
            refine ⟨H3.out.1.setCell (p := ⟨w.heap.size, b, none⟩) (Nat.le_refl _) _, ?_, H3.out.2.2.kept fun k hk => ?_, HTK.out.2.1, HTK.out.2.2⟩
            · have := H3.out.2.1.set b (.int .i64 ((vb + 1 : Nat) : Int))
              rw [HSET.out] at this
              simpa using this
            · have := H3.out.2.2.ge hk
              exact Below.heap_setCell _ _ _ _ (show k ≠ w.heap.size by omega)
          case measure => simp only [slLen16]; omega
end Go.Proofs.Ytjoamhcehpjepaa
/- The contracts of the document's own New, Go and Told. -/
namespace Go.Proofs.Ytjoamhcehpjepaa
open Go.RowKit
set_option linter.unusedVariables false
set_option linter.unusedSimpArgs false
def normO (l : List KV) (i : Nat) : Option Nat := if i < l.length then some i else none
def seekI (l : List KV) (k : IK) : Nat := (l.takeWhile fun e => decide (e.1.cmp k < 0)).length
/-- Where one is behind a way to go. -/
def goP (l : List KV) (g : Nat) (k : IK) (at_ : Option Nat) : Option Nat :=
  match g with
  | 1 => normO l 0
  | 2 => if l.length = 0 then none else some (l.length - 1)
  | 3 => normO l (seekI l k)
  | 4 => at_.bind fun i => normO l (i + 1)
  | 5 => at_.bind fun i => if i = 0 then none else some (i - 1)
  | _ => at_
def told16 (l : List KV) : Option Nat → KV × Bool
  | none => (kvZ, false)
  | some i => (l.getD i kvZ, true)
abbrev TRI : TypeId := 81
/-- The document's own iterator in memory. -/
structure Rf (W : World) (B M p : Nat) (l : List KV) (at_ : Option Nat) : Prop where
  ge : B ≤ p
  lt : p < M
  top : M ≤ W.heap.size
  here : ∃ a c, Box W p TRI #[.slice a l.length c, .int .i64 (encI at_)] ∧ OwnK W B a l.length c l ∧ ∀ k, blkOf a = some k → k < M
  fit : ∀ i, at_ = some i → i < l.length
theorem Rf.kept {W W' : World} {B M p : Nat} {l : List KV} {o : Option Nat} (h : Rf W B M p l o) (hs : W.heap.size ≤ W'.heap.size) (hk : ∀ k, B ≤ k → k < M → W'.heap[k]? = W.heap[k]?) : Rf W' B M p l o := by
  obtain ⟨a, c, h1, h2, h3⟩ := h.here
  exact ⟨h.ge, h.lt, Nat.le_trans h.top hs, ⟨a, c, h1.kept (hk p h.ge h.lt), h2.kept fun k e => hk k (h2.ge e) (h3 k e), h3⟩, h.fit⟩
theorem Rf.below {W W' : World} {B M p : Nat} {l : List KV} {o : Option Nat} (h : Rf W B M p l o) (hb : Below W.heap.size W W') : Rf W' B M p l o := h.kept hb.size fun k _ hk => hb.block k (Nat.lt_of_lt_of_le hk h.top)
theorem Rf.at {W : World} {B M p : Nat} {l : List KV} {o o' : Option Nat} (h : Rf W B M p l o) (e : o = o') : Rf W B M p l o' := e ▸ h
set_option maxRecDepth 100000 in
set_option maxHeartbeats 4000000 in
theorem rnew_any (a : Option Addr) (n c : Nat) (L : List (List KV)) (w : World) (h : LsAt w a n c L) (hn : n ≤ 1000000) (hr : ∀ i, lenL L i ≤ 1000000) (hall : (allL L).length ≤ 1000000) :
    Calls Try.prog 27 #[.slice a n c] w fun e w' => Below w.heap.size w w' ∧ ((RiseL L ∧ ∃ p, e = .returned (.tuple #[at_ p, .int .i64 0]) ∧ Rf w' w.heap.size w'.heap.size p (allL L) none) ∨ (¬ RiseL L ∧ e = .returned (.tuple #[.pointer none, .int .i64 160]))) := by
  have HS : Hid (L.length = n ∧ (allL L).length ≤ 1000000 ∧ ∀ i, lenL L i ≤ 1000000) := ⟨h.size, hall, hr⟩
  have HK : Hid (LsAt w a n c L) := h
  clear h hall hr
  go_enter Try.func27, Try.ntmps27
  go_wp2_with fail
  go_loopw [4] (fun s4 wr => ∃ (i : Nat), i ≤ n ∧ s4 = .int .i64 (i : Int) ∧ Hid (Below w.heap.size w wr ∧ ∀ j, j < i → RiseK (rowL L j))) (fun s4 _ => n - (intOf s4).toNat)
  case atStart => exact ⟨0, Nat.zero_le _, rfl, Below.refl _ _, fun j hj => absurd hj (Nat.not_lt_zero _)⟩
  case round =>
    obtain ⟨i, hin, rfl, HI⟩ := hrel
    by_cases hi : i < n
    · have hiI : (i : Int) < (n : Int) := by omega
      obtain ⟨b, off, hx, _, hc⟩ := HK.out.spots (by omega)
      obtain ⟨ai, ci, h1, h2, _⟩ := hc i hi
      have hx0 := hx i hi
      have hc0 := h1 wr HI.out.1
      have HRI := rises_any ai (rowL L i).length ci (rowL L i) wr (h2.below HI.out.1) (HS.out.2.2 i)
      have HRI2 : Hid (Calls Try.prog 40 #[.slice ai (rowL L i).length ci] wr fun e w' => e = .returned (.bool (decide (RiseK (rowL L i)))) ∧ Below wr.heap.size wr w') := HRI
      clear HRI hx h1 h2 hc
      generalize off + i = o at hx0 hc0
      have HY : Hid (RiseK (rowL L i) → ∀ j, j < i + 1 → RiseK (rowL L j)) := fun hr j hj => by
        by_cases e : j = i
        · subst e; exact hr
        · exact HI.out.2 j (by omega)
      have HN : Hid (¬ RiseK (rowL L i) → ¬ RiseL L) := fun hno hl => hno (by
        have hil : i < L.length := by have := HS.out.1; omega
        have e : rowL L i = L[i] := by simp [rowL, List.getD, hil]
        rw [e]
        exact hl _ (List.getElem_mem hil))
      generalize rowL L i = ri at hc0 HRI2 HY HN
      go_wp2_with fail
      refine HRI2.out.mono ?_
      rintro _ w2 ⟨rfl, hb2⟩
      have H2 : Hid (Below w.heap.size w w2) := HI.out.1.trans (hb2.mono HI.out.1.size)
      clear hb2
      by_cases hr : RiseK ri
      · rw [decide_eq_true hr]
        have HR := HY.out hr
        go_wp2
        go_roundw
        case rel => exact ⟨i + 1, by omega, by go_num, H2.out, HR⟩
        case measure => simp only [intOf]; omega
      · rw [decide_eq_false hr]
        have HR : Hid (¬ RiseL L) := HN.out hr
        go_wp2
        go_ret2
        exact ⟨H2.out, .inr ⟨HR.out, ret2 rfl rfl⟩⟩
    · have HR : Hid (RiseL L) := fun l hl => by
        obtain ⟨k, hk, rfl⟩ := List.mem_iff_getElem.1 hl
        have := HI.out.2 k (by have := HS.out.1; omega)
        have e : rowL L k = L[k] := by simp [rowL, List.getD, hk]
        rw [e] at this
        exact this
      have hiI : ¬ (i : Int) < (n : Int) := by omega
      have HAL : Hid (Calls Try.prog 41 #[.slice a n c] wr fun e w' => ∃ a' c', e = .returned (.slice a' (allL L).length c') ∧ OwnK w' wr.heap.size a' (allL L).length c' (allL L) ∧ Below wr.heap.size wr w') := all_any a n c L wr (HK.out.below HI.out.1) HR.out hn HS.out.2.1
      go_wp2_with fail
      refine HAL.out.mono ?_
      rintro _ w2 ⟨a', c', rfl, ho2, hb2⟩
      have H2 : Hid (Below w.heap.size w w2 ∧ OwnK w2 w.heap.size a' (allL L).length c' (allL L)) := ⟨HI.out.1.trans (hb2.mono HI.out.1.size), ho2.less HI.out.1.size⟩
      clear hb2 ho2
      go_wp2
      go_ret2
      exact ⟨H2.out.1.alloc H2.out.1.size _, .inl ⟨HR.out, w2.heap.size, ret2 rfl rfl, H2.out.1.size, by simp, Nat.le_refl _, ⟨a', c', Box.new _ _ _, H2.out.2.alloc _, fun k e => tag_lt ((H2.out.2.alloc _).tag e)⟩, fun i hi => by cases hi⟩⟩
end Go.Proofs.Ytjoamhcehpjepaa
/- Items in memory: rows of the call's own. -/
namespace Go.Proofs.Ytjoamhcehpjepaa
open Go.RowKit
set_option linter.unusedVariables false
set_option linter.unusedSimpArgs false
abbrev TItm : TypeId := 35
abbrev i0 : It17 := (⟨#[]⟩, ⟨#[]⟩)
def cellsI (l : List It17) : List Value := l.flatMap fun p => [.string p.1, .string p.2]
theorem cellsI_len (l : List It17) : (cellsI l).length = l.length * 2 := by
  induction l with
  | nil => rfl
  | cons p l ih =>
    show ([_, _] ++ cellsI l).length = _
    rw [List.length_append, ih, List.length_cons]
    simp; omega
theorem cellsI_append (a b : List It17) : cellsI (a ++ b) = cellsI a ++ cellsI b := by simp [cellsI]
theorem cellsI_get : ∀ (l : List It17) (k : Nat), k < l.length → (cellsI l)[k * 2]? = some (.string (l.getD k i0).1) ∧ (cellsI l)[k * 2 + 1]? = some (.string (l.getD k i0).2)
  | [], k, h => absurd h (Nat.not_lt_zero _)
  | p :: l, 0, _ => ⟨rfl, rfl⟩
  | p :: l, k + 1, h => by
    have ih := cellsI_get l k (by simpa using h)
    have e1 : (cellsI (p :: l))[(k + 1) * 2]? = (cellsI l)[k * 2]? := by
      show ([_, _] ++ cellsI l)[(k + 1) * 2]? = _
      rw [List.getElem?_append_right (by simp; omega)]
      congr 1; simp; omega
    have e2 : (cellsI (p :: l))[(k + 1) * 2 + 1]? = (cellsI l)[k * 2 + 1]? := by
      show ([_, _] ++ cellsI l)[(k + 1) * 2 + 1]? = _
      rw [List.getElem?_append_right (by simp; omega)]
      congr 1; simp; omega
    rw [e1, e2]
    simpa [List.getD] using ih
theorem cellsI_set : ∀ (l : List It17) (k : Nat) (q : It17), ((cellsI l).set (k * 2) (.string q.1)).set (k * 2 + 1) (.string q.2) = cellsI (l.set k q)
  | [], k, q => by simp [cellsI]
  | p :: l, 0, q => rfl
  | p :: l, k + 1, q => by
    have ih := cellsI_set l k q
    show ((_ :: _ :: cellsI l).set ((k + 1) * 2) _).set ((k + 1) * 2 + 1) _ = _ :: _ :: cellsI (l.set k q)
    rw [show (k + 1) * 2 = k * 2 + 1 + 1 by omega, show k * 2 + 1 + 1 + 1 = k * 2 + 1 + 1 + 1 from rfl]
    simp only [List.set_cons_succ]
    rw [ih]
theorem cellsI_one (l : List It17) : ∀ u ∈ cellsI l, u.oneCell' = true := by
  intro u hu
  obtain ⟨e, _, he⟩ := List.mem_flatMap.1 hu
  simp at he
  rcases he with rfl | rfl <;> rfl
/-- A row of items of the call's own. -/
structure OwnI (w : World) (B : Nat) (a : Option Addr) (n c : Nat) (l : List It17) : Prop where
  size : l.length = n
  row : w.ownsRow B TItm 2 (.slice a n c) n (cellsI l)
section
variable {w w' : World} {B : Nat} {a : Option Addr} {n c : Nat} {l : List It17}
theorem OwnI.nil (w : World) (B : Nat) : OwnI w B none 0 0 [] := ⟨rfl, World.ownsRow_nil _ _ _ 2⟩
theorem OwnI.kept (h : OwnI w B a n c l) (hk : ∀ k, blkOf a = some k → w'.heap[k]? = w.heap[k]?) : OwnI w' B a n c l := ⟨h.size, row_same h.row (fun b e => hk b (by rw [← own_blk a n c]; exact e))⟩
theorem OwnI.below (h : OwnI w B a n c l) (hb : Below w.heap.size w w') : OwnI w' B a n c l := ⟨h.size, row_below h.row hb⟩
theorem OwnI.tag (h : OwnI w B a n c l) {k : Nat} (hk : blkOf a = some k) : tag w k = some TItm := row_tag h.row (by rw [own_blk]; exact hk)
theorem OwnI.ge (h : OwnI w B a n c l) {k : Nat} (hk : blkOf a = some k) : B ≤ k ∧ k < w.heap.size := h.row.lt k (by rw [own_blk]; exact hk)
theorem OwnI.spots (h : OwnI w B a n c l) (hp : 0 < n) : ∃ g, a = some ⟨g, 0, none⟩ ∧ (∀ k, k < n → w.cell? ⟨g, k * 2, none⟩ = some (.string (l.getD k i0).1) ∧ w.cell? ⟨g, k * 2 + 1, none⟩ = some (.string (l.getD k i0).2)) ∧ ∀ j, w.frozen? ⟨g, j, none⟩ = false := by
  obtain ⟨_, _, _, h4⟩ := row_addr h.row
  obtain ⟨g, rfl⟩ := h4 hp
  have hs := h.size
  refine ⟨g, rfl, fun k hk => ?_, fun j => h.row.frozenAt j⟩
  have := cellsI_get l k (by omega)
  exact ⟨by rw [h.row.cellAt _ (by omega)]; exact this.1, by rw [h.row.cellAt _ (by omega)]; exact this.2⟩
theorem OwnI.set {g : Nat} (h : OwnI w B (some ⟨g, 0, none⟩) n c l) (k : Nat) (q : It17) : OwnI ((w.setCell ⟨g, k * 2, none⟩ (.string q.1)).setCell ⟨g, k * 2 + 1, none⟩ (.string q.2)) B (some ⟨g, 0, none⟩) n c (l.set k q) := by
  refine ⟨by rw [List.length_set]; exact h.size, ?_⟩
  rw [← cellsI_set]
  exact ((h.row.stored _ _).1.stored _ _).1
theorem OwnI.pop {g : Nat} {q : It17} (h : OwnI w B (some ⟨g, 0, none⟩) (n + 1) c (l ++ [q])) : OwnI w B (some ⟨g, 0, none⟩) n c l := by
  have hs : l.length = n := by have := h.size; simpa using this
  refine ⟨hs, ownsRow_pop (last := cellsI [q]) (by rw [cellsI_len, hs]) ?_⟩
  rw [← cellsI_append]
  exact h.row
end
theorem infoItm : (Try.prog.info? TItm).map (fun i => (i.zero, i.size, i.bytes)) = some (some (.agg #[.string ⟨#[]⟩, .string ⟨#[]⟩]), 2, 32) := by kernel_rfl
set_option maxRecDepth 100000 in
theorem idxI (W : World) {b n c i : Nat} (hi : i < n) : (Instr.indexAt 48 (.slice (some ⟨b, 0, none⟩) n c) (.int .i64 (i : Int))).run Try.prog W = .ok (.pointer (some ⟨b, i * 2, none⟩)) W := by
  have h1 : (0 : Int) ≤ (i : Int) ∧ (i : Int) < (n : Int) := by omega
  have hsz : (sizeOf (Try.prog.elem 48)).run Try.prog W = .ok 2 W := by kernel_rfl
  rw [run_indexAt_slice (P := Try.prog) (h := (by kernel_rfl : Try.prog.underlying 48 = some (.slice (Try.prog.elem 48)))), if_pos h1, hsz]
  simp [Result.andThen, Addr.add_lit]
theorem step_pushI {ops : Array Oper} {o : Oper} {a : Act} {K : Act → World → Prop} {Q : Exit → Act → World → Prop} {E : Prop} (W : World) (hgd : o.guard = none) (s x : Operand)
    (ho : o.op = .call { callee := .builtin .append, args := #[s, x], argTypes := #[48, 48] })
    (B : Nat) (a1 : Option Addr) (n1 c1 : Nat) (l : List It17) (hs : a.eval s = .slice a1 n1 c1) (hown : OwnI W B a1 n1 c1 l)
    (v : It17) (cv : Array Value) (hcv : cv.toList = cellsI [v]) (g : Nat) (hg : g = W.heap.size) (hx : a.eval x = .slice (some ⟨g, 0, none⟩) 1 1)
    (hb : n1 + 1 ≤ 2000000000000) (hB : B ≤ W.heap.size)
    (h : ∀ a' c' w', OwnI w' B a' (n1 + 1) c' (l ++ [v]) → Below B W w' → (W.alloc (.cells cv TItm)).grownBy w' (blkOf a1) → K (a.put o.dst (.slice a' (n1 + 1) c')) w') :
    if Region.wanted o (yielded ops a.tmps) = true then Oper.wp Try.prog o a (W.alloc (.cells cv TItm)) K Q else E := by
  subst hg
  have hw : Region.wanted o (yielded ops a.tmps) = true := by simp [Region.wanted, hgd]
  rw [if_pos hw]
  obtain ⟨i, hi, hz0, hz1, hz2⟩ := info_parts infoItm
  have hl := hown.size
  have hown2 : (W.alloc (.cells cv TItm)).ownsRow B TItm 2 (.slice a1 n1 c1) n1 (cellsI l) := hown.row.alloc _
  have hlt : ∀ k, (Value.slice a1 n1 c1).ownBlock = some k → B ≤ k := fun k hk => (hown.row.lt k hk).1
  have hB2 : B ≤ (W.alloc (.cells cv TItm)).heap.size := by simp; omega
  have hcell : ∀ j u, (cellsI [v])[j]? = some u → (W.alloc (.cells cv TItm)).cell? ((⟨W.heap.size, 0, none⟩ : Addr).add j) = some u := by
    intro j u hu
    rw [Addr.add_lit, Nat.zero_add, (Box.new W TItm cv).cell, ← Array.getElem?_toList, hcv]
    exact hu
  obtain ⟨v', w', hr, h2, h3, h4, h5⟩ := run_append_own_at (P := Try.prog) (W.alloc (.cells cv TItm)) B 48 o.type TItm i _ 2 32 Try.underlying48 hi hz0 hz1 hz2 rfl (by decide) _ n1 _ hown2 ⟨W.heap.size, 0, none⟩ 1 1 (cellsI [v]) (by simp [cellsI]) hcell (cellsI_one _) (by unfold maxLen; omega) (by omega) hB2
  unfold Oper.wp execOp
  simp only [ho, resolve, invoke, builtin, Sem.run_bind, Sem.run_pure, Result.andThen_ok, List.map_toArray, List.map_cons, List.map_nil, hs, hx, hr]
  obtain ⟨a', c', rfl⟩ := slice_of_row h2
  refine h a' c' w' ⟨by rw [List.length_append]; simp; omega, ?_⟩ (((Below.refl _ _).alloc hB _).trans ((Below.refl B _).grown h3 hB2 hlt)) (by rw [← own_blk a1 n1 c1]; exact h3)
  rw [cellsI_append]
  exact h2
theorem wpList_pushI (W : World) {ops : Array Oper} {rest : List Oper} {o : Oper} {a : Act} {Q : Exit → Act → World → Prop} (hgd : o.guard = none) (s x : Operand)
    (ho : o.op = .call { callee := .builtin .append, args := #[s, x], argTypes := #[48, 48] })
    (B : Nat) (a1 : Option Addr) (n1 c1 : Nat) (l : List It17) (hs : a.eval s = .slice a1 n1 c1) (hown : OwnI W B a1 n1 c1 l)
    (v : It17) (cv : Array Value) (hcv : cv.toList = cellsI [v]) (g : Nat) (hg : g = W.heap.size) (hx : a.eval x = .slice (some ⟨g, 0, none⟩) 1 1)
    (hb : n1 + 1 ≤ 2000000000000) (hB : B ≤ W.heap.size)
    (h : ∀ a' c' w', OwnI w' B a' (n1 + 1) c' (l ++ [v]) → Below B W w' → (W.alloc (.cells cv TItm)).grownBy w' (blkOf a1) → wpList Try.prog ops Q rest (a.put o.dst (.slice a' (n1 + 1) c')) w') :
    wpList Try.prog ops Q (o :: rest) a (W.alloc (.cells cv TItm)) := by
  refine wpList_plain hgd fun K hK => ?_
  have := step_pushI (ops := ops) (o := o) (a := a) (K := K) (Q := Q) (E := True) W hgd s x ho B a1 n1 c1 l hs hown v cv hcv g hg hx hb hB (fun a' c' w' h1 h2 h3 => hK _ _ (h a' c' w' h1 h2 h3))
  rw [if_pos (by simp [Region.wanted, hgd])] at this
  exact this
end Go.Proofs.Ytjoamhcehpjepaa
/- The contract of the document's own Seen. -/
namespace Go.Proofs.Ytjoamhcehpjepaa
open Go.RowKit
set_option linter.unusedVariables false
set_option linter.unusedSimpArgs false
theorem seen_next {s : Nat} {l : List KV} {i : Nat} {e : KV} (he : l[i]? = some e) : seenS s l (i + 1) = stepSn s (if i = 0 then none else l[i - 1]?) (seenS s l i) e := by
  show (match l[i]? with | none => _ | some e => _) = _
  rw [he]
/-- Is the user another one than the one ahead. -/
def otherU (l : List KV) (i : Nat) (e : KV) : Bool := ((if i = 0 then none else l[i - 1]?).any fun q => decide (q.1.user ≠ e.1.user))
theorem step_eq {s : Nat} {l : List KV} {i : Nat} {e : KV} (he : l[i]? = some e) {d d' : Bool} {out : List It17} (h : seenS s l i = (d, out)) (hd : d' = if otherU l i e = true then false else d) : seenS s l (i + 1) = if d' = true ∨ s < e.1.seq then (d', out) else (true, if e.1.kind = 1 then out ++ [(e.1.user, e.2)] else out) := by
  rw [seen_next he, h]
  unfold stepSn otherU at *
  rw [hd]
/-- What is told of the first entries. -/
structure Sn (w W : World) (s : Nat) (l : List KV) (i : Nat) (a : Option Addr) (m c : Nat) (d : Bool) (out : List It17) : Prop where
  base : Below w.heap.size w W
  own : OwnI W w.heap.size a m c out
  eq : seenS s l i = (d, out)
theorem Sn.below {w W W' : World} {s : Nat} {l : List KV} {i : Nat} {a : Option Addr} {m c : Nat} {d : Bool} {out : List It17} (h : Sn w W s l i a m c d out) (hb : Below W.heap.size W W') : Sn w W' s l i a m c d out := ⟨h.base.trans (hb.mono h.base.size), h.own.below hb, h.eq⟩
set_option maxRecDepth 100000 in
set_option maxHeartbeats 3000000 in
theorem rseen_any (a : Option Addr) (n c : Nat) (l : List KV) (w : World) (h : KsAt w a n c l) (s : Nat) (hn : n ≤ 1000000) :
    Calls Try.prog 28 #[.slice a n c, .int .u64 (s : Int)] w fun e w' => ∃ a' c', e = .returned (.slice a' (seenL s l).length c') ∧ OwnI w' w.heap.size a' (seenL s l).length c' (seenL s l) ∧ Below w.heap.size w w' := by
  have HS : Hid (l.length = n) := h.size
  have HK : Hid (KsAt w a n c l) := h
  clear h
  go_enter Try.func28, Try.ntmps28
  go_wp2_with fail
  go_loopw [5, 6, 7] (fun s5 s6 s7 wr => ∃ (i : Nat) (a' : Option Addr) (m c' : Nat) (d : Bool), i ≤ n ∧ m ≤ i ∧ s7 = .int .i64 (i : Int) ∧ s6 = .bool d ∧ s5 = .slice a' m c' ∧ Hid (∃ out, Sn w wr s l i a' m c' d out)) (fun _ _ s7 _ => n - (intOf s7).toNat)
  case atStart => exact ⟨0, none, 0, 0, false, Nat.zero_le _, Nat.le_refl _, rfl, rfl, rfl, [], Below.refl _ _, OwnI.nil _ _, rfl⟩
  case round =>
    obtain ⟨i, a', m, c', d, hin, hmi, rfl, rfl, rfl, HI⟩ := hrel
    by_cases hi : i < n
    · have hiI : (i : Int) < (n : Int) := by omega
      obtain ⟨out, hsn⟩ := HI.out
      have HN : Hid (Sn w wr s l i a' m c' d out) := hsn
      clear hsn HI
      obtain ⟨b, off, hix, hb, hcs⟩ := HK.out.spots (by omega)
      have hx0 := hix i hi
      have hil : i < l.length := by rw [HS.out]; exact hi
      have HE : Hid (l[i]? = some l[i]) := List.getElem?_eq_getElem hil
      have HC : Hid (∀ W, Below w.heap.size w W → W.cell? ⟨b, off + i * 4, none⟩ = some (.string l[i].1.user) ∧ W.cell? ⟨b, off + i * 4 + 1, none⟩ = some (.int .u64 (l[i].1.seq : Int)) ∧ W.cell? ⟨b, off + i * 4 + 2, none⟩ = some (.int .i64 l[i].1.kind) ∧ W.cell? ⟨b, off + i * 4 + 3, none⟩ = some (.string l[i].2)) := fun W hW => hcs W hW i hil
      obtain ⟨x0, x1, x2, x3⟩ := HC.out wr HN.out.base
      generalize hle : l[i] = e at HE HC x0 x1 x2 x3
      generalize hoi : off + i * 4 = oi at HC hx0 x0 x1 x2 x3
      go_upto_region 6 with fail
      go_cut [31] (fun x wz => ∃ b' : Bool, x = .bool b' ∧ Hid (Sn w wz s l i a' m c' d out ∧ otherU l i e = b'))
      case first =>
        by_cases h0 : i = 0
        · subst h0
          have HO : Hid (otherU l 0 e = false) := rfl
          go_quiet (fail)
          go_wp2
          go_meet
          exact ⟨false, rfl, HN.out.below (Below.drewM (Below.refl _ _) _), HO.out⟩
        · have h0I : (0 : Int) < (i : Int) := by omega
          have h0N : 0 < i := by omega
          have hw1 : IntKind.i64.wrap ((i : Int) - 1) = (i : Int) - 1 := by rw [IntKind.wrap_i64]; omega
          have hx1 := hix (i - 1) (by omega)
          rw [show ((i - 1 : Nat) : Int) = (i : Int) - 1 by omega] at hx1
          have hil1 : i - 1 < l.length := by omega
          obtain ⟨y0, _⟩ := hcs wr HN.out.base (i - 1) hil1
          have HO : Hid (otherU l i e = decide (l[i - 1].1.user ≠ e.1.user)) := by
            unfold Hid otherU
            rw [if_neg h0, List.getElem?_eq_getElem hil1]
            rfl
          generalize l[i - 1] = q at y0 HO
          generalize off + (i - 1) * 4 = op at hx1 y0
          clear hix hcs
          by_cases hq : q.1.user = e.1.user
          · have hqe : (e.1.user.toList == q.1.user.toList) = true := by rw [hq]; simp
            have HOO : Hid (otherU l i e = false) := by
              show otherU l i e = false
              rw [HO.out]; simp [hq]
            clear HO hq
            go_quiet (fail)
            go_wp2
            go_meet
            exact ⟨false, rfl, HN.out.below (Below.drewM (Below.refl _ _) _), HOO.out⟩
          · have hqe : (e.1.user.toList == q.1.user.toList) = false := by
              rw [beq_eq_false_iff_ne]
              intro h
              exact hq (ba_ext17 (by simpa [ByteArray.toList_eq] using h.symm))
            have HOO : Hid (otherU l i e = true) := by
              show otherU l i e = true
              rw [HO.out]; simp [hq]
            clear HO hq
            go_quiet (fail)
            go_wp2
            go_meet
            exact ⟨true, rfl, HN.out.below (Below.drewM (Below.refl _ _) _), HOO.out⟩
      case rest =>
        obtain ⟨b', rfl, HW⟩ := hcut
        clear HN hix hcs x0 x1 x2 x3
        obtain ⟨x0, x1, x2, x3⟩ := HC.out wc HW.out.1.base
        have HST : Hid (∀ d', d' = (if b' = true then false else d) → seenS s l (i + 1) = if d' = true ∨ s < e.1.seq then (d', out) else (true, if e.1.kind = 1 then out ++ [(e.1.user, e.2)] else out)) := fun d' h => step_eq HE.out HW.out.1.eq (by rw [HW.out.2]; exact h)
        clear HE
        have hml : out.length = m := HW.out.1.own.size
        obtain ⟨d', hd'⟩ : ∃ d', d' = (if b' = true then false else d) := ⟨_, rfl⟩
        have HS2 := HST.out d' hd'
        have HWS : Hid (Sn w wc s l i a' m c' d out) := HW.out.1
        clear HST HW
        cases b' with
        | true =>
          rw [if_pos rfl] at hd'
          subst hd'
          by_cases hsq : s < e.1.seq
          · have hsI : (s : Int) < (e.1.seq : Int) := by omega
            have HF : Hid (∃ out, Sn w wc s l (i + 1) a' m c' false out) := ⟨out, HWS.out.base, HWS.out.own, by rw [HS2, if_pos (.inr hsq)]⟩
            go_wp2
            go_roundw
            case rel => exact ⟨i + 1, a', m, c', false, by omega, by omega, by go_num, rfl, rfl, HF.out⟩
            case measure => simp only [intOf]; omega
          · have hsI : ¬ (s : Int) < (e.1.seq : Int) := by omega
            have hc0 : ¬ (false = true ∨ s < e.1.seq) := fun h => by
              rcases h with h | h
              · cases h
              · exact hsq h
            rw [if_neg hc0] at HS2
            clear hc0
            by_cases hk : e.1.kind = 1
            · have hkb : (e.1.kind == 1) = true := by simp [hk]
              rw [if_pos hk] at HS2
              have HS3 : Hid (seenS s l (i + 1) = (true, out ++ [(e.1.user, e.2)])) := HS2
              clear HS2
              go_wp2_with fail
              have HD : Hid (Below w.heap.size w wc.drew ∧ OwnI wc.drew w.heap.size a' m c' out) := ⟨HWS.out.base.drew, HWS.out.own.below (Below.refl _ _).drew⟩
              have y0 : wc.drew.cell? ⟨b, oi, none⟩ = some (.string e.1.user) := x0
              have y3 : wc.drew.cell? ⟨b, oi + 3, none⟩ = some (.string e.2) := x3
              go_region_held3 (fun V => V.cell? ⟨b, oi, none⟩ = some (.string e.1.user) ∧ V.cell? ⟨b, oi + 3, none⟩ = some (.string e.2)) (first | with_reducible exact ⟨y0, y3⟩ | exact ⟨(HC.out _ (HD.out.1.alloc HD.out.1.size _)).1, (HC.out _ (HD.out.1.alloc HD.out.1.size _)).2.2.2⟩ | exact ⟨(HC.out _ H3.out.1).1, (HC.out _ H3.out.1).2.2.2⟩ | go_keep)
                (first
                 | (refine step_pushI wc.drew rfl (.tmp 50) (.tmp 63) rfl w.heap.size a' m c' out (by simp [Act.eval]) HD.out.2 (e.1.user, e.2) #[.string e.1.user, .string e.2] rfl wc.drew.heap.size rfl (by simp [Act.eval]) (by omega) HD.out.1.size ?_
                    intro a3 c3 w3 ho3 hb3 hg3
                    have H3 : Hid (Below w.heap.size w w3 ∧ OwnI w3 w.heap.size a3 (m + 1) c3 (out ++ [(e.1.user, e.2)])) := ⟨HD.out.1.trans hb3, ho3⟩
                    clear ho3 hb3 hg3))
              have HF : Hid (∃ out, Sn w w3 s l (i + 1) a3 (m + 1) c3 true out) := ⟨_, H3.out.1, H3.out.2, HS3.out⟩
              go_wp2
              go_roundw
              case rel => exact ⟨i + 1, a3, m + 1, c3, true, by omega, by omega, by go_num, rfl, rfl, HF.out⟩
              case measure => simp only [intOf]; omega
            · have hkb : (e.1.kind == 1) = false := by simp [hk]
              rw [if_neg hk] at HS2
              have HF : Hid (∃ out, Sn w wc s l (i + 1) a' m c' true out) := ⟨out, HWS.out.base, HWS.out.own, HS2⟩
              clear HS2
              go_wp2
              go_roundw
              case rel => exact ⟨i + 1, a', m, c', true, by omega, by omega, by go_num, rfl, rfl, HF.out⟩
              case measure => simp only [intOf]; omega
        | false =>
          rw [if_neg (by decide)] at hd'
          subst hd'
          cases d' with
          | true =>
            have HF : Hid (∃ out, Sn w wc s l (i + 1) a' m c' true out) := ⟨out, HWS.out.base, HWS.out.own, by rw [HS2, if_pos (.inl rfl)]⟩
            clear HS2
            go_wp2
            go_roundw
            case rel => exact ⟨i + 1, a', m, c', true, by omega, by omega, by go_num, rfl, rfl, HF.out⟩
            case measure => simp only [intOf]; omega
          | false =>
            by_cases hsq : s < e.1.seq
            · have hsI : (s : Int) < (e.1.seq : Int) := by omega
              have HF : Hid (∃ out, Sn w wc s l (i + 1) a' m c' false out) := ⟨out, HWS.out.base, HWS.out.own, by rw [HS2, if_pos (.inr hsq)]⟩
              go_wp2
              go_roundw
              case rel => exact ⟨i + 1, a', m, c', false, by omega, by omega, by go_num, rfl, rfl, HF.out⟩
              case measure => simp only [intOf]; omega
            · have hsI : ¬ (s : Int) < (e.1.seq : Int) := by omega
              have hc0 : ¬ (false = true ∨ s < e.1.seq) := fun h => by
                rcases h with h | h
                · cases h
                · exact hsq h
              rw [if_neg hc0] at HS2
              clear hc0
              by_cases hk : e.1.kind = 1
              · have hkb : (e.1.kind == 1) = true := by simp [hk]
                rw [if_pos hk] at HS2
                have HS3 : Hid (seenS s l (i + 1) = (true, out ++ [(e.1.user, e.2)])) := HS2
                clear HS2
                go_wp2_with fail
                have HD : Hid (Below w.heap.size w wc.drew ∧ OwnI wc.drew w.heap.size a' m c' out) := ⟨HWS.out.base.drew, HWS.out.own.below (Below.refl _ _).drew⟩
                have y0 : wc.drew.cell? ⟨b, oi, none⟩ = some (.string e.1.user) := x0
                have y3 : wc.drew.cell? ⟨b, oi + 3, none⟩ = some (.string e.2) := x3
                go_region_held3 (fun V => V.cell? ⟨b, oi, none⟩ = some (.string e.1.user) ∧ V.cell? ⟨b, oi + 3, none⟩ = some (.string e.2)) (first | with_reducible exact ⟨y0, y3⟩ | exact ⟨(HC.out _ (HD.out.1.alloc HD.out.1.size _)).1, (HC.out _ (HD.out.1.alloc HD.out.1.size _)).2.2.2⟩ | exact ⟨(HC.out _ H3.out.1).1, (HC.out _ H3.out.1).2.2.2⟩ | go_keep)
                  (first
                   | (refine step_pushI wc.drew rfl (.tmp 50) (.tmp 63) rfl w.heap.size a' m c' out (by simp [Act.eval]) HD.out.2 (e.1.user, e.2) #[.string e.1.user, .string e.2] rfl wc.drew.heap.size rfl (by simp [Act.eval]) (by omega) HD.out.1.size ?_
                      intro a3 c3 w3 ho3 hb3 hg3
                      have H3 : Hid (Below w.heap.size w w3 ∧ OwnI w3 w.heap.size a3 (m + 1) c3 (out ++ [(e.1.user, e.2)])) := ⟨HD.out.1.trans hb3, ho3⟩
                      clear ho3 hb3 hg3))
                have HF : Hid (∃ out, Sn w w3 s l (i + 1) a3 (m + 1) c3 true out) := ⟨_, H3.out.1, H3.out.2, HS3.out⟩
                go_wp2
                go_roundw
                case rel => exact ⟨i + 1, a3, m + 1, c3, true, by omega, by omega, by go_num, rfl, rfl, HF.out⟩
                case measure => simp only [intOf]; omega
              · have hkb : (e.1.kind == 1) = false := by simp [hk]
                rw [if_neg hk] at HS2
                have HF : Hid (∃ out, Sn w wc s l (i + 1) a' m c' true out) := ⟨out, HWS.out.base, HWS.out.own, HS2⟩
                clear HS2
                go_wp2
                go_roundw
                case rel => exact ⟨i + 1, a', m, c', true, by omega, by omega, by go_num, rfl, rfl, HF.out⟩
                case measure => simp only [intOf]; omega
    · obtain rfl : i = n := by omega
      obtain ⟨out, hsn⟩ := HI.out
      have HN : Hid (seenL s l = out ∧ OwnI wr w.heap.size a' m c' out ∧ Below w.heap.size w wr) := ⟨by unfold seenL; rw [HS.out, hsn.eq], hsn.own, hsn.base⟩
      clear hsn HI
      have hml := HN.out.2.1.size
      go_wp2
      go_ret
      rw [HN.out.1]
      subst hml
      exact ⟨a', c', rfl, HN.out.2.1, HN.out.2.2⟩
end Go.Proofs.Ytjoamhcehpjepaa
