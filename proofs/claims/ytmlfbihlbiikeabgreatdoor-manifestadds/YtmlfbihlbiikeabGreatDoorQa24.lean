/- Bytes appended to the call's own, as a step of a region that draws its order; what parts of slices are. -/
import Derived.Test.YtmlfbihlbiikeabGreatDoorQa15
import Derived.Deep.RegionLaw
import Derived.Maps.AppendAt
import Derived.Test.YtmlfbihlbiikeabGreatDoorQa02
import Derived.Test.YtmlfbihlbiikeabGreatDoorQa00
import Derived.Test.YtmlfbihlbiikeabGreatDoorQa13
import Derived.Test.YtmlfbihlbiikeabGreatDoorQa14
import Derived.Test.YtmlfbihlbiikeabGreatDoorQa22
import Derived.Test.YtmlfbihlbiikeabGreatDoorQa08
namespace Go.Proofs.YtmlfbihlbiikeabGreatDoor
open Go.RowKit
theorem step_appB {ops : Array Oper} {o : Oper} {a : Act} {w : World} {K : Act → World → Prop} {Q : Exit → Act → World → Prop} {E : Prop} (hgd : o.guard = none) (s x : Operand)
    (ho : o.op = .call { callee := .builtin .append, args := #[s, x], argTypes := #[40, 40] })
    (B : Nat) (a1 : Option Addr) (n1 c1 : Nat) (bs : List UInt8) (hs : a.eval s = .slice a1 n1 c1) (hown : OwnB w B a1 n1 c1 bs)
    (a2 : Option Addr) (n2 c2 : Nat) (cs : List UInt8) (hx : a.eval x = .slice a2 n2 c2) (hsrc : BsAt w a2 n2 c2 cs)
    (hl : n1 + n2 ≤ 140737488355328) (hB : B ≤ w.heap.size)
    (h : ∀ a' c' w', OwnB w' B a' (n1 + n2) c' (bs ++ cs) → Below B w w' → K (a.put o.dst (.slice a' (n1 + n2) c')) w') :
    if Region.wanted o (yielded ops a.tmps) = true then Oper.wp Tryz.prog o a w K Q else E := by
  have hw : Region.wanted o (yielded ops a.tmps) = true := by simp [Region.wanted, hgd]
  rw [if_pos hw]
  obtain ⟨i, hi, hz0, hz1, hz2⟩ := info_parts infoU8
  have hsz := hsrc.size
  have hlt : ∀ k, (Value.slice a1 n1 c1).ownBlock = some k → B ≤ k := fun k hk => (hown.row.lt k hk).1
  cases a2 with
  | none =>
    have hc0 := hsrc.bare rfl
    have hle := hsrc.le
    obtain rfl : n2 = 0 := by omega
    subst hc0
    obtain rfl := List.eq_nil_of_length_eq_zero hsz
    have hrun := run_append_owned_none (P := Tryz.prog) (w := w) B 40 o.type 5 i 1 Tryz.underlying40 hi _ n1 _ hown.row
    unfold Oper.wp
    simp [execOp, ho, resolve, invoke, builtin, hs, hx, hrun, Result.andThen]
    exact h a1 c1 w (by simpa using hown) (Below.refl _ _)
  | some ad =>
    have hcell : ∀ j u, (cellsB cs)[j]? = some u → w.cell? (ad.add j) = some u := by
      intro j u hu
      have hj : j < cs.length := by have := (List.getElem?_eq_some_iff.1 hu).1; rwa [cellsB_length] at this
      obtain ⟨b, off, he, hc⟩ := hsrc.here (by omega)
      obtain rfl := Option.some.inj he
      rw [cellsB_get cs j hj] at hu
      obtain rfl := Option.some.inj hu
      rw [Addr.add_lit]
      exact hc j (by omega)
    obtain ⟨v', w', hr, h2, h3, h4, h5⟩ := run_append_own_at (P := Tryz.prog) w B 40 o.type 5 i (.int .u8 0) 1 1 Tryz.underlying40 hi hz0 hz1 hz2 rfl (by decide) _ n1 _ hown.row ad n2 c2 (cellsB cs) (by rw [cellsB_length]; omega) hcell (cellsB_one cs) (by unfold maxLen; omega) (by omega) hB
    unfold Oper.wp execOp
    simp only [ho, resolve, invoke, builtin, Sem.run_bind, Sem.run_pure, Result.andThen_ok, List.map_toArray, List.map_cons, List.map_nil, hs, hx, hr]
    rw [← cellsB_append] at h2
    obtain ⟨a', c', rfl, ho'⟩ := own_of_row h2
    exact h a' c' w' ho' ((Below.refl B w).grown h3 hB hlt)
theorem slice_to {w0 : World} {bs0 : List UInt8} {a : Option Addr} {len cap : Nat} (h : BsAt w0 a len cap bs0) (k : Nat) (hk : k ≤ len) :
    ∃ a', (∀ W : World, (Instr.slice 40 (.slice a len cap) none (some (.int .i64 (k : Int))) none).run Tryz.prog W = .ok (.slice a' k cap) W) ∧
      (∀ (W : World) (bs : List UInt8), BsAt W a len cap bs → BsAt W a' k cap (bs.take k)) := by
  have hle := h.le
  have hmx := h.max
  cases a with
  | none =>
    obtain rfl := h.bare rfl
    obtain rfl : k = 0 := by omega
    refine ⟨none, fun W => ?_, fun W bs hb => hb.upTo 0 (by omega)⟩
    simp [Instr.slice, run_underlying Tryz.underlying40, go_sem]
  | some ad =>
    obtain ⟨b, off, s⟩ := ad
    by_cases hc : cap = 0
    · subst hc
      obtain rfl : k = 0 := by omega
      refine ⟨some ⟨b, off, s⟩, fun W => ?_, fun W bs hb => hb.upTo 0 (by omega)⟩
      simp [Instr.slice, run_underlying Tryz.underlying40, go_sem]
    · refine ⟨some ⟨b, off, s⟩, fun W => ?_, fun W bs hb => hb.upTo k hk⟩
      simp [Instr.slice, run_underlying Tryz.underlying40, go_sem]
      intro hh
      omega
theorem slice_mid {w0 : World} {bs0 : List UInt8} {a : Option Addr} {len cap : Nat} (h : BsAt w0 a len cap bs0) (lo hi : Nat) (hlo : lo ≤ hi) (hhi : hi ≤ len) :
    ∃ a', (∀ W : World, (Instr.slice 40 (.slice a len cap) (some (.int .i64 (lo : Int))) (some (.int .i64 (hi : Int))) none).run Tryz.prog W = .ok (.slice a' (hi - lo) (cap - lo)) W) ∧
      (∀ (W : World) (bs : List UInt8), BsAt W a len cap bs → BsAt W a' (hi - lo) (cap - lo) ((bs.drop lo).take (hi - lo))) := by
  have hle := h.le
  have hmx := h.max
  cases a with
  | none =>
    obtain rfl := h.bare rfl
    obtain rfl : hi = 0 := by omega
    obtain rfl : lo = 0 := by omega
    refine ⟨none, fun W => ?_, fun W bs hb => hb.upTo 0 (by omega)⟩
    simp [Instr.slice, run_underlying Tryz.underlying40, go_sem]
  | some ad =>
    obtain ⟨b, off, s⟩ := ad
    by_cases hc : cap - lo = 0
    · obtain rfl : lo = cap := by omega
      obtain rfl : hi = lo := by omega
      refine ⟨some ⟨b, off, s⟩, fun W => ?_, fun W bs hb => ?_⟩
      · simp [Instr.slice, run_underlying Tryz.underlying40, go_sem]
      · rw [Nat.sub_self, List.take_zero]
        exact BsAt.empty _ _ (by omega)
    · refine ⟨some ((⟨b, off, s⟩ : Addr).add lo), fun W => ?_, fun W bs hb => ?_⟩
      · have h1 : hi ≤ cap := by omega
        have h3 : ¬ cap = lo := by omega
        simp [Instr.slice, run_underlying Tryz.underlying40, go_sem, h1, hlo, h3]
      · rcases Nat.eq_zero_or_pos (hi - lo) with h0 | h0
        · rw [h0, List.take_zero]
          exact BsAt.empty _ _ (by omega)
        · obtain ⟨b', o', e, _⟩ := hb.here (by omega)
          simp only [Option.some.injEq, Addr.mk.injEq] at e
          obtain ⟨rfl, rfl, rfl⟩ := e
          rw [Addr.add_lit]
          exact hb.sub lo (hi - lo) (by omega)
end Go.Proofs.YtmlfbihlbiikeabGreatDoor
namespace Go.Proofs.YtmlfbihlbiikeabGreatDoor
open Go.RowKit
end Go.Proofs.YtmlfbihlbiikeabGreatDoor
namespace Go.Proofs.YtmlfbihlbiikeabGreatDoor

theorem pcs_len (b : List UInt8) : ∀ (f p : Nat), (pcsF f b p).length ≤ f
  | 0, _ => Nat.le_refl _
  | f + 1, p => by
    unfold pcsF
    split
    · simp
    · split
      · have := pcs_len b f (p + leftN p)
        omega
      · split
        · simp
        · have := pcs_len b f (pcAt b p).behind
          simp
          omega
theorem pcs_few (b : List UInt8) : (pcs b 0).length ≤ b.length := by
  have := pcs_len b (b.length - 0) 0
  unfold pcs
  omega
end Go.Proofs.YtmlfbihlbiikeabGreatDoor
namespace Go.Proofs.YtmlfbihlbiikeabGreatDoor
set_option linter.unusedVariables false
set_option linter.unusedSimpArgs false
def sumL (l : List (List UInt8)) : Nat := (l.map List.length).sum
theorem sumL_append (l m : List (List UInt8)) : sumL (l ++ m) = sumL l + sumL m := by simp [sumL]
theorem sumL_mem {l : List (List UInt8)} {x : List UInt8} (h : x ∈ l) : x.length ≤ sumL l := by
  induction l with
  | nil => cases h
  | cons a r ih =>
    show x.length ≤ a.length + sumL r
    rcases List.mem_cons.1 h with rfl | h
    · omega
    · have := ih h
      omega
theorem rdL_sum (b : List UInt8) : ∀ (l : List Pc) (begun : Bool) (cur : List UInt8) (rs : List (List UInt8)) (size : Nat), sumL (rdL b l begun cur rs size).1 ≤ sumL rs + cur.length + (l.map Pc.n).sum
  | [], _, _, rs, _ => by
    show sumL rs ≤ _
    omega
  | x :: l, begun, cur, rs, size => by
    have hb : (x.body b).length ≤ x.n := by unfold Pc.body; rw [List.length_take]; omega
    unfold rdL
    rw [List.map_cons, List.sum_cons]
    split
    · show sumL rs ≤ _
      omega
    · split
      · show sumL rs ≤ _
        omega
      · split
        · have := rdL_sum b l false [] (rs ++ [cur ++ x.body b]) x.behind
          rw [sumL_append] at this
          simp only [sumL, List.map_cons, List.map_nil, List.sum_cons, List.sum_nil, List.length_append, List.length_nil] at this ⊢
          omega
        · have := rdL_sum b l true (cur ++ x.body b) rs size
          rw [List.length_append] at this
          omega
theorem pcsF_sum (b : List UInt8) : ∀ (f p : Nat), p ≤ b.length → ((pcsF f b p).map Pc.n).sum ≤ b.length - p
  | 0, p, _ => by simp [pcsF]
  | f + 1, p, hp => by
    unfold pcsF
    split
    · simp
    · rename_i h1
      split
      · by_cases h : p + leftN p ≤ b.length
        · have := pcsF_sum b f _ h
          omega
        · have hn : pcsF f b (p + leftN p) = [] := by
            cases f with
            | zero => rfl
            | succ f => unfold pcsF; rw [if_pos (by omega)]
          rw [hn]
          simp
      · have hok := pcAt_ok b p hp
        split
        · rename_i hf
          have h0 : (pcAt b p).n = 0 := by
            rcases hok with h | h
            · exact absurd h.1 hf
            · exact h.2.2.2.2
          simp [h0]
        · rename_i hf
          have hf0 : (pcAt b p).fault = 0 := by omega
          have hbe := pcAt_behind b p hf0
          have hbb : (pcAt b p).behind = (pcAt b p).off + (pcAt b p).n := by unfold Pc.behind; omega
          have hle : (pcAt b p).off + (pcAt b p).n ≤ b.length := by
            rcases hok with h | h
            · exact h.2.1
            · exact absurd hf0 h.1
          have := pcsF_sum b f (pcAt b p).behind (by omega)
          rw [List.map_cons, List.sum_cons]
          omega
theorem read_sum (b : List UInt8) : sumL (walRead b).1 ≤ b.length := by
  have h1 := rdL_sum b (pcs b 0) false [] [] 0
  have h2 := pcsF_sum b (b.length - 0) 0 (Nat.zero_le _)
  have h3 : sumL [] = 0 := rfl
  unfold walRead
  unfold pcs at h1 ⊢
  simp only [List.length_nil] at h1
  omega
theorem decS_app : ∀ (l m : List (List UInt8)) (s : PSt), decS s (l ++ m) = (decS s l).bind fun t => decS t m
  | [], m, s => rfl
  | a :: l, m, s => by
    show (decE a).bind (fun x => (stepS s x).bind fun t => decS t (l ++ m)) = ((decE a).bind fun x => (stepS s x).bind fun t => decS t l).bind _
    cases decE a with
    | none => rfl
    | some x =>
      show (stepS s x).bind (fun t => decS t (l ++ m)) = ((stepS s x).bind fun t => decS t l).bind _
      cases stepS s x with
      | none => rfl
      | some t => exact decS_app l m t
theorem decS_snoc : ∀ (l : List (List UInt8)) (b : List UInt8) (s : PSt), decS s (l ++ [b]) = (decS s l).bind fun t => (decE b).bind fun x => stepS t x
  | [], b, s => by
    show (decE b).bind (fun x => (stepS s x).bind fun t => some t) = (decE b).bind fun x => stepS s x
    cases decE b with
    | none => rfl
    | some x =>
      show (stepS s x).bind (fun t => some t) = stepS s x
      cases stepS s x <;> rfl
  | a :: l, b, s => by
    show (decE a).bind (fun x => (stepS s x).bind fun t => decS t (l ++ [b])) = ((decE a).bind fun x => (stepS s x).bind fun t => decS t l).bind _
    cases decE a with
    | none => rfl
    | some x =>
      show (stepS s x).bind (fun t => decS t (l ++ [b])) = ((stepS s x).bind fun t => decS t l).bind _
      cases stepS s x with
      | none => rfl
      | some t => exact decS_snoc l b t
theorem steps_few : ∀ (l : List PE) (s t : PSt), stepsS s l = some t → t.v.all.length ≤ s.v.all.length + 100 * l.length
  | [], s, t, h => by
    obtain rfl := Option.some.inj (show some s = some t from h)
    exact Nat.le_add_right _ _
  | x :: l, s, t, h => by
    have h' : (stepS s x).bind (fun u => stepsS u l) = some t := h
    cases hx : stepS s x with
    | none => rw [hx] at h'; cases h'
    | some u =>
      rw [hx, Option.bind_some] at h'
      have h1 := steps_few l u t h'
      obtain ⟨y, hy, rfl⟩ := stepS_some hx
      have h2 := all_grow hy
      obtain ⟨_, he, _⟩ := apply_zero hy
      have h3 := (PE.err_zero he).2.1
      have h5 : (s.turn x y).v = y := rfl
      rw [h5] at h1
      rw [List.length_cons]
      omega
end Go.Proofs.YtmlfbihlbiikeabGreatDoor
namespace Go.Proofs.YtmlfbihlbiikeabGreatDoor
set_option maxRecDepth 100000
open Go.RowKit
set_option linter.unusedVariables false
set_option linter.unusedSimpArgs false
abbrev TFsP : TypeId := 29
abbrev TStr : TypeId := 9
theorem BsAt.heldAt {w w' : World} {a : Option Addr} {n c : Nat} {bs : List UInt8} (h : BsAt w a n c bs) (hk : 0 < n → ∀ ad, a = some ad → w'.heap[ad.block]? = w.heap[ad.block]?) : BsAt w' a n c bs :=
  ⟨h.size, h.le, h.max, h.bare, fun hp => by
    obtain ⟨b, off, ha, hc⟩ := h.here hp
    have hs := hk hp _ ha
    refine ⟨b, off, ha, fun j hj => ?_⟩
    have := hc j hj
    simp only [World.cell?] at this ⊢
    rw [hs]
    exact this⟩
theorem removed_any {J : Face} (H : FsOk J) {i p : Nat} (name : ByteArray) {w : World} {R : Nat → Prop} {l r : Fss} {S : PFs} (hJ : J w R l r) (hl : l[i]? = some (p, S)) (hS : S.asked < 1000000) :
    Calls Tryz.prog 58 #[at_ p, .string name] w fun e w' => e = .returned (.int .i64 ((removedF name.data.toList S).2 : Nat)) ∧ J w' R (l.set i (p, (removedF name.data.toList S).1)) r ∧ Kp R w w' := by
  have HR : Hid (∀ W, J W R l r → Calls Tryz.prog 10 #[at_ p, .string name] W fun e w' =>
    ∃ a c, e = .returned (.tuple #[.slice a (S.read name.data.toList).1.length c, .int .i64 ((S.read name.data.toList).2 : Nat)]) ∧ J w' R l r ∧ Kp R W w') := fun W hW => (H.read i name hW hl).mono fun e w' ⟨a, c, h1, _, h3, h4⟩ => ⟨a, c, h1, H.less h3 fun k hk => .inl hk, h4⟩
  have HM : Hid (∀ W, J W R l r → Calls Tryz.prog 96 #[at_ p, .string name] W fun e w' => e = .returned (.int .i64 ((S.remove name.data.toList).2 : Nat)) ∧ J w' R (l.set i (p, (S.remove name.data.toList).1)) r ∧ Kp R W w') := fun W hW => H.remove i name hW hl hS
  have HD : Hid (removedF name.data.toList S = if (S.read name.data.toList).2 = 0 then S.remove name.data.toList else if (S.read name.data.toList).2 = 42 then (S, 0) else (S, (S.read name.data.toList).2)) := rfl
  have HJ : Hid (J w R l r ∧ l.set i (p, S) = l) := ⟨hJ, set_self_at hl⟩
  clear hJ
  generalize removedF name.data.toList S = o at HD ⊢
  generalize S.read name.data.toList = rd at HR HD
  generalize S.remove name.data.toList = rm at HM HD
  obtain ⟨rb, re⟩ := rd
  dsimp only at HR HD
  generalize rb.length = rn at HR
  go_enter Tryz.func58, Tryz.ntmps58
  go_wp2_with fail
  refine (HR.out _ HJ.out.1).mono ?_
  rintro _ w1 ⟨a1, c1, rfl, hJ1, hk1⟩
  have H1 : Hid (J w1 R l r ∧ Kp R w w1) := ⟨hJ1, hk1⟩
  clear hJ1 hk1 HR
  by_cases h0 : re = 0
  · subst h0
    have HO : Hid (o = rm) := by unfold Hid; rw [HD.out]; rfl
    go_wp2_with fail
    refine (HM.out _ H1.out.1).mono ?_
    rintro _ w2 ⟨rfl, hJ2, hk2⟩
    have H2 : Hid (J w2 R (l.set i (p, rm.1)) r ∧ Kp R w w2) := ⟨hJ2, H1.out.2.trans hk2⟩
    clear hJ2 hk2
    go_wp2
    go_ret
    rw [HO.out]
    exact ⟨rfl, H2.out⟩
  · have hb : ((re : Int) == 0) = false := beq_eq_false_iff_ne.2 (by omega)
    by_cases h2 : re = 42
    · subst h2
      have HO : Hid (o = (S, 0)) := by unfold Hid; rw [HD.out]; rfl
      go_wp2
      go_ret
      rw [HO.out]
      exact ⟨rfl, by rw [HJ.out.2]; exact H1.out.1, H1.out.2⟩
    · have hb2 : ((re : Int) == 42) = false := beq_eq_false_iff_ne.2 (by omega)
      have HO : Hid (o = (S, re)) := by unfold Hid; rw [HD.out, if_neg h0, if_neg h2]
      go_wp2
      go_ret
      rw [HO.out]
      exact ⟨rfl, by rw [HJ.out.2]; exact H1.out.1, H1.out.2⟩
section
variable {J : Face} {i p : Nat} {C : Nat → Prop} {W0 : World}
theorem write1_does (H : FsOk J) {bf bn : Nat} {name : ByteArray} (hf : C bf) (hn : C bn) (xf : Box W0 bf TFsP #[at_ p]) (xn : Box W0 bn TStr #[.string name]) : Does J i p C W0 (.func (.func 21) #[] #[at_ bf, at_ bn]) (fun S => S.create name.data.toList) := by
  refine ⟨_, _, _, rfl, fun W => enters_of Tryz.func21 (by kernel_rfl) rfl _ W, ?_⟩
  intro w R l r S hH hJ hl hS
  have c0 := (hH.box hf xf).cell 0
  have c1 := (hH.box hn xn).cell 0
  have HC := H.create i name hJ hl hS
  rw [show (#[] ++ #[at_ bf, at_ bn] : Array Value) = #[at_ bf, at_ bn] from by simp]
  go_enter Tryz.func21, Tryz.ntmps21
  go_wp2_with fail
  refine HC.mono ?_
  rintro _ w2 ⟨rfl, h2, h3⟩
  go_wp2
  go_ret
  exact ⟨rfl, h2, h3⟩
theorem laid1_does (H : FsOk J) {bf bn : Nat} {name : ByteArray} (hf : C bf) (hn : C bn) (xf : Box W0 bf TFsP #[at_ p]) (xn : Box W0 bn TStr #[.string name]) : Does J i p C W0 (.func (.func 57) #[] #[at_ bf, at_ bn]) (removedF name.data.toList) := by
  refine ⟨_, _, _, rfl, fun W => enters_of Tryz.func57 (by kernel_rfl) rfl _ W, ?_⟩
  intro w R l r S hH hJ hl hS
  have c0 := (hH.box hf xf).cell 0
  have c1 := (hH.box hn xn).cell 0
  have HC := removed_any H name hJ hl hS
  rw [show (#[] ++ #[at_ bf, at_ bn] : Array Value) = #[at_ bf, at_ bn] from by simp]
  go_enter Tryz.func57, Tryz.ntmps57
  go_wp2_with fail
  refine HC.mono ?_
  rintro _ w2 ⟨rfl, h2, h3⟩
  go_wp2
  go_ret
  exact ⟨rfl, h2, h3⟩
theorem laid2_does (H : FsOk J) {bf bn : Nat} {name : ByteArray} (hf : C bf) (hn : C bn) (xf : Box W0 bf TFsP #[at_ p]) (xn : Box W0 bn TStr #[.string name]) : Does J i p C W0 (.func (.func 59) #[] #[at_ bf, at_ bn]) (fun S => S.create name.data.toList) := by
  refine ⟨_, _, _, rfl, fun W => enters_of Tryz.func59 (by kernel_rfl) rfl _ W, ?_⟩
  intro w R l r S hH hJ hl hS
  have c0 := (hH.box hf xf).cell 0
  have c1 := (hH.box hn xn).cell 0
  have HC := H.create i name hJ hl hS
  rw [show (#[] ++ #[at_ bf, at_ bn] : Array Value) = #[at_ bf, at_ bn] from by simp]
  go_enter Tryz.func59, Tryz.ntmps59
  go_wp2_with fail
  refine HC.mono ?_
  rintro _ w2 ⟨rfl, h2, h3⟩
  go_wp2
  go_ret
  exact ⟨rfl, h2, h3⟩
theorem laid3_does (H : FsOk J) {bf bn bb : Nat} {name : ByteArray} {a : Option Addr} {n c : Nat} {bs : List UInt8} (hf : C bf) (hn : C bn) (hb : C bb) (xf : Box W0 bf TFsP #[at_ p]) (xn : Box W0 bn TStr #[.string name]) (xb : Box W0 bb 40 #[.slice a n c]) (ho : BsAt W0 a n c bs) (hr : 0 < n → ∀ ad, a = some ad → C ad.block) (hl : n ≤ 140737488355328) : Does J i p C W0 (.func (.func 60) #[] #[at_ bf, at_ bn, at_ bb]) (fun S => S.append name.data.toList bs) := by
  refine ⟨_, _, _, rfl, fun W => enters_of Tryz.func60 (by kernel_rfl) rfl _ W, ?_⟩
  intro w R l r S hH hJ hl0 hS
  have c0 := (hH.box hf xf).cell 0
  have c1 := (hH.box hn xn).cell 0
  have c2 := (hH.box hb xb).cell 0
  have hbs : BsAt w a n c bs := ho.heldAt fun hp ad e => hH.same _ (hr hp ad e)
  have HC := H.append i name a n c bs hJ hl0 hS hbs hl
  rw [show (#[] ++ #[at_ bf, at_ bn, at_ bb] : Array Value) = #[at_ bf, at_ bn, at_ bb] from by simp]
  go_enter Tryz.func60, Tryz.ntmps60
  go_wp2_with fail
  refine HC.mono ?_
  rintro _ w2 ⟨rfl, h2, h3⟩
  go_wp2
  go_ret
  exact ⟨rfl, h2, h3⟩
theorem laid4_does (H : FsOk J) {bf bn : Nat} {name : ByteArray} (hf : C bf) (hn : C bn) (xf : Box W0 bf TFsP #[at_ p]) (xn : Box W0 bn TStr #[.string name]) : Does J i p C W0 (.func (.func 61) #[] #[at_ bf, at_ bn]) (fun S => S.sync name.data.toList) := by
  refine ⟨_, _, _, rfl, fun W => enters_of Tryz.func61 (by kernel_rfl) rfl _ W, ?_⟩
  intro w R l r S hH hJ hl hS
  have c0 := (hH.box hf xf).cell 0
  have c1 := (hH.box hn xn).cell 0
  have HC := H.sync i name hJ hl hS
  rw [show (#[] ++ #[at_ bf, at_ bn] : Array Value) = #[at_ bf, at_ bn] from by simp]
  go_enter Tryz.func61, Tryz.ntmps61
  go_wp2_with fail
  refine HC.mono ?_
  rintro _ w2 ⟨rfl, h2, h3⟩
  go_wp2
  go_ret
  exact ⟨rfl, h2, h3⟩
theorem laid5_does (H : FsOk J) {bf bn bm : Nat} {name to' : ByteArray} (hf : C bf) (hn : C bn) (hm : C bm) (xf : Box W0 bf TFsP #[at_ p]) (xn : Box W0 bn TStr #[.string name]) (xm : Box W0 bm TStr #[.string to']) : Does J i p C W0 (.func (.func 62) #[] #[at_ bf, at_ bn, at_ bm]) (fun S => S.rename name.data.toList to'.data.toList) := by
  refine ⟨_, _, _, rfl, fun W => enters_of Tryz.func62 (by kernel_rfl) rfl _ W, ?_⟩
  intro w R l r S hH hJ hl hS
  have c0 := (hH.box hf xf).cell 0
  have c1 := (hH.box hn xn).cell 0
  have c2 := (hH.box hm xm).cell 0
  have HC := H.rename i name to' hJ hl hS
  rw [show (#[] ++ #[at_ bf, at_ bn, at_ bm] : Array Value) = #[at_ bf, at_ bn, at_ bm] from by simp]
  go_enter Tryz.func62, Tryz.ntmps62
  go_wp2_with fail
  refine HC.mono ?_
  rintro _ w2 ⟨rfl, h2, h3⟩
  go_wp2
  go_ret
  exact ⟨rfl, h2, h3⟩
theorem append1_does (H : FsOk J) {bf bn bb : Nat} {name : ByteArray} {a : Option Addr} {n c : Nat} {bs : List UInt8} (hf : C bf) (hn : C bn) (hb : C bb) (xf : Box W0 bf TFsP #[at_ p]) (xn : Box W0 bn TStr #[.string name]) (xb : Box W0 bb 40 #[.slice a n c]) (ho : BsAt W0 a n c bs) (hr : 0 < n → ∀ ad, a = some ad → C ad.block) (hl : n ≤ 140737488355328) : Does J i p C W0 (.func (.func 29) #[] #[at_ bf, at_ bn, at_ bb]) (fun S => S.append name.data.toList bs) := by
  refine ⟨_, _, _, rfl, fun W => enters_of Tryz.func29 (by kernel_rfl) rfl _ W, ?_⟩
  intro w R l r S hH hJ hl0 hS
  have c0 := (hH.box hf xf).cell 0
  have c1 := (hH.box hn xn).cell 0
  have c2 := (hH.box hb xb).cell 0
  have hbs : BsAt w a n c bs := ho.heldAt fun hp ad e => hH.same _ (hr hp ad e)
  have HC := H.append i name a n c bs hJ hl0 hS hbs hl
  rw [show (#[] ++ #[at_ bf, at_ bn, at_ bb] : Array Value) = #[at_ bf, at_ bn, at_ bb] from by simp]
  go_enter Tryz.func29, Tryz.ntmps29
  go_wp2_with fail
  refine HC.mono ?_
  rintro _ w2 ⟨rfl, h2, h3⟩
  go_wp2
  go_ret
  exact ⟨rfl, h2, h3⟩
theorem append2_does (H : FsOk J) {bf bn : Nat} {name : ByteArray} (hf : C bf) (hn : C bn) (xf : Box W0 bf TFsP #[at_ p]) (xn : Box W0 bn TStr #[.string name]) : Does J i p C W0 (.func (.func 31) #[] #[at_ bf, at_ bn]) (fun S => S.sync name.data.toList) := by
  refine ⟨_, _, _, rfl, fun W => enters_of Tryz.func31 (by kernel_rfl) rfl _ W, ?_⟩
  intro w R l r S hH hJ hl hS
  have c0 := (hH.box hf xf).cell 0
  have c1 := (hH.box hn xn).cell 0
  have HC := H.sync i name hJ hl hS
  rw [show (#[] ++ #[at_ bf, at_ bn] : Array Value) = #[at_ bf, at_ bn] from by simp]
  go_enter Tryz.func31, Tryz.ntmps31
  go_wp2_with fail
  refine HC.mono ?_
  rintro _ w2 ⟨rfl, h2, h3⟩
  go_wp2
  go_ret
  exact ⟨rfl, h2, h3⟩
theorem syncDir_does (H : FsOk J) : Does J i p C W0 (.func (.func 26) #[at_ p] #[]) (fun S => S.syncDir) := by
  refine ⟨_, _, _, rfl, fun W => enters_of Tryz.func26 (by kernel_rfl) rfl _ W, ?_⟩
  intro w R l r S hH hJ hl hS
  rw [show (#[at_ p] ++ #[] : Array Value) = #[at_ p] from by simp]
  exact H.syncDir i hJ hl hS
end
end Go.Proofs.YtmlfbihlbiikeabGreatDoor
