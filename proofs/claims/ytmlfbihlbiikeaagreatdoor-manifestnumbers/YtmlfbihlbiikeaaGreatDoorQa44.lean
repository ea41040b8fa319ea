/- The contract of manifest's Load. -/
import Derived.Test.YtmlfbihlbiikeaaGreatDoorQa20
import Derived.Test.YtmlfbihlbiikeaaGreatDoorQa19
import Derived.Test.YtmlfbihlbiikeaaGreatDoorQa21
import Derived.Test.YtmlfbihlbiikeaaGreatDoorQa43
import Derived.Test.YtmlfbihlbiikeaaGreatDoorQa22
namespace Go.Proofs.YtmlfbihlbiikeaaGreatDoor
set_option maxRecDepth 100000
open Go.RowKit Go.Shelf
set_option linter.unusedVariables false
set_option linter.unusedSimpArgs false
set_option maxHeartbeats 1000000 in
theorem mread_any {J : Face} (H : FsOk J) {i p : Nat} (name : ByteArray) (no : Nat) {w : World} {R : Nat → Prop} {l r : Fss} {S : PFs} (hJ : J w R l r) (hl : l[i]? = some (p, S)) :
    Calls Tryz.prog 46 #[at_ p, .string name, .int .i64 (no : Int)] w fun e w' => ∃ a c, e = .returned (.tuple #[.slice a (S.read name.data.toList).1.length c, .int .i64 (((if (S.read name.data.toList).2 = 42 then no else (S.read name.data.toList).2) : Nat) : Int)]) ∧ OwnB w' w.heap.size a (S.read name.data.toList).1.length c (S.read name.data.toList).1 ∧ J w' R l r ∧ Kp R w w' := by
  have HR := (H.read i name hJ hl).mono fun e w' ⟨a, c, h1, h2, h3, h4⟩ => (⟨a, c, h1, h2, H.less h3 fun k hk => .inl hk, h4⟩ : ∃ a c, e = Ending.returned (.tuple #[.slice a (S.read name.data.toList).1.length c, .int .i64 ((S.read name.data.toList).2 : Nat)]) ∧ OwnB w' w.heap.size a (S.read name.data.toList).1.length c (S.read name.data.toList).1 ∧ J w' R l r ∧ Kp R w w')
  clear hJ
  generalize S.read name.data.toList = rd at HR ⊢
  obtain ⟨rb, re⟩ := rd
  dsimp only at HR ⊢
  generalize rb.length = rn at HR ⊢
  by_cases h : re = 42
  · subst h
    rw [if_pos rfl]
    go_enter Tryz.func46, Tryz.ntmps46
    go_wp2_with fail
    refine HR.mono ?_
    rintro _ w1 ⟨a1, c1, rfl, ho1, hJ1, hk1⟩
    go_wp2
    try go_ret2
    exact ⟨a1, c1, ret2 rfl rfl, ho1, hJ1, hk1⟩
  · have hb : ((re : Int) == 42) = false := beq_eq_false_iff_ne.2 (by omega)
    rw [if_neg h]
    go_enter Tryz.func46, Tryz.ntmps46
    go_wp2_with fail
    refine HR.mono ?_
    rintro _ w1 ⟨a1, c1, rfl, ho1, hJ1, hk1⟩
    go_wp2
    try go_ret2
    exact ⟨a1, c1, ret2 rfl rfl, ho1, hJ1, hk1⟩
theorem load_end {J : Face} (H : FsOk J) {w W5 W Z : World} {R R2 : Nat → Prop} {l r : Fss} {p2 : Nat} (hJ : J W5 R2 l r) (hk : Kp R w W5) (hR : ∀ k, R k → R2 k) (hp : R2 p2) (hRw : ∀ k, R k → k ≠ p2) (hb : Below W5.heap.size W5 W) (hc : Chg (fun k => k = p2) W Z) :
    J Z (fun k => R k ∨ (W5.heap.size ≤ k ∧ k < Z.heap.size)) l r ∧ Kp R w Z := by
  have h1 : Chg R2 W5 Z := (Chg.of (R := R2) hb).andThen hc (fun k _ e => by rw [e]; exact hp)
  refine ⟨H.less (H.turn hJ h1) fun k hk => hk.elim (fun a => .inl (hR k a)) .inr, hk.trans ⟨h1.os, h1.tape, h1.output, h1.size, fun k hk hlt => ?_⟩⟩
  rw [hc.block k (Nat.lt_of_lt_of_le hlt hb.size) (hRw k hk), hb.block k hlt]
theorem read_is15 (a : Option Addr) (len cap : Nat) (b : List UInt8) (rs : List (List UInt8)) (size en : Nat) (w : World) (h : BsAt w a len cap b) (hl : len ≤ 140737488355328) (hc : (pcs b 0).length ≤ 1000000000000) (hr : walRead b = (rs, size, en)) :
    Calls Tryz.prog 48 #[.slice a len cap] w fun e w' => ∃ ra rc, e = .returned (.tuple #[.slice ra rs.length rc, .int .i64 (size : Int), .int .i64 (en : Int)]) ∧ OwnRs w' w.heap.size ra rs.length rc rs ∧ Below w.heap.size w w' := by
  have := read_any a len cap b w h hl hc
  rw [hr] at this
  exact this
def loadP (S : PFs) : PSt × Nat :=
  if (S.read curB).2 ≠ 0 then (zS, if (S.read curB).2 = 42 then 150 else (S.read curB).2)
  else if ¬ (Lib.hasSuffix (S.read curB).1 [10] = true ∧ (parseR (Lib.trimSuffix (S.read curB).1 [10])).1 = 3) then (zS, 151)
  else if (S.read (Lib.trimSuffix (S.read curB).1 [10])).2 ≠ 0 then (zS, if (S.read (Lib.trimSuffix (S.read curB).1 [10])).2 = 42 then 151 else (S.read (Lib.trimSuffix (S.read curB).1 [10])).2)
  else match toldP (parseR (Lib.trimSuffix (S.read curB).1 [10])).2 (S.read (Lib.trimSuffix (S.read curB).1 [10])).1 with
    | none => (zS, 151)
    | some t => (t, 0)
def Few (num : Nat) (b : List UInt8) : Prop := ∀ j s, decS (PSt.zero num) ((walRead b).1.take j) = some s → s.v.all.length < 60000
def LoadR (J : Face) (R : Nat → Prop) (l r : Fss) (w : World) (o : PSt × Nat) (e : Ending) (w' : World) : Prop :=
  ∃ t B, e = .returned (.tuple #[sV o.1 t, .int .i64 (o.2 : Nat)]) ∧ w.heap.size ≤ B ∧ OwnV w' B o.1.v t ∧ WfV o.1.v ∧ J w' (fun k => R k ∨ (B ≤ k ∧ k < w'.heap.size)) l r ∧ Kp R w w'
theorem zS_wf : WfV zS.v := fun n _ f hf => by cases hf
theorem LoadR.err {J : Face} {R : Nat → Prop} {l r : Fss} {w w' : World} {er B : Nat} (hJ : J w' (fun k => R k ∨ (B ≤ k ∧ k < w'.heap.size)) l r) (hB : w.heap.size ≤ B) (hk : Kp R w w') : LoadR J R l r w (zS, er) (.returned (.tuple #[sV zS sv0, .int .i64 (er : Int)])) w' :=
  ⟨sv0, B, rfl, hB, OwnV.none _ _, zS_wf, hJ, hk⟩
theorem idxBs {b off n c k : Nat} (hk : k < n) (W : World) : (Instr.indexAt 115 (.slice (some ⟨b, off, none⟩) n c) (.int .i64 (k : Int))).run Tryz.prog W = .ok (.pointer (some ⟨b, off + k, none⟩)) W := by
  have h1 : (0 : Int) ≤ (k : Int) ∧ (k : Int) < (n : Int) := by omega
  have hsz : (sizeOf (Tryz.prog.elem 115)).run Tryz.prog W = .ok 1 W := by kernel_rfl
  rw [run_indexAt_slice (P := Tryz.prog) (h := (by kernel_rfl : Tryz.prog.underlying 115 = some (.slice (Tryz.prog.elem 115)))), if_pos (by exact h1), hsz]
  simp [Result.andThen, Addr.add_lit]
set_option maxHeartbeats 4000000 in
theorem load_any {J : Face} (H : FsOk J) {i p : Nat} {w : World} {R : Nat → Prop} {l r : Fss} {S : PFs} (hJ : J w R l r) (hl : l[i]? = some (p, S)) (hg : Gl w) (hRw : ∀ k, R k → k < w.heap.size) (hR8 : ∀ g, g < 6 → R g)
    (hlen : (S.read curB).1.length ≤ 100000000 ∧ (S.read (Lib.trimSuffix (S.read curB).1 [10])).1.length ≤ 100000000) (hfew : Few (parseR (Lib.trimSuffix (S.read curB).1 [10])).2 (S.read (Lib.trimSuffix (S.read curB).1 [10])).1) :
    Calls Tryz.prog 20 #[at_ p] w (LoadR J R l r w (loadP S)) := by
  obtain ⟨W0, eW0, H0⟩ : ∃ W0, Hid (W0 = w.alloc (.cells (sA zS sv0) TSt)) ∧ Hid (Below w.heap.size w W0 ∧ Box W0 w.heap.size TSt (sA zS sv0) ∧ Gl W0) := ⟨_, rfl, (Below.refl _ _).alloc (Nat.le_refl _) _, Box.new _ _ _, hg.later ((Below.refl _ _).alloc (Nat.le_refl _) _)⟩
  have HNM := name_any 4 ⟨by decide, by decide⟩ 0 (by omega) W0 H0.out.2.2
  rw [show nameP 4 0 = curB from rfl] at HNM
  have HJ : Hid (J w R l r ∧ l[i]? = some (p, S) ∧ (∀ k, R k → k < w.heap.size) ∧ Gl w ∧ (∀ g, g < 6 → R g)) := ⟨hJ, hl, hRw, hg, hR8⟩
  have HP : Hid (loadP S = if (S.read curB).2 ≠ 0 then (zS, if (S.read curB).2 = 42 then 150 else (S.read curB).2)
    else if ¬ (Lib.hasSuffix (S.read curB).1 [10] = true ∧ (parseR (Lib.trimSuffix (S.read curB).1 [10])).1 = 3) then (zS, 151)
    else if (S.read (Lib.trimSuffix (S.read curB).1 [10])).2 ≠ 0 then (zS, if (S.read (Lib.trimSuffix (S.read curB).1 [10])).2 = 42 then 151 else (S.read (Lib.trimSuffix (S.read curB).1 [10])).2)
    else match toldP (parseR (Lib.trimSuffix (S.read curB).1 [10])).2 (S.read (Lib.trimSuffix (S.read curB).1 [10])).1 with
      | none => (zS, 151)
      | some t => (t, 0)) := rfl
  have HL1 : Hid ((S.read curB).1.length ≤ 100000000) := hlen.1
  have HLN : Hid ((S.read (Lib.trimSuffix (S.read curB).1 [10])).1.length ≤ 100000000) := hlen.2
  have HFW : Hid (Few (parseR (Lib.trimSuffix (S.read curB).1 [10])).2 (S.read (Lib.trimSuffix (S.read curB).1 [10])).1) := hfew
  clear hJ hl hg hRw hfew hR8 hlen
  generalize loadP S = o at HP ⊢
  go_enter Tryz.func20, Tryz.ntmps20
  go_wp2_with fail
  rw [show (w.alloc (Obj.cells #[Value.int IntKind.u64 0, Value.slice none 0 0, Value.slice none 0 0, Value.slice none 0 0, Value.slice none 0 0, Value.int IntKind.u64 0, Value.int IntKind.u64 0, Value.int IntKind.u64 0] TSt)) = W0 from eW0.out.symm]
  refine HNM.mono ?_
  rintro _ w2 ⟨rfl, hb2⟩
  have H2 : Hid (Below w.heap.size w w2 ∧ Box w2 w.heap.size TSt (sA zS sv0) ∧ J w2 (fun k => R k ∨ (w.heap.size ≤ k ∧ k < w2.heap.size)) l r) := by
    have hb := H0.out.1.trans (hb2.mono H0.out.1.size)
    exact ⟨hb, H0.out.2.1.kept (hb2.block _ H0.out.2.1.lt), H.turn HJ.out.1 (Chg.of hb)⟩
  clear hb2 H0 HNM eW0
  have HR1 := mread_any H (strOf curB) 150 H2.out.2.2 HJ.out.2.1
  rw [strOf_data] at HR1
  have hln1 := HL1.out
  clear HL1
  generalize S.read curB = rd at HR1 HP HFW HLN hln1
  obtain ⟨lb, le⟩ := rd
  dsimp only at HR1 HP HFW HLN
  dsimp only at hln1
  generalize hll : lb.length = ll at HR1 hln1
  have hlet : ∃ e1 : Nat, e1 = (if le = 42 then 150 else le) := ⟨_, rfl⟩
  obtain ⟨e1, he1⟩ := hlet
  rw [← he1] at HR1 HP
  go_wp2_with fail
  refine HR1.mono ?_
  rintro _ w3 ⟨a3, c3, rfl, ho3, hj3, hk3⟩
  have H3 : Hid (J w3 (fun k => R k ∨ (w.heap.size ≤ k ∧ k < w2.heap.size)) l r ∧ Kp R w w3 ∧ Box w3 w.heap.size TSt (sA zS sv0) ∧ OwnB w3 w2.heap.size a3 ll c3 lb ∧ w2.heap.size ≤ w3.heap.size ∧ w.heap.size < w2.heap.size ∧ Gl w3) := by
    have hlt := H2.out.2.1.lt
    have hkk := (Kp.of H2.out.1).trans (hk3.less (R' := R) fun k hk => .inl hk)
    refine ⟨hj3, hkk, H2.out.2.1.kept (hk3.block _ (.inr ⟨Nat.le_refl _, hlt⟩) hlt), ho3, hk3.size, hlt, HJ.out.2.2.2.1.kp hkk HJ.out.2.2.2.2⟩
  clear hj3 hk3 ho3 HR1 H2
  by_cases h1 : le = 0
  · subst h1
    rw [if_neg (by omega)] at he1
    subst he1
    have hbs := H3.out.2.2.2.1.bs
    have hcv := conv_of hbs
    have hcs : ∀ W : World, Calls Tryz.prog 47 #[.string (strOf lb), .string ⟨#[10]⟩] W fun e w' => e = .returned (.tuple #[.string (strOf (Lib.trimSuffix lb [10])), .bool (Lib.hasSuffix lb [10])]) ∧ w' = W := fun W => by
      have := Any.strings_CutSuffix csL (strOf lb) (strOf [10]) W (by rw [strOf_size]; omega)
      rw [strOf_data, strOf_data] at this
      exact this
    have hnl : (Lib.trimSuffix lb [10]).length ≤ 281474976710656 := Nat.le_trans (trimS_le _ _) (by omega)
    generalize Lib.trimSuffix lb [10] = nm at hcs hnl HP HFW HLN
    generalize Lib.hasSuffix lb [10] = en at hcs HP
    have HPA := parse_any nm hnl w3 H3.out.2.2.2.2.2.2
    generalize hpk : parseR nm = pkn at HPA HP HFW
    obtain ⟨pk, pn⟩ := pkn
    dsimp only at HPA HP HFW
    have HPK : Hid (parseR nm = (pk, pn)) := hpk
    clear hpk
    go_wp2_with fail
    refine (hcs _).mono ?_
    rintro _ wx ⟨rfl, hwx⟩
    rw [hwx]
    clear hcs hwx
    go_wp2_with fail
    refine HPA.mono ?_
    rintro _ w4 ⟨rfl, hb4⟩
    have H4 : Hid (Below w3.heap.size w3 w4 ∧ Box w4 w.heap.size TSt (sA zS sv0)) := ⟨hb4, H3.out.2.2.1.kept (hb4.block _ H3.out.2.2.1.lt)⟩
    clear hb4 HPA hbs hcv
    by_cases h2 : en = true ∧ pk = 3
    · obtain ⟨rfl, rfl⟩ := h2
      have HR2 : Hid (∀ W, W = w4 → Calls Tryz.prog 46 #[at_ p, .string (strOf nm), .int .i64 151] W fun e w' => ∃ a c, e = .returned (.tuple #[.slice a (S.read nm).1.length c, .int .i64 (((if (S.read nm).2 = 42 then 151 else (S.read nm).2) : Nat) : Int)]) ∧ OwnB w' w4.heap.size a (S.read nm).1.length c (S.read nm).1 ∧ J w' (fun k => R k ∨ (w.heap.size ≤ k ∧ k < w2.heap.size)) l r ∧ Kp (fun k => R k ∨ (w.heap.size ≤ k ∧ k < w2.heap.size)) w4 w') := fun W e => by
        subst e
        exact mread_any H (strOf nm) 151 (H.step H3.out.1 H4.out.1) HJ.out.2.1
      have HPC : Hid (o = if (S.read nm).2 ≠ 0 then (zS, if (S.read nm).2 = 42 then 151 else (S.read nm).2) else match toldP pn (S.read nm).1 with
        | none => (zS, 151)
        | some t => (t, 0)) := by
        unfold Hid
        rw [HP.out, if_neg (by simp), if_neg (by simp)]
      have hln2 := HLN.out
      clear HP HLN
      generalize S.read nm = rd2 at HR2 HPC HFW hln2
      obtain ⟨mb, me⟩ := rd2
      dsimp only at HR2 HPC HFW hln2
      generalize hml : mb.length = ml at HR2 hln2
      have hlet2 : ∃ e2 : Nat, e2 = (if me = 42 then 151 else me) := ⟨_, rfl⟩
      obtain ⟨e2, he2⟩ := hlet2
      rw [← he2] at HR2 HPC
      go_wp2_with fail
      refine (HR2.out _ rfl).mono ?_
      rintro _ w5 ⟨a5, c5, rfl, ho5, hj5, hk5⟩
      have H5 : Hid (J w5 (fun k => R k ∨ (w.heap.size ≤ k ∧ k < w2.heap.size)) l r ∧ Kp R w w5 ∧ Box w5 w.heap.size TSt (sA zS sv0) ∧ OwnB w5 w4.heap.size a5 ml c5 mb) := by
        have hs := H4.out.1.size
        have hlt := H3.out.2.2.2.2.2.1
        have h23 := H3.out.2.2.2.2.1
        exact ⟨hj5, (H3.out.2.1.trans (Kp.of H4.out.1)).trans (hk5.less fun k hk => .inl hk), H4.out.2.kept (hk5.block _ (.inr ⟨Nat.le_refl _, hlt⟩) H4.out.2.lt), ho5⟩
      clear hj5 hk5 ho5 HR2 H4
      by_cases h3 : me = 0
      · subst h3
        rw [if_neg (by omega)] at he2
        subst he2
        obtain ⟨rs, sz, ed, hwr⟩ : ∃ rs sz ed, walRead mb = (rs, sz, ed) := ⟨_, _, _, rfl⟩
        have hpf := pcs_few mb
        have HRD := read_is15 a5 ml c5 mb rs sz ed w5 H5.out.2.2.2.bs (by omega) (by omega) hwr
        have HSM : Hid (sumL rs ≤ 100000000) := by
          have h1 := read_sum mb
          rw [hwr] at h1
          dsimp only at h1
          unfold Hid
          omega
        have HT : Hid (toldP pn mb = if ed = 2 ∨ rs = [] then none else decS (PSt.zero pn) rs) := by
          unfold Hid toldP
          rw [hwr]
        have HF2 : Hid (∀ j s, decS (PSt.zero pn) (rs.take j) = some s → s.v.all.length < 60000) := by
          have := HFW.out
          unfold Few at this
          rw [hwr] at this
          exact this
        clear hwr hpf HFW
        go_wp2_with fail
        refine HRD.mono ?_
        rintro _ w6 ⟨ra, rc, rfl, hrs6, hb6⟩
        have H6 : Hid (Below w5.heap.size w5 w6 ∧ Box w6 w.heap.size TSt (sA zS sv0) ∧ RsAt w6 ra rs.length rc rs) := ⟨hb6, H5.out.2.2.1.kept (hb6.block _ H5.out.2.2.1.lt), hrs6.rs⟩
        clear hb6 hrs6 HRD
        by_cases h4 : ed = 2
        · subst h4
          have HO : Hid (o = (zS, 151)) := by unfold Hid; rw [HPC.out, if_neg (by simp), HT.out, if_pos (.inl rfl)]
          obtain ⟨r0, r1, r2, r3, r4, r5, r6, r7⟩ := H6.out.2.1.eight
          have rs : ∀ j, w6.frozen? ⟨w.heap.size, j, none⟩ = false := fun j => H6.out.2.1.soft j
          obtain ⟨Z, eZ, z0, z1, z2, z3, z4, z5, z6, z7, HZ⟩ := put8_all H6.out.2.1 (.int .u64 0) (.slice none 0 0) (.slice none 0 0) (.slice none 0 0) (.slice none 0 0) (.int .u64 0) (.int .u64 0) (.int .u64 0)
          have HF := load_end H H5.out.1 H5.out.2.1 (fun k hk => .inl hk) (.inr ⟨Nat.le_refl _, H3.out.2.2.2.2.2.1⟩) (fun k hk e => by have := HJ.out.2.2.1 k hk; omega) H6.out.1 HZ.out.2
          go_wp2
          rw [← eZ]
          refine bodyPost_ret (v := .tuple #[.agg #[.int .u64 0, .slice none 0 0, .slice none 0 0, .slice none 0 0, .slice none 0 0, .int .u64 0, .int .u64 0, .int .u64 0], .int .i64 151]) (by simp [results, Tryz.results20, go_sem, z0, z1, z2, z3, z4, z5, z6, z7]) rfl ?_
          rw [HO.out]
          exact LoadR.err HF.1 H5.out.2.1.size HF.2
        · have hd2 : ((ed : Int) == 2) = false := beq_eq_false_iff_ne.2 (by omega)
          by_cases h5 : rs.length = 0
          · have HO : Hid (o = (zS, 151)) := by unfold Hid; rw [HPC.out, if_neg (by simp), HT.out, if_pos (.inr (List.eq_nil_of_length_eq_zero h5))]
            have hd3 : ((rs.length : Int) == 0) = true := by simp [h5]
            obtain ⟨r0, r1, r2, r3, r4, r5, r6, r7⟩ := H6.out.2.1.eight
            have rs : ∀ j, w6.frozen? ⟨w.heap.size, j, none⟩ = false := fun j => H6.out.2.1.soft j
            obtain ⟨Z, eZ, z0, z1, z2, z3, z4, z5, z6, z7, HZ⟩ := put8_all H6.out.2.1 (.int .u64 0) (.slice none 0 0) (.slice none 0 0) (.slice none 0 0) (.slice none 0 0) (.int .u64 0) (.int .u64 0) (.int .u64 0)
            have HF := load_end H H5.out.1 H5.out.2.1 (fun k hk => .inl hk) (.inr ⟨Nat.le_refl _, H3.out.2.2.2.2.2.1⟩) (fun k hk e => by have := HJ.out.2.2.1 k hk; omega) H6.out.1 HZ.out.2
            go_wp2
            rw [← eZ]
            refine bodyPost_ret (v := .tuple #[.agg #[.int .u64 0, .slice none 0 0, .slice none 0 0, .slice none 0 0, .slice none 0 0, .int .u64 0, .int .u64 0, .int .u64 0], .int .i64 151]) (by simp [results, Tryz.results20, go_sem, z0, z1, z2, z3, z4, z5, z6, z7]) rfl ?_
            rw [HO.out]
            exact LoadR.err HF.1 H5.out.2.1.size HF.2
          · have hd3 : ((rs.length : Int) == 0) = false := beq_eq_false_iff_ne.2 (by omega)
            have HOK : Hid (o = match decS (PSt.zero pn) rs with
              | none => (zS, 151)
              | some t => (t, 0)) := by
              unfold Hid
              rw [HPC.out, if_neg (by simp), HT.out, if_neg (fun h => h.elim h4 (fun e => h5 (by rw [e]; rfl)))]
            obtain ⟨q, hq⟩ : ∃ q, Hid (q = w6.heap.size) := ⟨_, rfl⟩
            obtain ⟨W7, eW7, H7⟩ : ∃ W7, Hid (W7 = w6.alloc (.cells #[.int .u64 (pn : Int), .slice none 0 0, .slice none 0 0, .slice none 0 0, .slice none 0 0, .int .u64 0, .int .u64 0, .int .u64 0] TSt)) ∧ Hid (Below q w6 W7 ∧ Box W7 q TSt (sA (PSt.zero pn) sv0)) := by
              rw [hq.out]
              exact ⟨_, rfl, (Below.refl w6.heap.size w6).alloc (Nat.le_refl _) (.cells #[.int .u64 (pn : Int), .slice none 0 0, .slice none 0 0, .slice none 0 0, .slice none 0 0, .int .u64 0, .int .u64 0, .int .u64 0] TSt), Box.new _ _ _⟩
            have hq2 : w.heap.size < q := by
              have h1 := H5.out.2.2.1.lt
              have h2 := H6.out.1.size
              have h3 := hq.out
              omega
            have HRL : Hid (∀ k, (rs.getD k []).length ≤ 200000000000000) := fun k => by
              have h1 := HSM.out
              by_cases hk : k < rs.length
              · have h2 := sumL_mem (l := rs) (x := rs.getD k []) (by simp [List.getD, hk])
                omega
              · simp [List.getD, hk]
            have hmxr := H6.out.2.2.max
            have hler := H6.out.2.2.le
            unfold maxLen at hmxr
            go_wp2_with fail
            rw [← hq.out, ← eW7.out]
            clear eW7
            go_loopw [73] (fun x73 wr => ∃ (k : Nat) (sk : PSt) (tk : SV), k ≤ rs.length ∧ x73 = .int .i64 (k : Int) ∧ Hid (decS (PSt.zero pn) (rs.take k) = some sk ∧ Below q w6 wr ∧ Box wr q TSt (sA sk tk) ∧ OwnV wr (q + 1) sk.v tk ∧ WfV sk.v)) (fun x73 _ => rs.length - (intOf x73).toNat)
            case atStart => exact ⟨0, PSt.zero pn, sv0, Nat.zero_le _, rfl, rfl, H7.out.1, H7.out.2, OwnV.none _ _, zS_wf⟩
            case round =>
              obtain ⟨k, sk, tk, hk, rfl, HI⟩ := hrel
              have HB6 : Hid (Below w6.heap.size w6 wr) := by have := HI.out.2.1; rw [hq.out] at this; exact this
              have HRS : Hid (RsAt wr ra rs.length rc rs ∧ Box wr w.heap.size TSt (sA zS sv0)) := ⟨H6.out.2.2.below (Nat.le_refl _) HB6.out, H6.out.2.1.kept (HB6.out.block _ H6.out.2.1.lt)⟩
              by_cases hkn : k < rs.length
              · obtain ⟨b, off, hra, hcs⟩ := HRS.out.1.here (by omega)
                obtain ⟨aj, cj, hcell, hbs⟩ := hcs k hkn
                have hix := fun W => idxBs (b := b) (off := off) (c := rc) hkn W
                subst hra
                have hLE := learned_any sk tk aj (rs.getD k []).length cj (rs.getD k []) wr HI.out.2.2.2.1.at HI.out.2.2.2.2 (HF2.out k sk HI.out.1) hbs (HRL.out k)
                have HDS : Hid (decS (PSt.zero pn) (rs.take (k + 1)) = learnP sk (rs.getD k [])) := by
                  unfold Hid
                  rw [List.take_succ_eq_append_getElem hkn, decS_snoc, HI.out.1, Option.bind_some, show rs.getD k [] = rs[k] by simp [List.getD, hkn]]
                  rfl
                obtain ⟨d0, d1, d2, d3, d4, d5, d6, d7⟩ := HI.out.2.2.1.eight
                generalize rs.getD k [] = rj at hcell hbs hLE HDS
                clear hcs hbs
                go_wp2_with fail
                refine hLE.mono ?_
                rintro _ w8 ⟨hb8, ⟨hno, er, her, rfl⟩ | ⟨s8, t8, hso, hwf8, rfl, hov8⟩⟩
                · have HO : Hid (o = (zS, 151)) := by
                    have h9 : decS (PSt.zero pn) rs = none := by
                      have e := (List.take_append_drop (k + 1) rs).symm
                      rw [e, decS_app, HDS.out, hno]
                      rfl
                    unfold Hid
                    rw [HOK.out, h9]
                  have H8 : Hid (Below w5.heap.size w5 w8 ∧ Box w8 w.heap.size TSt (sA zS sv0)) := ⟨(H6.out.1.trans (HB6.out.mono H6.out.1.size)).trans (hb8.mono (Nat.le_trans H6.out.1.size HB6.out.size)), HRS.out.2.kept (hb8.block _ HRS.out.2.lt)⟩
                  have hb : ((er : Int) != 0) = true := by simp; omega
                  have hqw8 : q < w8.heap.size := Nat.lt_of_lt_of_le HI.out.2.2.1.lt hb8.size
                  have H8q : Hid (Box w8 q TSt (sA sk tk)) := HI.out.2.2.1.kept (hb8.block _ HI.out.2.2.1.lt)
                  clear hb8 hno hLE d0 d1 d2 d3 d4 d5 d6 d7
                  have hqn : w.heap.size ≠ q := by omega
                  have rq : ∀ j, w8.frozen? ⟨q, j, none⟩ = false := fun j => H8q.out.soft j
                  obtain ⟨q0, q1, q2, q3, q4, q5, q6, q7⟩ := H8q.out.eight
                  obtain ⟨Z1, eZ1, y0, y1, y2, y3, y4, y5, y6, y7, HZ1⟩ := put8_all H8q.out (.int .u64 (zS.num : Int)) (.slice (sv0.a 0) (zS.v 0).length (sv0.c 0)) (.slice (sv0.a 1) (zS.v 1).length (sv0.c 1)) (.slice (sv0.a 2) (zS.v 2).length (sv0.c 2)) (.slice (sv0.a 3) (zS.v 3).length (sv0.c 3)) (.int .u64 (zS.log : Int)) (.int .u64 (zS.next : Int)) (.int .u64 (zS.last : Int))
                  have H9 : Hid (Box Z1 w.heap.size TSt (sA zS sv0)) := H8.out.2.kept (HZ1.out.2.block _ H8.out.2.lt hqn)
                  obtain ⟨r0, r1, r2, r3, r4, r5, r6, r7⟩ := H9.out.eight
                  have rs : ∀ j, Z1.frozen? ⟨w.heap.size, j, none⟩ = false := fun j => H9.out.soft j
                  obtain ⟨Z, eZ, z0, z1, z2, z3, z4, z5, z6, z7, HZ⟩ := put8_all H9.out (.int .u64 0) (.slice none 0 0) (.slice none 0 0) (.slice none 0 0) (.slice none 0 0) (.int .u64 0) (.int .u64 0) (.int .u64 0)
                  have hqw5 : w5.heap.size ≤ q := by rw [hq.out]; exact H6.out.1.size
                  have HB9 : Hid (Below w5.heap.size w5 Z1) := ⟨HZ1.out.2.os.trans H8.out.1.os, HZ1.out.2.tape.trans H8.out.1.tape, HZ1.out.2.output.trans H8.out.1.output, Nat.le_trans H8.out.1.size HZ1.out.2.size, fun k hk => (HZ1.out.2.block k (Nat.lt_of_lt_of_le hk H8.out.1.size) (by omega)).trans (H8.out.1.block k hk)⟩
                  have HF := load_end H H5.out.1 H5.out.2.1 (fun k hk => .inl hk) (.inr ⟨Nat.le_refl _, H3.out.2.2.2.2.2.1⟩) (fun k hk e => by have := HJ.out.2.2.1 k hk; omega) HB9.out HZ.out.2
                  go_upto_if 84 with fail
                  rw [← eZ1]
                  clear eZ1
                  go_wp2
                  rw [← eZ]
                  refine bodyPost_ret (v := .tuple #[.agg #[.int .u64 0, .slice none 0 0, .slice none 0 0, .slice none 0 0, .slice none 0 0, .int .u64 0, .int .u64 0, .int .u64 0], .int .i64 151]) (by simp [results, Tryz.results20, go_sem, z0, z1, z2, z3, z4, z5, z6, z7]) rfl ?_
                  rw [HO.out]
                  exact LoadR.err HF.1 H5.out.2.1.size HF.2
                · have hqw8 : q < w8.heap.size := Nat.lt_of_lt_of_le HI.out.2.2.1.lt hb8.size
                  have H8q : Hid (Box w8 q TSt (sA sk tk)) := HI.out.2.2.1.kept (hb8.block _ HI.out.2.2.1.lt)
                  have hqr : q < wr.heap.size := HI.out.2.2.1.lt
                  have rq : ∀ j, w8.frozen? ⟨q, j, none⟩ = false := fun j => H8q.out.soft j
                  obtain ⟨e0, e1, e2, e3, e4, e5, e6, e7⟩ := H8q.out.eight
                  obtain ⟨Z1, eZ1, y0, y1, y2, y3, y4, y5, y6, y7, HZ1⟩ := put8_all H8q.out (.int .u64 (s8.num : Int)) (.slice (t8.a 0) (s8.v 0).length (t8.c 0)) (.slice (t8.a 1) (s8.v 1).length (t8.c 1)) (.slice (t8.a 2) (s8.v 2).length (t8.c 2)) (.slice (t8.a 3) (s8.v 3).length (t8.c 3)) (.int .u64 (s8.log : Int)) (.int .u64 (s8.next : Int)) (.int .u64 (s8.last : Int))
                  have HNX : Hid (decS (PSt.zero pn) (rs.take (k + 1)) = some s8 ∧ Below q w6 Z1 ∧ Box Z1 q TSt (sA s8 t8) ∧ OwnV Z1 (q + 1) s8.v t8 ∧ WfV s8.v) := by
                    refine ⟨HDS.out.trans hso, ?_, HZ1.out.1, (hov8.kept15 (w' := Z1) fun k hk hB => HZ1.out.2.block k hk (by omega)).lower (by omega), hwf8⟩
                    have h1 := HI.out.2.1.trans (hb8.mono (Nat.le_of_lt hqr))
                    exact h1.trans (HZ1.out.2.below (fun k hk => by omega) (Nat.le_of_lt hqw8))
                  clear hb8 hso hLE d0 d1 d2 d3 d4 d5 d6 d7 hov8 hwf8
                  go_wp2_with fail
                  rw [← eZ1]
                  go_roundw
                  case rel => exact ⟨k + 1, s8, t8, hkn, by go_num, HNX.out⟩
                  case measure => simp only [intOf]; omega
              · obtain rfl : k = rs.length := by omega
                obtain ⟨d0, d1, d2, d3, d4, d5, d6, d7⟩ := HI.out.2.2.1.eight
                obtain ⟨r0, r1, r2, r3, r4, r5, r6, r7⟩ := HRS.out.2.eight
                have rsf : ∀ j, wr.frozen? ⟨w.heap.size, j, none⟩ = false := fun j => HRS.out.2.soft j
                have HO : Hid (o = (sk, 0)) := by
                  have h9 := HI.out.1
                  rw [List.take_length] at h9
                  unfold Hid
                  rw [HOK.out, h9]
                obtain ⟨Z, eZ, z0, z1, z2, z3, z4, z5, z6, z7, HZ⟩ := put8_all HRS.out.2 (.int .u64 (sk.num : Int)) (.slice (tk.a 0) (sk.v 0).length (tk.c 0)) (.slice (tk.a 1) (sk.v 1).length (tk.c 1)) (.slice (tk.a 2) (sk.v 2).length (tk.c 2)) (.slice (tk.a 3) (sk.v 3).length (tk.c 3)) (.int .u64 (sk.log : Int)) (.int .u64 (sk.next : Int)) (.int .u64 (sk.last : Int))
                have HF := load_end H H5.out.1 H5.out.2.1 (fun k hk => .inl hk) (.inr ⟨Nat.le_refl _, H3.out.2.2.2.2.2.1⟩) (fun k hk e => by have := HJ.out.2.2.1 k hk; omega) (H6.out.1.trans (HB6.out.mono H6.out.1.size)) HZ.out.2
                have HOV : Hid (OwnV Z w5.heap.size sk.v tk) := by
                  have h1 := H6.out.1.size
                  have h2 := hq.out
                  exact (HI.out.2.2.2.1.kept15 (w' := Z) fun k hk hB => HZ.out.2.block k hk (by omega)).lower (by omega)
                go_wp2
                rw [← eZ]
                refine bodyPost_ret (v := .tuple #[sV sk tk, .int .i64 0]) (by simp [results, Tryz.results20, go_sem, z0, z1, z2, z3, z4, z5, z6, z7]) rfl ?_
                rw [HO.out]
                exact ⟨tk, w5.heap.size, rfl, H5.out.2.1.size, HOV.out, HI.out.2.2.2.2, HF.1, HF.2⟩
      · have hne : e2 ≠ 0 := by rw [he2]; split <;> omega
        have hb : ((e2 : Int) != 0) = true := by simp; omega
        have HO : Hid (o = (zS, e2)) := by unfold Hid; rw [HPC.out, if_pos h3]
        clear he2
        obtain ⟨r0, r1, r2, r3, r4, r5, r6, r7⟩ := H5.out.2.2.1.eight
        have rs : ∀ j, w5.frozen? ⟨w.heap.size, j, none⟩ = false := fun j => H5.out.2.2.1.soft j
        obtain ⟨Z, eZ, z0, z1, z2, z3, z4, z5, z6, z7, HZ⟩ := put8_all H5.out.2.2.1 (.int .u64 0) (.slice none 0 0) (.slice none 0 0) (.slice none 0 0) (.slice none 0 0) (.int .u64 0) (.int .u64 0) (.int .u64 0)
        have HF := load_end H H5.out.1 H5.out.2.1 (fun k hk => .inl hk) (.inr ⟨Nat.le_refl _, H3.out.2.2.2.2.2.1⟩) (fun k hk e => by have := HJ.out.2.2.1 k hk; omega) (Below.refl _ w5) HZ.out.2
        go_wp2
        rw [← eZ]
        refine bodyPost_ret (v := .tuple #[.agg #[.int .u64 0, .slice none 0 0, .slice none 0 0, .slice none 0 0, .slice none 0 0, .int .u64 0, .int .u64 0, .int .u64 0], .int .i64 (e2 : Int)]) (by simp [results, Tryz.results20, go_sem, z0, z1, z2, z3, z4, z5, z6, z7]) rfl ?_
        rw [HO.out]
        exact LoadR.err HF.1 H5.out.2.1.size HF.2
    · have HO : Hid (o = (zS, 151)) := by unfold Hid; rw [HP.out, if_neg (by simp), if_pos h2]
      cases en with
      | true =>
        have hp : (pk != 3) = true := by
          have h3 : pk ≠ 3 := fun e => h2 ⟨rfl, e⟩
          simpa using h3
        clear h2
        obtain ⟨r0, r1, r2, r3, r4, r5, r6, r7⟩ := H4.out.2.eight
        have rs : ∀ j, w4.frozen? ⟨w.heap.size, j, none⟩ = false := fun j => H4.out.2.soft j
        obtain ⟨Z, eZ, z0, z1, z2, z3, z4, z5, z6, z7, HZ⟩ := put8_all H4.out.2 (.int .u64 0) (.slice none 0 0) (.slice none 0 0) (.slice none 0 0) (.slice none 0 0) (.int .u64 0) (.int .u64 0) (.int .u64 0)
        have HF := load_end H H3.out.1 H3.out.2.1 (fun k hk => .inl hk) (.inr ⟨Nat.le_refl _, H3.out.2.2.2.2.2.1⟩) (fun k hk e => by have := HJ.out.2.2.1 k hk; omega) H4.out.1 HZ.out.2
        go_wp2
        rw [← eZ]
        refine bodyPost_ret (v := .tuple #[.agg #[.int .u64 0, .slice none 0 0, .slice none 0 0, .slice none 0 0, .slice none 0 0, .int .u64 0, .int .u64 0, .int .u64 0], .int .i64 151]) (by simp [results, Tryz.results20, go_sem, z0, z1, z2, z3, z4, z5, z6, z7]) rfl ?_
        rw [HO.out]
        exact LoadR.err HF.1 H3.out.2.1.size HF.2
      | false =>
        clear h2
        obtain ⟨r0, r1, r2, r3, r4, r5, r6, r7⟩ := H4.out.2.eight
        have rs : ∀ j, w4.frozen? ⟨w.heap.size, j, none⟩ = false := fun j => H4.out.2.soft j
        obtain ⟨Z, eZ, z0, z1, z2, z3, z4, z5, z6, z7, HZ⟩ := put8_all H4.out.2 (.int .u64 0) (.slice none 0 0) (.slice none 0 0) (.slice none 0 0) (.slice none 0 0) (.int .u64 0) (.int .u64 0) (.int .u64 0)
        have HF := load_end H H3.out.1 H3.out.2.1 (fun k hk => .inl hk) (.inr ⟨Nat.le_refl _, H3.out.2.2.2.2.2.1⟩) (fun k hk e => by have := HJ.out.2.2.1 k hk; omega) H4.out.1 HZ.out.2
        go_wp2
        rw [← eZ]
        refine bodyPost_ret (v := .tuple #[.agg #[.int .u64 0, .slice none 0 0, .slice none 0 0, .slice none 0 0, .slice none 0 0, .int .u64 0, .int .u64 0, .int .u64 0], .int .i64 151]) (by simp [results, Tryz.results20, go_sem, z0, z1, z2, z3, z4, z5, z6, z7]) rfl ?_
        rw [HO.out]
        exact LoadR.err HF.1 H3.out.2.1.size HF.2
  · have hne : e1 ≠ 0 := by rw [he1]; split <;> omega
    have hb : ((e1 : Int) != 0) = true := by simp; omega
    have HO : Hid (o = (zS, e1)) := by unfold Hid; rw [HP.out, if_pos h1]
    clear he1
    obtain ⟨r0, r1, r2, r3, r4, r5, r6, r7⟩ := H3.out.2.2.1.eight
    have rs : ∀ j, w3.frozen? ⟨w.heap.size, j, none⟩ = false := fun j => H3.out.2.2.1.soft j
    obtain ⟨Z, eZ, z0, z1, z2, z3, z4, z5, z6, z7, HZ⟩ := put8_all H3.out.2.2.1 (.int .u64 0) (.slice none 0 0) (.slice none 0 0) (.slice none 0 0) (.slice none 0 0) (.int .u64 0) (.int .u64 0) (.int .u64 0)
    have HF := load_end H H3.out.1 H3.out.2.1 (fun k hk => .inl hk) (.inr ⟨Nat.le_refl _, H3.out.2.2.2.2.2.1⟩) (fun k hk e => by have := HJ.out.2.2.1 k hk; omega) (Below.refl _ w3) HZ.out.2
    go_wp2
    rw [← eZ]
    refine bodyPost_ret (v := .tuple #[.agg #[.int .u64 0, .slice none 0 0, .slice none 0 0, .slice none 0 0, .slice none 0 0, .int .u64 0, .int .u64 0, .int .u64 0], .int .i64 (e1 : Int)]) (by simp [results, Tryz.results20, go_sem, z0, z1, z2, z3, z4, z5, z6, z7]) rfl ?_
    rw [HO.out]
    exact LoadR.err HF.1 H3.out.2.1.size HF.2
end Go.Proofs.YtmlfbihlbiikeaaGreatDoor
