/- The contract of edit.Check. -/
import Derived.Test.YtmlfbihlbiikeaaGreatDoorQa05
import Derived.Test.YtmlfbihlbiikeaaGreatDoorQa04
namespace Go.Proofs.YtmlfbihlbiikeaaGreatDoor
open Go.RowKit
set_option linter.unusedVariables false
set_option linter.unusedSimpArgs false
theorem Box.five {w : World} {p : Nat} {x : PE} {s : SE} (h : Box w p TE (eA x s)) : w.cell? ⟨p, 0, none⟩ = some (.int .u64 (x.log : Int)) ∧ w.cell? ⟨p, 1, none⟩ = some (.int .u64 (x.next : Int)) ∧ w.cell? ⟨p, 2, none⟩ = some (.int .u64 (x.last : Int)) ∧ w.cell? ⟨p, 3, none⟩ = some (.slice s.a x.dels.length s.c) ∧ w.cell? ⟨p, 4, none⟩ = some (.slice s.a' x.adds.length s.c') := ⟨h.cell 0, h.cell 1, h.cell 2, h.cell 3, h.cell 4⟩
theorem PE.err_many {x : PE} (h : 20000 < x.dels.length ∨ 100 < x.adds.length) : x.err = 131 := by unfold PE.err; rw [if_pos h]
theorem PE.err_file {x : PE} (h : ¬ (20000 < x.dels.length ∨ 100 < x.adds.length)) (h2 : 1099511627776 < x.log ∨ 1099511627776 < x.next) : x.err = 132 := by unfold PE.err; rw [if_neg h, if_pos h2]
theorem PE.err_seq {x : PE} (h : ¬ (20000 < x.dels.length ∨ 100 < x.adds.length)) (h2 : ¬ (1099511627776 < x.log ∨ 1099511627776 < x.next)) (h3 : 72057594037927935 < x.last) : x.err = 22 := by unfold PE.err; rw [if_neg h, if_neg h2, if_pos h3]
theorem PE.err_rest {x : PE} (h : ¬ (20000 < x.dels.length ∨ 100 < x.adds.length)) (h2 : ¬ (1099511627776 < x.log ∨ 1099511627776 < x.next)) (h3 : ¬ 72057594037927935 < x.last) : x.err = if errL PG.err x.dels ≠ 0 then errL PG.err x.dels else errL PF.err x.adds := by unfold PE.err; rw [if_neg h, if_neg h2, if_neg h3]
set_option maxRecDepth 100000 in
set_option maxHeartbeats 2000000 in
theorem echeck_any (x : PE) (s : SE) (w : World) (h : EdAt w x s) (hw : WfE x) :
    Calls Tryz.prog 65 #[.agg #[.int .u64 (x.log : Int), .int .u64 (x.next : Int), .int .u64 (x.last : Int), .slice s.a x.dels.length s.c, .slice s.a' x.adds.length s.c']] w fun e w' => e = .returned (.int .i64 ((x.err : Nat) : Int)) ∧ Below w.heap.size w w' := by
  have HW : Hid (Below w.heap.size w (w.alloc (.cells (eA x s) TE)) ∧ Box (w.alloc (.cells (eA x s) TE)) w.heap.size TE (eA x s)) := ⟨(Below.refl _ _).alloc (Nat.le_refl _) _, Box.new _ _ _⟩
  have HS : Hid (EdAt w x s ∧ WfE x) := ⟨h, hw⟩
  obtain ⟨c0, c1, c2, c3, c4⟩ := HW.out.2.five
  have hm := h.gs.row.max
  have hl := h.gs.row.le
  have hm' := h.fs.row.max
  have hl' := h.fs.row.le
  unfold maxLen at hm hm'
  clear h hw c0 c1 c2 c3 c4
  by_cases h1 : 20000 < x.dels.length
  · have HE : Hid (x.err = 131) := PE.err_many (.inl h1)
    go_enter Tryz.func65, Tryz.ntmps65
    go_wp2
    go_ret
    rw [HE.out]
    exact ⟨ret1 rfl, HW.out.1⟩
  by_cases h2 : 100 < x.adds.length
  · have HE : Hid (x.err = 131) := PE.err_many (.inr h2)
    go_enter Tryz.func65, Tryz.ntmps65
    go_wp2
    go_ret
    rw [HE.out]
    exact ⟨ret1 rfl, HW.out.1⟩
  by_cases h3 : 1099511627776 < x.log
  · have HE : Hid (x.err = 132) := PE.err_file (by omega) (.inl h3)
    go_enter Tryz.func65, Tryz.ntmps65
    go_wp2
    go_ret
    rw [HE.out]
    exact ⟨ret1 rfl, HW.out.1⟩
  by_cases h4 : 1099511627776 < x.next
  · have HE : Hid (x.err = 132) := PE.err_file (by omega) (.inr h4)
    go_enter Tryz.func65, Tryz.ntmps65
    go_wp2
    go_ret
    rw [HE.out]
    exact ⟨ret1 rfl, HW.out.1⟩
  by_cases h5 : 72057594037927935 < x.last
  · have HE : Hid (x.err = 22) := PE.err_seq (by omega) (by omega) h5
    go_enter Tryz.func65, Tryz.ntmps65
    go_wp2
    go_ret
    rw [HE.out]
    exact ⟨ret1 rfl, HW.out.1⟩
  have HE : Hid (x.err = if errL PG.err x.dels ≠ 0 then errL PG.err x.dels else errL PF.err x.adds) := PE.err_rest (by omega) (by omega) h5
  generalize x.err = er at HE
  go_enter Tryz.func65, Tryz.ntmps65
  go_wp2_with fail
  go_loopw [36] (fun i wr => ∃ k : Nat, k ≤ x.dels.length ∧ i = .int .i64 (k : Int) ∧ Hid (Below w.heap.size w wr ∧ Box wr w.heap.size TE (eA x s) ∧ errL PG.err x.dels = errL PG.err (x.dels.drop k))) (fun i _ => x.dels.length - (intOf i).toNat)
  case atStart =>
    refine ⟨0, Nat.zero_le _, rfl, HW.out.1, ?_, by simp⟩
    have := HW.out.2
    exact this
  case round =>
    obtain ⟨k, hk, rfl, HR⟩ := hrel
    by_cases hkn : k < x.dels.length
    · have hkl := hkn
      obtain ⟨b, o, hidx, hlt, hcs⟩ := HS.out.1.gs.at hkl
      obtain ⟨c0, c1⟩ := hcs wr HR.out.1
      have HST : Hid (errL PG.err x.dels = if (x.dels[k]).err ≠ 0 then (x.dels[k]).err else errL PG.err (x.dels.drop (k + 1))) := by
        show _ = _
        rw [HR.out.2.2, errL_step hkl]
      clear hcs
      generalize x.dels[k] = g at c0 c1 HST
      have HC : Hid (∀ W, Calls Tryz.prog 111 #[.agg #[.int .i64 g.level, .int .u64 (g.num : Int)]] W fun e w' => e = .returned (.int .i64 ((g.err : Nat) : Int)) ∧ Below W.heap.size W w') := fun W => checkGone_any _ _ _
      have HX : Hid (Below w.heap.size w (wr.alloc (.cells (gA g) TG)) ∧ Box (wr.alloc (.cells (gA g) TG)) w.heap.size TE (eA x s)) := ⟨HR.out.1.alloc HR.out.1.size _, HR.out.2.1.alloc _⟩
      go_wp2_with fail
      refine (HC.out _).mono ?_
      rintro _ w2 ⟨rfl, hb2⟩
      have H2 : Hid (Below w.heap.size w w2 ∧ Box w2 w.heap.size TE (eA x s)) := ⟨HX.out.1.trans (hb2.mono HX.out.1.size), HX.out.2.kept (hb2.block _ HX.out.2.lt)⟩
      clear hb2 HX HC
      generalize g.err = ge at HST
      by_cases hge : ge = 0
      · subst hge
        go_wp2
        go_roundw
        case rel => exact ⟨k + 1, hkn, by go_num, H2.out.1, H2.out.2, HST.out⟩
        case measure => simp only [intOf]; omega
      · have hne : ((ge : Int) != 0) = true := by simp; omega
        have HF : Hid (er = ge) := by
          have e : errL PG.err x.dels = ge := by rw [HST.out, if_pos hge]
          show er = ge
          rw [HE.out, e, if_pos hge]
        go_wp2
        go_ret
        rw [HF.out]
        exact ⟨ret1 rfl, H2.out.1⟩
    · have HE2 : Hid (er = errL PF.err x.adds) := by
        have e : errL PG.err x.dels = 0 := by rw [HR.out.2.2, errL_end (by omega)]
        show er = _
        rw [HE.out, e, if_neg (by simp)]
      obtain ⟨c0, c1, c2, c3, c4⟩ := HR.out.2.1.five
      go_wp2_with fail
      clear c0 c1 c2 c3 c4
      go_loopw [49] (fun i wy => ∃ k : Nat, k ≤ x.adds.length ∧ i = .int .i64 (k : Int) ∧ Hid (Below w.heap.size w wy ∧ errL PF.err x.adds = errL PF.err (x.adds.drop k))) (fun i _ => x.adds.length - (intOf i).toNat)
      case atStart => exact ⟨0, Nat.zero_le _, rfl, HR.out.1, by simp⟩
      case round =>
        obtain ⟨j, hj, rfl, HQ⟩ := hrel
        by_cases hjn : j < x.adds.length
        · have hjl := hjn
          obtain ⟨b, o, hidx, hlt, hcs⟩ := HS.out.1.fs.at hjl
          obtain ⟨c0, c1, c2, c3, c4, c5, c6, c7, c8⟩ := hcs wr HQ.out.1
          have HST : Hid (errL PF.err x.adds = if (x.adds[j]).err ≠ 0 then (x.adds[j]).err else errL PF.err (x.adds.drop (j + 1))) := by
            show _ = _
            rw [HQ.out.2, errL_step hjl]
          have hwf := HS.out.2 x.adds[j] (List.getElem_mem hjl)
          clear hcs
          generalize x.adds[j] = f at c0 c1 c2 c3 c4 c5 c6 c7 c8 HST hwf
          have HC : Hid (∀ W, Calls Tryz.prog 112 #[.agg #[.int .i64 f.level, .int .u64 (f.num : Int), .int .i64 f.size, .string f.small.user, .int .u64 (f.small.seq : Int), .int .i64 f.small.kind, .string f.large.user, .int .u64 (f.large.seq : Int), .int .i64 f.large.kind]] W fun e w' => e = .returned (.int .i64 ((f.err : Nat) : Int)) ∧ Below W.heap.size W w') := fun W => checkFile_any _ _ hwf
          have HX : Hid (Below w.heap.size w (wr.alloc (.cells (fA f) TF))) := HQ.out.1.alloc HQ.out.1.size _
          clear hwf
          go_wp2_with fail
          refine (HC.out _).mono ?_
          rintro _ w2 ⟨rfl, hb2⟩
          have H2 : Hid (Below w.heap.size w w2) := HX.out.trans (hb2.mono HX.out.size)
          clear hb2 HX HC
          generalize f.err = ge at HST
          by_cases hge : ge = 0
          · subst hge
            go_wp2
            go_roundw
            case rel => exact ⟨j + 1, hjn, by go_num, H2.out, HST.out⟩
            case measure => simp only [intOf]; omega
          · have hne : ((ge : Int) != 0) = true := by simp; omega
            have HF : Hid (er = ge) := by
              show er = ge
              rw [HE2.out, HST.out, if_pos hge]
            go_wp2
            go_ret
            rw [HF.out]
            exact ⟨ret1 rfl, H2.out⟩
        · have HF : Hid (er = 0) := by
            show er = 0
            rw [HE2.out, HQ.out.2, errL_end (by omega)]
          go_wp2
          go_ret
          rw [HF.out]
          exact ⟨ret1 rfl, HQ.out.1⟩
end Go.Proofs.YtmlfbihlbiikeaaGreatDoor
namespace Go.Proofs.YtmlfbihlbiikeaaGreatDoor
open Go.RowKit
set_option linter.unusedVariables false
set_option linter.unusedSimpArgs false
set_option maxRecDepth 100000 in
theorem run_neq_file (l n z : Int) (s : ByteArray) (q k : Int) (t : ByteArray) (r j : Int) (W : World) : (binOp .neq 59 (.agg #[.int .i64 l, .int .u64 n, .int .i64 z, .string s, .int .u64 q, .int .i64 k, .string t, .int .u64 r, .int .i64 j]) (.agg #[.int .i64 l, .int .u64 n, .int .i64 z, .string s, .int .u64 q, .int .i64 k, .string t, .int .u64 r, .int .i64 j])).run Tryz.prog W = .ok (.bool false) W := by
  simp [go_sem, Tryz.underlying59, Tryz.underlying57, Tryz.underlying23, Tryz.underlying3, Tryz.underlying9]
end Go.Proofs.YtmlfbihlbiikeaaGreatDoor
namespace Go.Proofs.YtmlfbihlbiikeaaGreatDoor
set_option linter.unusedVariables false
set_option linter.unusedSimpArgs false
abbrev ul (s t : ByteArray) : Prop := Op.bytesLess s.toList t.toList = true
theorem ul_trans {a b c : ByteArray} (h : ul a b) (k : ul b c) : ul a c := less_trans _ _ _ h k
theorem ul_tri (a b : ByteArray) (h : ¬ ul a b) : a = b ∨ ul b a := by
  unfold ul at h ⊢
  rcases less_tri a.toList b.toList (by simpa using h) with h1 | h1
  · left
    rw [ByteArray.toList_eq, ByteArray.toList_eq] at h1
    cases a; cases b
    simp only [ByteArray.mk.injEq]
    exact Array.ext' h1
  · exact .inr h1
theorem ul_le' {a b c : ByteArray} (k : ul a b) (h : ¬ ul c b) : ul a c := by
  rcases ul_tri c b h with rfl | h1
  · exact k
  · exact ul_trans k h1
abbrev apartF (f g : PF) : Prop := ul f.large.user g.small.user
theorem PF.users {f : PF} (h : f.err = 0) : ¬ ul f.large.user f.small.user := by
  obtain ⟨_, _, _, _, _, hc⟩ := PF.err_zero h
  intro hu
  apply hc
  unfold IK.cmp
  have h1 := scmp_of_less hu
  rcases kcmp_spec f.large.user.toList f.small.user.toList (f.large.seq : Int) (f.small.seq : Int) f.large.kind f.small.kind with ⟨_, e⟩ | ⟨e, _⟩ | ⟨e, _⟩
  · rw [e, h1]
    decide
  · omega
  · omega
abbrev ahead (n : Nat) (f g : PF) : Prop := if n = 0 then g.num < f.num else apartF f g
theorem ahead_trans {n : Nat} {f g h : PF} (hg : g.err = 0) (h1 : ahead n f g) (h2 : ahead n g h) : ahead n f h := by
  unfold ahead at h1 h2 ⊢
  by_cases hn : n = 0
  · rw [if_pos hn] at h1 h2 ⊢
    omega
  · rw [if_neg hn] at h1 h2 ⊢
    exact ul_trans (ul_le' h1 (PF.users hg)) h2
theorem ahead_irr {n : Nat} {f : PF} (hf : f.err = 0) : ¬ ahead n f f := by
  unfold ahead
  by_cases hn : n = 0
  · rw [if_pos hn]
    omega
  · rw [if_neg hn]
    exact PF.users hf
theorem ahead_asym {n : Nat} {f g : PF} (hf : f.err = 0) (hg : g.err = 0) (h : ahead n f g) : ¬ ahead n g f := fun k => ahead_irr hf (ahead_trans hg h k)
theorem row_ext {α : Type} {R : α → α → Prop} : ∀ {l l' : List α}, l.Pairwise R → l'.Pairwise R → (∀ x ∈ l, ∀ y ∈ l, R x y → ¬ R y x) → (∀ x, x ∈ l ↔ x ∈ l') → l = l'
  | [], [], _, _, _, _ => rfl
  | [], y :: r', _, _, _, h => by have := (h y).2 (by simp); simp at this
  | x :: r, [], _, _, _, h => by have := (h x).1 (by simp); simp at this
  | x :: r, y :: r', h1, h2, ha, h => by
    have p1 := List.pairwise_cons.1 h1
    have p2 := List.pairwise_cons.1 h2
    have hxy : x = y := by
      rcases List.mem_cons.1 ((h x).1 (by simp)) with e | e
      · exact e
      · rcases List.mem_cons.1 ((h y).2 (by simp)) with e' | e'
        · exact e'.symm
        · exact absurd (p2.1 x e) (ha x (by simp) y (by simp [e']) (p1.1 y e'))
    subst hxy
    have hnx : ∀ z, z ∈ r → z ≠ x := fun z hz e => by
      subst e
      exact ha z (by simp) z (by simp) (p1.1 z hz) (p1.1 z hz)
    have hnx' : ∀ z, z ∈ r' → z ≠ x := fun z hz e => by
      subst e
      exact ha z (by simp) z (by simp) (p2.1 z hz) (p2.1 z hz)
    rw [row_ext p1.2 p2.2 (fun a ha' b hb' => ha a (by simp [ha']) b (by simp [hb'])) (fun z => ?_)]
    constructor
    · intro hz
      rcases List.mem_cons.1 ((h z).1 (by simp [hz])) with e | e
      · exact absurd e (hnx z hz)
      · exact e
    · intro hz
      rcases List.mem_cons.1 ((h z).2 (by simp [hz])) with e | e
      · exact absurd e (hnx' z hz)
      · exact e
abbrev PV := Nat → List PF
def PV.all (v : PV) : List PF := v 0 ++ (v 1 ++ (v 2 ++ v 3))
structure LvOk (n : Nat) (l : List PF) : Prop where
  each : ∀ f ∈ l, f.err = 0 ∧ f.level = (n : Int)
  row : l.Pairwise (ahead n)
structure VOk (v : PV) : Prop where
  lv : ∀ n, n < 4 → LvOk n (v n)
  one : (v.all.map PF.num).Nodup
theorem mem_all {v : PV} {f : PF} : f ∈ v.all ↔ ∃ n, n < 4 ∧ f ∈ v n := by
  unfold PV.all
  simp only [List.mem_append]
  constructor
  · rintro (h | h | h | h)
    · exact ⟨0, by omega, h⟩
    · exact ⟨1, by omega, h⟩
    · exact ⟨2, by omega, h⟩
    · exact ⟨3, by omega, h⟩
  · rintro ⟨n, hn, h⟩
    have : n = 0 ∨ n = 1 ∨ n = 2 ∨ n = 3 := by omega
    rcases this with rfl | rfl | rfl | rfl
    · exact .inl h
    · exact .inr (.inl h)
    · exact .inr (.inr (.inl h))
    · exact .inr (.inr (.inr h))
theorem VOk.level {v : PV} (h : VOk v) {n : Nat} (hn : n < 4) {f : PF} (hf : f ∈ v n) : f.err = 0 ∧ f.level = (n : Int) := (h.lv n hn).each f hf
theorem VOk.ext {v w : PV} (h : VOk v) (k : VOk w) (e : ∀ f, f ∈ v.all ↔ f ∈ w.all) : ∀ n, n < 4 → v n = w n := by
  intro n hn
  refine row_ext (h.lv n hn).row (k.lv n hn).row (fun x hx y hy => ahead_asym (h.level hn hx).1 (h.level hn hy).1) (fun f => ?_)
  constructor
  · intro hf
    obtain ⟨m, hm, hf'⟩ := mem_all.1 ((e f).1 (mem_all.2 ⟨n, hn, hf⟩))
    have h1 := (h.level hn hf).2
    have h2 := (k.level hm hf').2
    obtain rfl : n = m := by omega
    exact hf'
  · intro hf
    obtain ⟨m, hm, hf'⟩ := mem_all.1 ((e f).2 (mem_all.2 ⟨n, hn, hf⟩))
    have h1 := (k.level hn hf).2
    have h2 := (h.level hm hf').2
    obtain rfl : n = m := by omega
    exact hf'
def PV.upd (v : PV) (n : Nat) (l : List PF) : PV := fun m => if m = n then l else v m
theorem PV.upd_same (v : PV) (n : Nat) (l : List PF) : v.upd n l n = l := by simp [PV.upd]
theorem PV.upd_other (v : PV) {n m : Nat} (l : List PF) (h : m ≠ n) : v.upd n l m = v m := by simp [PV.upd, h]
def insF (n : Nat) (f : PF) : List PF → List PF
  | [] => [f]
  | g :: r => if ahead n f g then f :: g :: r else g :: insF n f r
theorem mem_insF {n : Nat} {f g : PF} : ∀ {l : List PF}, g ∈ insF n f l ↔ g = f ∨ g ∈ l
  | [] => by simp [insF]
  | x :: r => by
    unfold insF
    split
    · simp
    · rw [List.mem_cons, mem_insF, List.mem_cons]
      constructor
      · rintro (h | h | h)
        · exact .inr (.inl h)
        · exact .inl h
        · exact .inr (.inr h)
      · rintro (h | h | h)
        · exact .inr (.inl h)
        · exact .inl h
        · exact .inr (.inr h)
theorem insF_perm {n : Nat} {f : PF} : ∀ {l : List PF}, (insF n f l).Perm (f :: l)
  | [] => List.Perm.refl _
  | x :: r => by
    unfold insF
    split
    · exact List.Perm.refl _
    · exact ((insF_perm (n := n) (f := f) (l := r)).cons x).trans (List.Perm.swap f x r)
theorem insF_row {n : Nat} {f : PF} (hf : f.err = 0) : ∀ {l : List PF}, (∀ g ∈ l, g.err = 0) → (∀ g ∈ l, ahead n f g ∨ ahead n g f) → l.Pairwise (ahead n) → (insF n f l).Pairwise (ahead n)
  | [], _, _, _ => by simp [insF]
  | x :: r, he, hc, hp => by
    have p := List.pairwise_cons.1 hp
    unfold insF
    split
    · rename_i hx
      refine List.pairwise_cons.2 ⟨fun g hg => ?_, hp⟩
      rcases List.mem_cons.1 hg with rfl | hg
      · exact hx
      · exact ahead_trans (he x (by simp)) hx (p.1 g hg)
    · rename_i hx
      refine List.pairwise_cons.2 ⟨fun g hg => ?_, insF_row hf (fun g hg => he g (by simp [hg])) (fun g hg => hc g (by simp [hg])) p.2⟩
      rcases mem_insF.1 hg with rfl | hg
      · exact (hc x (by simp)).resolve_left hx
      · exact p.1 g hg
theorem upd_all {v : PV} {n : Nat} (hn : n < 4) {l : List PF} {f : PF} : f ∈ (v.upd n l).all ↔ f ∈ l ∨ ∃ m, m < 4 ∧ m ≠ n ∧ f ∈ v m := by
  rw [mem_all]
  constructor
  · rintro ⟨m, hm, hf⟩
    by_cases e : m = n
    · subst e
      rw [PV.upd_same] at hf
      exact .inl hf
    · rw [PV.upd_other _ _ e] at hf
      exact .inr ⟨m, hm, e, hf⟩
  · rintro (hf | ⟨m, hm, e, hf⟩)
    · exact ⟨n, hn, by rw [PV.upd_same]; exact hf⟩
    · exact ⟨m, hm, by rw [PV.upd_other _ _ e]; exact hf⟩
theorem upd_perm {v : PV} {n : Nat} (hn : n < 4) {l l' : List PF} (h : l.Perm l') : (v.upd n l).all.Perm (v.upd n l').all := by
  have hk : ∀ m, (v.upd n l m).Perm (v.upd n l' m) := fun m => by
    by_cases e : m = n
    · subst e
      rw [PV.upd_same, PV.upd_same]
      exact h
    · rw [PV.upd_other _ _ e, PV.upd_other _ _ e]
  unfold PV.all
  exact (hk 0).append ((hk 1).append ((hk 2).append (hk 3)))
theorem upd_cons {v : PV} {n : Nat} (hn : n < 4) {f : PF} {l : List PF} : (v.upd n (f :: l)).all.Perm (f :: (v.upd n l).all) := by
  have : n = 0 ∨ n = 1 ∨ n = 2 ∨ n = 3 := by omega
  unfold PV.all PV.upd
  rcases this with rfl | rfl | rfl | rfl
  · simp
  · simp only [Nat.reduceEqDiff, if_false, if_true]
    have := (List.perm_middle (a := f) (l₁ := v 0) (l₂ := l ++ (v 2 ++ v 3)))
    simp only [List.append_assoc, List.cons_append] at this ⊢
    exact this
  · simp only [Nat.reduceEqDiff, if_false, if_true]
    have := (List.perm_middle (a := f) (l₁ := v 0 ++ v 1) (l₂ := l ++ v 3))
    simp only [List.append_assoc, List.cons_append] at this ⊢
    exact this
  · simp only [Nat.reduceEqDiff, if_false, if_true]
    have := (List.perm_middle (a := f) (l₁ := v 0 ++ (v 1 ++ v 2)) (l₂ := l))
    simp only [List.append_assoc] at this ⊢
    exact this
theorem upd_self (v : PV) (n : Nat) : v.upd n (v n) = v := by
  funext m
  by_cases e : m = n
  · subst e; rw [PV.upd_same]
  · rw [PV.upd_other _ _ e]
structure Fits (v : PV) (f : PF) (n : Nat) : Prop where
  err : f.err = 0
  level : f.level = (n : Int)
  num : ∀ g ∈ v.all, g.num ≠ f.num
  over : n ≠ 0 → ∀ g ∈ v n, apartF f g ∨ apartF g f
theorem VOk.add {v : PV} (h : VOk v) {f : PF} {n : Nat} (hn : n < 4) (hf : Fits v f n) : VOk (v.upd n (insF n f (v n))) := by
  have hl := h.lv n hn
  refine ⟨fun m hm => ?_, ?_⟩
  · by_cases e : m = n
    · subst e
      rw [PV.upd_same]
      refine ⟨fun g hg => ?_, insF_row hf.err (fun g hg => (hl.each g hg).1) (fun g hg => ?_) hl.row⟩
      · rcases mem_insF.1 hg with rfl | hg
        · exact ⟨hf.err, hf.level⟩
        · exact hl.each g hg
      · unfold ahead
        by_cases h0 : m = 0
        · rw [if_pos h0, if_pos h0]
          have := hf.num g (mem_all.2 ⟨m, hm, hg⟩)
          omega
        · rw [if_neg h0, if_neg h0]
          exact hf.over h0 g hg
    · rw [PV.upd_other _ _ e]
      exact h.lv m hm
  · have hp : (v.upd n (insF n f (v n))).all.Perm (f :: v.all) := by
      have h1 := (upd_perm (v := v) hn (insF_perm (n := n) (f := f) (l := v n))).trans (upd_cons hn)
      rw [upd_self] at h1
      exact h1
    rw [(hp.map PF.num).nodup_iff, List.map_cons, List.nodup_cons]
    refine ⟨fun hm => ?_, h.one⟩
    obtain ⟨g, hg, e⟩ := List.mem_map.1 hm
    exact hf.num g hg e
theorem add_all {v : PV} {f g : PF} {n : Nat} (hn : n < 4) : g ∈ (v.upd n (insF n f (v n))).all ↔ g = f ∨ g ∈ v.all := by
  rw [upd_all hn, mem_insF, mem_all]
  constructor
  · rintro ((h | h) | ⟨m, hm, _, h⟩)
    · exact .inl h
    · exact .inr ⟨n, hn, h⟩
    · exact .inr ⟨m, hm, h⟩
  · rintro (h | ⟨m, hm, h⟩)
    · exact .inl (.inl h)
    · by_cases e : m = n
      · subst e; exact .inl (.inr h)
      · exact .inr ⟨m, hm, e, h⟩
def dropF (num : Nat) (l : List PF) : List PF := l.filter fun f => decide (f.num ≠ num)
theorem mem_dropF {num : Nat} {l : List PF} {f : PF} : f ∈ dropF num l ↔ f ∈ l ∧ f.num ≠ num := by
  unfold dropF
  rw [List.mem_filter]
  simp
theorem VOk.less {v w : PV} (h : VOk v) (hs : ∀ n, n < 4 → (w n).Sublist (v n)) : VOk w := by
  refine ⟨fun n hn => ⟨fun f hf => (h.lv n hn).each f ((hs n hn).subset hf), (h.lv n hn).row.sublist (hs n hn)⟩, h.one.sublist (List.Sublist.map _ ?_)⟩
  unfold PV.all
  exact (hs 0 (by omega)).append ((hs 1 (by omega)).append ((hs 2 (by omega)).append (hs 3 (by omega))))
theorem VOk.del {v : PV} (h : VOk v) (n num : Nat) : VOk (v.upd n (dropF num (v n))) := by
  refine h.less fun m hm => ?_
  by_cases e : m = n
  · subst e
    rw [PV.upd_same]
    exact List.filter_sublist
  · rw [PV.upd_other _ _ e]
    exact List.Sublist.refl _
end Go.Proofs.YtmlfbihlbiikeaaGreatDoor
namespace Go.Proofs.YtmlfbihlbiikeaaGreatDoor
set_option linter.unusedVariables false
set_option linter.unusedSimpArgs false
def pairB (n : Nat) : List PF → Bool
  | [] => true
  | f :: r => r.all (fun g => decide (ahead n f g)) && pairB n r
theorem pairB_iff {n : Nat} : ∀ {l : List PF}, pairB n l = true ↔ l.Pairwise (ahead n)
  | [] => by simp [pairB]
  | f :: r => by
    rw [pairB, Bool.and_eq_true, pairB_iff, List.pairwise_cons, List.all_eq_true]
    simp only [decide_eq_true_eq]
def okV (v : PV) : Bool := ([0, 1, 2, 3].all fun n => (v n).all (fun f => decide (f.err = 0 ∧ f.level = ((n : Nat) : Int))) && pairB n (v n)) && decide (v.all.map PF.num).Nodup
theorem okV_iff {v : PV} : okV v = true ↔ VOk v := by
  unfold okV
  rw [Bool.and_eq_true, decide_eq_true_iff, List.all_eq_true]
  have hk : ∀ n, (((v n).all (fun f => decide (f.err = 0 ∧ f.level = ((n : Nat) : Int))) && pairB n (v n)) = true ↔ LvOk n (v n)) := fun n => by
    rw [Bool.and_eq_true, pairB_iff, List.all_eq_true]
    simp only [decide_eq_true_eq]
    exact ⟨fun h => ⟨h.1, h.2⟩, fun h => ⟨h.each, h.row⟩⟩
  constructor
  · rintro ⟨h1, h2⟩
    refine ⟨fun n hn => ?_, h2⟩
    have hm : n ∈ [0, 1, 2, 3] := by simp; omega
    exact (hk n).1 (h1 n hm)
  · intro h
    refine ⟨fun n hn => ?_, h.one⟩
    have hn4 : n < 4 := by simp at hn; omega
    exact (hk n).2 (h.lv n hn4)
def hasU (g : PF) (a b : ByteArray) : Bool := decide (¬ ul b a ∧ ¬ ul g.large.user g.small.user ∧ ¬ ul b g.small.user ∧ ¬ ul g.large.user a)
theorem hasU_no {f g : PF} (hf : f.err = 0) (hg : g.err = 0) : hasU g f.small.user f.large.user = false ↔ apartF f g ∨ apartF g f := by
  unfold hasU
  rw [decide_eq_false_iff_not]
  have h1 := PF.users hf
  have h2 := PF.users hg
  constructor
  · intro h
    by_cases h3 : ul f.large.user g.small.user
    · exact .inl h3
    · by_cases h4 : ul g.large.user f.small.user
      · exact .inr h4
      · exact absurd ⟨h1, h2, h3, h4⟩ h
  · rintro (h | h) ⟨_, _, h3, h4⟩
    · exact h3 h
    · exact h4 h
def delV (v : PV) (d : PG) : Option PV := if (v d.level.toNat).any (fun f => decide (f.num = d.num)) = true then some (v.upd d.level.toNat (dropF d.num (v d.level.toNat))) else none
def delsV : PV → List PG → Option PV
  | v, [] => some v
  | v, d :: r => (delV v d).bind fun u => delsV u r
def addE (v : PV) (f : PF) : Nat :=
  if v.all.any (fun g => decide (g.num = f.num)) = true then 142
  else if f.level ≠ 0 ∧ (v f.level.toNat).any (fun g => hasU g f.small.user f.large.user) = true then 143 else 0
def addV (v : PV) (f : PF) : PV := v.upd f.level.toNat (insF f.level.toNat f (v f.level.toNat))
def noV : PV := fun _ => []
def addsV : PV → List PF → Nat × PV
  | v, [] => (0, v)
  | v, f :: r => if addE v f ≠ 0 then (addE v f, noV) else addsV (addV v f) r
def applyV (v : PV) (x : PE) : Nat × PV :=
  if okV v = false then (140, noV)
  else if x.err ≠ 0 then (x.err, noV)
  else match delsV v x.dels with
    | none => (141, noV)
    | some u => addsV u x.adds
theorem lev_nat {f : PF} (h : f.err = 0) : f.level.toNat < 4 ∧ f.level = ((f.level.toNat : Nat) : Int) := by
  obtain ⟨hg, _⟩ := PF.err_zero h
  obtain ⟨h1, h2, _, _⟩ := gErr_zero hg
  omega
theorem lev_nat' {d : PG} (h : d.err = 0) : d.level.toNat < 4 ∧ d.level = ((d.level.toNat : Nat) : Int) := by
  obtain ⟨h1, h2, _, _⟩ := gErr_zero h
  omega
theorem addE_fits {v : PV} (h : VOk v) {f : PF} (hf : f.err = 0) : addE v f = 0 ↔ Fits v f f.level.toNat := by
  obtain ⟨hn, hl⟩ := lev_nat hf
  have hany : v.all.any (fun g => decide (g.num = f.num)) = true ↔ ∃ g ∈ v.all, g.num = f.num := by simp
  have hov : (v f.level.toNat).any (fun g => hasU g f.small.user f.large.user) = true ↔ ∃ g ∈ v f.level.toNat, hasU g f.small.user f.large.user = true := by simp
  unfold addE
  constructor
  · intro he
    by_cases h1 : v.all.any (fun g => decide (g.num = f.num)) = true
    · rw [if_pos h1] at he; omega
    · rw [if_neg h1] at he
      by_cases h2 : f.level ≠ 0 ∧ (v f.level.toNat).any (fun g => hasU g f.small.user f.large.user) = true
      · rw [if_pos h2] at he; omega
      · refine ⟨hf, hl, fun g hg e => h1 (hany.2 ⟨g, hg, e⟩), fun h0 g hg => ?_⟩
        refine (hasU_no hf (h.level hn hg).1).1 ?_
        rw [← Bool.not_eq_true]
        intro hu
        exact h2 ⟨by omega, hov.2 ⟨g, hg, hu⟩⟩
  · intro hF
    have h1 : ¬ v.all.any (fun g => decide (g.num = f.num)) = true := fun hx => by
      obtain ⟨g, hg, e⟩ := hany.1 hx
      exact hF.num g hg e
    rw [if_neg h1, if_neg]
    rintro ⟨h0, hx⟩
    obtain ⟨g, hg, hu⟩ := hov.1 hx
    have := (hasU_no hf (h.level hn hg).1).2 (hF.over (by omega) g hg)
    rw [this] at hu
    cases hu
def Compat (f g : PF) : Prop := g.num ≠ f.num ∧ (f.level = g.level → f.level ≠ 0 → apartF f g ∨ apartF g f)
theorem Compat.symm {f g : PF} (h : Compat f g) : Compat g f := ⟨fun e => h.1 e.symm, fun e h0 => (h.2 e.symm (by omega)).symm⟩
theorem fits_iff {v : PV} (h : VOk v) {f : PF} (hf : f.err = 0) : Fits v f f.level.toNat ↔ ∀ g ∈ v.all, Compat f g := by
  obtain ⟨hn, hl⟩ := lev_nat hf
  constructor
  · intro hF g hg
    refine ⟨hF.num g hg, fun e h0 => ?_⟩
    obtain ⟨m, hm, hgm⟩ := mem_all.1 hg
    have := (h.level hm hgm).2
    obtain rfl : m = f.level.toNat := by omega
    exact hF.over (by omega) g hgm
  · intro hc
    refine ⟨hf, hl, fun g hg => (hc g hg).1, fun h0 g hg => ?_⟩
    have := (h.level hn hg).2
    exact (hc g (mem_all.2 ⟨_, hn, hg⟩)).2 (by omega) (by omega)
theorem VOk.compat {v : PV} (h : VOk v) {f g : PF} (hf : f ∈ v.all) (hg : g ∈ v.all) (hne : f ≠ g) : Compat f g := by
  have hnn : g.num ≠ f.num := by
    intro e
    have hp := h.one
    obtain ⟨i, hi, rfl⟩ := List.getElem_of_mem hf
    obtain ⟨j, hj, rfl⟩ := List.getElem_of_mem hg
    have : i = j := by
      have h1 := (List.nodup_iff_pairwise_ne.1 hp) 
      rcases Nat.lt_trichotomy i j with hlt | rfl | hlt
      · exact absurd (by rw [List.getElem_map, List.getElem_map]; exact e.symm) ((List.pairwise_iff_getElem.1 h1) i j (by simpa using hi) (by simpa using hj) hlt)
      · rfl
      · exact absurd (by rw [List.getElem_map, List.getElem_map]; exact e) ((List.pairwise_iff_getElem.1 h1) j i (by simpa using hj) (by simpa using hi) hlt)
    subst this
    exact hne rfl
  refine ⟨hnn, fun el h0 => ?_⟩
  obtain ⟨n, hn, hfn⟩ := mem_all.1 hf
  obtain ⟨m, hm, hgm⟩ := mem_all.1 hg
  have e1 := (h.level hn hfn).2
  have e2 := (h.level hm hgm).2
  obtain rfl : n = m := by omega
  obtain ⟨i, hi, rfl⟩ := List.getElem_of_mem hfn
  obtain ⟨j, hj, rfl⟩ := List.getElem_of_mem hgm
  have hr := List.pairwise_iff_getElem.1 (h.lv n hn).row
  have hn0 : n ≠ 0 := by omega
  rcases Nat.lt_trichotomy i j with hlt | rfl | hlt
  · have := hr i j hi hj hlt
    unfold ahead at this
    rw [if_neg hn0] at this
    exact .inl this
  · exact absurd rfl hne
  · have := hr j i hj hi hlt
    unfold ahead at this
    rw [if_neg hn0] at this
    exact .inr this
theorem addV_all {v : PV} {f g : PF} (hf : f.err = 0) : g ∈ (addV v f).all ↔ g = f ∨ g ∈ v.all := add_all (lev_nat hf).1
theorem adds_iff : ∀ {l : List PF} {v : PV}, VOk v → (∀ f ∈ l, f.err = 0) → ((addsV v l).1 = 0 ↔ l.Pairwise Compat ∧ ∀ f ∈ l, ∀ g ∈ v.all, Compat f g)
  | [], v, _, _ => by simp [addsV]
  | f :: r, v, h, he => by
    have hf := he f (by simp)
    have h1 := addE_fits h hf
    unfold addsV
    by_cases h0 : addE v f = 0
    · rw [if_neg (by omega)]
      have hfit := h1.1 h0
      have hok : VOk (addV v f) := h.add (lev_nat hf).1 hfit
      rw [adds_iff hok (fun g hg => he g (by simp [hg])), List.pairwise_cons]
      constructor
      · rintro ⟨p, q⟩
        refine ⟨⟨fun g hg => (q g hg f ((addV_all hf).2 (.inl rfl))).symm, p⟩, fun g hg k hk => ?_⟩
        rcases List.mem_cons.1 hg with rfl | hg
        · exact (fits_iff h hf).1 hfit k hk
        · exact q g hg k ((addV_all hf).2 (.inr hk))
      · rintro ⟨⟨p1, p2⟩, q⟩
        refine ⟨p2, fun g hg k hk => ?_⟩
        rcases (addV_all hf).1 hk with rfl | hk
        · exact (p1 g hg).symm
        · exact q g (by simp [hg]) k hk
    · rw [if_pos h0]
      constructor
      · intro e
        exact absurd e h0
      · rintro ⟨_, q⟩
        exact absurd (h1.2 ((fits_iff h hf).2 (fun g hg => q f (by simp) g hg))) h0
theorem adds_ok : ∀ {l : List PF} {v : PV}, VOk v → (∀ f ∈ l, f.err = 0) → (addsV v l).1 = 0 → VOk (addsV v l).2 ∧ ∀ g, g ∈ (addsV v l).2.all ↔ g ∈ l ∨ g ∈ v.all
  | [], v, h, _, _ => ⟨h, fun g => by simp [addsV]⟩
  | f :: r, v, h, he, h0 => by
    have hf := he f (by simp)
    unfold addsV at h0 ⊢
    by_cases hx : addE v f = 0
    · rw [if_neg (by omega)] at h0 ⊢
      obtain ⟨k1, k2⟩ := adds_ok (h.add (lev_nat hf).1 ((addE_fits h hf).1 hx)) (fun g hg => he g (by simp [hg])) h0
      refine ⟨k1, fun g => ?_⟩
      have := k2 g
      rw [show (v.upd f.level.toNat (insF f.level.toNat f (v f.level.toNat))) = addV v f from rfl] at this
      rw [this, addV_all hf, List.mem_cons]
      constructor
      · rintro (h | h | h)
        · exact .inl (.inr h)
        · exact .inl (.inl h)
        · exact .inr h
      · rintro ((h | h) | h)
        · exact .inr (.inl h)
        · exact .inl h
        · exact .inr (.inr h)
    · rw [if_pos hx] at h0
      exact absurd h0 hx
def Meant (d : PG) (f : PF) : Prop := f.num = d.num ∧ f.level = d.level
theorem delV_some {v u : PV} (h : VOk v) {d : PG} (hd : d.err = 0) (hu : delV v d = some u) : VOk u ∧ (∃ f ∈ v.all, Meant d f) ∧ ∀ g, g ∈ u.all ↔ g ∈ v.all ∧ ¬ Meant d g := by
  obtain ⟨hn, hl⟩ := lev_nat' hd
  unfold delV at hu
  split at hu
  · rename_i hany
    obtain rfl := Option.some.inj hu
    refine ⟨h.del _ _, ?_, fun g => ?_⟩
    · simp only [List.any_eq_true, decide_eq_true_eq] at hany
      obtain ⟨f, hf, e⟩ := hany
      exact ⟨f, mem_all.2 ⟨_, hn, hf⟩, e, by rw [(h.level hn hf).2]; omega⟩
    · rw [upd_all hn, mem_dropF, mem_all]
      constructor
      · rintro (⟨hg, he⟩ | ⟨m, hm, hne, hg⟩)
        · exact ⟨⟨_, hn, hg⟩, fun hm => he hm.1⟩
        · refine ⟨⟨m, hm, hg⟩, fun hx => ?_⟩
          have h1 := (h.level hm hg).2
          have h2 := hx.2
          omega
      · rintro ⟨⟨m, hm, hg⟩, hx⟩
        by_cases e : m = d.level.toNat
        · subst e
          exact .inl ⟨hg, fun e => hx ⟨e, by rw [(h.level hm hg).2]; omega⟩⟩
        · exact .inr ⟨m, hm, e, hg⟩
  · cases hu
theorem delV_none {v : PV} (h : VOk v) {d : PG} (hd : d.err = 0) (hu : delV v d = none) : ∀ f ∈ v.all, ¬ Meant d f := by
  obtain ⟨hn, hl⟩ := lev_nat' hd
  unfold delV at hu
  split at hu
  · cases hu
  · rename_i hany
    intro f hf hm
    obtain ⟨m, hm4, hfm⟩ := mem_all.1 hf
    have h1 := (h.level hm4 hfm).2
    have h2 := hm.2
    obtain rfl : m = d.level.toNat := by omega
    apply hany
    simp only [List.any_eq_true, decide_eq_true_eq]
    exact ⟨f, hfm, hm.1⟩
theorem dels_some : ∀ {l : List PG} {v u : PV}, VOk v → (∀ d ∈ l, d.err = 0) → delsV v l = some u → VOk u ∧ (∀ d ∈ l, ∃ f ∈ v.all, Meant d f) ∧ (∀ g, g ∈ u.all ↔ g ∈ v.all ∧ ∀ d ∈ l, ¬ Meant d g)
  | [], v, u, h, _, hu => by
    obtain rfl := Option.some.inj hu
    exact ⟨h, by simp, by simp⟩
  | d :: r, v, u, h, he, hu => by
    unfold delsV at hu
    cases h1 : delV v d with
    | none => rw [h1] at hu; cases hu
    | some v1 =>
      rw [h1, Option.bind_some] at hu
      obtain ⟨k1, k2, k3⟩ := delV_some h (he d (by simp)) h1
      obtain ⟨q1, q2, q3⟩ := dels_some k1 (fun e he' => he e (by simp [he'])) hu
      refine ⟨q1, fun e he' => ?_, fun g => ?_⟩
      · rcases List.mem_cons.1 he' with rfl | he'
        · exact k2
        · obtain ⟨f, hf, hm⟩ := q2 e he'
          exact ⟨f, ((k3 f).1 hf).1, hm⟩
      · rw [q3, k3]
        simp only [List.mem_cons, forall_eq_or_imp, and_assoc]
end Go.Proofs.YtmlfbihlbiikeaaGreatDoor
