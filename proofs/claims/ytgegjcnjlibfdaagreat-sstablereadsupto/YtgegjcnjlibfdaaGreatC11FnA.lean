/- The contracts of block's must, mayBe and shared. -/
import Derived.Test.YtgegjcnjlibfdaaGreatQa00
import Derived.Test.YtgegjcnjlibfdaaGreatC11PlainA
import Derived.WalkLawsBesides
import Derived.Handy
import Derived.BigQuiet
import Derived.Test.YtgegjcnjlibfdaaGreatC11MemA
import Derived.Test.YtgegjcnjlibfdaaGreatQa01
import Derived.Deep.RegionHeld3
import Derived.Test.YtgegjcnjlibfdaaGreatQa03
import Derived.Test.YtgegjcnjlibfdaaGreatQa04
namespace Go.Proofs.YtgegjcnjlibfdaaGreat
set_option maxRecDepth 100000
open Go.RowKit
set_option linter.unusedVariables false
set_option linter.unusedSimpArgs false
/-- How bytes that are no block's are given up. -/
def gaveUp : Ending := .panicked [{ v := .iface 28 (.int .i64 111), recovered := false }]
set_option maxRecDepth 100000 in
theorem must_yes (w : World) : Calls Tryz.prog 126 #[.bool true] w fun e w' => e = .returned (.tuple #[]) ∧ w = w' := by
  go_enter Tryz.func126, Tryz.ntmps126
  go_wp2
  exact ⟨rfl, .tuple #[], by simp [results, Tryz.results126], rfl, rfl⟩
set_option maxRecDepth 100000 in
theorem must_no (w : World) : Calls Tryz.prog 126 #[.bool false] w fun e w' => e = gaveUp ∧ w = w' := by
  go_enter Tryz.func126, Tryz.ntmps126
  go_wp2
  exact ⟨rfl, rfl, rfl⟩
set_option maxRecDepth 100000 in
theorem mayBe_any (x : Int) (w : World) : Calls Tryz.prog 57 #[.int .i64 x] w fun e w' => e = .returned (.bool (decide (1 ≤ x ∧ x ≤ 16))) ∧ w' = w := by
  by_cases h1 : 1 ≤ x
  · by_cases h2 : x ≤ 16
    · rw [show decide (1 ≤ x ∧ x ≤ 16) = true by simp [h1, h2]]
      go_enter Tryz.func57, Tryz.ntmps57
      go_wp2
      go_ret
      exact ⟨rfl, rfl⟩
    · rw [show decide (1 ≤ x ∧ x ≤ 16) = false by simp [h2]]
      go_enter Tryz.func57, Tryz.ntmps57
      go_wp2
      go_ret
      exact ⟨rfl, rfl⟩
  · rw [show decide (1 ≤ x ∧ x ≤ 16) = false by simp [h1]]
    go_enter Tryz.func57, Tryz.ntmps57
    go_wp2
    go_ret
    exact ⟨rfl, rfl⟩
theorem mayBe_yes (x : Int) (h : 1 ≤ x ∧ x ≤ 16) (w : World) : Calls Tryz.prog 57 #[.int .i64 x] w fun e w' => e = .returned (.bool true) ∧ w = w' := by
  have := mayBe_any x w
  rw [show decide (1 ≤ x ∧ x ≤ 16) = true from decide_eq_true h] at this
  exact this.mono fun _ _ k => ⟨k.1, k.2.symm⟩
theorem mayBe_no (x : Int) (h : ¬ (1 ≤ x ∧ x ≤ 16)) (w : World) : Calls Tryz.prog 57 #[.int .i64 x] w fun e w' => e = .returned (.bool false) ∧ w = w' := by
  have := mayBe_any x w
  rw [show decide (1 ≤ x ∧ x ≤ 16) = false from decide_eq_false h] at this
  exact this.mono fun _ _ k => ⟨k.1, k.2.symm⟩
end Go.Proofs.YtgegjcnjlibfdaaGreat
/- The contracts of block's shared, and of the document's own. -/
namespace Go.Proofs.YtgegjcnjlibfdaaGreat
open Go.RowKit
set_option linter.unusedVariables false
set_option linter.unusedSimpArgs false
theorem BsAt.idx {w : World} {a : Option Addr} {n c : Nat} {l : List UInt8} (h : BsAt w a n c l) {k : Nat} (hk : k < n) : ∃ b o : Nat, (∀ W : World, (Instr.indexAt 27 (.slice a n c) (.int .i64 (k : Int))).run Tryz.prog W = .ok (.pointer (some ⟨b, o, none⟩)) W) ∧ w.cell? ⟨b, o, none⟩ = some (.int .u8 ((l.getD k 0).toNat : Int)) := by
  obtain ⟨b, off, rfl, hc⟩ := h.here (by omega)
  refine ⟨b, off + k, fun W => ?_, hc k hk⟩
  have h1 : (0 : Int) ≤ (k : Int) ∧ (k : Int) < (n : Int) := by omega
  have hsz : (sizeOf (Tryz.prog.elem 27)).run Tryz.prog W = .ok 1 W := by kernel_rfl
  rw [run_indexAt_slice (P := Tryz.prog) (h := (by kernel_rfl : Tryz.prog.underlying 27 = some (.slice (Tryz.prog.elem 27)))), if_pos h1, hsz]
  simp [Result.andThen, Addr.add_lit]
set_option maxRecDepth 100000 in
set_option maxHeartbeats 1000000 in
theorem shared_any (a a' : Option Addr) (n c n' c' : Nat) (l l' : List UInt8) (w : World) (h : BsAt w a n c l) (h' : BsAt w a' n' c' l') :
    Calls Tryz.prog 101 #[.slice a n c, .slice a' n' c'] w fun e w' => e = .returned (.int .i64 ((lcp l l' : Nat) : Int)) ∧ ∃ d, w' = w.drewN d := by
  have HS : Hid (BsAt w a n c l ∧ BsAt w a' n' c' l') := ⟨h, h'⟩
  have hm := h.max
  have hl := h.le
  have hm' := h'.max
  have hl' := h'.le
  have HZ : Hid (l.length = n ∧ l'.length = n') := ⟨h.size, h'.size⟩
  unfold maxLen at hm hm'
  clear h h'
  go_enter Tryz.func101, Tryz.ntmps101
  go_wp2_with fail
  go_loopw [5] (fun x wr => ∃ k d : Nat, k ≤ n ∧ k ≤ n' ∧ x = .int .i64 (k : Int) ∧ wr = w.drewN d ∧ Hid (lcp l l' = k + lcp (l.drop k) (l'.drop k))) (fun x _ => n - (intOf x).toNat)
  case atStart => exact ⟨0, 0, Nat.zero_le _, Nat.zero_le _, rfl, rfl, by simp [Hid]⟩
  case round =>
    obtain ⟨k, d, hk, hk', rfl, rfl, HR⟩ := hrel
    by_cases hkn : k < n
    · by_cases hkn' : k < n'
      · obtain ⟨p, o, hp, hpc⟩ := HS.out.1.idx hkn
        obtain ⟨p', o', hp', hpc'⟩ := HS.out.2.idx hkn'
        have g1 : decide ((k : Int) < (n : Int)) = true := decide_eq_true (by omega)
        have g2 : decide ((k : Int) < (n' : Int)) = true := decide_eq_true (by omega)
        have e1 : w.cell? ⟨p, o, none⟩ = some (.int .u8 ((l.getD k 0).toNat : Int)) := hpc
        have e2 : w.cell? ⟨p', o', none⟩ = some (.int .u8 ((l'.getD k 0).toNat : Int)) := hpc'
        have HX : Hid ((l.getD k 0).toNat = (l'.getD k 0).toNat → lcp l l' = k + 1 + lcp (l.drop (k + 1)) (l'.drop (k + 1))) := fun e => by
          have := HR.out
          rw [lcp_same l l' k (by rw [HZ.out.1]; exact hkn) (by rw [HZ.out.2]; exact hkn') e] at this
          omega
        have HY : Hid ((l.getD k 0).toNat ≠ (l'.getD k 0).toNat → lcp l l' = k) := fun e => by
          have := HR.out
          rw [lcp_other l l' k (by rw [HZ.out.1]; exact hkn) (by rw [HZ.out.2]; exact hkn') e] at this
          omega
        generalize (l.getD k 0).toNat = x at e1 HX HY hpc
        generalize (l'.getD k 0).toNat = y at e2 HX HY hpc'
        clear hpc hpc'
        by_cases hxy : x = y
        · have g3 : ((x : Int) == (y : Int)) = true := by simp [hxy]
          go_wp2_with fail
          go_quiet (fail)
          go_wp2
          go_roundw
          case rel => exact ⟨k + 1, d + nq, hkn, hkn', by go_num, by simp [World.drewN, Nat.add_assoc], HX.out hxy⟩
          case measure => simp only [intOf]; omega
        · have g3 : ((x : Int) == (y : Int)) = false := by simp; omega
          go_wp2_with fail
          go_quiet (fail)
          go_wp2
          go_ret
          rw [HY.out hxy]
          exact ⟨ret1 rfl, d + nq, by simp [World.drewN, Nat.add_assoc]⟩
      · have HY : Hid (lcp l l' = k) := by
          have := HR.out
          rw [lcp_end l l' k (.inr (by rw [HZ.out.2]; omega))] at this
          exact this
        have g1 : decide ((k : Int) < (n : Int)) = true := decide_eq_true (by omega)
        have g2 : decide ((k : Int) < (n' : Int)) = false := decide_eq_false (by omega)
        go_wp2_with fail
        go_quiet (fail)
        go_wp2
        go_ret
        rw [HY.out]
        exact ⟨ret1 rfl, d + nq, by simp [World.drewN, Nat.add_assoc]⟩
    · have HY : Hid (lcp l l' = k) := by
        have := HR.out
        rw [lcp_end l l' k (.inl (by rw [HZ.out.1]; omega))] at this
        exact this
      have g1 : decide ((k : Int) < (n : Int)) = false := decide_eq_false (by omega)
      go_wp2_with fail
      go_quiet (fail)
      go_wp2
      go_ret
      rw [HY.out]
      exact ⟨ret1 rfl, d + nq, by simp [World.drewN, Nat.add_assoc]⟩
set_option maxRecDepth 100000 in
set_option maxHeartbeats 1000000 in
theorem rshared_any (a a' : Option Addr) (n c n' c' : Nat) (l l' : List UInt8) (w : World) (h : BsAt w a n c l) (h' : BsAt w a' n' c' l') :
    Calls Tryz.prog 70 #[.slice a n c, .slice a' n' c'] w fun e w' => e = .returned (.int .i64 ((lcp l l' : Nat) : Int)) ∧ ∃ d, w' = w.drewN d := by
  have HS : Hid (BsAt w a n c l ∧ BsAt w a' n' c' l') := ⟨h, h'⟩
  have hm := h.max
  have hl := h.le
  have hm' := h'.max
  have hl' := h'.le
  have HZ : Hid (l.length = n ∧ l'.length = n') := ⟨h.size, h'.size⟩
  unfold maxLen at hm hm'
  clear h h'
  go_enter Tryz.func70, Tryz.ntmps70
  go_wp2_with fail
  go_loopw [5] (fun x wr => ∃ k d : Nat, k ≤ n ∧ k ≤ n' ∧ x = .int .i64 (k : Int) ∧ wr = w.drewN d ∧ Hid (lcp l l' = k + lcp (l.drop k) (l'.drop k))) (fun x _ => n - (intOf x).toNat)
  case atStart => exact ⟨0, 0, Nat.zero_le _, Nat.zero_le _, rfl, rfl, by simp [Hid]⟩
  case round =>
    obtain ⟨k, d, hk, hk', rfl, rfl, HR⟩ := hrel
    by_cases hkn : k < n
    · by_cases hkn' : k < n'
      · obtain ⟨p, o, hp, hpc⟩ := HS.out.1.idx hkn
        obtain ⟨p', o', hp', hpc'⟩ := HS.out.2.idx hkn'
        have g1 : decide ((k : Int) < (n : Int)) = true := decide_eq_true (by omega)
        have g2 : decide ((k : Int) < (n' : Int)) = true := decide_eq_true (by omega)
        have e1 : w.cell? ⟨p, o, none⟩ = some (.int .u8 ((l.getD k 0).toNat : Int)) := hpc
        have e2 : w.cell? ⟨p', o', none⟩ = some (.int .u8 ((l'.getD k 0).toNat : Int)) := hpc'
        have HX : Hid ((l.getD k 0).toNat = (l'.getD k 0).toNat → lcp l l' = k + 1 + lcp (l.drop (k + 1)) (l'.drop (k + 1))) := fun e => by
          have := HR.out
          rw [lcp_same l l' k (by rw [HZ.out.1]; exact hkn) (by rw [HZ.out.2]; exact hkn') e] at this
          omega
        have HY : Hid ((l.getD k 0).toNat ≠ (l'.getD k 0).toNat → lcp l l' = k) := fun e => by
          have := HR.out
          rw [lcp_other l l' k (by rw [HZ.out.1]; exact hkn) (by rw [HZ.out.2]; exact hkn') e] at this
          omega
        generalize (l.getD k 0).toNat = x at e1 HX HY hpc
        generalize (l'.getD k 0).toNat = y at e2 HX HY hpc'
        clear hpc hpc'
        by_cases hxy : x = y
        · have g3 : ((x : Int) == (y : Int)) = true := by simp [hxy]
          go_wp2_with fail
          go_quiet (fail)
          go_wp2
          go_roundw
          case rel => exact ⟨k + 1, d + nq, hkn, hkn', by go_num, by simp [World.drewN, Nat.add_assoc], HX.out hxy⟩
          case measure => simp only [intOf]; omega
        · have g3 : ((x : Int) == (y : Int)) = false := by simp; omega
          go_wp2_with fail
          go_quiet (fail)
          go_wp2
          go_ret
          rw [HY.out hxy]
          exact ⟨ret1 rfl, d + nq, by simp [World.drewN, Nat.add_assoc]⟩
      · have HY : Hid (lcp l l' = k) := by
          have := HR.out
          rw [lcp_end l l' k (.inr (by rw [HZ.out.2]; omega))] at this
          exact this
        have g1 : decide ((k : Int) < (n : Int)) = true := decide_eq_true (by omega)
        have g2 : decide ((k : Int) < (n' : Int)) = false := decide_eq_false (by omega)
        go_wp2_with fail
        go_quiet (fail)
        go_wp2
        go_ret
        rw [HY.out]
        exact ⟨ret1 rfl, d + nq, by simp [World.drewN, Nat.add_assoc]⟩
    · have HY : Hid (lcp l l' = k) := by
        have := HR.out
        rw [lcp_end l l' k (.inl (by rw [HZ.out.1]; omega))] at this
        exact this
      have g1 : decide ((k : Int) < (n : Int)) = false := decide_eq_false (by omega)
      go_wp2_with fail
      go_quiet (fail)
      go_wp2
      go_ret
      rw [HY.out]
      exact ⟨ret1 rfl, d + nq, by simp [World.drewN, Nat.add_assoc]⟩
end Go.Proofs.YtgegjcnjlibfdaaGreat
/- The contract of block's check. -/
namespace Go.Proofs.YtgegjcnjlibfdaaGreat
open Go.RowKit
set_option linter.unusedVariables false
set_option linter.unusedSimpArgs false
/-- Texts of entries as a program can have them. -/
def WfL (l : List KV) : Prop := ∀ e ∈ l, e.1.user.size ≤ 9223372036854775807 ∧ e.2.size ≤ 9223372036854775807
/-- The key ahead of a place. -/
def Ahead (l : List KV) (k : Nat) (p : Option IK) : Prop := (k = 0 ∧ p = none) ∨ ∃ j, ∃ h : j < l.length, k = j + 1 ∧ p = some l[j].1
theorem chkGo_step {p : Option IK} {l : List KV} {k : Nat} (hk : k < l.length) : chkGo p (l.drop k) = if l[k].1.err ≠ 0 then l[k].1.err else if 1000 < l[k].2.size then 31 else if (p.any fun q => decide (0 ≤ q.cmp l[k].1)) = true then 110 else chkGo (some l[k].1) (l.drop (k + 1)) := by
  rw [List.drop_eq_getElem_cons hk, chkGo]
theorem chkGo_end {p : Option IK} {l : List KV} {k : Nat} (hk : l.length ≤ k) : chkGo p (l.drop k) = 0 := by
  rw [List.drop_eq_nil_of_le hk, chkGo]
def kvA (e : KV) : Array Value := #[.string e.1.user, .int .u64 (e.1.seq : Int), .int .i64 e.1.kind, .string e.2]
set_option maxRecDepth 100000 in
set_option maxHeartbeats 2000000 in
theorem bcheck_any (a : Option Addr) (n c : Nat) (l : List KV) (w : World) (h : KsAt w a n c l) (hw : WfL l) :
    Calls Tryz.prog 58 #[.slice a n c] w fun e w' => e = .returned (.int .i64 ((chkL l : Nat) : Int)) ∧ Below w.heap.size w w' := by
  have HS : Hid (KsAt w a n c l ∧ WfL l ∧ l.length = n) := ⟨h, hw, h.size⟩
  have hm := h.max
  have hl := h.le
  unfold maxLen at hm
  clear h hw
  go_enter Tryz.func58, Tryz.ntmps58
  go_wp2_with fail
  go_loopw [8] (fun x wr => ∃ k : Nat, k ≤ n ∧ x = .int .i64 (k : Int) ∧ Hid (Below w.heap.size w wr ∧ ∃ p, Ahead l k p ∧ chkL l = chkGo p (l.drop k))) (fun x _ => n - (intOf x).toNat)
  case atStart => exact ⟨0, Nat.zero_le _, rfl, Below.refl _ _, none, .inl ⟨rfl, rfl⟩, rfl⟩
  case round =>
    obtain ⟨k, hk, rfl, HR⟩ := hrel
    by_cases hkn : k < n
    · obtain ⟨b, off, hb, hc⟩ := HS.out.1.cells4 (by omega)
      have hkl : k < l.length := by rw [HS.out.2.2]; exact hkn
      have hlt : b < w.heap.size := World.block_lt_of_cell? w _ (hc k hkl).1
      have HC : Hid (∀ W, Below w.heap.size w W → ∀ j, ∀ hj : j < l.length, W.cell? ⟨b, off + j * 4, none⟩ = some (.string l[j].1.user) ∧ W.cell? ⟨b, off + j * 4 + 1, none⟩ = some (.int .u64 (l[j].1.seq : Int)) ∧ W.cell? ⟨b, off + j * 4 + 2, none⟩ = some (.int .i64 l[j].1.kind) ∧ W.cell? ⟨b, off + j * 4 + 3, none⟩ = some (.string l[j].2)) := fun W hW j hj => by
        obtain ⟨e0, e1, e2, e3⟩ := hc j hj
        exact ⟨by rw [hW.cell hlt]; exact e0, by rw [hW.cell hlt]; exact e1, by rw [hW.cell hlt]; exact e2, by rw [hW.cell hlt]; exact e3⟩
      obtain ⟨c0, c1, c2, c3⟩ := HC.out wr HR.out.1 k hkl
      have hidx := fun W => idxKV W (a := a) (b := b) (off := off) (n := n) (c := c) hb hkn
      obtain ⟨he1, he2⟩ := HS.out.2.1 l[k] (List.getElem_mem hkl)
      obtain ⟨p, hpa, hpe⟩ := HR.out.2
      rw [chkGo_step hkl] at hpe
      have HE : Hid (l[k] = l[k]) := rfl
      generalize hek : l[k] = e at c0 c1 c2 c3 he1 he2 hpe
      have HEK : Hid (l[k] = e) := hek
      have HPA : Hid (Ahead l k p) := hpa
      have HPE : Hid (chkL l = if e.1.err ≠ 0 then e.1.err else if 1000 < e.2.size then 31 else if (p.any fun q => decide (0 ≤ q.cmp e.1)) = true then 110 else chkGo (some e.1) (l.drop (k + 1))) := hpe
      clear hc hpa hpe hek
      have hch := fun W => check_any e.1.user e.1.seq e.1.kind W he1
      have HZ : Hid (chk e.1.user.size e.1.seq e.1.kind = e.1.err) := rfl
      have HW : Hid (Below w.heap.size w (wr.alloc (.cells (kvA e) TKV)) ∧ Box (wr.alloc (.cells (kvA e) TKV)) wr.heap.size TKV (kvA e)) := ⟨HR.out.1.alloc HR.out.1.size _, Box.new _ _ _⟩
      have HIx : Hid (∀ j, j < n → ∀ W, (Instr.indexAt 23 (.slice a n c) (.int .i64 (j : Int))).run Tryz.prog W = .ok (.pointer (some ⟨b, off + j * 4, none⟩)) W) := fun j hj W => idxKV W (a := a) (b := b) (off := off) (n := n) (c := c) hb hj
      clear hb
      go_wp2_with fail
      refine (hch _).mono ?_
      rintro _ w2 ⟨rfl, hb2⟩
      have HW2 : Hid (Below w.heap.size w w2 ∧ Box w2 wr.heap.size TKV (kvA e)) := ⟨HW.out.1.trans (hb2.mono HW.out.1.size), HW.out.2.kept (hb2.block _ HW.out.2.lt)⟩
      clear hb2 hch HW
      rw [HZ.out]
      have d0 : w2.cell? ⟨wr.heap.size, 0, none⟩ = some (.string e.1.user) := HW2.out.2.cell 0
      have d1 : w2.cell? ⟨wr.heap.size, 1, none⟩ = some (.int .u64 (e.1.seq : Int)) := HW2.out.2.cell 1
      have d2 : w2.cell? ⟨wr.heap.size, 2, none⟩ = some (.int .i64 e.1.kind) := HW2.out.2.cell 2
      have d3 : w2.cell? ⟨wr.heap.size, 3, none⟩ = some (.string e.2) := HW2.out.2.cell 3
      generalize HER : e.1.err = er at HPE
      have HER2 : Hid (e.1.err = er) := HER
      clear HER
      by_cases her : er = 0
      · subst her
        by_cases hv : 1000 < e.2.size
        · go_wp2
          go_ret
          rw [HPE.out]
          exact ⟨ret1 (by simp [hv]), HW2.out.1⟩
        · rcases HPA.out with ⟨hk0, hp⟩ | ⟨j, hj, hkj, hp⟩
          · subst hk0 hp
            go_wp2_with fail
            go_quiet (fail)
            go_wp2
            go_roundw
            case rel => exact ⟨1, by omega, rfl, HW2.out.1.trans (Below.drewM (Below.refl _ _) _), some e.1, .inr ⟨0, hkl, rfl, by rw [HEK.out]⟩, by rw [HPE.out]; simp [hv]⟩
            case measure => simp only [intOf]; omega
          · subst hp
            obtain ⟨f0, f1, f2, _⟩ := HC.out w2 HW2.out.1 j hj
            have HPJ : Hid (Ahead l k (some l[j].1)) := .inr ⟨j, hj, hkj, rfl⟩
            have hjx := fun W => HIx.out j (by omega) W
            rw [show ((j : Nat) : Int) = (k : Int) - 1 by omega] at hjx
            have HCM : Hid (∀ W : World, Calls Tryz.prog 43 #[.agg #[.string l[j].1.user, .int .u64 (l[j].1.seq : Int), .int .i64 l[j].1.kind], .agg #[.string e.1.user, .int .u64 (e.1.seq : Int), .int .i64 e.1.kind]] W fun r w' => r = .returned (.int .i64 (l[j].1.cmp e.1)) ∧ Below W.heap.size W w') := fun W => compare_any _ _ _ _ _ _ W
            have hk0 : 0 < k := by omega
            have HJ : Hid (k = j + 1) := hkj
            clear hkj hidx HPA
            have HCy : Hid (∀ W, Below w.heap.size w W → W.cell? ⟨b, off + j * 4, none⟩ = some (.string l[j].1.user) ∧ W.cell? ⟨b, off + j * 4 + 1, none⟩ = some (.int .u64 (l[j].1.seq : Int)) ∧ W.cell? ⟨b, off + j * 4 + 2, none⟩ = some (.int .i64 l[j].1.kind) ∧ W.cell? ⟨b, off + j * 4 + 3, none⟩ = some (.string l[j].2)) := fun W hW => HC.out W hW j hj
            generalize l[j] = y at f0 f1 f2 HCM HPE HPJ HCy
            generalize HCV : y.1.cmp e.1 = cv at HCM
            have HCV2 : Hid (y.1.cmp e.1 = cv) := HCV
            clear HCV
            go_wp2_with fail
            have HW3 : Hid (Below w.heap.size w w2.drew ∧ Box w2.drew wr.heap.size TKV (kvA e)) := ⟨HW2.out.1.drew, HW2.out.2⟩
            obtain ⟨g0, g1, g2⟩ : w2.drew.cell? ⟨b, off + j * 4, none⟩ = some (.string y.1.user) ∧ w2.drew.cell? ⟨b, off + j * 4 + 1, none⟩ = some (.int .u64 (y.1.seq : Int)) ∧ w2.drew.cell? ⟨b, off + j * 4 + 2, none⟩ = some (.int .i64 y.1.kind) := ⟨f0, f1, f2⟩
            obtain ⟨e0, e1, e2⟩ : w2.drew.cell? ⟨wr.heap.size, 0, none⟩ = some (.string e.1.user) ∧ w2.drew.cell? ⟨wr.heap.size, 1, none⟩ = some (.int .u64 (e.1.seq : Int)) ∧ w2.drew.cell? ⟨wr.heap.size, 2, none⟩ = some (.int .i64 e.1.kind) := ⟨d0, d1, d2⟩
            have hwr : IntKind.i64.wrap ((k : Int) - 1) = (k : Int) - 1 := by rw [IntKind.wrap_i64]; omega
            have hgd : decide ((k : Int) > 0) = true := decide_eq_true (by omega)
            go_region_held3 (fun W => W.cell? ⟨b, off + j * 4, none⟩ = some (.string y.1.user) ∧ W.cell? ⟨b, off + j * 4 + 1, none⟩ = some (.int .u64 (y.1.seq : Int)) ∧ W.cell? ⟨b, off + j * 4 + 2, none⟩ = some (.int .i64 y.1.kind) ∧ W.cell? ⟨wr.heap.size, 0, none⟩ = some (.string e.1.user) ∧ W.cell? ⟨wr.heap.size, 1, none⟩ = some (.int .u64 (e.1.seq : Int)) ∧ W.cell? ⟨wr.heap.size, 2, none⟩ = some (.int .i64 e.1.kind)) (first | exact ⟨g0, g1, g2, e0, e1, e2⟩ | go_keep)
              (first
               | (go_at_call 43; refine (HCM.out _).mono ?_; rintro _ vx ⟨rfl, hbx⟩
                  have HW3 : Hid (Below w.heap.size w vx ∧ Box vx wr.heap.size TKV (kvA e)) := ⟨HW3.out.1.trans (hbx.mono HW3.out.1.size), HW3.out.2.kept (hbx.block _ HW3.out.2.lt)⟩
                  obtain ⟨g0, g1, g2, _⟩ := HCy.out _ HW3.out.1
                  have e0 : vx.cell? ⟨wr.heap.size, 0, none⟩ = some (.string e.1.user) := HW3.out.2.cell 0
                  have e1 : vx.cell? ⟨wr.heap.size, 1, none⟩ = some (.int .u64 (e.1.seq : Int)) := HW3.out.2.cell 1
                  have e2 : vx.cell? ⟨wr.heap.size, 2, none⟩ = some (.int .i64 e.1.kind) := HW3.out.2.cell 2
                  clear hbx))
            by_cases hcv : 0 ≤ cv
            · go_wp2
              go_ret
              rw [HPE.out]
              exact ⟨ret1 (by simp [hv, HCV2.out, hcv]), HW3.out.1⟩
            · go_wp2
              go_roundw
              case rel => exact ⟨k + 1, by omega, by go_num, HW3.out.1, some e.1, .inr ⟨k, hkl, rfl, by rw [HEK.out]⟩, by rw [HPE.out]; simp [hv, HCV2.out, hcv]⟩
              case measure => simp only [intOf]; omega
      · go_wp2
        go_ret
        rw [HPE.out]
        exact ⟨ret1 (by simp [her]), HW2.out.1⟩
    · go_wp2
      go_ret
      obtain ⟨hb, p, _, hp⟩ := HR.out
      rw [hp, chkGo_end (by rw [HS.out.2.2]; omega)]
      exact ⟨ret1 rfl, hb⟩
end Go.Proofs.YtgegjcnjlibfdaaGreat
/- The contract of block's stretchBytes. -/
namespace Go.Proofs.YtgegjcnjlibfdaaGreat
open Go.RowKit
set_option linter.unusedVariables false
set_option linter.unusedSimpArgs false
abbrev TInt : TypeId := 3
/-- Where stretchBytes is within an entry. -/
structure SB (w wr : World) (eb lb : Nat) (e : KV) (la : Array Value) (ka : Option Addr) (kn kc : Nat) (key : List UInt8) (ao : Option Addr) (no co : Nat) (bs : List UInt8) : Prop where
  base : Below w.heap.size w wr
  own : OwnB wr w.heap.size ao no co bs
  box : Box wr eb TKV (kvA e)
  lit : Box wr lb TInt la
  key : BsAt wr ka kn kc key
  off : ∀ k, blkOf ao = some k → blkOf ka ≠ some k
  old : ∀ k, blkOf ka = some k → k < wr.heap.size
section
variable {w wr w' : World} {eb lb : Nat} {e : KV} {la : Array Value} {ka : Option Addr} {kn kc : Nat} {key : List UInt8} {ao : Option Addr} {no co : Nat} {bs : List UInt8}
theorem SB.call (h : SB w wr eb lb e la ka kn kc key ao no co bs) (hb : Below wr.heap.size wr w') : SB w w' eb lb e la ka kn kc key ao no co bs :=
  ⟨h.base.trans (hb.mono h.base.size), h.own.below hb, h.box.kept (hb.block _ h.box.lt), h.lit.kept (hb.block _ h.lit.lt), h.key.below (Nat.le_refl _) hb, h.off, fun k hk => Nat.lt_of_lt_of_le (h.old k hk) hb.size⟩
theorem BsAt.kept {w w' : World} {a : Option Addr} {n c : Nat} {l : List UInt8} (h : BsAt w a n c l) (hk : ∀ k, blkOf a = some k → w'.heap[k]? = w.heap[k]?) : BsAt w' a n c l := by
  refine ⟨h.size, h.le, h.max, h.bare, fun hp => ?_⟩
  obtain ⟨b, off, rfl, hc⟩ := h.here hp
  refine ⟨b, off, rfl, fun j hj => ?_⟩
  rw [← hc j hj]
  unfold World.cell?
  simp only
  rw [hk b rfl]
theorem SB.app (h : SB w wr eb lb e la ka kn kc key ao no co bs) {ao' : Option Addr} {no' co' : Nat} {bs' : List UInt8} (ho : OwnB w' w.heap.size ao' no' co' bs') (hb : Below w.heap.size wr w') (hg : wr.grownBy w' (blkOf ao)) (hl : blkOf ao' = blkOf ao ∨ blkOf ao' = some wr.heap.size) : SB w w' eb lb e la ka kn kc key ao' no' co' bs' := by
  have hne : ∀ k t, tag wr k = some t → t ≠ 5 → blkOf ao ≠ some k := fun k t hk ht he => ht (by have := h.own.tag he; rw [hk] at this; exact Option.some.inj this)
  refine ⟨h.base.trans hb, ho, h.box.kept (hg.block _ h.box.lt (fun e => hne _ _ h.box.tag (by decide) e.symm)), h.lit.kept (hg.block _ h.lit.lt (fun e => hne _ _ h.lit.tag (by decide) e.symm)), h.key.kept fun k hk => ?_, fun k hk => ?_, fun k hk => Nat.lt_of_lt_of_le (h.old k hk) hg.size⟩
  · exact hg.block k (h.old k hk) (fun e => h.off k e.symm hk)
  · intro he
    rcases hl with hl | hl
    · exact h.off k (hl ▸ hk) he
    · rw [hk] at hl
      have := h.old k he
      have := Option.some.inj hl
      omega
end
theorem idxI (lb : Nat) {j n c : Nat} (hj : j < n) (W : World) : (Instr.indexAt 122 (.slice (some ⟨lb, 0, none⟩) n c) (.int .i64 (j : Int))).run Tryz.prog W = .ok (.pointer (some ⟨lb, j, none⟩)) W := by
  have h1 : (0 : Int) ≤ (j : Int) ∧ (j : Int) < (n : Int) := by omega
  have hsz : (sizeOf (Tryz.prog.elem 122)).run Tryz.prog W = .ok 1 W := by kernel_rfl
  rw [run_indexAt_slice (P := Tryz.prog) (h := (by kernel_rfl : Tryz.prog.underlying 122 = some (.slice (Tryz.prog.elem 122)))), if_pos h1, hsz]
  simp [Result.andThen, Addr.add_lit]
theorem strB_snoc (l : List KV) (e : KV) : ∀ ah, strB ah (l ++ [e]) = strB ah l ++ entE ((l.getLast?.map (·.1.enc)).getD ah) e := by
  induction l with
  | nil => intro ah; simp [strB]
  | cons x l ih =>
    intro ah
    rw [List.cons_append, strB, ih, strB, List.append_assoc]
    cases l with
    | nil => simp
    | cons y l => simp [List.getLast?_cons]
/-- The key's bytes ahead of a place. -/
def ahK (l : List KV) (k : Nat) : List UInt8 := (((l.take k).getLast?).map (·.1.enc)).getD []
theorem strB_take (l : List KV) (k : Nat) (hk : k < l.length) : strB [] (l.take (k + 1)) = strB [] (l.take k) ++ entE (ahK l k) l[k] := by
  rw [List.take_succ_eq_append_getElem hk, strB_snoc]
  rfl
theorem ahK_succ (l : List KV) (k : Nat) (hk : k < l.length) : ahK l (k + 1) = l[k].1.enc := by
  unfold ahK
  rw [List.take_succ_eq_append_getElem hk, List.getLast?_append]
  rfl
theorem entE_len {e : KV} (h : EOk e) (ah : List UInt8) : (entE ah e).length ≤ 1102 := by
  have h1 := (ent_len ah e.1.enc e.2.data.toList).2
  have h2 := enc_small h
  have h3 := h.2
  have h4 := ba_len e.2
  unfold entE
  omega
theorem strB_len : ∀ (l : List KV) (ah : List UInt8), (∀ e ∈ l, EOk e) → (strB ah l).length ≤ 1102 * l.length
  | [], _, _ => by simp [strB]
  | e :: l, ah, h => by
    have h1 := entE_len (h e (by simp)) ah
    have h2 := strB_len l e.1.enc (fun x hx => h x (by simp [hx]))
    rw [strB, List.length_append, List.length_cons]
    omega
set_option maxRecDepth 100000 in
set_option maxHeartbeats 2000000 in
theorem stretch_any (a : Option Addr) (n c : Nat) (l : List KV) (w : World) (h : KsAt w a n c l) (hw : ∀ e ∈ l, EOk e) (hn : n ≤ 1000000) :
    Calls Tryz.prog 61 #[.slice a n c] w fun e w' => ∃ a' c', e = .returned (.slice a' (strB [] l).length c') ∧ OwnB w' w.heap.size a' (strB [] l).length c' (strB [] l) ∧ Below w.heap.size w w' := by
  have HS : Hid (KsAt w a n c l ∧ (∀ e ∈ l, EOk e) ∧ l.length = n) := ⟨h, hw, h.size⟩
  clear h hw
  go_enter Tryz.func61, Tryz.ntmps61
  go_wp2_with fail
  go_loopw [3, 4, 14] (fun x3 x4 x wr => ∃ (k no co hn' hc : Nat) (ao ha : Option Addr), k ≤ n ∧ no ≤ 1102 * k ∧ x = .int .i64 (k : Int) ∧ x3 = .slice ao no co ∧ x4 = .slice ha hn' hc ∧ Hid (Below w.heap.size w wr ∧ OwnB wr w.heap.size ao no co (strB [] (l.take k)) ∧ BsAt wr ha hn' hc (ahK l k))) (fun _ _ x _ => n - (intOf x).toNat)
  case atStart => exact ⟨0, 0, 0, 0, 0, none, none, Nat.zero_le _, Nat.zero_le _, rfl, rfl, rfl, Below.refl _ _, OwnB.nil _ _, BsAt.nil _⟩
  case round =>
    obtain ⟨k, no, co, hn', hc', ao, ha, hk, hno, rfl, rfl, rfl, HR⟩ := hrel
    by_cases hkn : k < n
    · obtain ⟨b, off, hb, hc⟩ := HS.out.1.cells4 (by omega)
      have hkl : k < l.length := by rw [HS.out.2.2]; exact hkn
      have hlt : b < w.heap.size := World.block_lt_of_cell? w _ (hc k hkl).1
      obtain ⟨c0, c1, c2, c3⟩ := hc k hkl
      rw [← HR.out.1.cell hlt] at c0 c1 c2 c3
      have hidx := fun W => idxKV W (a := a) (b := b) (off := off) (n := n) (c := c) hb hkn
      have HEO : Hid (EOk l[k]) := HS.out.2.1 l[k] (List.getElem_mem hkl)
      have HT : Hid (strB [] (l.take (k + 1)) = strB [] (l.take k) ++ entE (ahK l k) l[k] ∧ ahK l (k + 1) = l[k].1.enc) := ⟨strB_take l k hkl, ahK_succ l k hkl⟩
      generalize l[k] = e at c0 c1 c2 c3 HEO HT
      have hus := err_le HEO.out.1
      have hvs := HEO.out.2
      have HEL : Hid (e.1.enc.length = e.1.user.size + 8 ∧ chk e.1.user.size e.1.seq e.1.kind = 0) := ⟨enc_len HEO.out.1, HEO.out.1⟩
      have hen := fun W => encode_own e.1.user e.1.seq e.1.kind W (by omega)
      have HENC : Hid (keyEnc e.1.user.data.toList e.1.seq e.1.kind = e.1.enc) := rfl
      rw [HENC.out, HEL.out.2] at hen
      clear hc hb
      have HW : Hid (Below w.heap.size w (wr.alloc (.cells (kvA e) TKV)) ∧ Box (wr.alloc (.cells (kvA e) TKV)) wr.heap.size TKV (kvA e)) := ⟨HR.out.1.alloc HR.out.1.size _, Box.new _ _ _⟩
      go_wp2_with fail
      refine (hen _).mono ?_
      rintro _ w2 ⟨ka, kc, rfl, hko, hb2⟩
      have HK : Hid (Below w.heap.size w w2 ∧ Box w2 wr.heap.size TKV (kvA e) ∧ OwnB w2 (wr.heap.size + 1) ka e.1.enc.length kc e.1.enc ∧ BsAt w2 ha hn' hc' (ahK l k) ∧ OwnB w2 w.heap.size ao no co (strB [] (l.take k)) ∧ ∀ k, blkOf ao = some k → k < wr.heap.size) := by
        have hbr : Below wr.heap.size wr w2 := ((Below.refl _ _).alloc (Nat.le_refl _) _).trans (hb2.mono (by simp))
        exact ⟨HW.out.1.trans (hb2.mono HW.out.1.size), HW.out.2.kept (hb2.block _ HW.out.2.lt), hko.mono (by simp), HR.out.2.2.below (Nat.le_refl _) hbr, HR.out.2.1.below hbr, fun k hk => tag_lt (HR.out.2.1.tag hk)⟩
      clear hko hb2 HW hen
      have hsh := fun d => shared_any ha ka hn' hc' e.1.enc.length kc (ahK l k) e.1.enc (w2.drewN d) (HK.out.2.2.2.1.below (Nat.le_refl _) (Below.drewM (Below.refl _ _) _)) (HK.out.2.2.1.bs.below (Nat.le_refl _) (Below.drewM (Below.refl _ _) _))
      have hsh0 := shared_any ha ka hn' hc' e.1.enc.length kc (ahK l k) e.1.enc w2 HK.out.2.2.2.1 HK.out.2.2.1.bs
      have HLc : Hid (lcp (ahK l k) e.1.enc ≤ e.1.enc.length) := (lcp_le _ _).2
      have HENT : Hid (entE (ahK l k) e = uvEnc (lcp (ahK l k) e.1.enc) ++ (uvEnc (e.1.enc.length - lcp (ahK l k) e.1.enc) ++ (uvEnc e.2.data.toList.length ++ (e.1.enc.drop (lcp (ahK l k) e.1.enc) ++ e.2.data.toList)))) := rfl
      have HKL : Hid (e.1.enc.length = e.1.enc.length) := rfl
      generalize hkl2 : e.1.enc.length = kl at hsh0 HLc HENT HEL HK HKL
      have HKL2 : Hid (e.1.enc.length = kl) := hkl2
      generalize lcp (ahK l k) e.1.enc = sm at hsh0 HLc HENT
      have hkl72 : kl ≤ 72 := by have := HEL.out.1; omega
      have hsmk : sm ≤ kl := HLc.out
      clear hsh hkl2
      go_wp2_with fail
      refine hsh0.mono ?_
      rintro _ w3 ⟨rfl, d, rfl⟩
      have d3 : w2.cell? ⟨wr.heap.size, 3, none⟩ = some (.string e.2) := HK.out.2.1.cell 3
      go_wp2_with fail
      have HSB : Hid (SB w ((w2.drewN d).alloc (.cells #[.int .i64 (sm : Int), .int .i64 ((kl : Int) - (sm : Int)), .int .i64 (e.2.size : Int)] TInt)) wr.heap.size w2.heap.size e #[.int .i64 (sm : Int), .int .i64 ((kl : Int) - (sm : Int)), .int .i64 (e.2.size : Int)] ka kl kc e.1.enc ao no co (strB [] (l.take k))) := by
        obtain ⟨q1, q2, q3, q4, q5, q6⟩ := HK.out
        have hbd : Below w2.heap.size w2 ((w2.drewN d).alloc (.cells #[.int .i64 (sm : Int), .int .i64 ((kl : Int) - (sm : Int)), .int .i64 (e.2.size : Int)] TInt)) := (Below.drewM (Below.refl _ _) d).alloc (Nat.le_refl _) _
        refine ⟨q1.trans (hbd.mono q1.size), q5.below hbd, q2.kept (hbd.block _ q2.lt), Box.new (w2.drewN d) _ _, q3.bs.below (Nat.le_refl _) hbd, fun k hk he => ?_, fun k hk => ?_⟩
        · have := q6 k hk
          have := q3.ge he
          omega
        · have := tag_lt (q3.tag hk)
          simp [World.drewN]
          omega
      clear HK d3
      generalize wr.heap.size = eb at HSB ⊢
      generalize w2.heap.size = lb at HSB ⊢
      generalize hns : [sm, kl - sm, e.2.size] = ns
      have HN : Hid (ns.length = 3 ∧ ns = [sm, kl - sm, e.2.size]) := ⟨by rw [← hns]; rfl, hns.symm⟩
      clear hns
      go_loopw [3, 37] (fun x3 x wr => ∃ (j no' co' : Nat) (ao' : Option Addr), j ≤ 3 ∧ no' ≤ no + 10 * j ∧ x = .int .i64 (j : Int) ∧ x3 = .slice ao' no' co' ∧ Hid (SB w wr eb lb e #[.int .i64 (sm : Int), .int .i64 ((kl : Int) - (sm : Int)), .int .i64 (e.2.size : Int)] ka kl kc e.1.enc ao' no' co' (strB [] (l.take k) ++ ((ns.take j).map uvEnc).flatten))) (fun _ x _ => 3 - (intOf x).toNat)
      case atStart => exact ⟨0, no, co, ao, by omega, by omega, rfl, rfl, by simpa [Hid] using HSB.out⟩
      case round =>
        obtain ⟨j, no', co', ao', hj, hno', rfl, rfl, HI⟩ := hrel
        by_cases hj3 : j < 3
        · have hix := fun W => idxI lb (n := 3) (c := 3) hj3 W
          obtain ⟨v, hv, hvn⟩ : ∃ v : Nat, wr.cell? ⟨lb, j, none⟩ = some (.int .i64 (v : Int)) ∧ (v < 10000 ∧ ns[j]'(by rw [HN.out.1]; exact hj3) = v) := by
            have hN := HN.out.2
            subst hN
            rcases (by omega : j = 0 ∨ j = 1 ∨ j = 2) with rfl | rfl | rfl
            · exact ⟨sm, HI.out.lit.cell 0, by omega, rfl⟩
            · exact ⟨kl - sm, by rw [HI.out.lit.cell 1]; simp; omega, by omega, rfl⟩
            · exact ⟨e.2.size, HI.out.lit.cell 2, by omega, rfl⟩
          obtain ⟨hv4, hvn⟩ := hvn
          have HV : Hid (ns[j]'(by rw [HN.out.1]; exact hj3) = v) := hvn
          have hul := uvEnc_length v
          have HPU : Hid (∀ W : World, Calls Tryz.prog 102 #[.slice none 0 0, .int .u64 (v : Int)] W fun e w' => ∃ a' c', e = .returned (.slice a' (0 + (uvEnc v).length) c') ∧ OwnB w' W.heap.size a' (0 + (uvEnc v).length) c' ([] ++ uvEnc v) ∧ Below W.heap.size W w') := fun W => putUvarint_any none 0 0 [] v W (BsAt.nil _) (by omega) (by omega)
          simp only [Nat.zero_add, List.nil_append] at HPU
          clear hvn
          go_wp2_with fail
          refine (HPU.out _).mono ?_
          rintro _ w5 ⟨a5, c5, rfl, ho5, hb5⟩
          have HJ : Hid (SB w w5 eb lb e #[.int .i64 (sm : Int), .int .i64 ((kl : Int) - (sm : Int)), .int .i64 (e.2.size : Int)] ka kl kc e.1.enc ao' no' co' (strB [] (l.take k) ++ ((ns.take j).map uvEnc).flatten)) := HI.out.call hb5
          have HO5 : Hid (BsAt w5 a5 (uvEnc v).length c5 (uvEnc v)) := ho5.bs
          generalize HUL : (uvEnc v).length = ul at hul HO5
          clear ho5 hb5
          go_wp2_with (first | (at_builtin; refine wpList_appAt w5 rfl _ _ rfl w.heap.size ao' no' co' _ rfl HJ.out.own a5 ul c5 _ rfl HO5.out (by omega) HJ.out.base.size ?_))
          intro a6 c6 w6 ho6 hb6 hg6 hl6
          have HJ6 : Hid (SB w w6 eb lb e #[.int .i64 (sm : Int), .int .i64 ((kl : Int) - (sm : Int)), .int .i64 (e.2.size : Int)] ka kl kc e.1.enc a6 (no' + ul) c6 (strB [] (l.take k) ++ ((ns.take (j + 1)).map uvEnc).flatten)) := by
            have := HJ.out.app ho6 hb6 hg6 hl6
            have hlt : j < ns.length := by rw [HN.out.1]; exact hj3
            rw [List.take_succ_eq_append_getElem hlt, List.map_append, List.flatten_append, HV.out]
            simpa [Hid] using this
          clear ho6 hb6 hg6 hl6
          go_wp2
          go_roundw
          case rel => exact ⟨j + 1, no' + ul, c6, a6, hj3, by omega, by go_num, rfl, HJ6.out⟩
          case measure => simp only [intOf]; omega
        · obtain rfl : j = 3 := by omega
          have HI3 : Hid (SB w wr eb lb e #[.int .i64 (sm : Int), .int .i64 ((kl : Int) - (sm : Int)), .int .i64 (e.2.size : Int)] ka kl kc e.1.enc ao' no' co' (strB [] (l.take k) ++ (uvEnc sm ++ (uvEnc (kl - sm) ++ uvEnc e.2.size)))) := by
            have := HI.out
            rw [HN.out.2] at this
            simpa [Hid] using this
          obtain ⟨ra, hra, hrb⟩ := slice_any HI3.out.key sm hsmk
          have HRB : Hid (BsAt wr ra (kl - sm) (kc - sm) (e.1.enc.drop sm)) := hrb _ _ HI3.out.key
          clear hrb
          go_wp2_with (first | (at_builtin; refine wpList_appAt wr rfl _ _ rfl w.heap.size ao' no' co' _ rfl HI3.out.own ra (kl - sm) (kc - sm) _ rfl HRB.out (by omega) HI3.out.base.size ?_))
          intro a6 c6 w6 ho6 hb6 hg6 hl6
          have HJ6 : Hid (SB w w6 eb lb e #[.int .i64 (sm : Int), .int .i64 ((kl : Int) - (sm : Int)), .int .i64 (e.2.size : Int)] ka kl kc e.1.enc a6 (no' + (kl - sm)) c6 (strB [] (l.take k) ++ (uvEnc sm ++ (uvEnc (kl - sm) ++ (uvEnc e.2.size ++ e.1.enc.drop sm))))) := by
            have := HI3.out.app ho6 hb6 hg6 hl6
            simpa [Hid] using this
          clear ho6 hb6 hg6 hl6 hra
          have d3 : w6.cell? ⟨eb, 3, none⟩ = some (.string e.2) := HJ6.out.box.cell 3
          go_wp2_with (first | (at_builtin; refine wpList_appS w6 rfl _ _ rfl w.heap.size a6 (no' + (kl - sm)) c6 _ rfl HJ6.out.own e.2 rfl (by omega) HJ6.out.base.size ?_))
          intro a7 c7 w7 ho7 hb7 hg7
          have HE : Hid (Below w.heap.size w w7 ∧ OwnB w7 w.heap.size a7 (no' + (kl - sm) + e.2.size) c7 (strB [] (l.take (k + 1))) ∧ BsAt w7 ka kl kc (ahK l (k + 1))) := by
            rw [own_blk] at hg7
            refine ⟨HJ6.out.base.trans hb7, ?_, ?_⟩
            · rw [HT.out.1, HENT.out, ba_len]
              simpa using ho7
            · rw [HT.out.2]
              exact HJ6.out.key.kept fun k hk => hg7.block k (HJ6.out.old k hk) (fun e => HJ6.out.off k e.symm hk)
          clear ho7 hb7 hg7 d3
          go_wp2
          go_roundw
          case rel => exact ⟨k + 1, no' + (kl - sm) + e.2.size, c7, kl, kc, a7, ka, hkn, by omega, by go_num, rfl, rfl, HE.out⟩
          case measure => simp only [intOf]; omega
    · obtain rfl : k = n := by omega
      have HT : Hid (l.take k = l) := List.take_of_length_le (by have := HS.out.2.2; omega)
      go_wp2
      go_ret
      have ho := HR.out.2.1
      rw [HT.out] at ho
      have hs := ho.size
      subst hs
      exact ⟨ao, co, ret1 rfl, ho, HR.out.1⟩
end Go.Proofs.YtgegjcnjlibfdaaGreat
