/- The contract of the document's own Check. -/
import Derived.Test.YtiflepadjcpjjaaQa00
import Derived.Test.YtiflepadjcpjjaaE13Check
import Derived.BigQuiet
import Derived.Deep.RegionHeld3
import Derived.Test.YtiflepadjcpjjaaQa02
import Derived.Test.YtiflepadjcpjjaaQa04
import Derived.Test.YtiflepadjcpjjaaQa01
import Derived.Test.YtiflepadjcpjjaaQa05
namespace Go.Proofs.Ytiflepadjcpjjaa
open Go.RowKit

set_option maxRecDepth 100000 in
set_option maxHeartbeats 400000 in
theorem rcheck_any (s : ByteArray) (q : Nat) (k : Int) (w : World) (hs : s.size ≤ 9223372036854775807) :
    Calls Try.prog 36 #[.agg #[.string s, .int .u64 (q : Int), .int .i64 k]] w fun e w' => e = .returned (.int .i64 ((chk s.size q k : Nat) : Int)) ∧ Below w.heap.size w w' := by
  have hb : Below w.heap.size w (w.alloc (.cells #[.string s, .int .u64 (q : Int), .int .i64 k] 42)) := (Below.refl _ _).alloc (Nat.le_refl _) _
  by_cases h1 : 64 < s.size
  · have HE : Hid (chk s.size q k = 21) := by unfold chk Hid; rw [if_pos h1]
    go_enter Try.func36, Try.ntmps36
    go_wp2
    go_ret
    rw [HE.out]
    exact ⟨ret1 rfl, hb⟩
  · by_cases h2 : 72057594037927935 < q
    · have HE : Hid (chk s.size q k = 22) := by unfold chk Hid; rw [if_neg h1, if_pos h2]
      go_enter Try.func36, Try.ntmps36
      go_wp2
      go_ret
      rw [HE.out]
      exact ⟨ret1 rfl, hb⟩
    · by_cases h3 : k = 0
      · have HE : Hid (chk s.size q k = 0) := by unfold chk Hid; rw [if_neg h1, if_neg h2, if_pos (.inl h3)]
        subst h3
        go_enter Try.func36, Try.ntmps36
        go_wp2
        go_ret
        rw [HE.out]
        exact ⟨ret1 rfl, hb⟩
      · by_cases h4 : k = 1
        · have HE : Hid (chk s.size q k = 0) := by unfold chk Hid; rw [if_neg h1, if_neg h2, if_pos (.inr h4)]
          subst h4
          go_enter Try.func36, Try.ntmps36
          go_wp2
          go_ret
          rw [HE.out]
          exact ⟨ret1 rfl, hb⟩
        · have HE : Hid (chk s.size q k = 23) := by unfold chk Hid; rw [if_neg h1, if_neg h2, if_neg (by omega)]
          have h3' : (k != 0) = true := by simpa using h3
          have h4' : (k != 1) = true := by simpa using h4
          go_enter Try.func36, Try.ntmps36
          go_wp2
          go_ret
          rw [HE.out]
          exact ⟨ret1 rfl, hb⟩
end Go.Proofs.Ytiflepadjcpjjaa
/- The contract of the document's own Compare. -/
namespace Go.Proofs.Ytiflepadjcpjjaa
open Go.RowKit

set_option maxRecDepth 100000 in
set_option maxHeartbeats 1000000 in
theorem rcompare_any (s t : ByteArray) (q r k l : Int) (w : World) :
    Calls Try.prog 40 #[.agg #[.string s, .int .u64 q, .int .i64 k], .agg #[.string t, .int .u64 r, .int .i64 l]] w fun e w' => e = .returned (.int .i64 (kcmp s.toList t.toList q r k l)) ∧ Below w.heap.size w w' := by
  have hB : Hid (Below w.heap.size w ((w.alloc (Obj.cells #[Value.string s, Value.int IntKind.u64 q, Value.int IntKind.i64 k] 42)).alloc (Obj.cells #[Value.string t, Value.int IntKind.u64 r, Value.int IntKind.i64 l] 42))) := ((Below.refl _ w).alloc (Nat.le_refl _) _).alloc (by simp) _
  by_cases h1 : Op.bytesLess s.toList t.toList = true
  · have HE : Hid (kcmp s.toList t.toList q r k l = -1) := by simp [Hid, kcmp, scmp, h1]
    go_enter Try.func40, Try.ntmps40
    go_wp2
    go_ret
    rw [HE.out]
    exact ⟨ret1 rfl, hB.out⟩
  · have h1' : Op.bytesLess s.toList t.toList = false := by simpa using h1
    by_cases h2 : (s.toList == t.toList) = true
    · have HK : Hid (kcmp s.toList t.toList q r k l = if r < q then -1 else if q < r then 1 else icmp l k) := by
        simp only [Hid, kcmp, scmp, icmp, h1', h2]
        by_cases a : r < q
        · simp [a]
        · by_cases b : q < r
          · simp [a, b]
          · simp [a, b]
      by_cases h3 : r < q
      · have HE : Hid (kcmp s.toList t.toList q r k l = -1) := by rw [Hid, HK.out, if_pos h3]
        go_enter Try.func40, Try.ntmps40
        go_wp2
        go_ret
        rw [HE.out]
        exact ⟨ret1 rfl, hB.out⟩
      · have h3' : decide (r < q) = false := by simpa using h3
        by_cases h4 : q < r
        · have HE : Hid (kcmp s.toList t.toList q r k l = 1) := by rw [Hid, HK.out, if_neg h3, if_pos h4]
          have h4' : (q == r) = false := by simp; omega
          go_enter Try.func40, Try.ntmps40
          go_wp2
          go_ret
          rw [HE.out]
          exact ⟨ret1 rfl, hB.out⟩
        · have h4' : (q == r) = true := by simp; omega
          have h5' : decide (q < r) = false := by simpa using h4
          by_cases h6 : l < k
          · have HE : Hid (kcmp s.toList t.toList q r k l = -1) := by rw [Hid, HK.out, if_neg h3, if_neg h4]; simp [icmp, h6]
            go_enter Try.func40, Try.ntmps40
            go_wp2
            go_ret
            rw [HE.out]
            exact ⟨ret1 rfl, hB.out⟩
          · have h6' : decide (l < k) = false := by simpa using h6
            by_cases h7 : k < l
            · have HE : Hid (kcmp s.toList t.toList q r k l = 1) := by rw [Hid, HK.out, if_neg h3, if_neg h4]; simp [icmp, h6, h7]
              go_enter Try.func40, Try.ntmps40
              go_wp2
              go_ret
              rw [HE.out]
              exact ⟨ret1 rfl, hB.out⟩
            · have HE : Hid (kcmp s.toList t.toList q r k l = 0) := by rw [Hid, HK.out, if_neg h3, if_neg h4]; simp [icmp, h6, h7]
              have h7' : decide (k < l) = false := by simpa using h7
              go_enter Try.func40, Try.ntmps40
              go_wp2
              go_ret
              rw [HE.out]
              exact ⟨ret1 rfl, hB.out⟩
    · have h2' : (s.toList == t.toList) = false := by simpa using h2
      have HE : Hid (kcmp s.toList t.toList q r k l = 1) := by simp [Hid, kcmp, scmp, h1', h2']
      go_enter Try.func40, Try.ntmps40
      go_wp2
      go_ret
      rw [HE.out]
      exact ⟨ret1 rfl, hB.out⟩
end Go.Proofs.Ytiflepadjcpjjaa
/- The contracts of the document's own place, File and Check. -/
namespace Go.Proofs.Ytiflepadjcpjjaa
open Go.RowKit
set_option linter.unusedVariables false
set_option linter.unusedSimpArgs false
set_option maxRecDepth 100000 in
set_option maxHeartbeats 400000 in
theorem rplace_any (l : Int) (n : Nat) (w : World) : Calls Try.prog 24 #[.int .i64 l, .int .u64 (n : Int)] w fun e w' => e = .returned (.int .i64 ((gErr l n : Nat) : Int)) ∧ w' = w := by
  by_cases h1 : l < 0
  · have HE : Hid (gErr l n = 130) := by unfold gErr Hid; rw [if_pos (.inl h1)]
    go_enter Try.func24, Try.ntmps24
    go_wp2
    go_ret
    rw [HE.out]
    exact ⟨ret1 rfl, rfl⟩
  · by_cases h2 : 4 ≤ l
    · have HE : Hid (gErr l n = 130) := by unfold gErr Hid; rw [if_pos (.inr h2)]
      go_enter Try.func24, Try.ntmps24
      go_wp2
      go_ret
      rw [HE.out]
      exact ⟨ret1 rfl, rfl⟩
    · by_cases h3 : n < 1
      · have HE : Hid (gErr l n = 132) := by unfold gErr Hid; rw [if_neg (by omega), if_pos (.inl h3)]
        go_enter Try.func24, Try.ntmps24
        go_wp2
        go_ret
        rw [HE.out]
        exact ⟨ret1 rfl, rfl⟩
      · by_cases h4 : 1099511627776 < n
        · have HE : Hid (gErr l n = 132) := by unfold gErr Hid; rw [if_neg (by omega), if_pos (.inr h4)]
          go_enter Try.func24, Try.ntmps24
          go_wp2
          go_ret
          rw [HE.out]
          exact ⟨ret1 rfl, rfl⟩
        · have HE : Hid (gErr l n = 0) := by unfold gErr Hid; rw [if_neg (by omega), if_neg (by omega)]
          go_enter Try.func24, Try.ntmps24
          go_wp2
          go_ret
          rw [HE.out]
          exact ⟨ret1 rfl, rfl⟩
set_option maxRecDepth 100000 in
set_option maxHeartbeats 1000000 in
theorem rfile_any (f : PF) (w : World) (hw : WfF f) :
    Calls Try.prog 25 #[.agg #[.int .i64 f.level, .int .u64 (f.num : Int), .int .i64 f.size, .string f.small.user, .int .u64 (f.small.seq : Int), .int .i64 f.small.kind, .string f.large.user, .int .u64 (f.large.seq : Int), .int .i64 f.large.kind]] w fun e w' => e = .returned (.int .i64 ((f.err : Nat) : Int)) ∧ Below w.heap.size w w' := by
  have HW : Hid (Below w.heap.size w (w.alloc (.cells (fA f) TF)) ∧ Box (w.alloc (.cells (fA f) TF)) w.heap.size TF (fA f)) := ⟨(Below.refl _ _).alloc (Nat.le_refl _) _, Box.new _ _ _⟩
  have HG := fun W => rplace_any f.level f.num W
  have HC1 : Hid (∀ W, Calls Try.prog 36 #[.agg #[.string f.small.user, .int .u64 (f.small.seq : Int), .int .i64 f.small.kind]] W fun e w' => e = .returned (.int .i64 ((f.small.err : Nat) : Int)) ∧ Below W.heap.size W w') := fun W => rcheck_any _ _ _ W (by have := hw.1; omega)
  have HC2 : Hid (∀ W, Calls Try.prog 36 #[.agg #[.string f.large.user, .int .u64 (f.large.seq : Int), .int .i64 f.large.kind]] W fun e w' => e = .returned (.int .i64 ((f.large.err : Nat) : Int)) ∧ Below W.heap.size W w') := fun W => rcheck_any _ _ _ W (by have := hw.2; omega)
  have HC3 : Hid (∀ W, Calls Try.prog 40 #[.agg #[.string f.large.user, .int .u64 (f.large.seq : Int), .int .i64 f.large.kind], .agg #[.string f.small.user, .int .u64 (f.small.seq : Int), .int .i64 f.small.kind]] W fun e w' => e = .returned (.int .i64 (f.large.cmp f.small)) ∧ Below W.heap.size W w') := fun W => rcompare_any _ _ _ _ _ _ W
  have HE : Hid (f.err = if gErr f.level f.num ≠ 0 then gErr f.level f.num else if f.size < 1 ∨ 2147483647 < f.size then 132 else if f.small.err ≠ 0 then f.small.err else if f.large.err ≠ 0 then f.large.err else if f.large.cmp f.small < 0 then 132 else 0) := rfl
  generalize f.err = er at HE
  generalize gErr f.level f.num = ge at HG HE
  generalize f.small.err = e1 at HC1 HE
  generalize f.large.err = e2 at HC2 HE
  generalize f.large.cmp f.small = cv at HC3 HE
  clear hw
  go_enter Try.func25, Try.ntmps25
  go_wp2_with fail
  refine (HG _).mono ?_
  rintro _ w1 ⟨rfl, hw1⟩
  have H1 : Hid (Below w.heap.size w w1 ∧ Box w1 w.heap.size TF (fA f)) := by rw [hw1]; exact HW.out
  obtain ⟨c0, c1, c2, c3, c4, c5, c6, c7, c8⟩ := H1.out.2.nine
  clear hw1 HW HG
  by_cases hg : ge = 0
  · subst hg
    by_cases h1 : f.size < 1
    · go_wp2
      go_ret
      rw [HE.out, if_neg (by simp), if_pos (.inl h1)]
      exact ⟨ret1 rfl, H1.out.1⟩
    by_cases h2 : 2147483647 < f.size
    · go_wp2
      go_ret
      rw [HE.out, if_neg (by simp), if_pos (.inr h2)]
      exact ⟨ret1 rfl, H1.out.1⟩
    have HE2 : Hid (er = if e1 ≠ 0 then e1 else if e2 ≠ 0 then e2 else if cv < 0 then 132 else 0) := by
      have := HE.out
      rw [if_neg (by simp), if_neg (by omega)] at this
      exact this
    go_wp2_with fail
    refine (HC1.out _).mono ?_
    rintro _ w2 ⟨rfl, hb2⟩
    have H2 : Hid (Below w.heap.size w w2 ∧ Box w2 w.heap.size TF (fA f)) := ⟨H1.out.1.trans (hb2.mono H1.out.1.size), H1.out.2.kept (hb2.block _ H1.out.2.lt)⟩
    clear c0 c1 c2 c3 c4 c5 c6 c7 c8
    obtain ⟨c0, c1, c2, c3, c4, c5, c6, c7, c8⟩ := H2.out.2.nine
    clear hb2 HC1 HE H1
    by_cases hk1 : e1 = 0
    · subst hk1
      go_wp2_with fail
      refine (HC2.out _).mono ?_
      rintro _ w3 ⟨rfl, hb3⟩
      have H3 : Hid (Below w.heap.size w w3 ∧ Box w3 w.heap.size TF (fA f)) := ⟨H2.out.1.trans (hb3.mono H2.out.1.size), H2.out.2.kept (hb3.block _ H2.out.2.lt)⟩
      clear c0 c1 c2 c3 c4 c5 c6 c7 c8
      obtain ⟨c0, c1, c2, c3, c4, c5, c6, c7, c8⟩ := H3.out.2.nine
      clear hb3 HC2 H2
      by_cases hk2 : e2 = 0
      · subst hk2
        go_wp2_with fail
        refine (HC3.out _).mono ?_
        rintro _ w4 ⟨rfl, hb4⟩
        have H4 : Hid (Below w.heap.size w w4) := H3.out.1.trans (hb4.mono H3.out.1.size)
        clear hb4 c0 c1 c2 c3 c4 c5 c6 c7 c8 HC3
        by_cases hcv : cv < 0
        · go_wp2
          go_ret
          rw [HE2.out, if_neg (by simp), if_neg (by simp), if_pos (by omega)]
          exact ⟨ret1 rfl, H4.out⟩
        · go_wp2
          go_ret
          rw [HE2.out, if_neg (by simp), if_neg (by simp), if_neg (by omega)]
          exact ⟨ret1 rfl, H4.out⟩
      · have hne : ((e2 : Int) != 0) = true := by simp; omega
        go_wp2
        go_ret
        rw [HE2.out, if_neg (by simp), if_pos hk2]
        exact ⟨ret1 rfl, H3.out.1⟩
    · have hne : ((e1 : Int) != 0) = true := by simp; omega
      go_wp2
      go_ret
      rw [HE2.out, if_pos hk1]
      exact ⟨ret1 rfl, H2.out.1⟩
  · have hne : ((ge : Int) != 0) = true := by simp; omega
    go_wp2
    go_ret
    rw [HE.out, if_pos hg]
    exact ⟨ret1 rfl, H1.out.1⟩
end Go.Proofs.Ytiflepadjcpjjaa
/- The contract of the document's own Check. -/
namespace Go.Proofs.Ytiflepadjcpjjaa
open Go.RowKit
set_option linter.unusedVariables false
set_option linter.unusedSimpArgs false
set_option maxRecDepth 100000 in
set_option maxHeartbeats 2000000 in
theorem recheck_any (x : PE) (s : SE) (w : World) (h : EdAt w x s) (hw : WfE x) :
    Calls Try.prog 13 #[.agg #[.int .u64 (x.log : Int), .int .u64 (x.next : Int), .int .u64 (x.last : Int), .slice s.a x.dels.length s.c, .slice s.a' x.adds.length s.c']] w fun e w' => e = .returned (.int .i64 ((x.err : Nat) : Int)) ∧ Below w.heap.size w w' := by
  have HW : Hid (Below w.heap.size w (w.alloc (.cells (eA x s) TE)) ∧ Box (w.alloc (.cells (eA x s) TE)) w.heap.size TE (eA x s)) := ⟨(Below.refl _ _).alloc (Nat.le_refl _) _, Box.new _ _ _⟩
  have HS : Hid (EdAt w x s ∧ WfE x) := ⟨h, hw⟩
  have hm := h.gs.row.max
  have hl := h.gs.row.le
  have hm' := h.fs.row.max
  have hl' := h.fs.row.le
  unfold maxLen at hm hm'
  clear h hw
  by_cases h1 : 20000 < x.dels.length
  · have HE : Hid (x.err = 131) := PE.err_many (.inl h1)
    go_enter Try.func13, Try.ntmps13
    go_wp2
    go_ret
    rw [HE.out]
    exact ⟨ret1 rfl, HW.out.1⟩
  by_cases h2 : 100 < x.adds.length
  · have HE : Hid (x.err = 131) := PE.err_many (.inr h2)
    go_enter Try.func13, Try.ntmps13
    go_wp2
    go_ret
    rw [HE.out]
    exact ⟨ret1 rfl, HW.out.1⟩
  by_cases h3 : 1099511627776 < x.log
  · have HE : Hid (x.err = 132) := PE.err_file (by omega) (.inl h3)
    go_enter Try.func13, Try.ntmps13
    go_wp2
    go_ret
    rw [HE.out]
    exact ⟨ret1 rfl, HW.out.1⟩
  by_cases h4 : 1099511627776 < x.next
  · have HE : Hid (x.err = 132) := PE.err_file (by omega) (.inr h4)
    go_enter Try.func13, Try.ntmps13
    go_wp2
    go_ret
    rw [HE.out]
    exact ⟨ret1 rfl, HW.out.1⟩
  by_cases h5 : 72057594037927935 < x.last
  · have HE : Hid (x.err = 22) := PE.err_seq (by omega) (by omega) h5
    go_enter Try.func13, Try.ntmps13
    go_wp2
    go_ret
    rw [HE.out]
    exact ⟨ret1 rfl, HW.out.1⟩
  have HE : Hid (x.err = if errL PG.err x.dels ≠ 0 then errL PG.err x.dels else errL PF.err x.adds) := PE.err_rest (by omega) (by omega) h5
  generalize x.err = er at HE
  go_enter Try.func13, Try.ntmps13
  go_wp2_with fail
  go_loopw [3] (fun i wr => ∃ k : Nat, k ≤ x.dels.length ∧ i = .int .i64 (k : Int) ∧ Hid (Below w.heap.size w wr ∧ Box wr w.heap.size TE (eA x s) ∧ errL PG.err x.dels = errL PG.err (x.dels.drop k))) (fun i _ => x.dels.length - (intOf i).toNat)
  case atStart => exact ⟨0, Nat.zero_le _, rfl, HW.out.1, HW.out.2, by simp⟩
  case round =>
    obtain ⟨k, hk, rfl, HR⟩ := hrel
    have c3 : wr.cell? ⟨w.heap.size, 3, none⟩ = some (.slice s.a x.dels.length s.c) := HR.out.2.1.cell 3
    by_cases hkn : k < x.dels.length
    · obtain ⟨b, o, hidx, hlt, hcs⟩ := HS.out.1.gs.at hkn
      obtain ⟨c0, c1⟩ := hcs wr HR.out.1
      have HST : Hid (errL PG.err x.dels = if (x.dels[k]).err ≠ 0 then (x.dels[k]).err else errL PG.err (x.dels.drop (k + 1))) := by
        show _ = _
        rw [HR.out.2.2, errL_step hkn]
      clear hcs
      generalize x.dels[k] = g at c0 c1 HST
      have HC : Hid (∀ W, Calls Try.prog 24 #[.int .i64 g.level, .int .u64 (g.num : Int)] W fun e w' => e = .returned (.int .i64 ((g.err : Nat) : Int)) ∧ w' = W) := fun W => rplace_any _ _ _
      generalize g.err = ge at HST HC
      go_wp2_with fail
      have d3 : wr.drew.cell? ⟨w.heap.size, 3, none⟩ = some (.slice s.a x.dels.length s.c) := c3
      have d0 : wr.drew.cell? ⟨b, o, none⟩ = some (.int .i64 g.level) := c0
      have d1 : wr.drew.cell? ⟨b, o + 1, none⟩ = some (.int .u64 (g.num : Int)) := c1
      have H2 : Hid (Below w.heap.size w wr.drew ∧ Box wr.drew w.heap.size TE (eA x s)) := ⟨HR.out.1.drew, HR.out.2.1⟩
      go_region_held3 (fun V => V.cell? ⟨w.heap.size, 3, none⟩ = some (.slice s.a x.dels.length s.c) ∧ V.cell? ⟨b, o, none⟩ = some (.int .i64 g.level) ∧ V.cell? ⟨b, o + 1, none⟩ = some (.int .u64 (g.num : Int))) (first | exact ⟨d3, d0, d1⟩ | go_keep)
        (first | (go_at_call 24; refine (HC.out _).mono ?_; rintro _ vx ⟨rfl, hvx⟩; obtain rfl := hvx.symm))
      by_cases hge : ge = 0
      · subst hge
        go_wp2
        go_roundw
        case rel => exact ⟨k + 1, hkn, by go_num, H2.out.1, H2.out.2, HST.out⟩
        case measure => simp only [intOf]; omega
      · have hne : ((ge : Int) != 0) = true := by simp; omega
        have HF : Hid (er = ge) := by
          have e : errL PG.err x.dels = ge := by rw [HST.out, if_pos hge]
          show er = ge
          rw [HE.out, e, if_pos hge]
        go_wp2
        go_ret
        rw [HF.out]
        exact ⟨ret1 rfl, H2.out.1⟩
    · have HE2 : Hid (er = errL PF.err x.adds) := by
        have e : errL PG.err x.dels = 0 := by rw [HR.out.2.2, errL_end (by omega)]
        show er = _
        rw [HE.out, e, if_neg (by simp)]
      go_wp2_with fail
      clear c3
      go_loopw [5] (fun i wy => ∃ k : Nat, k ≤ x.adds.length ∧ i = .int .i64 (k : Int) ∧ Hid (Below w.heap.size w wy ∧ Box wy w.heap.size TE (eA x s) ∧ errL PF.err x.adds = errL PF.err (x.adds.drop k))) (fun i _ => x.adds.length - (intOf i).toNat)
      case atStart => exact ⟨0, Nat.zero_le _, rfl, HR.out.1, HR.out.2.1, by simp⟩
      case round =>
        obtain ⟨j, hj, rfl, HQ⟩ := hrel
        have c4 : wr.cell? ⟨w.heap.size, 4, none⟩ = some (.slice s.a' x.adds.length s.c') := HQ.out.2.1.cell 4
        by_cases hjn : j < x.adds.length
        · obtain ⟨b, o, hidx, hlt, hcs⟩ := HS.out.1.fs.at hjn
          obtain ⟨f0, f1, f2, f3, f4, f5, f6, f7, f8⟩ := hcs wr HQ.out.1
          have HST : Hid (errL PF.err x.adds = if (x.adds[j]).err ≠ 0 then (x.adds[j]).err else errL PF.err (x.adds.drop (j + 1))) := by
            show _ = _
            rw [HQ.out.2.2, errL_step hjn]
          have hwf := HS.out.2 x.adds[j] (List.getElem_mem hjn)
          clear hcs
          generalize x.adds[j] = f at f0 f1 f2 f3 f4 f5 f6 f7 f8 HST hwf
          have HC : Hid (∀ W, Calls Try.prog 25 #[.agg #[.int .i64 f.level, .int .u64 (f.num : Int), .int .i64 f.size, .string f.small.user, .int .u64 (f.small.seq : Int), .int .i64 f.small.kind, .string f.large.user, .int .u64 (f.large.seq : Int), .int .i64 f.large.kind]] W fun e w' => e = .returned (.int .i64 ((f.err : Nat) : Int)) ∧ Below W.heap.size W w') := fun W => rfile_any _ _ hwf
          clear hwf
          go_wp2_with fail
          refine (HC.out _).mono ?_
          rintro _ w2 ⟨rfl, hb2⟩
          have H2 : Hid (Below w.heap.size w w2 ∧ Box w2 w.heap.size TE (eA x s)) := ⟨HQ.out.1.trans (hb2.mono HQ.out.1.size), HQ.out.2.1.kept (hb2.block _ HQ.out.2.1.lt)⟩
          clear hb2 HC
          generalize f.err = ge at HST
          by_cases hge : ge = 0
          · subst hge
            go_wp2
            go_roundw
            case rel => exact ⟨j + 1, hjn, by go_num, H2.out.1, H2.out.2, HST.out⟩
            case measure => simp only [intOf]; omega
          · have hne : ((ge : Int) != 0) = true := by simp; omega
            have HF : Hid (er = ge) := by
              show er = ge
              rw [HE2.out, HST.out, if_pos hge]
            go_wp2
            go_ret
            rw [HF.out]
            exact ⟨ret1 rfl, H2.out.1⟩
        · have HF : Hid (er = 0) := by
            show er = 0
            rw [HE2.out, HQ.out.2.2, errL_end (by omega)]
          go_wp2
          go_ret
          rw [HF.out]
          exact ⟨ret1 rfl, HQ.out.1⟩
end Go.Proofs.Ytiflepadjcpjjaa
/- The contracts of the document's own PutUvarint and PutText: what they lay behind bytes, in new memory. -/
namespace Go.Proofs.Ytiflepadjcpjjaa
open Go.RowKit

set_option maxRecDepth 100000 in
set_option maxHeartbeats 400000 in
theorem rputUvarint_any (a : Option Addr) (len cap : Nat) (bs : List UInt8) (n : Nat) (w : World) (h : BsAt w a len cap bs) (hn : n < 18446744073709551616) (hl : len + 10 ≤ 140737488355328) :
    Calls Try.prog 18 #[.slice a len cap, .int .u64 (n : Int)] w fun e w' => ∃ a' c', e = .returned (.slice a' (len + (uvEnc n).length) c') ∧ OwnB w' w.heap.size a' (len + (uvEnc n).length) c' (bs ++ uvEnc n) ∧ Below w.heap.size w w' := by
  go_enter Try.func18, Try.ntmps18
  go_wp2_with (at_builtin; refine wpList_app0 w rfl _ _ rfl rfl _ _ _ bs rfl h (by omega) ?_; intro a0 c0 w0 ho0 hb0)
  go_loopw [5, 1] (fun v x wr => ∃ (a1 : Option Addr) (l1 c1 m f : Nat) (cs : List UInt8), v = .slice a1 l1 c1 ∧ x = .int .u64 (m : Int) ∧ l1 + (f + 1) ≤ len + 10 ∧ f ≤ 9 ∧ m < 18446744073709551616 ∧
      Hid (m < 2 * 128 ^ f ∧ bs ++ uvEnc n = cs ++ uvEncF f m ∧ OwnB wr w.heap.size a1 l1 c1 cs) ∧ Below w.heap.size w wr) (fun _ x _ => (intOf x).toNat)
  case atStart => exact ⟨a0, len, c0, n, 9, bs, rfl, rfl, by omega, by omega, hn, ⟨by omega, rfl, ho0⟩, hb0⟩
  case round =>
    obtain ⟨a1, l1, c1, m, f, cs, rfl, rfl, hl1, hf, hm, HR, hb⟩ := hrel
    have hsz := hb.size
    by_cases h128 : 128 ≤ m
    · obtain ⟨f, rfl⟩ : ∃ g, f = g + 1 := ⟨f - 1, by have h1 := HR.out.1; rcases Nat.eq_zero_or_pos f with h0 | h0; (subst h0; simp at h1; omega); omega⟩
      go_wp2_with (first
        | (at_builtin; refine wpList_app _ rfl _ _ rfl w.heap.size _ _ _ cs rfl (HR.out.2.2.alloc _) _ _ _ [hiByte m] rfl (BsAt.one (by rw [hiByte_toNat]; omega)) (by omega) (by simp; omega) ?_))
      intro a2 c2 w2 ho2 hb2 _
      have HO : Hid (OwnB w2 w.heap.size a2 (l1 + 1) c2 (cs ++ [hiByte m])) := ho2
      have HBB : Hid (Below w.heap.size w w2) := (hb.alloc (by omega) _).trans hb2
      clear ho2 hb2
      go_wp2
      go_roundw
      case rel =>
        obtain ⟨h1, h2, h3⟩ := HR.out
        rw [uvEncF_more f m h128] at h2
        exact ⟨a2, l1 + 1, c2, m / 128, f, cs ++ [hiByte m], rfl, by go_num, by omega, by omega, by omega, ⟨by rw [Nat.pow_succ] at h1; omega, by rw [h2]; simp, HO.out⟩, HBB.out⟩
      case measure => simp [intOf]; omega
    · go_wp2_with (first
        | (at_builtin; refine wpList_app _ rfl _ _ rfl w.heap.size _ _ _ cs rfl (HR.out.2.2.alloc _) _ _ _ [loByte m] rfl (BsAt.one (by rw [loByte_toNat]; omega)) (by omega) (by simp; omega) ?_))
      intro a2 c2 w2 ho2 hb2 _
      have HO : Hid (OwnB w2 w.heap.size a2 (l1 + 1) c2 (cs ++ [loByte m])) := ho2
      have HBB : Hid (Below w.heap.size w w2) := (hb.alloc (by omega) _).trans hb2
      clear ho2 hb2
      go_wp2
      go_ret
      obtain ⟨h1, h2, h3⟩ := HR.out
      rw [uvEncF_last f m (by omega)] at h2
      have hO := HO.out
      rw [← h2] at hO
      have hs := hO.size
      rw [List.length_append, h.size] at hs
      rw [hs]
      exact ⟨a2, c2, ret1 (by simp), hO, HBB.out⟩

set_option maxRecDepth 100000 in
set_option maxHeartbeats 400000 in
theorem rputText_any (a : Option Addr) (len cap : Nat) (bs : List UInt8) (s : ByteArray) (w : World) (h : BsAt w a len cap bs) (hl : len + 10 + s.size ≤ 140737488355328) :
    Calls Try.prog 20 #[.slice a len cap, .string s] w fun e w' => ∃ a' c', e = .returned (.slice a' (len + (txtPut s.data.toList).length) c') ∧ OwnB w' w.heap.size a' (len + (txtPut s.data.toList).length) c' (bs ++ txtPut s.data.toList) ∧ Below w.heap.size w w' := by
  have hsl : s.data.toList.length = s.size := by rw [Array.length_toList]; rfl
  have hu := uvEnc_length s.size
  have HT : Hid (txtPut s.data.toList = uvEnc s.size ++ s.data.toList) := by unfold txtPut Hid; rw [hsl]
  have HSL : Hid (s.data.toList.length = s.size) := hsl
  clear hsl
  have hcv : ∀ W : World, (convert 9 28 (.string s)).run Try.prog W = .ok (.slice (some ⟨W.heap.size, 0, none⟩) s.size (grownCap W s.size 0 5))
      (W.drew.alloc (.cells (bytesRow s (grownCap W s.size 0 5)) 5 ((bytesRow s (grownCap W s.size 0 5)).size, (bytesRow s (grownCap W s.size 0 5)).size + 1))) :=
    fun W => run_bytes_of_string W 9 28 5 s Try.underlying9 Try.underlying28 Try.underlying5
  go_enter Try.func20, Try.ntmps20
  go_wp2_with (first
    | (go_at_call 18; refine (rputUvarint_any _ _ _ bs s.size _ h (by omega) (by omega)).mono ?_; rintro e w1 ⟨a1, c1, rfl, ho1, hb1⟩)
    | (at_builtin; refine wpList_app _ rfl _ _ rfl w.heap.size _ _ _ _ rfl (ho1.below ?_) _ _ _ s.data.toList rfl (BsAt.ofStr w1 s _ _ (grownCap_ge _ _ _ _) (grownCap_le_maxLen _ _ _ _ (by unfold maxLen; omega))) (by omega) ?_ ?_))
  · exact ((Below.refl _ _).alloc (Nat.le_refl _) _).drew
  · have := hb1.size
    simp
    omega
  · intro a3 c3 w3 ho3 hb3 _
    have HW : Hid (Below w.heap.size w w3) := ((hb1.alloc hb1.size _).drew).trans hb3
    clear hb3
    go_wp2
    go_ret
    rw [HT.out, List.length_append, HSL.out, ← Nat.add_assoc]
    exact ⟨a3, c3, ret1 rfl, ho3, HW.out⟩
end Go.Proofs.Ytiflepadjcpjjaa
