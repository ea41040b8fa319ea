/- The contracts of the document's own Same and SameFiles, at edits that are the same. -/
import Derived.Test.YtiflepadjcpjjaaE13Check
namespace Go.Proofs.Ytiflepadjcpjjaa
open Go.RowKit
set_option linter.unusedVariables false
set_option linter.unusedSimpArgs false
theorem run_neq_gone (l n : Int) (W : World) : (binOp .neq 40 (.agg #[.int .i64 l, .int .u64 n]) (.agg #[.int .i64 l, .int .u64 n])).run Try.prog W = .ok (.bool false) W := by
  simp [go_sem, Try.underlying40, Try.underlying23, Try.underlying3]
set_option maxRecDepth 100000 in
theorem run_neq_file (l n z : Int) (s : ByteArray) (q k : Int) (t : ByteArray) (r j : Int) (W : World) : (binOp .neq 44 (.agg #[.int .i64 l, .int .u64 n, .int .i64 z, .string s, .int .u64 q, .int .i64 k, .string t, .int .u64 r, .int .i64 j]) (.agg #[.int .i64 l, .int .u64 n, .int .i64 z, .string s, .int .u64 q, .int .i64 k, .string t, .int .u64 r, .int .i64 j])).run Try.prog W = .ok (.bool false) W := by
  simp [go_sem, Try.underlying44, Try.underlying42, Try.underlying23, Try.underlying3, Try.underlying9]
set_option maxRecDepth 100000 in
set_option maxHeartbeats 1000000 in
theorem sameFiles_eq {l : List PF} {a a' : Option Addr} {n c c' : Nat} {w : World} (h : FlAt w a n c l) (h' : FlAt w a' n c' l) :
    Calls Try.prog 21 #[.slice a n c, .slice a' n c'] w fun e w' => e = .returned (.bool true) ∧ Below w.heap.size w w' := by
  have HS : Hid (FlAt w a n c l ∧ FlAt w a' n c' l ∧ l.length = n) := ⟨h, h', h.size⟩
  have hm := h.row.max
  have hl := h.row.le
  unfold maxLen at hm
  clear h h'
  go_enter Try.func21, Try.ntmps21
  go_wp2_with fail
  go_loopw [5] (fun i wr => ∃ k : Nat, k ≤ n ∧ i = .int .i64 (k : Int) ∧ Hid (Below w.heap.size w wr)) (fun i _ => n - (intOf i).toNat)
  case atStart => exact ⟨0, Nat.zero_le _, rfl, Below.refl _ _⟩
  case round =>
    obtain ⟨k, hk, rfl, HR⟩ := hrel
    by_cases hkn : k < n
    · have hkl : k < l.length := by rw [HS.out.2.2]; exact hkn
      obtain ⟨b, o, hidx, _, hcs⟩ := HS.out.1.at hkl
      obtain ⟨b', o', hidx', _, hcs'⟩ := HS.out.2.1.at hkl
      obtain ⟨c0, c1, c2, c3, c4, c5, c6, c7, c8⟩ := hcs wr HR.out
      obtain ⟨d0, d1, d2, d3, d4, d5, d6, d7, d8⟩ := hcs' wr HR.out
      clear hcs hcs'
      generalize l[k] = f at c0 c1 c2 c3 c4 c5 c6 c7 c8 d0 d1 d2 d3 d4 d5 d6 d7 d8
      have hne := fun W => run_neq_file f.level f.num f.size f.small.user f.small.seq f.small.kind f.large.user f.large.seq f.large.kind W
      go_wp2_with fail
      go_quiet (fail)
      go_wp2
      go_roundw
      case rel => exact ⟨k + 1, hkn, by go_num, HR.out.trans ⟨rfl, rfl, rfl, Nat.le_refl _, fun _ _ => rfl⟩⟩
      case measure => simp only [intOf]; omega
    · go_wp2
      go_ret
      exact ⟨ret1 rfl, HR.out⟩
set_option maxRecDepth 100000 in
set_option maxHeartbeats 2000000 in
theorem same_eq {x : PE} {s t : SE} {w : World} (h : EdAt w x s) (h' : EdAt w x t) :
    Calls Try.prog 11 #[.agg #[.int .u64 (x.log : Int), .int .u64 (x.next : Int), .int .u64 (x.last : Int), .slice s.a x.dels.length s.c, .slice s.a' x.adds.length s.c'], .agg #[.int .u64 (x.log : Int), .int .u64 (x.next : Int), .int .u64 (x.last : Int), .slice t.a x.dels.length t.c, .slice t.a' x.adds.length t.c']] w fun e w' => e = .returned (.bool true) ∧ Below w.heap.size w w' := by
  have hm := h.gs.row.max
  have hl := h.gs.row.le
  unfold maxLen at hm
  obtain ⟨W1, e1, HW⟩ : ∃ W1, W1 = (w.alloc (.cells (eA x s) TE)).alloc (.cells (eA x t) TE) ∧ Hid (Below w.heap.size w W1 ∧ Box W1 w.heap.size TE (eA x s) ∧ Box W1 (w.heap.size + 1) TE (eA x t)) :=
    ⟨_, rfl, ((Below.refl _ _).alloc (Nat.le_refl _) _).alloc (by simp) _, (Box.new _ _ _).alloc _, by have := Box.new (w.alloc (.cells (eA x s) TE)) TE (eA x t); simpa using this⟩
  have hsf : ∀ W, W = (w.alloc (.cells (eA x s) TE)).alloc (.cells (eA x t) TE) → Calls Try.prog 21 #[.slice s.a' x.adds.length s.c', .slice t.a' x.adds.length t.c'] W fun e w' => e = .returned (.bool true) ∧ Below W1.heap.size W1 w' := by
    rintro W rfl
    rw [← e1]
    exact sameFiles_eq (h.below HW.out.1).fs (h'.below HW.out.1).fs
  have HS : Hid (GsAt w s.a x.dels.length s.c x.dels ∧ GsAt w t.a x.dels.length t.c x.dels) := ⟨h.gs, h'.gs⟩
  clear h h' e1
  go_enter Try.func11, Try.ntmps11
  go_wp2_with fail
  refine (hsf _ rfl).mono ?_
  rintro _ w2 ⟨rfl, hb2⟩
  have H2 : Hid (Below w.heap.size w w2 ∧ Box w2 w.heap.size TE (eA x s) ∧ Box w2 (w.heap.size + 1) TE (eA x t)) := ⟨HW.out.1.trans (hb2.mono HW.out.1.size), HW.out.2.1.kept (hb2.block _ HW.out.2.1.lt), HW.out.2.2.kept (hb2.block _ HW.out.2.2.lt)⟩
  obtain ⟨c0, c1, c2, c3, c4⟩ := H2.out.2.1.five
  obtain ⟨d0, d1, d2, d3, d4⟩ := H2.out.2.2.five
  clear hsf hb2 HW
  go_wp2_with fail
  go_loopw [6] (fun i wr => ∃ k : Nat, k ≤ x.dels.length ∧ i = .int .i64 (k : Int) ∧ Hid (Below w.heap.size w wr ∧ Box wr w.heap.size TE (eA x s) ∧ Box wr (w.heap.size + 1) TE (eA x t))) (fun i _ => x.dels.length - (intOf i).toNat)
  case atStart => exact ⟨0, Nat.zero_le _, rfl, H2.out⟩
  case round =>
    clear c0 c1 c2 c3 c4 d0 d1 d2 d3 d4
    obtain ⟨k, hk, rfl, HR⟩ := hrel
    have c3 : wr.cell? ⟨w.heap.size, 3, none⟩ = some (.slice s.a x.dels.length s.c) := HR.out.2.1.cell 3
    have d3 : wr.cell? ⟨w.heap.size + 1, 3, none⟩ = some (.slice t.a x.dels.length t.c) := HR.out.2.2.cell 3
    by_cases hkn : k < x.dels.length
    · obtain ⟨b, o, hidx, _, hcs⟩ := HS.out.1.at hkn
      obtain ⟨b', o', hidx', _, hcs'⟩ := HS.out.2.at hkn
      obtain ⟨f0, f1⟩ := hcs wr HR.out.1
      obtain ⟨g0, g1⟩ := hcs' wr HR.out.1
      clear hcs hcs'
      generalize x.dels[k] = f at f0 f1 g0 g1
      have hne := fun W => run_neq_gone f.level f.num W
      go_wp2_with fail
      go_quiet (fail)
      go_wp2
      go_roundw
      case rel => exact ⟨k + 1, hkn, by go_num, HR.out.1.trans ⟨rfl, rfl, rfl, Nat.le_refl _, fun _ _ => rfl⟩, HR.out.2.1, HR.out.2.2⟩
      case measure => simp only [intOf]; omega
    · go_wp2
      go_ret
      exact ⟨ret1 rfl, HR.out.1⟩
end Go.Proofs.Ytiflepadjcpjjaa
