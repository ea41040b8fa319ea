/- Rows of entries held against one another: the contract of Same; small facts for the walks. -/
import Derived.Test.YtjlmjgbkeibaiaaC11Awake
import Derived.Test.YtjlmjgbkeibaiaaK11Args
namespace Go.Proofs.Ytjlmjgbkeibaiaa
open Go.RowKit
set_option linter.unusedVariables false
set_option linter.unusedSimpArgs false
theorem str_at {w : World} {a : Option Addr} {len cap : Nat} {bs : List UInt8} (h : BsAt w a len cap bs) : (convert 24 9 (.slice a len cap)).run Try.prog w = .ok (.string (strOf bs)) w := h.asStr Try.underlying24 Try.underlying5 Try.underlying9
theorem RawOk.wfl {l : List KV} (h : ∀ e ∈ l, RawOk e) : WfL l := fun e he => ⟨by have := (h e he).key; unfold maxLen at this; omega, (h e he).val⟩
theorem OwnK.made (w : World) : OwnK (w.alloc (.cells #[] TKV)) w.heap.size (some ⟨w.heap.size, 0, none⟩) 0 0 [] := ⟨rfl, World.ownsRow_made w #[] 0 (Nat.le_refl _) (Nat.zero_le _) (by simp)⟩
set_option maxRecDepth 100000 in
theorem run_neq_kv (e : KV) (W : World) : (binOp .neq 42 (.agg #[.string e.1.user, .int .u64 (e.1.seq : Int), .int .i64 e.1.kind, .string e.2]) (.agg #[.string e.1.user, .int .u64 (e.1.seq : Int), .int .i64 e.1.kind, .string e.2])).run Try.prog W = .ok (.bool false) W := by
  simp [go_sem, Try.underlying42, Try.underlying32, Try.underlying9, Try.underlying30, Try.underlying3]
set_option maxRecDepth 100000 in
set_option maxHeartbeats 1000000 in
theorem same_at {w : World} {a a' : Option Addr} {n c c' : Nat} {l : List KV} (h : KsAt w a n c l) (h' : KsAt w a' n c' l) : Calls Try.prog 12 #[.slice a n c, .slice a' n c'] w fun e w' => e = .returned (.bool true) ∧ ∃ d, w' = w.drewN d := by
  have HS : Hid (KsAt w a n c l ∧ KsAt w a' n c' l) := ⟨h, h'⟩
  have hm := h.max
  have hl := h.le
  have hlen := h.size
  unfold maxLen at hm
  have HLn : Hid (l.length = n) := hlen
  clear h h' hlen
  go_enter Try.func12, Try.ntmps12
  go_wp2_with fail
  go_loopw [5] (fun x wr => ∃ k d : Nat, k ≤ n ∧ x = .int .i64 (k : Int) ∧ wr = w.drewN d) (fun x _ => n - (intOf x).toNat)
  case atStart => exact ⟨0, 0, Nat.zero_le _, rfl, rfl⟩
  case round =>
    obtain ⟨k, d, hk, rfl, rfl⟩ := hrel
    by_cases hkn : k < n
    · obtain ⟨b, off, hb, hc⟩ := HS.out.1.cells4 (by omega)
      obtain ⟨b', off', hb', hc'⟩ := HS.out.2.cells4 (by omega)
      have hkl : k < l.length := by rw [HLn.out]; exact hkn
      obtain ⟨c0, c1, c2, c3⟩ := hc k hkl
      obtain ⟨d0, d1, d2, d3⟩ := hc' k hkl
      have hidx := fun W => idxKV W (a := a) (b := b) (off := off) (n := n) (c := c) hb hkn
      have hidx' := fun W => idxKV W (a := a') (b := b') (off := off') (n := n) (c := c') hb' hkn
      have hne := fun W => run_neq_kv l[k] W
      generalize l[k] = e at c0 c1 c2 c3 d0 d1 d2 d3 hne
      clear hc hc' hb hb'
      go_wp2_with fail
      go_quiet (fail)
      go_wp2
      go_roundw
      case rel => exact ⟨k + 1, d + nq, hkn, by go_num, by simp [World.drewN, Nat.add_assoc]⟩
      case measure => simp only [intOf]; omega
    · go_wp2
      go_ret
      exact ⟨ret1 rfl, d, rfl⟩
end Go.Proofs.Ytjlmjgbkeibaiaa
