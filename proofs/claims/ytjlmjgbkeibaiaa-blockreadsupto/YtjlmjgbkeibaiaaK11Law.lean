/- Rows of entries held against one another: the contract of Same; small facts for the walks. -/
import Derived.Test.YtjlmjgbkeibaiaaC11Awake
import Derived.Test.YtjlmjgbkeibaiaaK11Args
namespace Go.Proofs.Ytjlmjgbkeibaiaa
open Go.RowKit
set_option linter.unusedVariables false
set_option linter.unusedSimpArgs false
theorem str_at {w : World} {a : Option Addr} {len cap : Nat} {bs : List UInt8} (h : BsAt w a len cap bs) : (convert 24 9 (.slice a len cap)).run Try.prog w = .ok (.string (strOf bs)) w := h.asStr Try.underlying24 Try.underlying5 Try.underlying9
theorem RawOk.wfl {l : List KV} (h : ∀ e ∈ l, RawOk e) : WfL l := fun e he => ⟨by have := (h e he).key; unfold maxLen at this; omega, (h e he).val⟩
theorem OwnK.made (w : World) : OwnK (w.alloc (.cells #[] TKV)) w.heap.size (some ⟨w.heap.size, 0, none⟩) 0 0 [] := ⟨rfl, World.ownsRow_made w #[] 0 (Nat.le_refl _) (Nat.zero_le _) (by simp)⟩
set_option maxRecDepth 100000 in
theorem run_neq_kv (e : KV) (W : World) : (binOp .neq 42 (.agg #[.string e.1.user, .int .u64 (e.1.seq : Int), .int .i64 e.1.kind, .string e.2]) (.agg #[.string e.1.user, .int .u64 (e.1.seq : Int), .int .i64 e.1.kind, .string e.2])).run Try.prog W = .ok (.bool false) W := by
  simp [go_sem, Try.underlying42, Try.underlying32, Try.underlying9, Try.underlying30, Try.underlying3]
theorem strB_le : ∀ (l : List KV) (ah : List UInt8), (∀ e ∈ l, EOk e) → (strB ah l).length ≤ 1102 * l.length
  | [], _, _ => by simp [strB]
  | e :: l, ah, h => by
    have h1 := (ent_len ah e.1.enc e.2.data.toList).2
    have h2 := strB_le l e.1.enc fun x hx => h x (List.mem_cons_of_mem _ hx)
    have h3 := h e List.mem_cons_self
    have h4 := enc_small h3
    have h5 := h3.2
    have h6 := ba_len e.2
    rw [strB, List.length_append, List.length_cons]
    unfold entE
    omega
theorem chunks_le {iv : Nat} (hi : 1 ≤ iv) (l : List KV) : (chunks iv l).length ≤ l.length := by
  by_cases h0 : (chunks iv l).length = 0
  · omega
  · have h1 := (chunks_at hi l ((chunks iv l).length - 1)).1.2 (by omega)
    have h2 : ((chunks iv l).length - 1) * 1 ≤ ((chunks iv l).length - 1) * iv := Nat.mul_le_mul_left _ hi
    omega
theorem lay_le {iv : Nat} (hi : 1 ≤ iv) (l : List KV) (hl : ∀ e ∈ l, EOk e) : (layP iv l).length ≤ 1106 * l.length + 5 := by
  have h : ∀ cs : List (List KV), (∀ c ∈ cs, ∀ e ∈ c, EOk e) → ((cs.map (strB [])).flatten).length ≤ 1102 * cs.flatten.length := by
    intro cs
    induction cs with
    | nil => simp
    | cons c r ih =>
      intro hc
      have h1 := strB_le c [] (hc c List.mem_cons_self)
      have h2 := ih fun d hd => hc d (List.mem_cons_of_mem _ hd)
      simp only [List.flatten_cons, List.map_cons, List.length_append]
      omega
  have h1 := h (chunks iv l) fun c hc e he => hl e ((chunks_mem hi l c hc).2.2 e he)
  rw [chunks_flat hi] at h1
  have h2 := chunks_le hi l
  rw [layP_join, join_len, strs_len]
  unfold strs
  omega
/-- A key of entries that rise is found at its place. -/
theorem first_own {l : List KV} (hr : Rises l) {i : Nat} (hi : i < l.length) : FirstAt l l[i].1 i := by
  refine ⟨by omega, fun j hj hji => rises_lt hr hi hji, fun j hj hij => ?_⟩
  by_cases h : i = j
  · subst h
    rw [IK.cmp_self]
    exact Int.le_refl _
  · have := rises_lt hr hj (show i < j by omega)
    rw [IK.cmp_turn]
    omega
/-- What Build answers. -/
theorem build_any (a : Option Addr) (n c : Nat) (l : List KV) (iv : Int) (hw : WfL l) (hn : n ≤ 1000000) :
    (∃ er : Int, er ≠ 0 ∧ ∀ w, KsAt w a n c l → Calls Try.prog 10 #[.slice a n c, .int .i64 iv] w fun r w' => r = .returned (.tuple #[.slice none 0 0, .int .i64 er]) ∧ Below w.heap.size w w') ∨
    (∃ v : Nat, iv = (v : Int) ∧ 1 ≤ v ∧ v ≤ 16 ∧ chkL l = 0 ∧ ∀ w, KsAt w a n c l → (a = none → c = 0) → (∀ x, a = some x → x.spot = none) → Calls Try.prog 10 #[.slice a n c, .int .i64 iv] w fun r w' => ∃ a' c', r = .returned (.tuple #[.slice a' (layP v l).length c', .int .i64 0]) ∧ OwnB w' w.heap.size a' (layP v l).length c' (layP v l) ∧ Below w.heap.size w w') := by
  by_cases h1 : 1 ≤ iv ∧ iv ≤ 16
  · by_cases h2 : chkL l = 0
    · obtain ⟨v, rfl⟩ : ∃ v : Nat, iv = (v : Int) := ⟨iv.toNat, by omega⟩
      exact .inr ⟨v, rfl, by omega, by omega, h2, fun w h hb hs => build_yes a n c l v (by omega) (by omega) w h hb hs hn hw h2⟩
    · exact .inl ⟨((chkL l : Nat) : Int), by omega, fun w h => build_bad a n c l iv h1 w h hw h2⟩
  · exact .inl ⟨1, by decide, fun w _ => build_arg a n c iv h1 w⟩
set_option maxRecDepth 100000 in
set_option maxHeartbeats 1000000 in
theorem same_at {w : World} {a a' : Option Addr} {n c c' : Nat} {l : List KV} (h : KsAt w a n c l) (h' : KsAt w a' n c' l) : Calls Try.prog 12 #[.slice a n c, .slice a' n c'] w fun e w' => e = .returned (.bool true) ∧ ∃ d, w' = w.drewN d := by
  have HS : Hid (KsAt w a n c l ∧ KsAt w a' n c' l) := ⟨h, h'⟩
  have hm := h.max
  have hl := h.le
  have hlen := h.size
  unfold maxLen at hm
  have HLn : Hid (l.length = n) := hlen
  clear h h' hlen
  go_enter Try.func12, Try.ntmps12
  go_wp2_with fail
  go_loopw [5] (fun x wr => ∃ k d : Nat, k ≤ n ∧ x = .int .i64 (k : Int) ∧ wr = w.drewN d) (fun x _ => n - (intOf x).toNat)
  case atStart => exact ⟨0, 0, Nat.zero_le _, rfl, rfl⟩
  case round =>
    obtain ⟨k, d, hk, rfl, rfl⟩ := hrel
    by_cases hkn : k < n
    · obtain ⟨b, off, hb, hc⟩ := HS.out.1.cells4 (by omega)
      obtain ⟨b', off', hb', hc'⟩ := HS.out.2.cells4 (by omega)
      have hkl : k < l.length := by rw [HLn.out]; exact hkn
      obtain ⟨c0, c1, c2, c3⟩ := hc k hkl
      obtain ⟨d0, d1, d2, d3⟩ := hc' k hkl
      have hidx := fun W => idxKV W (a := a) (b := b) (off := off) (n := n) (c := c) hb hkn
      have hidx' := fun W => idxKV W (a := a') (b := b') (off := off') (n := n) (c := c') hb' hkn
      have hne := fun W => run_neq_kv l[k] W
      generalize l[k] = e at c0 c1 c2 c3 d0 d1 d2 d3 hne
      clear hc hc' hb hb'
      go_wp2_with fail
      go_quiet (fail)
      go_wp2
      go_roundw
      case rel => exact ⟨k + 1, d + nq, hkn, by go_num, by simp [World.drewN, Nat.add_assoc]⟩
      case measure => simp only [intOf]; omega
    · go_wp2
      go_ret
      exact ⟨ret1 rfl, d, rfl⟩
end Go.Proofs.Ytjlmjgbkeibaiaa
