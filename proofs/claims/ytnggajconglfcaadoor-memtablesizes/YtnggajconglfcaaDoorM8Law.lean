/- Rows of entries held against one another; a table of entries: the contracts of Same and added. -/
import Derived.Test.YtnggajconglfcaaDoorM8Own
import Derived.Test.YtnggajconglfcaaDoorM8Args
import Derived.Test.YtnggajconglfcaaDoorM8All
namespace Go.Proofs.YtnggajconglfcaaDoor
open Go.RowKit
set_option linter.unusedVariables false
set_option linter.unusedSimpArgs false
theorem KsAt.cells4 {w : World} {a : Option Addr} {n c : Nat} {l : List KV} (h : KsAt w a n c l) (hp : 0 < n) : ∃ b off, a = some ⟨b, off, none⟩ ∧ ∀ k (hk : k < l.length), w.cell? ⟨b, off + k * 4, none⟩ = some (.string l[k].1.user) ∧ w.cell? ⟨b, off + k * 4 + 1, none⟩ = some (.int .u64 (l[k].1.seq : Int)) ∧ w.cell? ⟨b, off + k * 4 + 2, none⟩ = some (.int .i64 l[k].1.kind) ∧ w.cell? ⟨b, off + k * 4 + 3, none⟩ = some (.string l[k].2) := by
  obtain ⟨b, off, ha, hc⟩ := h.here hp
  have hs := h.size
  refine ⟨b, off, ha, fun k hk => ?_⟩
  have h0 := hc (k * 4 + 0) (by omega)
  have h1 := hc (k * 4 + 1) (by omega)
  have h2 := hc (k * 4 + 2) (by omega)
  have h3 := hc (k * 4 + 3) (by omega)
  rw [cellsKV_get l k _ hk (by omega)] at h0 h1 h2 h3
  simp only [Nat.add_zero, ← Nat.add_assoc] at h0 h1 h2 h3
  exact ⟨h0, h1, h2, h3⟩
set_option maxRecDepth 100000 in
theorem run_neq_kv (e : KV) (W : World) : (binOp .neq 45 (.agg #[.string e.1.user, .int .u64 (e.1.seq : Int), .int .i64 e.1.kind, .string e.2]) (.agg #[.string e.1.user, .int .u64 (e.1.seq : Int), .int .i64 e.1.kind, .string e.2])).run Tryd.prog W = .ok (.bool false) W := by
  simp [go_sem, Tryd.underlying45, Tryd.underlying32, Tryd.underlying9, Tryd.underlying30, Tryd.underlying3]
set_option maxRecDepth 100000 in
set_option maxHeartbeats 1000000 in
theorem same_at {w : World} {a a' : Option Addr} {n c c' : Nat} {l : List KV} (h : KsAt w a n c l) (h' : KsAt w a' n c' l) : Calls Tryd.prog 19 #[.slice a n c, .slice a' n c'] w fun e w' => e = .returned (.bool true) ∧ ∃ d, w' = w.drewN d := by
  have HS : Hid (KsAt w a n c l ∧ KsAt w a' n c' l) := ⟨h, h'⟩
  have hm := h.max
  have hl := h.le
  have hlen := h.size
  unfold maxLen at hm
  have HLn : Hid (l.length = n) := hlen
  clear h h' hlen
  go_enter Tryd.func19, Tryd.ntmps19
  go_wp2_with fail
  go_loopw [5] (fun x wr => ∃ k d : Nat, k ≤ n ∧ x = .int .i64 (k : Int) ∧ wr = w.drewN d) (fun x _ => n - (intOf x).toNat)
  case atStart => exact ⟨0, 0, Nat.zero_le _, rfl, rfl⟩
  case round =>
    obtain ⟨k, d, hk, rfl, rfl⟩ := hrel
    by_cases hkn : k < n
    · obtain ⟨b, off, hb, hc⟩ := HS.out.1.cells4 (by omega)
      obtain ⟨b', off', hb', hc'⟩ := HS.out.2.cells4 (by omega)
      have hkl : k < l.length := by rw [HLn.out]; exact hkn
      obtain ⟨c0, c1, c2, c3⟩ := hc k hkl
      obtain ⟨d0, d1, d2, d3⟩ := hc' k hkl
      have hidx := fun W => idxKV W (a := a) (b := b) (off := off) (n := n) (c := c) hb hkn
      have hidx' := fun W => idxKV W (a := a') (b := b') (off := off') (n := n) (c := c') hb' hkn
      have hne := fun W => run_neq_kv l[k] W
      generalize l[k] = e at c0 c1 c2 c3 d0 d1 d2 d3 hne
      clear hc hc' hb hb'
      go_wp2_with fail
      go_quiet (fail)
      go_wp2
      go_roundw
      case rel => exact ⟨k + 1, d + nq, hkn, by go_num, by simp [World.drewN, Nat.add_assoc]⟩
      case measure => simp only [intOf]; omega
    · go_wp2
      go_ret
      exact ⟨ret1 rfl, d, rfl⟩
/-- A table with entries added, one behind the other. -/
def PT.adds (T : PT) (l : List KV) : PT := l.foldl (fun T e => T.add e.1 e.2) T
theorem PT.adds_snoc (T : PT) (l : List KV) (e : KV) : T.adds (l ++ [e]) = (T.adds l).add e.1 e.2 := by simp [PT.adds]
theorem PT.add_len (T : PT) (k : IK) (v : ByteArray) : (T.add k v).kvs.length ≤ T.kvs.length + 1 := by
  unfold PT.add
  split
  · show (insKV (k, v) T.kvs).length ≤ _
    rw [insKV_len]
    exact Nat.le_refl _
  · omega
theorem PT.adds_len : ∀ (l : List KV) (T : PT), (T.adds l).kvs.length ≤ T.kvs.length + l.length
  | [], T => Nat.le_refl _
  | e :: r, T => by
    have h1 := PT.adds_len r (T.add e.1 e.2)
    have h2 := T.add_len e.1 e.2
    show ((T.add e.1 e.2).adds r).kvs.length ≤ _
    rw [List.length_cons]
    omega
def orderOf (turned : Bool) (l : List KV) : List KV := if turned then l.reverse else l
theorem orderOf_get (turned : Bool) (l : List KV) {k : Nat} (hk : k < l.length) : ∃ j, ∃ hj : j < l.length, j = (if turned then l.length - 1 - k else k) ∧ (orderOf turned l).take (k + 1) = (orderOf turned l).take k ++ [l[j]] := by
  cases turned with
  | false => exact ⟨k, hk, rfl, List.take_succ_eq_append_getElem hk⟩
  | true =>
    refine ⟨l.length - 1 - k, by omega, rfl, ?_⟩
    have hk' : k < l.reverse.length := by simpa using hk
    have := List.take_succ_eq_append_getElem hk'
    rw [List.getElem_reverse] at this
    exact this
set_option maxRecDepth 100000 in
set_option maxHeartbeats 1000000 in
theorem added_at {N : Nat} (hP : PutSpec N) (hNN : N ≤ 70368744177664) {w : World} {a : Option Addr} {n c : Nat} {l : List KV} (h : KsAt w a n c l) (hr : ∀ e ∈ l, RawOk e) (hN : n < N) (turned : Bool) (hg : Glob w) : Calls Tryd.prog 20 #[.slice a n c, .bool turned] w fun e w' => ∃ p G, e = .returned (at_ p) ∧ Own8 w w' p (PT.new.adds (orderOf turned l)) G := by
  have HS : Hid (KsAt w a n c l) := h
  have HR : Hid (∀ e ∈ l, RawOk e) := hr
  have HG : Hid (Glob w) := hg
  have HPS : Hid (PutSpec N ∧ N ≤ 70368744177664 ∧ n < N) := ⟨hP, hNN, hN⟩
  have hm := h.max
  have hl := h.le
  have hlen := h.size
  unfold maxLen at hm
  have HLn : Hid (l.length = n) := hlen
  have hn63 : n ≤ 70368744177664 := by omega
  clear h hlen hr hg hP hNN hN
  go_enter Tryd.func20, Tryd.ntmps20
  go_wp2_with fail
  refine (memNew_at _).mono ?_
  rintro _ w1 ⟨p, G0, rfl, h1, h2, h3⟩
  have HO : Hid (Own8 w w1 p PT.new G0) := ⟨h1, h2, h3⟩
  clear h1 h2 h3
  go_wp2_with fail
  go_loopw [6] (fun x wr => ∃ k : Nat, k ≤ n ∧ x = .int .i64 (k : Int) ∧ Hid (∃ G, Own8 w wr p (PT.new.adds ((orderOf turned l).take k)) G)) (fun x _ => n - (intOf x).toNat)
  case atStart => exact ⟨0, Nat.zero_le _, rfl, G0, HO.out⟩
  case round =>
    obtain ⟨k, hk, rfl, HI⟩ := hrel
    by_cases hkn : k < n
    · have hkl : k < l.length := by rw [HLn.out]; exact hkn
      obtain ⟨j, hj, ej, htk⟩ := orderOf_get turned l hkl
      obtain ⟨G, hO⟩ := HI.out
      obtain ⟨b, off, hb, hc⟩ := (HS.out.below hO.base).cells4 (by omega)
      obtain ⟨c0, c1, c2, c3⟩ := hc j hj
      have hjn : j < n := by rw [← HLn.out]; exact hj
      have hidx := fun W => idxKV W (a := a) (b := b) (off := off) (n := n) (c := c) hb hjn
      have hraw := HR.out _ (List.getElem_mem hj)
      have hlk : (PT.new.adds ((orderOf turned l).take k)).kvs.length < N := by
        have h1 := PT.adds_len ((orderOf turned l).take k) PT.new
        have h2 : ((orderOf turned l).take k).length ≤ k := List.length_take_le _ _
        have h3 : PT.new.kvs.length = 0 := rfl
        have := HPS.out.2.2
        omega
      have HT : Hid ((orderOf turned l).take (k + 1) = (orderOf turned l).take k ++ [l[j]]) := htk
      have HA : Hid (∀ W : World, (∃ G, Own8 w W p (PT.new.adds ((orderOf turned l).take k)) G) → Calls Tryd.prog 11 #[at_ p, .agg #[.string l[j].1.user, .int .u64 (l[j].1.seq : Int), .int .i64 l[j].1.kind], .string l[j].2] W fun e w' => ∃ er : Int, e = .returned (.int .i64 er) ∧ ∃ G, Own8 w w' p (PT.new.adds ((orderOf turned l).take (k + 1))) G) := fun W ⟨G, hW⟩ => by
        refine (add_own HPS.out.1 HPS.out.2.1 HG.out hW l[j].1 l[j].2 (by have := hraw.key.user; unfold maxLen at this; omega) hraw.val hlk).mono ?_
        rintro _ w' ⟨rfl, G', ho, _⟩
        exact ⟨_, rfl, G', by rw [htk, PT.adds_snoc]; exact ho⟩
      have HO1 : Hid (∃ G, Own8 w wr p (PT.new.adds ((orderOf turned l).take k)) G) := ⟨G, hO⟩
      have HCell : Hid (∀ W : World, Below w.heap.size w W → W.cell? ⟨b, off + j * 4, none⟩ = some (.string l[j].1.user) ∧ W.cell? ⟨b, off + j * 4 + 1, none⟩ = some (.int .u64 (l[j].1.seq : Int)) ∧ W.cell? ⟨b, off + j * 4 + 2, none⟩ = some (.int .i64 l[j].1.kind) ∧ W.cell? ⟨b, off + j * 4 + 3, none⟩ = some (.string l[j].2)) := fun W hW => by
        obtain ⟨b', off', hb', hc'⟩ := (HS.out.below hW).cells4 (by omega)
        rw [hb] at hb'
        simp only [Option.some.injEq, Addr.mk.injEq] at hb'
        obtain ⟨rfl, rfl, _⟩ := hb'
        exact hc' j hj
      have HJ : Hid (j = if turned then l.length - 1 - k else k) := ej
      generalize l[j] = e at c0 c1 c2 c3 HA HCell HT
      clear hc hb hO htk hraw ej hlk HI
      rw [show (l.length : Nat) = n from HLn.out] at HJ
      have hji : ((j : Nat) : Int) = if turned then (n : Int) - 1 - (k : Int) else (k : Int) := by
        rw [HJ.out]
        cases turned
        · rfl
        · simp only [if_true]
          omega
      have HO1 : Hid (∃ G, Own8 w wr.drew p (PT.new.adds ((orderOf turned l).take k)) G) := by
        obtain ⟨G, hO⟩ := HO1.out
        exact ⟨G, hO.below (Below.refl _ _).drew⟩
      obtain ⟨x0, x1, x2, x3⟩ := HCell.out _ HO1.out.choose_spec.base
      clear c0 c1 c2 c3
      cases turned
      all_goals (
        simp only [if_true, if_false, Bool.false_eq_true] at hji
        rw [hji] at hidx
        clear hji
        go_wp2_with fail
        go_region_held3 (fun W => W.cell? ⟨b, off + j * 4, none⟩ = some (.string e.1.user) ∧ W.cell? ⟨b, off + j * 4 + 1, none⟩ = some (.int .u64 (e.1.seq : Int)) ∧ W.cell? ⟨b, off + j * 4 + 2, none⟩ = some (.int .i64 e.1.kind) ∧ W.cell? ⟨b, off + j * 4 + 3, none⟩ = some (.string e.2)) (first | exact ⟨x0, x1, x2, x3⟩ | go_keep)
          (first
           | (go_at_call 11; refine (HA.out _ HO1.out).mono ?_; rintro _ vx ⟨er, rfl, hx⟩
              have HO2 : Hid (∃ G, Own8 w vx p (PT.new.adds ((orderOf _ l).take (k + 1))) G) := hx
              obtain ⟨x0, x1, x2, x3⟩ := HCell.out _ hx.choose_spec.base
              clear hx))
        go_wp2
        go_roundw
        case rel => exact ⟨k + 1, hkn, by go_num, HO2.out⟩
        case measure => simp only [intOf]; omega)
    · go_wp2
      go_ret
      obtain ⟨G, hO⟩ := HI.out
      have e : (orderOf turned l).take k = orderOf turned l := List.take_of_length_le (by
        have : (orderOf turned l).length = l.length := by cases turned <;> simp [orderOf]
        rw [this, HLn.out]
        omega)
      rw [e] at hO
      exact ⟨p, G, ret1 rfl, hO⟩
end Go.Proofs.YtnggajconglfcaaDoor
