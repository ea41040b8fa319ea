/- The document's own table: Get, Size and With. -/
import Derived.Test.YtnggajconglfcaaDoorM8Law
import Derived.Test.YtnggajconglfcaaDoorM8Kcmp
import Derived.Test.YtnggajconglfcaaDoorRChk
import Derived.Test.YtnggajconglfcaaDoorKeyEq
import Derived.Laws.AppendOwnNone
import Derived.Deep.AppendSrc
import Derived.Deep.DeepCutAuto
namespace Go.Proofs.YtnggajconglfcaaDoor
open Go.RowKit
set_option linter.unusedVariables false
set_option linter.unusedSimpArgs false
/-- A row of entries of the call's own, with room behind. -/
structure OwnR (w : World) (B : Nat) (a : Option Addr) (n c : Nat) (l : List KV) : Prop where
  size : l.length = n
  row : w.ownsRow B TKV 4 (.slice a n c) n (cellsKV l)
section
variable {w w' : World} {B : Nat} {a : Option Addr} {n c : Nat} {l : List KV}
theorem OwnR.ks (h : OwnR w B a n c l) : KsAt w a n c l := by
  have hs := h.size
  rcases h.row.2 with ⟨hv, hn⟩ | ⟨g, c', cur, hv, hb, hg, hn, hc, hz, ht⟩
  · simp only [Value.slice.injEq] at hv
    obtain ⟨rfl, rfl, rfl⟩ := hv
    exact ⟨hs, Nat.le_refl _, Nat.zero_le _, fun h0 => absurd h0 (Nat.lt_irrefl _)⟩
  · simp only [Value.slice.injEq, true_and] at hv
    obtain ⟨rfl, rfl⟩ := hv
    refine ⟨hs, hn, hc, fun _ => ⟨g, 0, rfl, fun j hj => ?_⟩⟩
    rw [Nat.zero_add, h.row.cellAt j (by omega)]
theorem OwnR.kept (h : OwnR w B a n c l) (hk : ∀ k, blkOf a = some k → w'.heap[k]? = w.heap[k]?) : OwnR w' B a n c l := ⟨h.size, row_same h.row (fun b e => hk b (by rw [← own_blk a n c]; exact e))⟩
theorem OwnR.tag (h : OwnR w B a n c l) {k : Nat} (hk : blkOf a = some k) : tag w k = some TKV := row_tag h.row (by rw [own_blk]; exact hk)
theorem OwnR.ge (h : OwnR w B a n c l) {k : Nat} (hk : blkOf a = some k) : B ≤ k := (h.row.lt k (by rw [own_blk]; exact hk)).1
theorem OwnR.below (h : OwnR w B a n c l) (hb : Below w.heap.size w w') : OwnR w' B a n c l := h.kept fun k hk => hb.block k (tag_lt (h.tag hk))
theorem OwnR.mono (h : OwnR w B a n c l) {B' : Nat} (hB : B' ≤ B) : OwnR w B' a n c l := by
  refine ⟨h.size, h.row.1, ?_⟩
  rcases h.row.2 with hn | ⟨g, c, cur, hv, hb, rest⟩
  · exact .inl hn
  · exact .inr ⟨g, c, cur, hv, Nat.le_trans hB hb, rest⟩
theorem OwnR.alloc (h : OwnR w B a n c l) (o : Obj) : OwnR (w.alloc o) B a n c l := ⟨h.size, h.row.alloc o⟩
theorem OwnR.nil (w : World) (B : Nat) : OwnR w B none 0 0 [] := ⟨rfl, World.ownsRow_nil w B _ 4⟩
theorem ownR_of_row {v : Value} (h : w.ownsRow B TKV 4 v n (cellsKV l)) : ∃ a cap, v = .slice a n cap ∧ OwnR w B a n cap l := by
  have hn : l.length = n := by have := h.1; rw [cellsKV_len] at this; omega
  rcases h.2 with ⟨rfl, rfl⟩ | ⟨g, c, cur, rfl, rest⟩
  · exact ⟨none, 0, rfl, hn, h⟩
  · exact ⟨_, c, rfl, hn, h⟩
end
/-- One entry more, out of a literal. -/
theorem wpList_pushK (W : World) {ops : Array Oper} {rest : List Oper} {o : Oper} {a : Act} {Q : Exit → Act → World → Prop} (hgd : o.guard = none) (s x : Operand)
    (ho : o.op = .call { callee := .builtin .append, args := #[s, x], argTypes := #[27, 27] })
    (B : Nat) (a1 : Option Addr) (n1 c1 : Nat) (l : List KV) (hs : a.eval s = .slice a1 n1 c1) (hown : OwnR W B a1 n1 c1 l) (e : KV)
    (hx : a.eval x = .slice (some ⟨W.heap.size, 0, none⟩) 1 1) (hn : n1 ≤ 1000000) (hB : B ≤ W.heap.size)
    (h : ∀ a' c' w', OwnR w' B a' (n1 + 1) c' (l ++ [e]) → Below B W w' → (W.alloc (.cells #[.string e.1.user, .int .u64 (e.1.seq : Int), .int .i64 e.1.kind, .string e.2] TKV)).grownBy w' (blkOf a1) → wpList Tryd.prog ops Q rest (a.put o.dst (.slice a' (n1 + 1) c')) w') :
    wpList Tryd.prog ops Q (o :: rest) a (W.alloc (.cells #[.string e.1.user, .int .u64 (e.1.seq : Int), .int .i64 e.1.kind, .string e.2] TKV)) := by
  obtain ⟨i, hi, hz0, hz1, hz2⟩ := info_parts infoKV
  have hlt : ∀ k, (Value.slice a1 n1 c1).ownBlock = some k → B ≤ k := fun k hk => (hown.row.lt k hk).1
  have hcell : ∀ j u, (kvc e)[j]? = some u → (W.alloc (.cells #[.string e.1.user, .int .u64 (e.1.seq : Int), .int .i64 e.1.kind, .string e.2] TKV)).cell? ((⟨W.heap.size, 0, none⟩ : Addr).add j) = some u := by
    intro j u hu
    rw [Addr.add_lit, Nat.zero_add, (Box.new W TKV _).cell]
    rw [← Array.getElem?_toList]
    exact hu
  have hone : ∀ u ∈ kvc e, u.oneCell' = true := by
    intro u hu
    simp only [kvc, List.mem_cons, List.mem_nil_iff, or_false] at hu
    rcases hu with rfl | rfl | rfl | rfl <;> rfl
  have hB1 : Below B W (W.alloc (.cells #[.string e.1.user, .int .u64 (e.1.seq : Int), .int .i64 e.1.kind, .string e.2] TKV)) := (Below.refl _ _).alloc hB _
  refine wpList_append_own _ hgd s x _ ho B TKV i _ 4 48 Tryd.underlying27 hi hz0 hz1 hz2 rfl (by decide) _ n1 _ hs (hown.alloc _).row ⟨W.heap.size, 0, none⟩ 1 1 (kvc e) hx rfl hcell hone (by unfold maxLen; omega) (by omega) (by simp; omega) ?_
  intro v' w' hr hg _
  have hr' : w'.ownsRow B TKV 4 v' (n1 + 1) (cellsKV (l ++ [e])) := by
    rw [cellsKV_append]
    simpa [cellsKV] using hr
  obtain ⟨a', c', rfl, ho'⟩ := ownR_of_row hr'
  rw [own_blk] at hg
  exact h a' c' w' ho' (hB1.trans ((Below.refl B _).grown (by rw [← own_blk a1 n1 c1] at hg; exact hg) (by simp; omega) hlt)) hg
theorem insKV_in {x z : KV} : ∀ {r : List KV}, (∃ y ∈ r, kb x.1 y.1 = true) → insKV x (r ++ [z]) = insKV x r ++ [z]
  | [], h => by obtain ⟨y, hy, _⟩ := h; simp at hy
  | y :: r, h => by
    rw [List.cons_append]
    unfold insKV
    split
    · rfl
    · rename_i hn
      rw [insKV_in]
      · rfl
      · obtain ⟨t, ht, hk⟩ := h
        rcases List.mem_cons.1 ht with rfl | ht
        · exact absurd hk hn
        · exact ⟨t, ht, hk⟩
theorem insKV_out {x : KV} : ∀ {r : List KV}, (∀ y ∈ r, kb x.1 y.1 = false) → insKV x r = r ++ [x]
  | [], _ => rfl
  | y :: r, h => by
    unfold insKV
    rw [if_neg (by rw [h y (by simp)]; decide), insKV_out fun t ht => h t (List.mem_cons_of_mem _ ht)]
    rfl
theorem insKV_turn {x z : KV} {r : List KV} (h : ∀ y ∈ r, kb x.1 y.1 = false) (hz : kb x.1 z.1 = true) : insKV x (r ++ [z]) = r ++ [x] ++ [z] := by
  induction r with
  | nil =>
    show insKV x [z] = _
    unfold insKV
    rw [if_pos hz]
    rfl
  | cons y r ih =>
    rw [List.cons_append]
    unfold insKV
    rw [if_neg (by rw [h y (by simp)]; decide), ih fun t ht => h t (List.mem_cons_of_mem _ ht)]
    rfl
set_option maxRecDepth 100000 in
set_option maxHeartbeats 1000000 in
theorem rget_at {w : World} {a : Option Addr} {n c : Nat} {l : List KV} (h : KsAt w a n c l) (u : ByteArray) (s : Nat) : Calls Tryd.prog 14 #[.slice a n c, .string u, .int .u64 (s : Int)] w fun e w' => e = .returned (.tuple #[.string (told (lget l u s)).1, .int .i64 (((told (lget l u s)).2 : Nat) : Int)]) ∧ w' = w := by
  have HS : Hid (KsAt w a n c l ∧ l.length = n) := ⟨h, h.size⟩
  have hm := h.max
  have hl := h.le
  unfold maxLen at hm
  clear h
  go_enter Tryd.func14, Tryd.ntmps14
  go_wp2_with fail
  go_loopw [8] (fun x wr => ∃ k : Nat, k ≤ n ∧ x = .int .i64 (k : Int) ∧ wr = w ∧ Hid (lget l u s = lget (l.drop k) u s)) (fun x _ => n - (intOf x).toNat)
  case atStart => exact ⟨0, Nat.zero_le _, rfl, rfl, rfl⟩
  case round =>
    obtain ⟨k, hk, rfl, rfl, HI⟩ := hrel
    by_cases hkn : k < n
    · obtain ⟨b, off, hab, hc⟩ := HS.out.1.cells4 (by omega)
      have hkl : k < l.length := by rw [HS.out.2]; exact hkn
      obtain ⟨c0, c1, c2, c3⟩ := hc k hkl
      have hidx := fun W => idxKV W (a := a) (b := b) (off := off) (n := n) (c := c) hab hkn
      have HD : Hid (l.drop k = l[k] :: l.drop (k + 1)) := List.drop_eq_getElem_cons hkl
      generalize l[k] = e at c0 c1 c2 c3 HD
      clear hc hab
      by_cases hus : e.1.user = u
      · have hbq : (e.1.user.toList == u.toList) = true := by rw [hus]; simp
        by_cases hsq : e.1.seq ≤ s
        · have HE : Hid (lget l u s = some e) := by
            unfold Hid
            rw [HI.out, HD.out]
            unfold lget
            rw [List.find?_cons, decide_eq_true ⟨hus, hsq⟩]
          have hsq' : ((e.1.seq : Nat) : Int) ≤ (s : Int) := by omega
          clear hus
          by_cases hkd : e.1.kind = 0
          · have hkq : (e.1.kind == 0) = true := by rw [hkd]; rfl
            have HKD : Hid (e.1.kind = 0) := hkd
            clear hkd
            go_wp2
            go_ret2
            rw [HE.out]
            unfold told
            simp only [HKD.out, if_pos]
            exact ⟨ret2 rfl rfl, by trivial⟩
          · have hkq : (e.1.kind == 0) = false := by simpa using hkd
            have HKD : Hid (¬ e.1.kind = 0) := hkd
            clear hkd
            go_wp2
            go_ret2
            rw [HE.out]
            unfold told
            simp only [if_neg HKD.out]
            exact ⟨ret2 rfl rfl, by trivial⟩
        · have HE : Hid (lget l u s = lget (l.drop (k + 1)) u s) := by
            unfold Hid
            rw [HI.out, HD.out]
            unfold lget
            rw [List.find?_cons, decide_eq_false (fun h => hsq h.2)]
          have hsq' : (s : Int) < ((e.1.seq : Nat) : Int) := by omega
          clear hus
          go_wp2
          go_roundw
          case rel => exact ⟨k + 1, hkn, by go_num, by trivial, HE.out⟩
          case measure => simp only [intOf]; omega
      · have hbq : (e.1.user.toList == u.toList) = false := by
          rw [beq_eq_false_iff_ne]
          intro hc
          rw [ByteArray.toList_eq, ByteArray.toList_eq] at hc
          exact hus (ba_ext hc)
        have HE : Hid (lget l u s = lget (l.drop (k + 1)) u s) := by
          unfold Hid
          rw [HI.out, HD.out]
          unfold lget
          rw [List.find?_cons, decide_eq_false (fun h => hus h.1)]
        clear hus
        go_wp2
        go_roundw
        case rel => exact ⟨k + 1, hkn, by go_num, by trivial, HE.out⟩
        case measure => simp only [intOf]; omega
    · have HE : Hid (lget l u s = none) := by
        unfold Hid
        rw [HI.out, List.drop_eq_nil_of_le (by have := HS.out.2; omega)]
        rfl
      go_wp2
      go_ret2
      rw [HE.out]
      exact ⟨ret2 rfl rfl, by trivial⟩
set_option maxRecDepth 100000 in
set_option maxHeartbeats 1000000 in
theorem rsize_at {w : World} {a : Option Addr} {n c : Nat} {l : List KV} (h : KsAt w a n c l) (hok : ∀ e ∈ l, EOk e) (hn : n ≤ 1000000) : Calls Tryd.prog 17 #[.slice a n c] w fun e w' => e = .returned (.int .i64 ((lsize l : Nat) : Int)) ∧ ∃ d, w' = w.drewN d := by
  have HS : Hid (KsAt w a n c l ∧ l.length = n ∧ ∀ e ∈ l, EOk e) := ⟨h, h.size, hok⟩
  have hm := h.max
  have hl := h.le
  unfold maxLen at hm
  clear h hok
  go_enter Tryd.func17, Tryd.ntmps17
  go_wp2_with fail
  go_loopw [3, 4] (fun y x wr => ∃ k d z : Nat, k ≤ n ∧ z ≤ k * 1080 ∧ x = .int .i64 (k : Int) ∧ y = .int .i64 (z : Int) ∧ wr = w.drewN d ∧ Hid (z = lsize (l.take k))) (fun _ x _ => n - (intOf x).toNat)
  case atStart => exact ⟨0, 0, 0, Nat.zero_le _, by omega, rfl, rfl, rfl, rfl⟩
  case round =>
    obtain ⟨k, d, z, hk, hz, rfl, rfl, rfl, HI⟩ := hrel
    by_cases hkn : k < n
    · obtain ⟨b, off, hab, hc⟩ := HS.out.1.cells4 (by omega)
      have hkl : k < l.length := by rw [HS.out.2.1]; exact hkn
      obtain ⟨c0, c1, c2, c3⟩ := hc k hkl
      have hidx := fun W => idxKV W (a := a) (b := b) (off := off) (n := n) (c := c) hab hkn
      have he := HS.out.2.2 _ (List.getElem_mem hkl)
      have hu := (IK.ok_of he.key).2
      have hv := he.val
      have HD : Hid (lsize (l.take (k + 1)) = lsize (l.take k) + (l[k].1.user.size + l[k].2.size + 16)) := by
        unfold Hid
        rw [List.take_succ_eq_append_getElem hkl]
        unfold lsize
        rw [List.map_append, List.sum_append]
        simp only [List.map_cons, List.map_nil, List.sum_cons, List.sum_nil, esize, Nat.add_zero]
      generalize l[k] = e at c0 c1 c2 c3 HD hu hv
      clear hc hab he c1 c2
      go_wp2_with fail
      go_quiet (fail)
      go_wp2
      go_roundw
      case rel => exact ⟨k + 1, d + nq, z + (e.1.user.size + e.2.size + 16), hkn, by omega, by go_num, by congr 1; omega, by simp [World.drewN, Nat.add_assoc], by unfold Hid; rw [HD.out, HI.out]⟩
      case measure => simp only [intOf]; omega
    · go_wp2
      go_ret
      have e : l.take k = l := List.take_of_length_le (by have := HS.out.2.1; omega)
      exact ⟨ret1 (by rw [HI.out, e]; rfl), d, rfl⟩
end Go.Proofs.YtnggajconglfcaaDoor
