/- The document's own With. -/
import Derived.Test.YtjoamhcehpjepaaQa16
namespace Go.Proofs.Ytjoamhcehpjepaa
open Go.RowKit
set_option linter.unusedVariables false
set_option linter.unusedSimpArgs false
def kb17 (a b : IK) : Bool := decide (a.cmp b < 0)
def ins17 (e : KV) : List KV → List KV
  | [] => [e]
  | x :: r => if kb17 e.1 x.1 then e :: x :: r else x :: ins17 e r
theorem mem_ins17 {e y : KV} : ∀ {l : List KV}, y ∈ ins17 e l ↔ y = e ∨ y ∈ l
  | [] => by simp [ins17]
  | x :: r => by
    unfold ins17
    split
    · simp
    · rw [List.mem_cons, mem_ins17, List.mem_cons]
      constructor
      · rintro (h | h | h)
        · exact .inr (.inl h)
        · exact .inl h
        · exact .inr (.inr h)
      · rintro (h | h | h)
        · exact .inr (.inl h)
        · exact .inl h
        · exact .inr (.inr h)
theorem ins17_len {e : KV} : ∀ {l : List KV}, (ins17 e l).length = l.length + 1
  | [] => rfl
  | x :: r => by
    unfold ins17
    split
    · rfl
    · simp [ins17_len]
theorem ins17_in {x z : KV} : ∀ {r : List KV}, (∃ y ∈ r, kb17 x.1 y.1 = true) → ins17 x (r ++ [z]) = ins17 x r ++ [z]
  | [], h => by obtain ⟨y, hy, _⟩ := h; simp at hy
  | y :: r, h => by
    rw [List.cons_append]
    unfold ins17
    split
    · rfl
    · rename_i hn
      rw [ins17_in]
      · rfl
      · obtain ⟨t, ht, hk⟩ := h
        rcases List.mem_cons.1 ht with rfl | ht
        · exact absurd hk hn
        · exact ⟨t, ht, hk⟩
theorem ins17_out {x : KV} : ∀ {r : List KV}, (∀ y ∈ r, kb17 x.1 y.1 = false) → ins17 x r = r ++ [x]
  | [], _ => rfl
  | y :: r, h => by
    unfold ins17
    rw [if_neg (by rw [h y (by simp)]; decide), ins17_out fun t ht => h t (List.mem_cons_of_mem _ ht)]
    rfl
theorem ins17_turn {x z : KV} {r : List KV} (h : ∀ y ∈ r, kb17 x.1 y.1 = false) (hz : kb17 x.1 z.1 = true) : ins17 x (r ++ [z]) = r ++ [x] ++ [z] := by
  induction r with
  | nil =>
    show ins17 x [z] = _
    unfold ins17
    rw [if_pos hz]
    rfl
  | cons y r ih =>
    rw [List.cons_append]
    unfold ins17
    rw [if_neg (by rw [h y (by simp)]; decide), ih fun t ht => h t (List.mem_cons_of_mem _ ht)]
    rfl
theorem wpList_push8 (W : World) {ops : Array Oper} {rest : List Oper} {o : Oper} {a : Act} {Q : Exit → Act → World → Prop} (hgd : o.guard = none) (s x : Operand)
    (ho : o.op = .call { callee := .builtin .append, args := #[s, x], argTypes := #[43, 43] })
    (B : Nat) (a1 : Option Addr) (n1 c1 : Nat) (l : List KV) (hs : a.eval s = .slice a1 n1 c1) (hown : OwnK W B a1 n1 c1 l) (e : KV)
    (hx : a.eval x = .slice (some ⟨W.heap.size, 0, none⟩) 1 1) (hn : n1 ≤ 1000000) (hB : B ≤ W.heap.size)
    (h : ∀ a' c' w', OwnK w' B a' (n1 + 1) c' (l ++ [e]) → Below B W w' → (W.alloc (.cells #[.string e.1.user, .int .u64 (e.1.seq : Int), .int .i64 e.1.kind, .string e.2] TKV)).grownBy w' (blkOf a1) → wpList Try.prog ops Q rest (a.put o.dst (.slice a' (n1 + 1) c')) w') :
    wpList Try.prog ops Q (o :: rest) a (W.alloc (.cells #[.string e.1.user, .int .u64 (e.1.seq : Int), .int .i64 e.1.kind, .string e.2] TKV)) := wpList_pushK W hgd s x ho B a1 n1 c1 l hs hown e #[.string e.1.user, .int .u64 (e.1.seq : Int), .int .i64 e.1.kind, .string e.2] rfl hx (by omega) hB h
def kvArr (x : KV) : Array Value := #[.string x.1.user, .int .u64 (x.1.seq : Int), .int .i64 x.1.kind, .string x.2]
/-- Where With stands when it has seen so many. -/
structure Wth (w wr : World) (x : KV) (l : List KV) (k : Nat) (dn : Bool) (no : Nat) (ao : Option Addr) (co : Nat) (O : List KV) : Prop where
  own : OwnK wr (w.heap.size + 1) ao no co O
  base : Below w.heap.size w wr
  box : Box wr w.heap.size TKV (kvArr x)
  yes : dn = true → O = ins17 x (l.take k) ∧ ∃ y ∈ l.take k, kb17 x.1 y.1 = true
  no : dn = false → O = l.take k ∧ ∀ y ∈ l.take k, kb17 x.1 y.1 = false
theorem Wth.below {w wr W : World} {x : KV} {l : List KV} {k : Nat} {dn : Bool} {no : Nat} {ao : Option Addr} {co : Nat} {O : List KV} (h : Wth w wr x l k dn no ao co O) (hb : Below wr.heap.size wr W) : Wth w W x l k dn no ao co O :=
  ⟨h.own.below hb, h.base.trans (hb.mono h.base.size), h.box.kept (hb.block _ h.box.lt), h.yes, h.no⟩
theorem Wth.len {w wr : World} {x : KV} {l : List KV} {k : Nat} {dn : Bool} {no : Nat} {ao : Option Addr} {co : Nat} {O : List KV} (h : Wth w wr x l k dn no ao co O) (hk : k ≤ l.length) : no = if dn then k + 1 else k := by
  rw [← h.own.size]
  cases dn with
  | true =>
    rw [(h.yes rfl).1, ins17_len, List.length_take]
    simp
    omega
  | false =>
    rw [(h.no rfl).1, List.length_take]
    simp
    omega
set_option maxRecDepth 100000 in
set_option maxHeartbeats 2000000 in
theorem with17 {w : World} {a : Option Addr} {n c : Nat} {l : List KV} (h : KsAt w a n c l) (x : KV) (hn : n ≤ 100000) : Calls Try.prog 20 #[.slice a n c, .agg #[.string x.1.user, .int .u64 (x.1.seq : Int), .int .i64 x.1.kind, .string x.2]] w fun e w' => ∃ a' c', e = .returned (.slice a' (n + 1) c') ∧ OwnK w' w.heap.size a' (n + 1) c' (ins17 x l) ∧ Below w.heap.size w w' := by
  have HS : Hid (KsAt w a n c l ∧ l.length = n) := ⟨h, h.size⟩
  have hm := h.max
  have hl := h.le
  unfold maxLen at hm
  have hb0 : Below w.heap.size w (w.alloc (.cells (kvArr x) TKV)) := (Below.refl _ _).alloc (Nat.le_refl _) _
  have HB0 : Hid (Wth w (w.alloc (.cells (kvArr x) TKV)) x l 0 false 0 none 0 []) := ⟨OwnK.nil _ _, hb0, Box.new w TKV _, fun h => absurd h (by decide), fun _ => ⟨rfl, by simp⟩⟩
  clear h hb0
  go_enter Try.func20, Try.ntmps20
  go_wp2_with fail
  go_loopw [5, 6, 7] (fun o d i wr => ∃ (k no co : Nat) (ao : Option Addr) (dn : Bool) (O : List KV), k ≤ n ∧ no ≤ k + 1 ∧ o = .slice ao no co ∧ d = .bool dn ∧ i = .int .i64 (k : Int) ∧ Hid (Wth w wr x l k dn no ao co O)) (fun _ _ i _ => n - (intOf i).toNat)
  case atStart => exact ⟨0, 0, 0, none, false, [], Nat.zero_le _, by omega, rfl, rfl, rfl, HB0.out⟩
  case round =>
    obtain ⟨k, no, co, ao, dn, O, hk, hno, rfl, rfl, rfl, HI⟩ := hrel
    by_cases hkn : k < n
    · have hkl : k < l.length := by rw [HS.out.2]; exact hkn
      obtain ⟨b, off, hab, hc⟩ := (HS.out.1.below HI.out.base).cells4 (by omega)
      obtain ⟨c0, c1, c2, c3⟩ := hc k hkl
      have hidx := fun W => idxKV W (a := a) (b := b) (off := off) (n := n) (c := c) hab hkn
      have HT : Hid (l.take (k + 1) = l.take k ++ [l[k]]) := List.take_succ_eq_append_getElem hkl
      have HCell : Hid (∀ W : World, Below w.heap.size w W → W.cell? ⟨b, off + k * 4, none⟩ = some (.string l[k].1.user) ∧ W.cell? ⟨b, off + k * 4 + 1, none⟩ = some (.int .u64 (l[k].1.seq : Int)) ∧ W.cell? ⟨b, off + k * 4 + 2, none⟩ = some (.int .i64 l[k].1.kind) ∧ W.cell? ⟨b, off + k * 4 + 3, none⟩ = some (.string l[k].2)) := fun W hW => by
        obtain ⟨b', off', hb', hc'⟩ := (HS.out.1.below hW).cells4 (by omega)
        rw [hab] at hb'
        simp only [Option.some.injEq, Addr.mk.injEq] at hb'
        obtain ⟨rfl, rfl, _⟩ := hb'
        exact hc' k hkl
      generalize l[k] = e at c0 c1 c2 c3 HT HCell
      clear hc hab
      have hsz : w.heap.size + 1 ≤ wr.heap.size := HI.out.box.lt
      cases dn with
      | true =>
        go_wp2_with fail
        go_quiet (fail)
        have HI2 : Hid (Wth w (wr.drewN nq) x l k true no ao co O) := HI.out.below (Below.drewM (Below.refl _ _) _)
        go_wp2_with (first | (at_builtin; refine wpList_push8 (wr.drewN nq) rfl _ _ rfl (w.heap.size + 1) _ _ _ O rfl HI2.out.own e rfl (by omega) hsz ?_))
        intro a4 c4 w4 ho4 hb4 hg4
        have HE : Hid (Wth w w4 x l (k + 1) true (no + 1) a4 c4 (O ++ [e])) := by
          obtain ⟨q1, q2⟩ := HI2.out.yes rfl
          refine ⟨ho4, HI2.out.base.trans (hb4.mono (by omega)), HI2.out.box.kept (hb4.block _ (by omega)), fun _ => ⟨?_, ?_⟩, fun h => absurd h (by decide)⟩
          · rw [HT.out, ins17_in q2, q1]
          · rw [HT.out]
            obtain ⟨y, hy, hyk⟩ := q2
            exact ⟨y, List.mem_append_left _ hy, hyk⟩
        clear ho4 hb4 hg4
        go_wp2
        go_roundw
        case rel => exact ⟨k + 1, no + 1, c4, a4, true, O ++ [e], by omega, by omega, rfl, rfl, by go_num, HE.out⟩
        case measure => simp only [intOf]; omega
      | false =>
        have HCM : Hid (∀ W : World, Calls Try.prog 33 #[.agg #[.string x.1.user, .int .u64 (x.1.seq : Int), .int .i64 x.1.kind], .agg #[.string e.1.user, .int .u64 (e.1.seq : Int), .int .i64 e.1.kind]] W fun r w' => r = .returned (.int .i64 (x.1.cmp e.1)) ∧ Below W.heap.size W w') := fun W => rcompare_any _ _ _ _ _ _ W
        have HKB : Hid (x.1.cmp e.1 < 0 ↔ kb17 x.1 e.1 = true) := by unfold Hid kb17; simp
        generalize x.1.cmp e.1 = cv at HCM HKB
        have HI2 : Hid (Wth w wr.drew x l k false no ao co O) := HI.out.below (Below.refl _ _).drew
        have y0 : wr.drew.cell? ⟨w.heap.size, 0, none⟩ = some (.string x.1.user) := HI2.out.box.cell 0
        have y1 : wr.drew.cell? ⟨w.heap.size, 1, none⟩ = some (.int .u64 (x.1.seq : Int)) := HI2.out.box.cell 1
        have y2 : wr.drew.cell? ⟨w.heap.size, 2, none⟩ = some (.int .i64 x.1.kind) := HI2.out.box.cell 2
        obtain ⟨z0, z1, z2, _⟩ := HCell.out _ HI2.out.base
        clear c0 c1 c2 c3
        go_wp2_with fail
        go_region_held3 (fun W => W.cell? ⟨w.heap.size, 0, none⟩ = some (.string x.1.user) ∧ W.cell? ⟨w.heap.size, 1, none⟩ = some (.int .u64 (x.1.seq : Int)) ∧ W.cell? ⟨w.heap.size, 2, none⟩ = some (.int .i64 x.1.kind) ∧ W.cell? ⟨b, off + k * 4, none⟩ = some (.string e.1.user) ∧ W.cell? ⟨b, off + k * 4 + 1, none⟩ = some (.int .u64 (e.1.seq : Int)) ∧ W.cell? ⟨b, off + k * 4 + 2, none⟩ = some (.int .i64 e.1.kind)) (first | exact ⟨y0, y1, y2, z0, z1, z2⟩ | go_keep)
          (first
           | (go_at_call 33; refine (HCM.out _).mono ?_; rintro _ vx ⟨rfl, hbx⟩
              have HI2 : Hid (Wth w vx x l k false no ao co O) := HI2.out.below hbx
              have y0 : vx.cell? ⟨w.heap.size, 0, none⟩ = some (.string x.1.user) := HI2.out.box.cell 0
              have y1 : vx.cell? ⟨w.heap.size, 1, none⟩ = some (.int .u64 (x.1.seq : Int)) := HI2.out.box.cell 1
              have y2 : vx.cell? ⟨w.heap.size, 2, none⟩ = some (.int .i64 x.1.kind) := HI2.out.box.cell 2
              obtain ⟨z0, z1, z2, z3⟩ := HCell.out _ HI2.out.base
              clear hbx))
        have y3 : vx.cell? ⟨w.heap.size, 3, none⟩ = some (.string x.2) := HI2.out.box.cell 3
        have hsx : w.heap.size + 1 ≤ vx.heap.size := HI2.out.box.lt
        by_cases hcv : cv < 0
        · go_wp2_with (first | (at_builtin; refine wpList_push8 vx rfl _ _ rfl (w.heap.size + 1) _ _ _ O rfl HI2.out.own x rfl (by omega) hsx ?_))
          intro a4 c4 w4 ho4 hb4 hg4
          have HQ : Hid (OwnK w4 (w.heap.size + 1) a4 (no + 1) c4 (O ++ [x]) ∧ Below w.heap.size w w4 ∧ Box w4 w.heap.size TKV (kvArr x)) := ⟨ho4, HI2.out.base.trans (hb4.mono (by omega)), HI2.out.box.kept (hb4.block _ (by omega))⟩
          obtain ⟨z0, z1, z2, z3⟩ := HCell.out _ HQ.out.2.1
          have hs4 : w.heap.size + 1 ≤ w4.heap.size := HQ.out.2.2.lt
          clear ho4 hb4 hg4
          go_wp2_with (first | (at_builtin; refine wpList_push8 w4 rfl _ _ rfl (w.heap.size + 1) _ _ _ (O ++ [x]) rfl HQ.out.1 e rfl (by omega) hs4 ?_))
          intro a5 c5 w5 ho5 hb5 hg5
          have HE : Hid (Wth w w5 x l (k + 1) true (no + 1 + 1) a5 c5 (O ++ [x] ++ [e])) := by
            obtain ⟨q1, q2⟩ := HI2.out.no rfl
            refine ⟨by simpa using ho5, HQ.out.2.1.trans (hb5.mono (by omega)), HQ.out.2.2.kept (hb5.block _ (by omega)), fun _ => ⟨?_, ?_⟩, fun h => absurd h (by decide)⟩
            · rw [HT.out, ins17_turn q2 (HKB.out.1 hcv), q1]
            · rw [HT.out]
              exact ⟨e, by simp, HKB.out.1 hcv⟩
          clear ho5 hb5 hg5
          go_wp2
          go_roundw
          case rel => exact ⟨k + 1, no + 1 + 1, c5, a5, true, O ++ [x] ++ [e], by omega, by have := HI.out.len (by omega); simp at this; omega, rfl, rfl, by go_num, HE.out⟩
          case measure => simp only [intOf]; omega
        · go_wp2_with (first | (at_builtin; refine wpList_push8 vx rfl _ _ rfl (w.heap.size + 1) _ _ _ O rfl HI2.out.own e rfl (by omega) hsx ?_))
          intro a4 c4 w4 ho4 hb4 hg4
          have HE : Hid (Wth w w4 x l (k + 1) false (no + 1) a4 c4 (O ++ [e])) := by
            obtain ⟨q1, q2⟩ := HI2.out.no rfl
            refine ⟨ho4, HI2.out.base.trans (hb4.mono (by omega)), HI2.out.box.kept (hb4.block _ (by omega)), fun h => absurd h (by decide), fun _ => ⟨by rw [HT.out, q1], fun y hy => ?_⟩⟩
            rw [HT.out] at hy
            rcases List.mem_append.1 hy with hy | hy
            · exact q2 y hy
            · rw [List.mem_singleton.1 hy]
              cases hkb : kb17 x.1 e.1 with
              | false => rfl
              | true => exact absurd (HKB.out.2 hkb) (by omega)
          clear ho4 hb4 hg4
          go_wp2
          go_roundw
          case rel => exact ⟨k + 1, no + 1, c4, a4, false, O ++ [e], by omega, by omega, rfl, rfl, by go_num, HE.out⟩
          case measure => simp only [intOf]; omega
    · obtain rfl : k = n := by omega
      have HTk : Hid (l.take k = l) := List.take_of_length_le (by have := HS.out.2; omega)
      have HLn : Hid (no = if dn then k + 1 else k) := HI.out.len (by rw [HS.out.2]; exact Nat.le_refl _)
      cases dn with
      | true =>
        have hne : no = k + 1 := HLn.out
        clear HLn
        subst hne
        go_wp2
        go_ret
        obtain ⟨q1, q2⟩ := HI.out.yes (by trivial)
        rw [HTk.out] at q1
        exact ⟨ao, co, ret1 rfl, by rw [← q1]; exact HI.out.own.less (by omega), HI.out.base⟩
      | false =>
        have hne : no = k := HLn.out
        clear HLn
        subst hne
        clear hno hk
        have hsx : w.heap.size + 1 ≤ wr.heap.size := HI.out.box.lt
        have y0 : wr.cell? ⟨w.heap.size, 0, none⟩ = some (.string x.1.user) := HI.out.box.cell 0
        have y1 : wr.cell? ⟨w.heap.size, 1, none⟩ = some (.int .u64 (x.1.seq : Int)) := HI.out.box.cell 1
        have y2 : wr.cell? ⟨w.heap.size, 2, none⟩ = some (.int .i64 x.1.kind) := HI.out.box.cell 2
        have y3 : wr.cell? ⟨w.heap.size, 3, none⟩ = some (.string x.2) := HI.out.box.cell 3
        go_wp2_with (first | (at_builtin; refine wpList_push8 wr rfl _ _ rfl (w.heap.size + 1) _ _ _ O rfl HI.out.own x rfl (by omega) hsx ?_))
        intro a4 c4 w4 ho4 hb4 hg4
        have HE : Hid (OwnK w4 w.heap.size a4 (no + 1) c4 (ins17 x l) ∧ Below w.heap.size w w4) := by
          obtain ⟨q1, q2⟩ := HI.out.no (by trivial)
          rw [HTk.out] at q1 q2
          refine ⟨?_, HI.out.base.trans (hb4.mono (by omega))⟩
          rw [ins17_out q2, ← q1]
          exact ho4.less (by omega)
        clear ho4 hb4 hg4
        go_wp2
        go_ret
        exact ⟨a4, c4, ret1 rfl, HE.out⟩
end Go.Proofs.Ytjoamhcehpjepaa
/- What stays as it is seen, plainly: lists in one, what is above left out. -/
namespace Go.Proofs.Ytjoamhcehpjepaa
open Go.RowKit
set_option linter.unusedVariables false
set_option linter.unusedSimpArgs false
theorem ik_zero {a b : IK} (h : a.cmp b = 0) : a = b := by
  unfold IK.cmp at h
  obtain ⟨h1, h2, h3⟩ := (kcmp_zero _ _ _ _ _ _).1 h
  obtain ⟨u, q, k⟩ := a
  obtain ⟨v, r, m⟩ := b
  dsimp only at h1 h2 h3
  have e1 : u = v := ba_ext17 (by simpa [ByteArray.toList_eq] using h1)
  have e2 : q = r := by omega
  rw [e1, e2, h3]
theorem ins17_perm (e : KV) : ∀ l : List KV, (ins17 e l).Perm (e :: l)
  | [] => List.Perm.refl _
  | x :: r => by
    unfold ins17
    split
    · exact List.Perm.refl _
    · exact ((ins17_perm e r).cons x).trans (List.Perm.swap e x r)
theorem ins17_rise {e : KV} : ∀ {l : List KV}, RiseK l → (∀ y ∈ l, y.1 ≠ e.1) → RiseK (ins17 e l)
  | [], _, _ => List.pairwise_singleton _ _
  | x :: r, h, hn => by
    obtain ⟨h1, h2⟩ := List.pairwise_cons.1 h
    unfold ins17
    by_cases hk : e.1.cmp x.1 < 0
    · rw [if_pos (by unfold kb17; simpa using hk)]
      refine List.Pairwise.cons (fun y hy => ?_) h
      rcases List.mem_cons.1 hy with rfl | hy
      · exact hk
      · exact IK.cmp_trans hk (h1 y hy)
    · rw [if_neg (by unfold kb17; simpa using hk)]
      refine List.Pairwise.cons (fun y hy => ?_) (ins17_rise h2 fun y hy => hn y (by simp [hy]))
      rcases mem_ins17.1 hy with rfl | hy
      · have h3 : y.1.cmp x.1 ≠ 0 := fun h => hn x (by simp) (ik_zero h).symm
        have h4 : x.1.cmp y.1 = -y.1.cmp x.1 := IK.cmp_turn _ _
        omega
      · exact h1 y hy
/-- One list, and those of another one in their places. -/
def joinK (a b : List KV) : Nat → List KV
  | 0 => a
  | k + 1 => match b[k]? with
    | none => joinK a b k
    | some e => ins17 e (joinK a b k)
theorem joinK_succ {a b : List KV} {k : Nat} {e : KV} (h : b[k]? = some e) : joinK a b (k + 1) = ins17 e (joinK a b k) := by
  show (match b[k]? with | none => _ | some e => _) = _
  rw [h]
theorem joinK_len (a b : List KV) : ∀ k, k ≤ b.length → (joinK a b k).length = a.length + k
  | 0, _ => rfl
  | k + 1, h => by
    rw [joinK_succ (List.getElem?_eq_getElem (by omega)), ins17_len, joinK_len a b k (by omega)]
    omega
theorem joinK_perm (a b : List KV) : ∀ k, k ≤ b.length → (joinK a b k).Perm (a ++ b.take k)
  | 0, _ => by simp [joinK]
  | k + 1, h => by
    have hk : k < b.length := by omega
    rw [joinK_succ (List.getElem?_eq_getElem hk), List.take_succ_eq_append_getElem hk]
    refine (ins17_perm _ _).trans (((joinK_perm a b k (by omega)).cons _).trans ?_)
    rw [← List.append_assoc]
    exact (List.perm_append_singleton _ _).symm
theorem joinK_rise {a b : List KV} (ha : RiseK a) : ∀ k, k ≤ b.length → (∀ j (hj : j < b.length), j < k → ∀ y ∈ joinK a b j, y.1 ≠ b[j].1) → RiseK (joinK a b k)
  | 0, _, _ => ha
  | k + 1, h, hn => by
    have hk : k < b.length := by omega
    rw [joinK_succ (List.getElem?_eq_getElem hk)]
    exact ins17_rise (joinK_rise ha k (by omega) fun j hj hjk => hn j hj (by omega)) (hn k hk (by omega))
theorem all_join {a b : List KV} (ha : RiseK a) (hb : RiseK b) (hn : ∀ j (hj : j < b.length), ∀ y ∈ joinK a b j, y.1 ≠ b[j].1) : RiseK (joinK a b b.length) ∧ allL [a, b] = joinK a b b.length := by
  have hr := joinK_rise ha b.length (Nat.le_refl _) fun j hj _ => hn j hj
  refine ⟨hr, all_parts (fun m hm => ?_) hr ?_⟩
  · simp only [List.mem_cons, List.not_mem_nil, or_false] at hm
    rcases hm with rfl | rfl
    · exact ha
    · exact hb
  · have := (joinK_perm a b b.length (Nat.le_refl _)).symm
    rw [List.take_length] at this
    simpa using this
def lowK (s : Nat) (l : List KV) : List KV := l.filter fun e => decide (e.1.seq ≤ s)
theorem lowK_succ (s : Nat) (l : List KV) {i : Nat} (hi : i < l.length) : lowK s (l.take (i + 1)) = lowK s (l.take i) ++ if l[i].1.seq ≤ s then [l[i]] else [] := by
  unfold lowK
  rw [List.take_succ_eq_append_getElem hi, List.filter_append]
  congr 1
  by_cases h : l[i].1.seq ≤ s
  · rw [if_pos h]; simp [h]
  · rw [if_neg h]; simp [h]
theorem lowK_len (s : Nat) (l : List KV) : (lowK s l).length ≤ l.length := List.length_filter_le _ _
theorem lget_low (s : Nat) (u : ByteArray) : ∀ l : List KV, lget17 (lowK s l) u s = lget17 l u s
  | [] => rfl
  | e :: l => by
    have ih := lget_low s u l
    unfold lowK lget17 at *
    by_cases h : e.1.seq ≤ s
    · rw [List.filter_cons_of_pos (by simpa using h)]
      by_cases hu : e.1.user = u
      · rw [List.find?_cons_of_pos (by simp [hu, h]), List.find?_cons_of_pos (by simp [hu, h])]
      · rw [List.find?_cons_of_neg (by simp [hu]), List.find?_cons_of_neg (by simp [hu]), ih]
    · rw [List.filter_cons_of_neg (by simpa using h), List.find?_cons_of_neg (by simp [h]), ih]
theorem low_rise {s : Nat} {l : List KV} (h : RiseK l) : RiseK (lowK s l) := h.sublist List.filter_sublist
theorem seen_low {s : Nat} {l : List KV} (h : RiseK l) : seenL s (lowK s l) = seenL s l := by
  have h1 := rise_sortU (low_rise (s := s) h)
  have h2 := rise_sortU h
  refine rise_ext17 (rise_seen h1) (rise_seen h2) fun ⟨u, x⟩ => ?_
  rw [mem_seen h1, mem_seen h2, lget_low]
end Go.Proofs.Ytjoamhcehpjepaa
/- Two views side by side; rows of two lists; keys held against one another. -/
namespace Go.Proofs.Ytjoamhcehpjepaa
open Go.RowKit
set_option linter.unusedVariables false
set_option linter.unusedSimpArgs false
section
variable {D : VwRel} {Wn W4 W6 W8 : World} {M : Nat} {Rx Ry : Nat → Prop} {px py : Nat} {Ix Iy : List It17}
/-- One that was made, and another one made behind it. -/
theorem pair17 (F : VwOk D) (hx : VwS D Wn M W4 Rx px Ix none (fun _ => False)) (hb : Below W4.heap.size W4 W6) (hy : D W6 Ry py Iy none) (hR : ∀ k, Ry k → W4.heap.size ≤ k) : VwS D Wn M W6 Rx px Ix none Ry ∧ ∀ k, Ry k → M ≤ k :=
  ⟨hx.more F (hx.below F hb) fun k hk => .inr ⟨hR k hk, F.lt hy k hk⟩, fun k hk => Nat.le_trans hx.top (hR k hk)⟩
/-- Behind all that the one tells: the other one. -/
theorem other17 (F : VwOk D) {a : Option Addr} {c n : Nat} {R' : Nat → Prop} {o : Option Nat} (h : AlS D Wn M W6 W8 px Ix o Ry n a c R') (hy : D W6 Ry py Iy none) (hM : ∀ k, Ry k → M ≤ k) : VwS D Wn M W8 Ry py Iy none (fun k => blkOf a = some k) :=
  ⟨h.vw.low, h.vw.top, F.kept hy h.size h.low, hM, fun k hk => ⟨tag_lt (h.own.tag hk), fun hr => by
    have := (h.own.ge hk).1
    have := F.lt hy k hr
    omega⟩⟩
end
theorem ls_two {W : World} {r : Nat} {a b : Option Addr} {n m c d : Nat} {l k : List KV} (h : KsAt W a n c l) (hb : a = none → c = 0) (g : KsAt W b m d k) (gb : b = none → d = 0) (h3 : Box W r TRow #[.slice a n c, .slice b m d]) : LsAt W (some ⟨r, 0, none⟩) 2 2 [l, k] := by
  refine ⟨rfl, Nat.le_refl _, by unfold maxLen; omega, fun e => (by cases e), fun _ => ⟨r, 0, rfl, fun i hi => ?_⟩⟩
  rcases (show i = 0 ∨ i = 1 by omega) with rfl | rfl
  · have e : (rowL [l, k] 0).length = n := h.size
    exact ⟨a, c, by rw [e]; exact h3.cell 0, by rw [e]; exact h, hb⟩
  · have e : (rowL [l, k] 1).length = m := g.size
    exact ⟨b, d, by rw [e]; exact h3.cell 1, by rw [e]; exact g, gb⟩
theorem few_two {l k : List KV} (hl : l.length ≤ 1000000) (hk : k.length ≤ 1000000) (h1 : ∀ e ∈ l, WfE e) (h2 : ∀ e ∈ k, WfE e) : FewV [l, k] := ⟨by simp, by rw [all_flat_len]; simp; omega, fun q hq => by
  rcases List.mem_cons.1 hq with rfl | hq
  · exact h1
  · rw [List.mem_singleton.1 hq]; exact h2⟩
theorem wf_join {a b : List KV} (h1 : ∀ e ∈ a, WfE e) (h2 : ∀ e ∈ b, WfE e) : ∀ e ∈ joinK a b b.length, WfE e := fun e he => by
  have := (joinK_perm a b b.length (Nat.le_refl _)).mem_iff.1 he
  rcases List.mem_append.1 this with h | h
  · exact h1 e h
  · exact h2 e (List.mem_of_mem_take h)
theorem wf_low {a : List KV} (s : Nat) (h1 : ∀ e ∈ a, WfE e) : ∀ e ∈ lowK s a, WfE e := fun e he => h1 e (List.mem_filter.1 he).1
instance : DecidableEq IK := fun a b => by
  obtain ⟨u, q, k⟩ := a
  obtain ⟨v, r, m⟩ := b
  exact decidable_of_iff (u = v ∧ q = r ∧ k = m) (by simp [IK.mk.injEq])
def eqIK (e f : IK) : Bool := decide (e = f)
theorem eqIK_data (e f : IK) : eqIK e f = (decide (e.user.data = f.user.data) && (decide (e.seq = f.seq) && decide (e.kind = f.kind))) := by
  unfold eqIK
  rw [← Bool.decide_and, ← Bool.decide_and]
  refine decide_eq_decide.2 ⟨fun h => by rw [h]; exact ⟨rfl, rfl, rfl⟩, fun ⟨h1, h2, h3⟩ => ?_⟩
  obtain ⟨⟨a⟩, q, k⟩ := e
  obtain ⟨⟨c⟩, r, m⟩ := f
  dsimp only at h1 h2 h3
  rw [h1, h2, h3]
set_option maxRecDepth 100000 in
theorem run_eql_ik (e f : IK) (W : World) : (binOp .eql 45 (.agg #[.string e.user, .int .u64 (e.seq : Int), .int .i64 e.kind]) (.agg #[.string f.user, .int .u64 (f.seq : Int), .int .i64 f.kind])).run Try.prog W = .ok (.bool (eqIK e f)) W := by
  rw [eqIK_data]
  simp [go_sem, Try.underlying45, Try.underlying9, Try.underlying23, Try.underlying3]
  have h2i : ((e.seq : Int) = (f.seq : Int)) ↔ e.seq = f.seq := Int.ofNat_inj
  have h2b : (e.seq == f.seq) = decide (e.seq = f.seq) := by by_cases h : e.seq = f.seq <;> simp [h]
  by_cases h1 : e.user.data = f.user.data <;> by_cases h2 : e.seq = f.seq <;> by_cases h3 : e.kind = f.kind <;> simp [ByteArray.toList_eq, h2i, h2b, h1, h2, h3]
end Go.Proofs.Ytjoamhcehpjepaa
/- The walk of ViewStays, by what is asked of view's own. -/
namespace Go.Proofs.Ytjoamhcehpjepaa
open Go.RowKit
set_option linter.unusedVariables false
set_option linter.unusedSimpArgs false
theorem KsAt.at17 {w : World} {a : Option Addr} {n c : Nat} {l : List KV} (h : KsAt w a n c l) {i : Nat} (hi : i < n) (hil : i < l.length) : ∃ (b o : Nat), (∀ W : World, (Instr.indexAt 43 (.slice a n c) (.int .i64 (i : Int))).run Try.prog W = .ok (.pointer (some ⟨b, o, none⟩)) W) ∧
    ∀ W, Below w.heap.size w W → W.cell? ⟨b, o, none⟩ = some (.string l[i].1.user) ∧ W.cell? ⟨b, o + 1, none⟩ = some (.int .u64 (l[i].1.seq : Int)) ∧ W.cell? ⟨b, o + 2, none⟩ = some (.int .i64 l[i].1.kind) ∧ W.cell? ⟨b, o + 3, none⟩ = some (.string l[i].2) := by
  obtain ⟨b, off, hix, _, hcs⟩ := h.spots (by omega)
  exact ⟨b, off + i * 4, hix i hi, fun W hW => hcs W hW i hil⟩
set_option maxRecDepth 100000 in
set_option maxHeartbeats 3000000 in
theorem viewStays_of {D : VwRel} (F : VwOk D) (a : Option Addr) (n c : Nat) (la : List KV) (b : Option Addr) (m d : Nat) (lb : List KV) (s : Nat) (w : World) (hwa : ∀ e ∈ la, WfE e) (hwb : ∀ e ∈ lb, WfE e) (ha : KsAt w a n c la) (hab : a = none → c = 0) (hb : KsAt w b m d lb) (hbb : b = none → d = 0) (hs : s < 18446744073709551616) :
    Calls Try.prog 5 #[.slice a n c, .slice b m d, .int .u64 (s : Int)] w fun e w' => e = .returned (.bool true) ∧ Below w.heap.size w w' := by
  have HWF : Hid ((∀ e ∈ la, WfE e) ∧ ∀ e ∈ lb, WfE e) := ⟨hwa, hwb⟩
  clear hwa hwb
  have H0 : Hid (KsAt w a n c la ∧ (a = none → c = 0) ∧ KsAt w b m d lb ∧ (b = none → d = 0) ∧ la.length = n ∧ lb.length = m) := ⟨ha, hab, hb, hbb, ha.size, hb.size⟩
  clear ha hab hb hbb
  go_enter Try.func5, Try.ntmps5
  go_wp2_with fail
  refine (awake17 F w).mono ?_
  rintro _ w1 ⟨rfl, hb1⟩
  have H1 : Hid (Below w.heap.size w w1) := hb1
  clear hb1
  by_cases hn : 200 < n
  · have hnI : (200 : Int) < (n : Int) := by omega
    go_wp2
    go_ret
    exact ⟨ret1 rfl, H1.out⟩
  by_cases hm : 200 < m
  · have hnI : ¬ (200 : Int) < (n : Int) := by omega
    have hmI : (200 : Int) < (m : Int) := by omega
    go_wp2
    go_ret
    exact ⟨ret1 rfl, H1.out⟩
  have hnI : ¬ (200 : Int) < (n : Int) := by omega
  have hmI : ¬ (200 : Int) < (m : Int) := by omega
  have HO : Hid (OwnK (w1.alloc (.cells #[] TKV)) w1.heap.size (some ⟨w1.heap.size, 0, none⟩) 0 0 [] ∧ Below w1.heap.size w1 (w1.alloc (.cells #[] TKV))) := ⟨⟨rfl, World.ownsRow_made w1 #[] 0 (Nat.le_refl _) (Nat.zero_le _) (by simp)⟩, (Below.refl _ _).alloc (Nat.le_refl _) _⟩
  go_wp2_with (first
    | (at_builtin; refine wpList_appK _ rfl _ _ rfl w1.heap.size (some ⟨w1.heap.size, 0, none⟩) 0 0 [] rfl HO.out.1 a n c la rfl (H0.out.1.below (H1.out.trans (HO.out.2.mono H1.out.size))) H0.out.2.1 (by omega) HO.out.2.size ?_
       intro aj cj w5 ho5 hb5 hg5
       have H5 : Hid (OwnK w5 w1.heap.size aj n cj la ∧ Below w.heap.size w w5 ∧ w1.heap.size ≤ w5.heap.size) := ⟨by rw [Nat.zero_add, List.nil_append] at ho5; exact ho5, H1.out.trans ((HO.out.2.trans hb5).mono H1.out.size), (HO.out.2.trans hb5).size⟩
       rw [Nat.zero_add]
       clear ho5 hb5 hg5)
    | fail)
  clear HO hnI hmI
  go_loopw [8, 10] (fun s8 s10 wr => ∃ (i q cl : Nat) (al : Option Addr), i ≤ n ∧ q ≤ i ∧ s10 = .int .i64 (i : Int) ∧ s8 = .slice al q cl ∧ Hid (Below w5.heap.size w5 wr ∧ OwnK wr w5.heap.size al q cl (lowK s (la.take i)))) (fun _ s10 _ => n - (intOf s10).toNat)
  case atStart => exact ⟨0, 0, 0, none, Nat.zero_le _, Nat.le_refl _, rfl, rfl, Below.refl _ _, OwnK.nil _ _⟩
  case round =>
    obtain ⟨i, q, cl, al, hin, hqi, rfl, rfl, HI⟩ := hrel
    by_cases hi : i < n
    · have hiI : (i : Int) < (n : Int) := by omega
      have hil : i < la.length := by rw [H0.out.2.2.2.2.1]; exact hi
      obtain ⟨bb, oo, hx, hc⟩ := H0.out.1.at17 hi hil
      have HC : Hid (∀ W, Below w5.heap.size w5 W → W.cell? ⟨bb, oo, none⟩ = some (.string la[i].1.user) ∧ W.cell? ⟨bb, oo + 1, none⟩ = some (.int .u64 (la[i].1.seq : Int)) ∧ W.cell? ⟨bb, oo + 2, none⟩ = some (.int .i64 la[i].1.kind) ∧ W.cell? ⟨bb, oo + 3, none⟩ = some (.string la[i].2)) := fun W hW => hc W (H5.out.2.1.trans (hW.mono H5.out.2.1.size))
      have HLS : Hid (lowK s (la.take (i + 1)) = lowK s (la.take i) ++ if la[i].1.seq ≤ s then [la[i]] else []) := lowK_succ s la hil
      obtain ⟨x0, x1, x2, x3⟩ := HC.out _ HI.out.1
      clear hc HC
      generalize la[i] = e at HLS x0 x1 x2 x3
      by_cases hsq : e.1.seq ≤ s
      · have hsI : (e.1.seq : Int) ≤ (s : Int) := by omega
        have HLT : Hid (lowK s (la.take (i + 1)) = lowK s (la.take i) ++ [e]) := by rw [HLS.out, if_pos hsq]; rfl
        go_wp2_with (first
          | (at_builtin; refine wpList_push8 wr rfl _ _ rfl w5.heap.size al q cl _ rfl HI.out.2 e rfl (by omega) HI.out.1.size ?_
             intro a7 c7 w7 ho7 hb7 hg7
             have H7 : Hid (Below w5.heap.size w5 w7 ∧ OwnK w7 w5.heap.size a7 (q + 1) c7 (lowK s (la.take (i + 1)))) := ⟨HI.out.1.trans hb7, by rw [HLT.out]; exact ho7⟩
             clear ho7 hb7 hg7)
          | fail)
        go_roundw
        case rel => exact ⟨i + 1, q + 1, c7, a7, by omega, by omega, by go_num, rfl, H7.out⟩
        case measure => simp only [intOf]; omega
      · have hsI : ¬ (e.1.seq : Int) ≤ (s : Int) := by omega
        have HLT : Hid (lowK s (la.take (i + 1)) = lowK s (la.take i)) := by
          show lowK s (la.take (i + 1)) = lowK s (la.take i)
          rw [HLS.out, if_neg hsq, List.append_nil]
        have H7 : Hid (Below w5.heap.size w5 wr ∧ OwnK wr w5.heap.size al q cl (lowK s (la.take (i + 1)))) := by rw [HLT.out]; exact HI.out
        go_wp2
        go_roundw
        case rel => exact ⟨i + 1, q, cl, al, by omega, by omega, by go_num, rfl, H7.out⟩
        case measure => simp only [intOf]; omega
    · obtain rfl : i = n := by omega
      have hiI : ¬ (i : Int) < (i : Int) := by omega
      have H7 : Hid (OwnK wr w5.heap.size al q cl (lowK s la) ∧ OwnK wr w1.heap.size aj i cj la ∧ Below w.heap.size w wr ∧ w1.heap.size ≤ wr.heap.size ∧ KsAt wr a i c la ∧ KsAt wr b m d lb) := by
        have h1 := HI.out.2
        rw [List.take_of_length_le (by rw [H0.out.2.2.2.2.1]; exact Nat.le_refl _)] at h1
        have hbw := H5.out.2.1.trans (HI.out.1.mono H5.out.2.1.size)
        exact ⟨h1, H5.out.1.below HI.out.1, hbw, Nat.le_trans H5.out.2.2 HI.out.1.size, H0.out.1.below hbw, H0.out.2.2.1.below hbw⟩
      clear HI
      obtain ⟨W7, hW7⟩ : ∃ W7, W7 = wr := ⟨_, rfl⟩
      rw [← hW7] at H7 ⊢
      clear hW7
      go_wp2_with fail
      go_loopw [9, 11] (fun s9 s11 wr => ∃ (k cx : Nat) (ax : Option Addr), k ≤ m ∧ s11 = .int .i64 (k : Int) ∧ s9 = .slice ax (i + k) cx ∧ Hid (Below W7.heap.size W7 wr ∧ OwnK wr w1.heap.size ax (i + k) cx (joinK la lb k) ∧ ∀ j (hj : j < lb.length), j < k → ∀ y ∈ joinK la lb j, y.1 ≠ lb[j].1)) (fun _ s11 _ => m - (intOf s11).toNat)
      case atStart => exact ⟨0, cj, aj, Nat.zero_le _, rfl, rfl, Below.refl _ _, H7.out.2.1, fun j _ h => absurd h (Nat.not_lt_zero _)⟩
      case round =>
        obtain ⟨k, cx, ax, hkm, rfl, rfl, HI⟩ := hrel
        by_cases hk : k < m
        · have hkI : (k : Int) < (m : Int) := by omega
          have hkl : k < lb.length := by rw [H0.out.2.2.2.2.2]; exact hk
          obtain ⟨bb, oo, hx, hc⟩ := H7.out.2.2.2.2.2.at17 hk hkl
          have HC : Hid (∀ W, Below W7.heap.size W7 W → W.cell? ⟨bb, oo, none⟩ = some (.string lb[k].1.user) ∧ W.cell? ⟨bb, oo + 1, none⟩ = some (.int .u64 (lb[k].1.seq : Int)) ∧ W.cell? ⟨bb, oo + 2, none⟩ = some (.int .i64 lb[k].1.kind) ∧ W.cell? ⟨bb, oo + 3, none⟩ = some (.string lb[k].2)) := hc
          have HNX : Hid (joinK la lb (k + 1) = ins17 lb[k] (joinK la lb k) ∧ ((∀ y ∈ joinK la lb k, y.1 ≠ lb[k].1) → ∀ j (hj : j < lb.length), j < k + 1 → ∀ y ∈ joinK la lb j, y.1 ≠ lb[j].1)) := ⟨joinK_succ (List.getElem?_eq_getElem hkl), fun h j hj hjk => by
            by_cases e : j = k
            · subst e; exact h
            · exact HI.out.2.2 j hj (by omega)⟩
          clear hc
          generalize lb[k] = e at HC HNX
          have HJ : Hid (OwnK wr w1.heap.size ax (i + k) cx (joinK la lb k) ∧ (joinK la lb k).length = i + k ∧ Below W7.heap.size W7 wr) := ⟨HI.out.2.1, HI.out.2.1.size, HI.out.1⟩
          clear HI
          generalize joinK la lb k = J at HJ HNX
          go_wp2_with fail
          obtain ⟨W8, hW8⟩ : ∃ W8, W8 = wr := ⟨_, rfl⟩
          rw [← hW8] at HJ ⊢
          clear hW8
          go_loopw [12] (fun s12 wr => ∃ (t : Nat), t ≤ i + k ∧ s12 = .int .i64 (t : Int) ∧ Hid (Below W8.heap.size W8 wr ∧ ∀ j (hj : j < J.length), j < t → J[j].1 ≠ e.1)) (fun s12 _ => i + k - (intOf s12).toNat)
          case atStart => exact ⟨0, Nat.zero_le _, rfl, Below.refl _ _, fun j _ h => absurd h (Nat.not_lt_zero _)⟩
          case round =>
            obtain ⟨t, htk, rfl, HI⟩ := hrel
            by_cases ht : t < i + k
            · have htI : (t : Int) < (i : Int) + (k : Int) := by omega
              have htl : t < J.length := by rw [HJ.out.2.1]; exact ht
              obtain ⟨bj, oj, hy, hcj⟩ := HJ.out.1.ks.at17 ht htl
              obtain ⟨y0, y1, y2, _⟩ := hcj _ HI.out.1
              obtain ⟨x0, x1, x2, _⟩ := HC.out _ (HJ.out.2.2.trans (HI.out.1.mono HJ.out.2.2.size))
              have heq := run_eql_ik J[t].1 e.1
              have HYN : Hid (J[t].1 ≠ e.1 → ∀ j (hj : j < J.length), j < t + 1 → J[j].1 ≠ e.1) := fun hne j hj hjt => by
                by_cases e9 : j = t
                · subst e9; exact hne
                · exact HI.out.2 j hj (by omega)
              have HB : Hid (∀ m9, Below W8.heap.size W8 (wr.drewN m9)) := fun m9 => Below.drewM HI.out.1 m9
              clear HI hcj
              generalize J[t].1 = ej at y0 y1 y2 heq HYN
              by_cases hee : ej = e.1
              · have h9 : eqIK ej e.1 = true := decide_eq_true hee
                rw [h9] at heq
                have HBW : Hid (∀ m9, Below w.heap.size w (wr.drewN m9)) := fun m9 => H7.out.2.2.1.trans ((HJ.out.2.2.trans ((HB.out m9).mono HJ.out.2.2.size)).mono H7.out.2.2.1.size)
                clear hee HYN h9
                go_wp2_with fail
                go_quiet (fail)
                go_wp2
                go_ret
                exact ⟨ret1 rfl, HBW.out _⟩
              · have h9 : eqIK ej e.1 = false := decide_eq_false hee
                rw [h9] at heq
                have HYY : Hid (∀ j (hj : j < J.length), j < t + 1 → J[j].1 ≠ e.1) := HYN.out hee
                clear hee HYN h9
                go_wp2_with fail
                go_quiet (fail)
                go_wp2
                go_roundw
                case rel => exact ⟨t + 1, by omega, by go_num, HB.out _, HYY.out⟩
                case measure => simp only [intOf]; omega
            · skip
              obtain rfl : t = i + k := by omega
              have htI : ¬ ((i + k : Nat) : Int) < (i : Int) + (k : Int) := by omega
              have htI2 : ¬ ((i : Int) + (k : Int)) < (i : Int) + (k : Int) := by omega
              have HND : Hid (∀ y ∈ J, y.1 ≠ e.1) := fun y hy => by
                obtain ⟨j, hj, rfl⟩ := List.getElem_of_mem hy
                exact HI.out.2 j hj (by rw [HJ.out.2.1] at hj; exact hj)
              have HB : Hid (Below W7.heap.size W7 wr ∧ OwnK wr w1.heap.size ax (i + k) cx J) := ⟨HJ.out.2.2.trans (HI.out.1.mono HJ.out.2.2.size), HJ.out.1.below HI.out.1⟩
              clear HI
              obtain ⟨x0, x1, x2, x3⟩ := HC.out _ HB.out.1
              have hwith := with17 HB.out.2.ks e (by omega)
              go_wp2_with fail
              refine hwith.mono ?_
              rintro _ w9 ⟨a9, c9, rfl, ho9, hb9⟩
              have H9 : Hid (Below W7.heap.size W7 w9 ∧ OwnK w9 w1.heap.size a9 (i + k + 1) c9 (joinK la lb (k + 1)) ∧ ∀ j (hj : j < lb.length), j < k + 1 → ∀ y ∈ joinK la lb j, y.1 ≠ lb[j].1) := ⟨HB.out.1.trans (hb9.mono HB.out.1.size), by rw [HNX.out.1]; exact ho9.less (by have := H7.out.2.2.2.1; have := HB.out.1.size; omega), HNX.out.2 HND.out⟩
              clear ho9 hb9 hwith x0 x1 x2 x3
              go_wp2
              go_roundw
              case rel => exact ⟨k + 1, c9, a9, by omega, by go_num, rfl, H9.out⟩
              case measure => simp only [intOf]; omega
        · skip
          obtain rfl : k = m := by omega
          have hkI : ¬ (k : Int) < (k : Int) := by omega
          have HJ : Hid (Below W7.heap.size W7 wr ∧ OwnK wr w1.heap.size ax (i + k) cx (joinK la lb lb.length) ∧ (∀ j (hj : j < lb.length), ∀ y ∈ joinK la lb j, y.1 ≠ lb[j].1) ∧ (joinK la lb lb.length).length = i + k ∧ lb.length = k ∧ la.length = i) := by
            have e := H0.out.2.2.2.2.2
            refine ⟨HI.out.1, by rw [e]; exact HI.out.2.1, fun j hj => HI.out.2.2 j hj (by omega), ?_, e, H0.out.2.2.2.2.1⟩
            rw [e]; exact HI.out.2.1.size
          clear HI
          have HKW : Hid (∀ W, Below wr.heap.size wr W → KsAt W a i c la ∧ KsAt W b k d lb ∧ OwnK W w1.heap.size ax (i + k) cx (joinK la lb lb.length) ∧ OwnK W w5.heap.size al q cl (lowK s la) ∧ Below w.heap.size w W ∧ w.heap.size ≤ W.heap.size) := fun W hW => by
            have h1 := HJ.out.1.trans (hW.mono HJ.out.1.size)
            have h2 := H7.out.2.2.1.trans (h1.mono H7.out.2.2.1.size)
            exact ⟨H7.out.2.2.2.2.1.below h1, H7.out.2.2.2.2.2.below h1, HJ.out.2.1.below hW, H7.out.1.below h1, h2, h2.size⟩
          have HBN : Hid ((a = none → c = 0) ∧ (b = none → d = 0) ∧ (ax = none → cx = 0) ∧ (al = none → cl = 0)) := ⟨H0.out.2.1, H0.out.2.2.2.1, HJ.out.2.1.spot.1, H7.out.1.spot.1⟩
          have HLL : Hid ((joinK la lb lb.length).length = i + k ∧ lb.length = k ∧ la.length = i ∧ (∀ j (hj : j < lb.length), ∀ y ∈ joinK la lb j, y.1 ≠ lb[j].1)) := ⟨HJ.out.2.2.2.1, HJ.out.2.2.2.2.1, HJ.out.2.2.2.2.2, HJ.out.2.2.1⟩
          clear HJ H7 H5 H0 H1
          obtain ⟨Vx, eVx⟩ : ∃ V, V = wr.alloc (.cells #[.slice a i c, .slice b k d] TRow) := ⟨_, rfl⟩
          have HVx : Hid (Below wr.heap.size wr Vx ∧ Box Vx wr.heap.size TRow #[.slice a i c, .slice b k d]) := by
            rw [eVx]
            exact ⟨(Below.refl _ _).alloc (Nat.le_refl _) _, Box.new _ _ _⟩
          have hnewx := F.new _ 2 2 [la, lb] s Vx (ls_two (HKW.out _ HVx.out.1).1 HBN.out.1 (HKW.out _ HVx.out.1).2.1 HBN.out.2.1 HVx.out.2) (few_two (by rw [HLL.out.2.2.1]; omega) (by rw [HLL.out.2.1]; omega) HWF.out.1 HWF.out.2) hs
          go_wp2_with fail
          rw [← eVx]
          refine hnewx.mono ?_
          rintro _ wx ⟨hbx, hcasex⟩
          clear hnewx eVx
          have HBX : Hid (Below wr.heap.size wr wx) := HVx.out.1.trans (hbx.mono HVx.out.1.size)
          rcases hcasex with ⟨hrx, px, Rx, rfl, hdx, hRx⟩ | ⟨hnox, rfl⟩
          · have SX : Hid (VwS D Vx Vx.heap.size wx Rx px (seenL s (allL [la, lb])) none (fun _ => False)) := VwS.made hdx hbx hbx.size hRx
            have HRK : Hid (RiseK la ∧ RiseK lb) := ⟨hrx la (by simp), hrx lb (by simp)⟩
            clear hdx hbx hRx hrx
            have hjoin := all_join HRK.out.1 HRK.out.2 HLL.out.2.2.2
            rw [hjoin.2] at SX
            have HRJ : Hid (RiseK (joinK la lb lb.length)) := hjoin.1
            clear hjoin
            obtain ⟨Vy, eVy⟩ : ∃ V, V = wx.alloc (.cells #[.slice ax (i + k) cx] TRow) := ⟨_, rfl⟩
            have HVy : Hid (Below wx.heap.size wx Vy ∧ Box Vy wx.heap.size TRow #[.slice ax (i + k) cx]) := by
              rw [eVy]
              exact ⟨(Below.refl _ _).alloc (Nat.le_refl _) _, Box.new _ _ _⟩
            have hnewy := F.new _ 1 1 [joinK la lb lb.length] s Vy (ls_one (q := 0) (HKW.out _ (HBX.out.trans (HVy.out.1.mono HBX.out.size))).2.2.1.ks HBN.out.2.2.1 HVy.out.2) (few_one (by rw [HLL.out.1]; omega) (wf_join HWF.out.1 HWF.out.2)) hs
            go_wp2_with fail
            rw [← eVy]
            refine hnewy.mono ?_
            rintro _ wy ⟨hby, hcasey⟩
            clear hnewy eVy
            rcases hcasey with ⟨_, py, Ry, rfl, hdy, hRy⟩ | ⟨hnoy, _⟩
            case inr => exact absurd (riseL_one HRJ.out) hnoy
            rw [all_single HRJ.out] at hdy
            have HIR : Hid ((seenL s (joinK la lb lb.length)).Pairwise fun a b => uc a.1 b.1 < 0) := rise_seen (rise_sortU HRJ.out)
            have HIL : Hid ((seenL s (joinK la lb lb.length)).length ≤ i + k) := Nat.le_trans (seen_le _ _) (by rw [HLL.out.1]; exact Nat.le_refl _)
            generalize seenL s (joinK la lb lb.length) = I at SX hdy HIR HIL
            have hbxy : Below wx.heap.size wx wy := HVy.out.1.trans (hby.mono HVy.out.1.size)
            have hRy2 : ∀ q, Ry q → wx.heap.size ≤ q := fun q hq => Nat.le_trans HVy.out.1.size (hRy q hq)
            have SP : Hid (VwS D Vx Vx.heap.size wy Rx px I none Ry ∧ D wy Ry py I none ∧ ∀ q, Ry q → Vx.heap.size ≤ q) := by
              obtain ⟨g1, g2⟩ := pair17 F SX.out hbxy hdy hRy2
              exact ⟨g1, hdy, g2⟩
            have HBY : Hid (Below wr.heap.size wr wy) := HBX.out.trans (hbxy.mono HBX.out.size)
            clear hdy hby hRy hbxy hRy2 SX
            go_wp2_with fail
            refine (all17 F SP.out.1 HIR.out (i + k) HIL.out (by omega)).mono ?_
            rintro _ wl ⟨a8, c8, R8, rfl, hal⟩
            have SY : Hid (VwS D Vx Vx.heap.size wl Ry py I none (fun q => blkOf a8 = some q) ∧ OwnI wl wy.heap.size a8 I.length c8 I) := by
              refine ⟨other17 F hal SP.out.2.1 SP.out.2.2, ?_⟩
              have := hal.own
              rw [List.take_length] at this
              exact this
            clear hal SP
            go_wp2_with fail
            refine (all17 F SY.out.1 HIR.out (i + k) HIL.out (by omega)).mono ?_
            rintro _ wm ⟨a9, c9, R9, rfl, hal⟩
            have SM : Hid (OwnI wm wy.heap.size a8 I.length c8 I ∧ OwnI wm wl.heap.size a9 I.length c9 I ∧ Below Vx.heap.size Vx wm) := by
              refine ⟨SY.out.2.kept hal.low, ?_, hal.vw.low⟩
              have := hal.own
              rw [List.take_length] at this
              exact this
            clear hal SY
            have hsame := vsame_any SM.out.1 SM.out.2.1 (by have := HIL.out; omega)
            rw [decide_eq_true (show I = I from rfl)] at hsame
            go_wp2_with fail
            refine hsame.mono ?_
            rintro _ wn ⟨rfl, hbn⟩
            have HBQ : Hid (Below wr.heap.size wr wn) := HVx.out.1.trans ((SM.out.2.2.trans (hbn.mono SM.out.2.2.size)).mono HVx.out.1.size)
            clear hbn hsame SM HIR HIL HBY HBX HVx HVy
            obtain ⟨Vz, eVz⟩ : ∃ V, V = wn.alloc (.cells #[.slice a i c] TRow) := ⟨_, rfl⟩
            have HVz : Hid (Below wn.heap.size wn Vz ∧ Box Vz wn.heap.size TRow #[.slice a i c]) := by
              rw [eVz]
              exact ⟨(Below.refl _ _).alloc (Nat.le_refl _) _, Box.new _ _ _⟩
            have hnewz := F.new _ 1 1 [la] s Vz (ls_one (q := 0) (HKW.out _ (HBQ.out.trans (HVz.out.1.mono HBQ.out.size))).1 HBN.out.1 HVz.out.2) (few_one (by rw [HLL.out.2.2.1]; omega) HWF.out.1) hs
            go_wp2_with fail
            rw [← eVz]
            refine hnewz.mono ?_
            rintro _ wz ⟨hbz, hcasez⟩
            clear hnewz eVz
            rcases hcasez with ⟨_, pz, Rz, rfl, hdz, hRz⟩ | ⟨hnoz, _⟩
            case inr => exact absurd (riseL_one HRK.out.1) hnoz
            rw [all_single HRK.out.1] at hdz
            have SZ : Hid (VwS D Vz Vz.heap.size wz Rz pz (seenL s la) none (fun _ => False)) := VwS.made hdz hbz hbz.size hRz
            have HBZ : Hid (Below wr.heap.size wr wz) := HBQ.out.trans ((HVz.out.1.trans (hbz.mono HVz.out.1.size)).mono HBQ.out.size)
            clear hdz hbz hRz
            obtain ⟨Vu, eVu⟩ : ∃ V, V = wz.alloc (.cells #[.slice al q cl] TRow) := ⟨_, rfl⟩
            have HVu : Hid (Below wz.heap.size wz Vu ∧ Box Vu wz.heap.size TRow #[.slice al q cl]) := by
              rw [eVu]
              exact ⟨(Below.refl _ _).alloc (Nat.le_refl _) _, Box.new _ _ _⟩
            have hnewu := F.new _ 1 1 [lowK s la] s Vu (ls_one (q := 0) (HKW.out _ (HBZ.out.trans (HVu.out.1.mono HBZ.out.size))).2.2.2.1.ks HBN.out.2.2.2 HVu.out.2) (few_one (by have := lowK_len s la; have := HLL.out.2.2.1; omega) (wf_low s HWF.out.1)) hs
            go_wp2_with fail
            rw [← eVu]
            refine hnewu.mono ?_
            rintro _ wu ⟨hbu, hcaseu⟩
            clear hnewu eVu
            rcases hcaseu with ⟨_, pu, Ru, rfl, hdu, hRu⟩ | ⟨hnou, _⟩
            case inr => exact absurd (riseL_one (low_rise HRK.out.1)) hnou
            rw [all_single (low_rise HRK.out.1), seen_low HRK.out.1] at hdu
            have HIR : Hid ((seenL s la).Pairwise fun a b => uc a.1 b.1 < 0) := rise_seen (rise_sortU HRK.out.1)
            have HIL : Hid ((seenL s la).length ≤ i) := Nat.le_trans (seen_le _ _) (by rw [HLL.out.2.2.1]; exact Nat.le_refl _)
            generalize seenL s la = I2 at SZ hdu HIR HIL
            have hbzu : Below wz.heap.size wz wu := HVu.out.1.trans (hbu.mono HVu.out.1.size)
            have hRu2 : ∀ q, Ru q → wz.heap.size ≤ q := fun q hq => Nat.le_trans HVu.out.1.size (hRu q hq)
            have SP : Hid (VwS D Vz Vz.heap.size wu Rz pz I2 none Ru ∧ D wu Ru pu I2 none ∧ ∀ q, Ru q → Vz.heap.size ≤ q) := by
              obtain ⟨g1, g2⟩ := pair17 F SZ.out hbzu hdu hRu2
              exact ⟨g1, hdu, g2⟩
            have HBV : Hid (Below wr.heap.size wr Vz) := HBQ.out.trans (HVz.out.1.mono HBQ.out.size)
            clear hdu hbu hRu hbzu hRu2 SZ HVz HVu HBQ HBZ
            go_wp2_with fail
            refine (all17 F SP.out.1 HIR.out i HIL.out (by omega)).mono ?_
            rintro _ wo ⟨a10, c10, R10, rfl, hal⟩
            have SY : Hid (VwS D Vz Vz.heap.size wo Ru pu I2 none (fun q => blkOf a10 = some q) ∧ OwnI wo wu.heap.size a10 I2.length c10 I2) := by
              refine ⟨other17 F hal SP.out.2.1 SP.out.2.2, ?_⟩
              have := hal.own
              rw [List.take_length] at this
              exact this
            clear hal SP
            go_wp2_with fail
            refine (all17 F SY.out.1 HIR.out i HIL.out (by omega)).mono ?_
            rintro _ wp ⟨a11, c11, R11, rfl, hal⟩
            have SM : Hid (OwnI wp wu.heap.size a10 I2.length c10 I2 ∧ OwnI wp wo.heap.size a11 I2.length c11 I2 ∧ Below wr.heap.size wr wp) := by
              refine ⟨SY.out.2.kept hal.low, ?_, HBV.out.trans (hal.vw.low.mono HBV.out.size)⟩
              have := hal.own
              rw [List.take_length] at this
              exact this
            clear hal SY
            have hsame2 := vsame_any SM.out.1 SM.out.2.1 (by have := HIL.out; omega)
            rw [decide_eq_true (show I2 = I2 from rfl)] at hsame2
            go_wp2_with fail
            refine hsame2.mono ?_
            rintro _ ws ⟨rfl, hbs⟩
            have HBF : Hid (Below w.heap.size w ws) := (HKW.out _ (SM.out.2.2.trans (hbs.mono SM.out.2.2.size))).2.2.2.2.1
            clear hbs hsame2 SM
            go_wp2
            go_ret
            exact ⟨ret1 rfl, HBF.out⟩
          · clear hbx hnox
            obtain ⟨Vy, eVy⟩ : ∃ V, V = wx.alloc (.cells #[.slice ax (i + k) cx] TRow) := ⟨_, rfl⟩
            have HVy : Hid (Below wx.heap.size wx Vy ∧ Box Vy wx.heap.size TRow #[.slice ax (i + k) cx]) := by
              rw [eVy]
              exact ⟨(Below.refl _ _).alloc (Nat.le_refl _) _, Box.new _ _ _⟩
            have hnewy := F.new _ 1 1 [joinK la lb lb.length] s Vy (ls_one (q := 0) (HKW.out _ (HBX.out.trans (HVy.out.1.mono HBX.out.size))).2.2.1.ks HBN.out.2.2.1 HVy.out.2) (few_one (by rw [HLL.out.1]; omega) (wf_join HWF.out.1 HWF.out.2)) hs
            go_wp2_with fail
            rw [← eVy]
            refine hnewy.mono ?_
            rintro _ wy ⟨hby, hcasey⟩
            clear hnewy eVy
            have HBY : Hid (Below w.heap.size w wy) := (HKW.out _ (HBX.out.trans ((HVy.out.1.trans (hby.mono HVy.out.1.size)).mono HBX.out.size))).2.2.2.2.1
            clear hby
            rcases hcasey with ⟨_, py, Ry, rfl, hdy, hRy⟩ | ⟨hnoy, rfl⟩
            · clear hdy hRy
              go_wp2
              go_ret
              exact ⟨ret1 rfl, HBY.out⟩
            · clear hnoy
              go_wp2
              go_ret
              exact ⟨ret1 rfl, HBY.out⟩
end Go.Proofs.Ytjoamhcehpjepaa
