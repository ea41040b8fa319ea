/- Rows of slices of the call's own; parts from the start; the statements' few. -/
import Derived.Test.YtfijibengmgegaaM16Awake
namespace Go.Proofs.Ytfijibengmgegaa
open Go.RowKit
set_option linter.unusedVariables false
set_option linter.unusedSimpArgs false
/-- A row of rows of entries, of the call's own: its slices. -/
structure OwnSl (W : World) (B : Nat) (a : Option Addr) (n c : Nat) (vs : List Value) : Prop where
  size : vs.length = n
  row : W.ownsRow B TRow 1 (.slice a n c) n vs
theorem infoRow : (Try.prog.info? TRow).map (fun i => (i.zero, i.size, i.bytes)) = some (some (.slice none 0 0), 1, 24) := by kernel_rfl
section
variable {w w' : World} {B : Nat} {a : Option Addr} {n c : Nat} {vs : List Value}
theorem OwnSl.nil (w : World) (B : Nat) : OwnSl w B none 0 0 [] := ⟨rfl, World.ownsRow_nil _ _ _ 1⟩
theorem OwnSl.tag (h : OwnSl w B a n c vs) {k : Nat} (hk : blkOf a = some k) : tag w k = some TRow := row_tag h.row (by rw [own_blk]; exact hk)
theorem OwnSl.ge (h : OwnSl w B a n c vs) {k : Nat} (hk : blkOf a = some k) : B ≤ k := (h.row.lt k (by rw [own_blk]; exact hk)).1
theorem OwnSl.kept (h : OwnSl w B a n c vs) (hk : ∀ k, blkOf a = some k → w'.heap[k]? = w.heap[k]?) : OwnSl w' B a n c vs := ⟨h.size, row_same h.row (fun b e => hk b (by rw [← own_blk a n c]; exact e))⟩
theorem OwnSl.below (h : OwnSl w B a n c vs) (hb : Below w.heap.size w w') : OwnSl w' B a n c vs := h.kept fun k hk => hb.block k (tag_lt (h.tag hk))
theorem OwnSl.alloc (h : OwnSl w B a n c vs) (o : Obj) : OwnSl (w.alloc o) B a n c vs := ⟨h.size, h.row.alloc o⟩
theorem OwnSl.cells (h : OwnSl w B a n c vs) : n ≤ c ∧ c ≤ maxLen ∧ (a = none → c = 0) ∧ (0 < n → ∃ g, a = some ⟨g, 0, none⟩ ∧ ∀ j, j < n → w.cell? ⟨g, j, none⟩ = vs[j]?) := by
  obtain ⟨h1, h2, h3, h4⟩ := row_addr h.row
  refine ⟨h1, h2, h3, fun hp => ?_⟩
  obtain ⟨g, rfl⟩ := h4 hp
  exact ⟨g, rfl, fun j hj => by rw [h.row.cellAt j (by omega)]⟩
end
theorem wpList_pushR (W : World) {ops : Array Oper} {rest : List Oper} {o : Oper} {a : Act} {Q : Exit → Act → World → Prop} (hgd : o.guard = none) (s x : Operand)
    (ho : o.op = .call { callee := .builtin .append, args := #[s, x], argTypes := #[23, 23] })
    (B : Nat) (a1 : Option Addr) (n1 c1 : Nat) (vs : List Value) (hs : a.eval s = .slice a1 n1 c1) (hown : OwnSl W B a1 n1 c1 vs) (v : Value) (hv : v.oneCell' = true) (g : Nat) (hg : g = W.heap.size)
    (hx : a.eval x = .slice (some ⟨g, 0, none⟩) 1 1) (hn : n1 ≤ 1000000) (hB : B ≤ W.heap.size)
    (h : ∀ a' c' w', OwnSl w' B a' (n1 + 1) c' (vs ++ [v]) → Below B W w' → (W.alloc (.cells #[v] TRow)).grownBy w' (blkOf a1) → wpList Try.prog ops Q rest (a.put o.dst (.slice a' (n1 + 1) c')) w') :
    wpList Try.prog ops Q (o :: rest) a (W.alloc (.cells #[v] TRow)) := by
  subst hg
  refine wpList_appV (W.alloc (.cells #[v] TRow)) hgd s x _ TRow ho Try.underlying23 _ 1 24 infoRow rfl (by decide) B a1 n1 c1 _ hs (hown.alloc _).row (some ⟨W.heap.size, 0, none⟩) 1 1 [v] hx (fun e => by cases e) rfl (fun ad e j u hu => ?_) (fun u hu => by rw [List.mem_singleton.1 hu]; exact hv) (by unfold maxLen; omega) (by omega) (by simp; omega) ?_
  · cases e
    rw [Addr.add_lit, Nat.zero_add, (Box.new W TRow #[v]).cell, ← Array.getElem?_toList]
    exact hu
  · intro a' c' w' hr hb hg
    exact h a' c' w' ⟨by rw [List.length_append, hown.size]; rfl, hr⟩ (((Below.refl _ _).alloc hB _).trans hb) hg
/-- A part from the start. -/
theorem ls_to {w : World} {a : Option Addr} {n c : Nat} {L : List (List KV)} (h : LsAt w a n c L) {k : Nat} (hk : k ≤ n) (hp : 0 < k) :
    (∀ W : World, (Instr.slice 23 (.slice a n c) none (some (.int .i64 (k : Int))) none).run Try.prog W = .ok (.slice a k c) W) ∧ LsAt w a k c (L.take k) := by
  have hle := h.le
  obtain ⟨b, off, rfl, hc⟩ := h.here (by omega)
  have hs := h.size
  refine ⟨fun W => ?_, by simp; omega, by omega, h.max, fun e => (by cases e), fun _ => ⟨b, off, rfl, fun i hi => ?_⟩⟩
  · have h1 : k ≤ c := by omega
    have h3 : ¬ c = 0 := by omega
    simp [Instr.slice, run_underlying Try.underlying23, go_sem, h1, h3]
  · have e : rowL (L.take k) i = rowL L i := by simp [rowL, List.getD, List.getElem?_take, hi]
    rw [e]
    exact hc i (by omega)
theorem ks_upto16 {w : World} {a : Option Addr} {n c : Nat} {l : List KV} (h : KsAt w a n c l) {k : Nat} (hk : k ≤ n) (hp : 0 < k) :
    (∀ W : World, (Instr.slice 26 (.slice a n c) none (some (.int .i64 (k : Int))) none).run Try.prog W = .ok (.slice a k c) W) ∧ KsAt w a k c (l.take k) := by
  have hle := h.le
  obtain ⟨b, off, rfl, hc⟩ := h.here (by omega)
  have hs := h.size
  refine ⟨fun W => ?_, h.upTo hk⟩
  have h1 : k ≤ c := by omega
  have h3 : ¬ c = 0 := by omega
  simp [Instr.slice, run_underlying Try.underlying26, go_sem, h1, h3]
def fewL (L : List (List KV)) : List (List KV) := (L.take 40).map fun l => l.take 200
/-- A slice that reads as a row. -/
def SlR (w : World) (v : Value) (l : List KV) : Prop := ∃ aj cj, v = .slice aj l.length cj ∧ KsAt w aj l.length cj l ∧ (aj = none → cj = 0)
theorem SlR.below {w w' : World} {v : Value} {l : List KV} (h : SlR w v l) (hb : Below w.heap.size w w') : SlR w' v l := by
  obtain ⟨aj, cj, h1, h2, h3⟩ := h
  exact ⟨aj, cj, h1, h2.below hb, h3⟩
theorem OwnSl.ls {W : World} {B : Nat} {a : Option Addr} {n c : Nat} {vs : List Value} {L : List (List KV)} (h : OwnSl W B a n c vs) (hL : L.length = n) (hr : ∀ j, j < n → ∃ v, vs[j]? = some v ∧ SlR W v (rowL L j)) : LsAt W a n c L := by
  obtain ⟨h1, h2, h3, h4⟩ := h.cells
  refine ⟨hL, h1, h2, h3, fun hp => ?_⟩
  obtain ⟨g, hg, hc⟩ := h4 hp
  refine ⟨g, 0, hg, fun i hi => ?_⟩
  obtain ⟨v, hv, aj, cj, rfl, hk⟩ := hr i hi
  exact ⟨aj, cj, by rw [Nat.zero_add, hc i hi, hv], hk⟩
theorem LsAt.row {w : World} {a : Option Addr} {n c : Nat} {L : List (List KV)} (h : LsAt w a n c L) {i : Nat} (hi : i < n) :
    ∃ (b o : Nat) (v : Value), (∀ W : World, (Instr.indexAt 23 (.slice a n c) (.int .i64 (i : Int))).run Try.prog W = .ok (.pointer (some ⟨b, o, none⟩)) W) ∧ SlR w v (rowL L i) ∧ ∀ W, Below w.heap.size w W → W.cell? ⟨b, o, none⟩ = some v := by
  obtain ⟨b, off, hx, _, hc⟩ := h.spots (by omega)
  obtain ⟨ai, ci, h1, h2, h3⟩ := hc i hi
  exact ⟨b, off + i, _, hx i hi, ⟨ai, ci, rfl, h2, h3⟩, h1⟩
theorem fewL_row {L : List (List KV)} {i : Nat} (hi : i < (L.take 40).length) : rowL (fewL L) i = (rowL (L.take 40) i).take 200 := by
  have hi2 : i < ((L.take 40).map fun l => l.take 200).length := by simpa using hi
  have h1 : ((L.take 40).map fun l => l.take 200)[i]? = some ((L.take 40)[i].take 200) := by rw [List.getElem?_map, List.getElem?_eq_getElem hi]; rfl
  have h2 : (L.take 40)[i]? = some (L.take 40)[i] := List.getElem?_eq_getElem hi
  unfold rowL fewL
  rw [List.getD_eq_getElem?_getD, List.getD_eq_getElem?_getD, h1, h2]
  rfl
set_option maxRecDepth 100000 in
set_option maxHeartbeats 4000000 in
theorem few_any (a : Option Addr) (n c : Nat) (L : List (List KV)) (w : World) (h : LsAt w a n c L) :
    Calls Try.prog 10 #[.slice a n c] w fun e w' => ∃ a' c', e = .returned (.slice a' (fewL L).length c') ∧ LsAt w' a' (fewL L).length c' (fewL L) ∧ Below w.heap.size w w' := by
  have HK : Hid (LsAt w a n c L) := h
  have hcm : c ≤ maxLen := h.max
  have hnc : n ≤ c := h.le
  have HTO : Hid (40 < n → (∀ W : World, (Instr.slice 23 (.slice a n c) none (some (.int .i64 40)) none).run Try.prog W = .ok (.slice a 40 c) W) ∧ LsAt w a 40 c (L.take 40)) := fun h40 => ls_to h (k := 40) (by omega) (by decide)
  clear h
  go_enter Try.func10, Try.ntmps10
  go_upto_if 8 with fail
  go_cut [0] (fun x wz => ∃ m : Nat, x = .slice a m c ∧ m ≤ 40 ∧ wz = w ∧ Hid (LsAt w a m c (L.take 40)))
  case first =>
    by_cases h40 : 40 < n
    · obtain ⟨hr, hl⟩ := HTO.out h40
      have HL : Hid (LsAt w a 40 c (L.take 40)) := hl
      have h40I : (40 : Int) < (n : Int) := by omega
      clear hl
      go_wp2_with fail
      go_meet
      exact ⟨40, rfl, Nat.le_refl _, rfl, HL⟩
    · have h40I : decide ((40 : Int) < (n : Int)) = false := by simp; omega
      go_wp2_with fail
      go_meet
      refine ⟨n, rfl, by omega, rfl, ?_⟩
      show LsAt w a n c (L.take 40)
      rw [List.take_of_length_le (by have := HK.out.size; omega)]
      exact HK.out
  case rest =>
    clear HTO HK
    obtain ⟨m, rfl, hm, hwe, HK⟩ := hcut
    rw [hwe]
    clear hwe
    have HS : Hid ((L.take 40).length = m) := HK.out.size
    go_wp2_with fail
    go_loopw [3, 4] (fun s3 s4 wr => ∃ (i : Nat) (a' : Option Addr) (c' : Nat), i ≤ m ∧ s4 = .int .i64 (i : Int) ∧ s3 = .slice a' i c' ∧ Hid (Below w.heap.size w wr ∧ ∃ vs, OwnSl wr w.heap.size a' i c' vs ∧ ∀ j, j < i → ∃ v, vs[j]? = some v ∧ SlR w v (rowL (fewL L) j))) (fun _ s4 _ => m - (intOf s4).toNat)
    case atStart => exact ⟨0, none, 0, Nat.zero_le _, rfl, rfl, Below.refl _ _, [], OwnSl.nil _ _, fun j hj => absurd hj (Nat.not_lt_zero _)⟩
    case round =>
      obtain ⟨i, a', c', him, rfl, rfl, HI⟩ := hrel
      by_cases hi : i < m
      · have hiI : (i : Int) < (m : Int) := by omega
        obtain ⟨b, o, v, hx, hv, hc⟩ := HK.out.row hi
        have HFR : Hid (rowL (fewL L) i = (rowL (L.take 40) i).take 200) := fewL_row (by rw [HS.out]; exact hi)
        generalize rowL (L.take 40) i = ri at hv HFR
        obtain ⟨aj, cj, rfl, hk, hb⟩ := hv
        have hcell := hc wr HI.out.1
        have HRI : Hid (KsAt w aj ri.length cj ri ∧ (aj = none → cj = 0)) := ⟨hk, hb⟩
        clear hc hk hb
        go_upto_if 23 with fail
        go_cut [5] (fun x wz => ∃ q : Nat, x = .slice aj q cj ∧ wz = wr ∧ Hid (SlR w (.slice aj q cj) (ri.take 200)))
        case first =>
          by_cases h200 : 200 < ri.length
          · obtain ⟨hr, hl⟩ := ks_upto16 HRI.out.1 (k := 200) (by omega) (by decide)
            have hI : (200 : Int) < (ri.length : Int) := by omega
            have hcj : (200 : Int) ≤ (cj : Int) := by have := HRI.out.1.le; omega
            have HL : Hid (SlR w (.slice aj 200 cj) (ri.take 200)) := ⟨aj, cj, by rw [List.length_take, Nat.min_eq_left (by omega)], by rw [List.length_take, Nat.min_eq_left (by omega)]; exact hl, HRI.out.2⟩
            clear hl
            go_wp2_with fail
            go_meet
            exact ⟨200, rfl, rfl, HL⟩
          · have hI : decide ((200 : Int) < (ri.length : Int)) = false := by simp; omega
            have HL : Hid (SlR w (.slice aj ri.length cj) (ri.take 200)) := by
              rw [List.take_of_length_le (by omega)]
              exact ⟨aj, cj, rfl, HRI.out⟩
            go_wp2_with fail
            go_meet
            exact ⟨ri.length, rfl, rfl, HL⟩
        case rest =>
          clear HRI hcell
          obtain ⟨q, rfl, hwe, HL⟩ := hcut
          rw [hwe]
          clear hwe
          obtain ⟨vs, ho, hvs⟩ := HI.out.2
          have HO : Hid (OwnSl wr w.heap.size a' i c' vs ∧ (∀ j, j < i → ∃ v, vs[j]? = some v ∧ SlR w v (rowL (fewL L) j)) ∧ Below w.heap.size w wr) := ⟨ho, hvs, HI.out.1⟩
          clear HI ho hvs
          go_wp2_with (first
            | (at_builtin; refine wpList_pushR wr rfl (.tmp 26) (.tmp 28) rfl w.heap.size a' i c' vs rfl HO.out.1 (.slice aj q cj) rfl wr.heap.size rfl rfl (by omega) HO.out.2.2.size ?_
               intro a3 c3 w3 ho3 hb3 hg3
               have H3 : Hid (Below w.heap.size w w3 ∧ OwnSl w3 w.heap.size a3 (i + 1) c3 (vs ++ [.slice aj q cj])) := ⟨HO.out.2.2.trans hb3, ho3⟩
               clear ho3 hb3 hg3))
          go_roundw
          case rel =>
            refine ⟨i + 1, a3, c3, by omega, by go_num, rfl, H3.out.1, _, H3.out.2, fun j hj => ?_⟩
            by_cases e : j = i
            · subst e
              refine ⟨_, ?_, by rw [HFR.out]; exact HL.out⟩
              rw [List.getElem?_append_right (by rw [HO.out.1.size]; exact Nat.le_refl _), HO.out.1.size, Nat.sub_self]
              rfl
            · obtain ⟨v, h1, h2⟩ := HO.out.2.1 j (by omega)
              exact ⟨v, by rw [List.getElem?_append_left (by rw [HO.out.1.size]; omega)]; exact h1, h2⟩
          case measure => simp only [intOf]; omega
      · obtain rfl : i = m := by omega
        have HE : Hid ((fewL L).length = i) := by unfold Hid fewL; rw [List.length_map]; exact HS.out
        go_wp2_with fail
        go_ret
        rw [HE.out]
        obtain ⟨hb, vs, ho, hvs⟩ := HI.out
        exact ⟨a', c', ret1 rfl, ho.ls HE.out (fun j hj => by
          obtain ⟨v, h1, h2⟩ := hvs j hj
          exact ⟨v, h1, h2.below hb⟩), hb⟩
theorem sum_mul {v : Nat → Nat} {q : Nat} : ∀ n, (∀ i, v i ≤ q) → sumV v n ≤ n * q
  | 0, _ => by simp [sumV]
  | n + 1, h => by
    have h1 := sum_mul n h
    have h2 := h n
    show sumV v n + v n ≤ (n + 1) * q
    rw [Nat.add_mul]
    omega
theorem fewL_len (L : List (List KV)) : (fewL L).length ≤ 40 := by unfold fewL; rw [List.length_map, List.length_take]; omega
theorem fewL_each (L : List (List KV)) (i : Nat) : lenL (fewL L) i ≤ 200 := by
  unfold lenL
  by_cases hi : i < (fewL L).length
  · have e : (fewL L).getD i [] = (fewL L)[i] := by simp [List.getD, hi]
    rw [e]
    simp only [fewL, List.getElem_map, List.length_take]
    omega
  · have e : (fewL L).getD i [] = [] := by simp [List.getD, List.getElem?_eq_none (Nat.not_lt.1 hi)]
    rw [e]
    simp
theorem fewL_all (L : List (List KV)) : (allL (fewL L)).length ≤ 8000 := by
  have h1 : (allL (fewL L)).length = (allP (fewL L)).length := by simp [allL]
  rw [h1, all_len]
  have h2 := sum_mul (fewL L).length (fewL_each L)
  have h3 := fewL_len L
  omega
theorem fewL_ok (L : List (List KV)) : FewL (fewL L) := ⟨by have := fewL_len L; omega, by have := fewL_all L; omega⟩
/-- Are two entries alike? -/
def eqKV (e f : KV) : Bool := e.1.user.data.toList == f.1.user.data.toList && e.1.seq == f.1.seq && e.1.kind == f.1.kind && e.2.data.toList == f.2.data.toList
theorem eqKV_iff {e f : KV} : eqKV e f = true ↔ e = f := by
  unfold eqKV
  obtain ⟨⟨u, q, k⟩, v⟩ := e
  obtain ⟨⟨u', q', k'⟩, v'⟩ := f
  simp only [Bool.and_eq_true, beq_iff_eq, Prod.mk.injEq, IK.mk.injEq, Array.toList_inj, and_assoc]
  constructor
  · rintro ⟨h1, h2, h3, h4⟩
    exact ⟨ByteArray.ext h1, h2, h3, ByteArray.ext h4⟩
  · rintro ⟨rfl, rfl, rfl, rfl⟩
    exact ⟨rfl, rfl, rfl, rfl⟩
set_option maxRecDepth 100000 in
theorem run_eql_kv (e f : KV) (W : World) : (binOp .eql TKV (kvV e) (kvV f)).run Try.prog W = .ok (.bool (eqKV e f)) W := by
  unfold eqKV kvV kvc
  simp [go_sem, Try.underlying35, Try.underlying33, Try.underlying9, Try.underlying31, Try.underlying3]
  have h2i : ((e.1.seq : Int) = (f.1.seq : Int)) ↔ e.1.seq = f.1.seq := Int.ofNat_inj
  have h2b : (e.1.seq == f.1.seq) = decide (e.1.seq = f.1.seq) := by by_cases h : e.1.seq = f.1.seq <;> simp [h]
  by_cases h1 : e.1.user.data = f.1.user.data <;> by_cases h2 : e.1.seq = f.1.seq <;> by_cases h3 : e.1.kind = f.1.kind <;> by_cases h4 : e.2.data = f.2.data <;> simp [ByteArray.toList_eq, h2i, h2b, h1, h2, h3, h4]
set_option maxRecDepth 100000 in
theorem run_neq_kv16 (e f : KV) (W : World) : (binOp .neq TKV (kvV e) (kvV f)).run Try.prog W = .ok (.bool (!eqKV e f)) W := by
  unfold eqKV kvV kvc
  simp [go_sem, Try.underlying35, Try.underlying33, Try.underlying9, Try.underlying31, Try.underlying3]
  have h2i : ((e.1.seq : Int) = (f.1.seq : Int)) ↔ e.1.seq = f.1.seq := Int.ofNat_inj
  have h2b : (e.1.seq == f.1.seq) = decide (e.1.seq = f.1.seq) := by by_cases h : e.1.seq = f.1.seq <;> simp [h]
  by_cases h1 : e.1.user.data = f.1.user.data <;> by_cases h2 : e.1.seq = f.1.seq <;> by_cases h3 : e.1.kind = f.1.kind <;> by_cases h4 : e.2.data = f.2.data <;> simp [ByteArray.toList_eq, h2i, h2b, h1, h2, h3, h4]
end Go.Proofs.Ytfijibengmgegaa
