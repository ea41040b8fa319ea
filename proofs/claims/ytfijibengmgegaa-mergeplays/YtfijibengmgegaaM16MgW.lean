/- Merge's New: lists that rise are copied. -/
import Derived.Test.YtfijibengmgegaaM16MgF
namespace Go.Proofs.Ytfijibengmgegaa
open Go.RowKit
set_option linter.unusedVariables false
set_option linter.unusedSimpArgs false
abbrev TSK : TypeId := 26
theorem wpList_appK2 (w : World) {ops : Array Oper} {rest : List Oper} {o : Oper} {a : Act} {Q : Exit → Act → World → Prop} (hgd : o.guard = none) (s x : Operand)
    (ho : o.op = .call { callee := .builtin .append, args := #[s, x], argTypes := #[26, 26] })
    (B : Nat) (a1 : Option Addr) (n1 c1 : Nat) (l : List KV) (hs : a.eval s = .slice a1 n1 c1) (hown : OwnK w B a1 n1 c1 l)
    (a2 : Option Addr) (n2 c2 : Nat) (m : List KV) (hx : a.eval x = .slice a2 n2 c2) (hsrc : KsAt w a2 n2 c2 m) (hbare : a2 = none → c2 = 0)
    (hb : n1 + n2 ≤ 2932031007317) (hB : B ≤ w.heap.size)
    (h : ∀ a' c' w', OwnK w' B a' (n1 + n2) c' (l ++ m) → Below B w w' → w.grownBy w' (blkOf a1) → wpList Try.prog ops Q rest (a.put o.dst (.slice a' (n1 + n2) c')) w') :
    wpList Try.prog ops Q (o :: rest) a w := by
  have hm := hsrc.size
  have hl := hown.size
  refine wpList_appV w hgd s x _ TKV ho Try.underlying26 _ 4 48 infoKV rfl (by decide) B a1 n1 c1 _ hs hown.row a2 n2 c2 (cellsKV m) hx (fun e => ?_) (by rw [cellsKV_len, hm]) (fun ad e j u hu => ?_) (cellsKV_one m) (by unfold maxLen; omega) (by omega) hB (fun a' c' w' hr hb hg => h a' c' w' ⟨by rw [List.length_append]; omega, by rw [cellsKV_append]; exact hr⟩ hb hg)
  · have := hbare e
    have := hsrc.le
    omega
  · have hj : j < (cellsKV m).length := (List.getElem?_eq_some_iff.1 hu).1
    rw [cellsKV_len] at hj
    obtain ⟨b, off, he, hc⟩ := hsrc.here (by omega)
    rw [e] at he
    obtain rfl := Option.some.inj he
    rw [Addr.add_lit, hc j (by omega)]
    exact hu
set_option maxRecDepth 100000 in
theorem eqnil_yes (W : World) : (binOp .eql TSK (.slice none 0 0) (.slice none 0 0)).run Try.prog W = .ok (.bool true) W := by kernel_rfl
set_option maxRecDepth 100000 in
theorem eqnil_no (ad : Addr) (n c : Nat) (W : World) : (binOp .eql TSK (.slice (some ad) n c) (.slice none 0 0)).run Try.prog W = .ok (.bool false) W := by kernel_rfl
set_option maxRecDepth 100000 in
set_option maxHeartbeats 2000000 in
theorem clone_any {w : World} {a : Option Addr} {n c : Nat} {l : List KV} (h : KsAt w a n c l) (hbare : a = none → c = 0) (hn : n ≤ 2932031007317) :
    Calls Try.prog 37 #[.slice a n c] w fun e w' => ∃ a' c', e = .returned (.slice a' n c') ∧ OwnK w' w.heap.size a' n c' l ∧ Below w.heap.size w w' := by
  have HK : Hid (KsAt w a n c l) := h
  have hs := h.size
  have hle := h.le
  clear h
  cases a with
  | none =>
    have hc := hbare rfl
    subst hc
    obtain rfl : n = 0 := by omega
    obtain rfl := List.eq_nil_of_length_eq_zero hs
    have HF : Hid (OwnK w w.heap.size none 0 0 []) := OwnK.nil w w.heap.size
    clear hle hbare
    have hnil := eqnil_yes
    go_enter Try.func37, Try.ntmps37
    go_wp2
    go_ret
    exact ⟨none, 0, rfl, HF.out, Below.refl _ _⟩
  | some ad =>
    have HO : Hid (OwnK (w.alloc (.cells #[] TKV)) w.heap.size (some ⟨w.heap.size, 0, none⟩) 0 0 [] ∧ Below w.heap.size w (w.alloc (.cells #[] TKV))) := ⟨⟨rfl, World.ownsRow_made w #[] 0 (Nat.le_refl _) (Nat.zero_le _) (by simp)⟩, (Below.refl _ _).alloc (Nat.le_refl _) _⟩
    clear hbare hle hs
    have hnil := eqnil_no ad n c
    go_enter Try.func37, Try.ntmps37
    go_wp2_with (first
      | (at_builtin; refine wpList_appK2 _ rfl _ _ rfl w.heap.size (some ⟨w.heap.size, 0, none⟩) 0 0 [] rfl HO.out.1 (some ad) n c l rfl (HK.out.below HO.out.2) (fun e => by cases e) (by omega) HO.out.2.size ?_
         intro a3 c3 w3 ho3 hb3 hg3
         have HF : Hid (OwnK w3 w.heap.size a3 n c3 l ∧ Below w.heap.size w w3) := ⟨by rw [Nat.zero_add, List.nil_append] at ho3; exact ho3, HO.out.2.trans hb3⟩
         rw [Nat.zero_add]
         clear ho3 hb3 hg3))
    go_ret
    exact ⟨a3, c3, rfl, HF.out.1, HF.out.2⟩
abbrev arrS (n : Nat) : Array Value := (List.replicate n (Value.slice none 0 0)).toArray
theorem infoSK : (Try.prog.info? TSK).map (fun i => (i.zero, i.size, i.bytes)) = some (some (.slice none 0 0), 1, 24) := by kernel_rfl
set_option maxRecDepth 100000 in
theorem made_all (n : Nat) (hn : n ≤ 1000000000) (w : World) : (Instr.makeSlice TAl (.int .i64 (n : Int)) (.int .i64 (n : Int))).run Try.prog w = .ok (.slice (some ⟨w.heap.size, 0, none⟩) n n) (w.alloc (.cells (arrS n) TSK)) := by
  obtain ⟨i, hi, hzz⟩ := Option.map_eq_some_iff.1 infoSK
  simp only [Prod.mk.injEq] at hzz
  obtain ⟨hz, hs, hb⟩ := hzz
  have hr := run_make (P := Try.prog) w TAl TSK i _ (by kernel_rfl : Try.prog.underlying TAl = some (.slice TSK)) hi hz .i64 .i64 n n (by omega) (Int.le_refl _) (by rw [hb]; omega) (by omega)
  simp only [Int.toNat_natCast, hs] at hr
  have e : madeCells (Value.slice none 0 0).cells (n * 1) = arrS n := by
    apply Array.ext_getElem?
    intro k
    by_cases hk : k < n
    · simp [madeCells, Value.cells, arrS, hk, Nat.mod_one]
    · rw [Array.getElem?_eq_none (by simp [madeCells]; omega), Array.getElem?_eq_none (by simp [arrS]; omega)]
  rw [e] at hr
  exact hr
/-- The first lists are copied. -/
structure Cpd (w W : World) (L : List (List KV)) (n i : Nat) (arr : Array Value) : Prop where
  base : Below w.heap.size w W
  box : Box W w.heap.size TSK arr
  size : arr.size = n
  rows : ∀ j, j < i → ∃ aj cj, arr[j]? = some (.slice aj (rowL L j).length cj) ∧ OwnK W w.heap.size aj (rowL L j).length cj (rowL L j)
theorem Cpd.below {w W W' : World} {L : List (List KV)} {n i : Nat} {arr : Array Value} (h : Cpd w W L n i arr) (hb : Below W.heap.size W W') : Cpd w W' L n i arr := ⟨h.base.trans (hb.mono h.base.size), h.box.kept (hb.block _ h.box.lt), h.size, fun j hj => by
  obtain ⟨aj, cj, h1, h2⟩ := h.rows j hj
  exact ⟨aj, cj, h1, h2.below hb⟩⟩
theorem Cpd.more {w W : World} {L : List (List KV)} {n i : Nat} {arr : Array Value} (h : Cpd w W L n i arr) (hi : i < n) {a : Option Addr} {c : Nat} (ho : OwnK W w.heap.size a (rowL L i).length c (rowL L i)) : Cpd w (W.setCell ⟨w.heap.size, i, none⟩ (.slice a (rowL L i).length c)) L n (i + 1) (arr.setIfInBounds i (.slice a (rowL L i).length c)) := by
  have keep : ∀ {aj : Option Addr} {m cj : Nat} {l : List KV}, OwnK W w.heap.size aj m cj l → OwnK (W.setCell ⟨w.heap.size, i, none⟩ (.slice a (rowL L i).length c)) w.heap.size aj m cj l := fun {aj m cj l} hk => hk.kept fun k e => Below.heap_setCell _ _ _ _ (fun e2 => by
    have h1 := hk.tag e
    rw [show k = w.heap.size from e2, h.box.tag] at h1
    exact absurd (Option.some.inj h1) (by decide))
  refine ⟨h.base.setCell (p := ⟨w.heap.size, i, none⟩) (Nat.le_refl _) _, h.box.set i _, by simpa using h.size, fun j hj => ?_⟩
  by_cases e : j = i
  · subst e
    exact ⟨a, c, by simp [h.size, hi], keep ho⟩
  · obtain ⟨aj, cj, h1, h2⟩ := h.rows j (by omega)
    exact ⟨aj, cj, by rw [Array.getElem?_setIfInBounds, if_neg (Ne.symm e)]; exact h1, keep h2⟩
theorem Cpd.lists {w W : World} {L : List (List KV)} {n : Nat} {arr : Array Value} (h : Cpd w W L n n arr) (hL : L.length = n) (hn : n ≤ 1000000000) : LsR W (fun k => w.heap.size ≤ k ∧ k < W.heap.size) (some ⟨w.heap.size, 0, none⟩) n n L := fun W' hW => by
  refine ⟨hL, Nat.le_refl _, by unfold maxLen; omega, fun e => (by cases e), fun hp => ⟨w.heap.size, 0, rfl, fun i hi => ?_⟩⟩
  obtain ⟨aj, cj, h1, h2⟩ := h.rows i hi
  refine ⟨aj, cj, ?_, (h2.kept fun k e => hW k ⟨h2.ge e, (h2.row.lt k (by rw [own_blk]; exact e)).2⟩).ks, h2.spot.1⟩
  rw [Nat.zero_add, (h.box.kept (hW _ ⟨Nat.le_refl _, h.box.lt⟩)).cell]
  exact h1
def CopP (w : World) (n : Nat) (L : List (List KV)) (e : Ending) (w' : World) : Prop := e = .returned (.slice (some ⟨w.heap.size, 0, none⟩) n n) ∧ Below w.heap.size w w' ∧ LsR w' (fun k => w.heap.size ≤ k ∧ k < w'.heap.size) (some ⟨w.heap.size, 0, none⟩) n n L
set_option maxRecDepth 100000 in
set_option maxHeartbeats 2000000 in
theorem copied_any {w : World} {a : Option Addr} {n c : Nat} {L : List (List KV)} (h : LsAt w a n c L) (hf : FewL L) :
    Calls Try.prog 24 #[.slice a n c] w fun e w' => CopP w n L e w' := by
  have HS : Hid (L.length = n ∧ n ≤ 1000 ∧ ∀ i, (rowL L i).length ≤ 2932031007317) := ⟨h.size, by have := hf.1; have := h.size; omega, fun i => by
    have h1 := hf.2
    rw [show (allL L).length = (allP L).length by simp [allL], all_len] at h1
    show lenL L i ≤ _
    by_cases hi : i < L.length
    · have := sum_ge (lenL L) i L.length hi
      omega
    · rw [lenL_out (by omega)]; omega⟩
  have HK : Hid (LsAt w a n c L) := h
  have hn := HS.out.2.1
  have hmk := made_all n (by omega) w
  have HI0 : Hid (Cpd w (w.alloc (.cells (arrS n) TSK)) L n 0 (arrS n)) := ⟨(Below.refl _ _).alloc (Nat.le_refl _) _, Box.new _ _ _, by simp [arrS], fun j hj => absurd hj (Nat.not_lt_zero _)⟩
  clear h hf
  go_enter Try.func24, Try.ntmps24
  go_wp2_with fail
  clear hmk
  go_loopw [11] (fun s11 wr => ∃ (i : Nat), i ≤ n ∧ s11 = .int .i64 (i : Int) ∧ Hid (∃ arr, Cpd w wr L n i arr)) (fun s11 _ => n - (intOf s11).toNat)
  case atStart => exact ⟨0, Nat.zero_le _, rfl, _, HI0.out⟩
  case round =>
    clear HI0
    obtain ⟨i, hin, rfl, HI⟩ := hrel
    by_cases hi : i < n
    · have hiI : (i : Int) < (n : Int) := by omega
      obtain ⟨arr, hcp⟩ := HI.out
      have HC : Hid (Cpd w wr L n i arr) := hcp
      obtain ⟨b, off, hx, _, hc⟩ := HK.out.spots (by omega)
      obtain ⟨ai, ci, h1, h2, h3⟩ := hc i hi
      have hx0 := hx i hi
      have hc0 := h1 wr HC.out.base
      have HCL : Hid (Calls Try.prog 37 #[.slice ai (rowL L i).length ci] wr fun e w' => ∃ a' c', e = .returned (.slice a' (rowL L i).length c') ∧ OwnK w' wr.heap.size a' (rowL L i).length c' (rowL L i) ∧ Below wr.heap.size wr w') := clone_any (h2.below HC.out.base) h3 (HS.out.2.2 i)
      have HM : Hid (∀ (W : World) (a : Option Addr) (c : Nat), Cpd w W L n i arr → OwnK W w.heap.size a (rowL L i).length c (rowL L i) → Cpd w (W.setCell ⟨w.heap.size, i, none⟩ (.slice a (rowL L i).length c)) L n (i + 1) (arr.setIfInBounds i (.slice a (rowL L i).length c))) := fun W a c hC ho => hC.more hi ho
      clear hx h1 h2 h3 hc hcp HI
      generalize off + i = o0 at hx0 hc0
      generalize rowL L i = ri at hc0 HCL HM
      have hxa := fun W => idxA W (b := w.heap.size) (off := 0) (c := n) hi
      simp only [Nat.zero_add] at hxa
      go_wp2_with fail
      refine HCL.out.mono ?_
      rintro _ w2 ⟨a2, c2, rfl, ho2, hb2⟩
      have HC2 : Hid (Cpd w w2 L n i arr ∧ OwnK w2 w.heap.size a2 ri.length c2 ri) := ⟨HC.out.below hb2, ho2.less HC.out.base.size⟩
      clear ho2 hb2 HC HCL
      have hq : ∃ u, w2.cell? ⟨w.heap.size, i, none⟩ = some u := ⟨_, by rw [HC2.out.1.box.cell]; exact Array.getElem?_eq_getElem (by rw [HC2.out.1.size]; exact hi)⟩
      obtain ⟨u, hu⟩ := hq
      have hus := HC2.out.1.box.soft i
      have HC3 : Hid (Cpd w (w2.setCell ⟨w.heap.size, i, none⟩ (.slice a2 ri.length c2)) L n (i + 1) (arr.setIfInBounds i (.slice a2 ri.length c2))) := HM.out _ _ _ HC2.out.1 HC2.out.2
      go_wp2
      go_roundw
      case rel => exact ⟨i + 1, by omega, by go_num, _, HC3.out⟩
      case measure => simp only [intOf]; omega
    · obtain rfl : i = n := by omega
      obtain ⟨arr, hcp⟩ := HI.out
      have HF : Hid (CopP w i L (.returned (.slice (some ⟨w.heap.size, 0, none⟩) i i)) wr) := ⟨rfl, hcp.base, hcp.lists HS.out.1 (by omega)⟩
      clear hcp HI
      go_wp2
      go_ret
      exact HF.out
end Go.Proofs.Ytfijibengmgegaa
