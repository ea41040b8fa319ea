/- Merge's New: lists that rise are copied. -/
import Derived.Test.YtjoamhcehpjepabQa11
import Derived.Test.YtjoamhcehpjepabQa05
namespace Go.Proofs.Ytjoamhcehpjepab
open Go.RowKit
set_option linter.unusedVariables false
set_option linter.unusedSimpArgs false
abbrev TSK : TypeId := 30
theorem wpList_appK2 (w : World) {ops : Array Oper} {rest : List Oper} {o : Oper} {a : Act} {Q : Exit → Act → World → Prop} (hgd : o.guard = none) (s x : Operand)
    (ho : o.op = .call { callee := .builtin .append, args := #[s, x], argTypes := #[30, 30] })
    (B : Nat) (a1 : Option Addr) (n1 c1 : Nat) (l : List KV) (hs : a.eval s = .slice a1 n1 c1) (hown : OwnK w B a1 n1 c1 l)
    (a2 : Option Addr) (n2 c2 : Nat) (m : List KV) (hx : a.eval x = .slice a2 n2 c2) (hsrc : KsAt w a2 n2 c2 m) (hbare : a2 = none → c2 = 0)
    (hb : n1 + n2 ≤ 2932031007317) (hB : B ≤ w.heap.size)
    (h : ∀ a' c' w', OwnK w' B a' (n1 + n2) c' (l ++ m) → Below B w w' → w.grownBy w' (blkOf a1) → wpList Try.prog ops Q rest (a.put o.dst (.slice a' (n1 + n2) c')) w') :
    wpList Try.prog ops Q (o :: rest) a w := by
  have hm := hsrc.size
  have hl := hown.size
  refine wpList_appV w hgd s x _ TKV ho Try.underlying30 _ 4 48 infoKV rfl (by decide) B a1 n1 c1 _ hs hown.row a2 n2 c2 (cellsKV m) hx (fun e => ?_) (by rw [cellsKV_len, hm]) (fun ad e j u hu => ?_) (cellsKV_one m) (by unfold maxLen; omega) (by omega) hB (fun a' c' w' hr hb hg => h a' c' w' ⟨by rw [List.length_append]; omega, by rw [cellsKV_append]; exact hr⟩ hb hg)
  · have := hbare e
    have := hsrc.le
    omega
  · have hj : j < (cellsKV m).length := (List.getElem?_eq_some_iff.1 hu).1
    rw [cellsKV_len] at hj
    obtain ⟨b, off, he, hc⟩ := hsrc.here (by omega)
    rw [e] at he
    obtain rfl := Option.some.inj he
    rw [Addr.add_lit, hc j (by omega)]
    exact hu
set_option maxRecDepth 100000 in
theorem eqnil_yes (W : World) : (binOp .eql TSK (.slice none 0 0) (.slice none 0 0)).run Try.prog W = .ok (.bool true) W := by kernel_rfl
set_option maxRecDepth 100000 in
theorem eqnil_no (ad : Addr) (n c : Nat) (W : World) : (binOp .eql TSK (.slice (some ad) n c) (.slice none 0 0)).run Try.prog W = .ok (.bool false) W := by kernel_rfl
set_option maxRecDepth 100000 in
set_option maxHeartbeats 2000000 in
theorem clone_any {w : World} {a : Option Addr} {n c : Nat} {l : List KV} (h : KsAt w a n c l) (hbare : a = none → c = 0) (hn : n ≤ 2932031007317) :
    Calls Try.prog 32 #[.slice a n c] w fun e w' => ∃ a' c', e = .returned (.slice a' n c') ∧ OwnK w' w.heap.size a' n c' l ∧ Below w.heap.size w w' := by
  have HK : Hid (KsAt w a n c l) := h
  have hs := h.size
  have hle := h.le
  clear h
  cases a with
  | none =>
    have hc := hbare rfl
    subst hc
    obtain rfl : n = 0 := by omega
    obtain rfl := List.eq_nil_of_length_eq_zero hs
    have HF : Hid (OwnK w w.heap.size none 0 0 []) := OwnK.nil w w.heap.size
    clear hle hbare
    have hnil := eqnil_yes
    go_enter Try.func32, Try.ntmps32
    go_wp2
    go_ret
    exact ⟨none, 0, rfl, HF.out, Below.refl _ _⟩
  | some ad =>
    have HO : Hid (OwnK (w.alloc (.cells #[] TKV)) w.heap.size (some ⟨w.heap.size, 0, none⟩) 0 0 [] ∧ Below w.heap.size w (w.alloc (.cells #[] TKV))) := ⟨⟨rfl, World.ownsRow_made w #[] 0 (Nat.le_refl _) (Nat.zero_le _) (by simp)⟩, (Below.refl _ _).alloc (Nat.le_refl _) _⟩
    clear hbare hle hs
    have hnil := eqnil_no ad n c
    go_enter Try.func32, Try.ntmps32
    go_wp2_with (first
      | (at_builtin; refine wpList_appK2 _ rfl _ _ rfl w.heap.size (some ⟨w.heap.size, 0, none⟩) 0 0 [] rfl HO.out.1 (some ad) n c l rfl (HK.out.below HO.out.2) (fun e => by cases e) (by omega) HO.out.2.size ?_
         intro a3 c3 w3 ho3 hb3 hg3
         have HF : Hid (OwnK w3 w.heap.size a3 n c3 l ∧ Below w.heap.size w w3) := ⟨by rw [Nat.zero_add, List.nil_append] at ho3; exact ho3, HO.out.2.trans hb3⟩
         rw [Nat.zero_add]
         clear ho3 hb3 hg3))
    go_ret
    exact ⟨a3, c3, rfl, HF.out.1, HF.out.2⟩
abbrev arrS (n : Nat) : Array Value := (List.replicate n (Value.slice none 0 0)).toArray
theorem infoSK : (Try.prog.info? TSK).map (fun i => (i.zero, i.size, i.bytes)) = some (some (.slice none 0 0), 1, 24) := by kernel_rfl
set_option maxRecDepth 100000 in
theorem made_all (n : Nat) (hn : n ≤ 1000000000) (w : World) : (Instr.makeSlice TAl (.int .i64 (n : Int)) (.int .i64 (n : Int))).run Try.prog w = .ok (.slice (some ⟨w.heap.size, 0, none⟩) n n) (w.alloc (.cells (arrS n) TSK)) := by
  obtain ⟨i, hi, hzz⟩ := Option.map_eq_some_iff.1 infoSK
  simp only [Prod.mk.injEq] at hzz
  obtain ⟨hz, hs, hb⟩ := hzz
  have hr := run_make (P := Try.prog) w TAl TSK i _ (by kernel_rfl : Try.prog.underlying TAl = some (.slice TSK)) hi hz .i64 .i64 n n (by omega) (Int.le_refl _) (by rw [hb]; omega) (by omega)
  simp only [Int.toNat_natCast, hs] at hr
  have e : madeCells (Value.slice none 0 0).cells (n * 1) = arrS n := by
    apply Array.ext_getElem?
    intro k
    by_cases hk : k < n
    · simp [madeCells, Value.cells, arrS, hk, Nat.mod_one]
    · rw [Array.getElem?_eq_none (by simp [madeCells]; omega), Array.getElem?_eq_none (by simp [arrS]; omega)]
  rw [e] at hr
  exact hr
/-- The first lists are copied. -/
structure Cpd (w W : World) (L : List (List KV)) (n i : Nat) (arr : Array Value) : Prop where
  base : Below w.heap.size w W
  box : Box W w.heap.size TSK arr
  size : arr.size = n
  rows : ∀ j, j < i → ∃ aj cj, arr[j]? = some (.slice aj (rowL L j).length cj) ∧ OwnK W w.heap.size aj (rowL L j).length cj (rowL L j)
theorem Cpd.below {w W W' : World} {L : List (List KV)} {n i : Nat} {arr : Array Value} (h : Cpd w W L n i arr) (hb : Below W.heap.size W W') : Cpd w W' L n i arr := ⟨h.base.trans (hb.mono h.base.size), h.box.kept (hb.block _ h.box.lt), h.size, fun j hj => by
  obtain ⟨aj, cj, h1, h2⟩ := h.rows j hj
  exact ⟨aj, cj, h1, h2.below hb⟩⟩
theorem Cpd.more {w W : World} {L : List (List KV)} {n i : Nat} {arr : Array Value} (h : Cpd w W L n i arr) (hi : i < n) {a : Option Addr} {c : Nat} (ho : OwnK W w.heap.size a (rowL L i).length c (rowL L i)) : Cpd w (W.setCell ⟨w.heap.size, i, none⟩ (.slice a (rowL L i).length c)) L n (i + 1) (arr.setIfInBounds i (.slice a (rowL L i).length c)) := by
  have keep : ∀ {aj : Option Addr} {m cj : Nat} {l : List KV}, OwnK W w.heap.size aj m cj l → OwnK (W.setCell ⟨w.heap.size, i, none⟩ (.slice a (rowL L i).length c)) w.heap.size aj m cj l := fun {aj m cj l} hk => hk.kept fun k e => Below.heap_setCell _ _ _ _ (fun e2 => by
    have h1 := hk.tag e
    rw [show k = w.heap.size from e2, h.box.tag] at h1
    exact absurd (Option.some.inj h1) (by decide))
  refine ⟨h.base.setCell (p := ⟨w.heap.size, i, none⟩) (Nat.le_refl _) _, h.box.set i _, by simpa using h.size, fun j hj => ?_⟩
  by_cases e : j = i
  · subst e
    exact ⟨a, c, by simp [h.size, hi], keep ho⟩
  · obtain ⟨aj, cj, h1, h2⟩ := h.rows j (by omega)
    exact ⟨aj, cj, by rw [Array.getElem?_setIfInBounds, if_neg (Ne.symm e)]; exact h1, keep h2⟩
theorem Cpd.lists {w W : World} {L : List (List KV)} {n : Nat} {arr : Array Value} (h : Cpd w W L n n arr) (hL : L.length = n) (hn : n ≤ 1000000000) : LsR W (fun k => w.heap.size ≤ k ∧ k < W.heap.size) (some ⟨w.heap.size, 0, none⟩) n n L := fun W' hW => by
  refine ⟨hL, Nat.le_refl _, by unfold maxLen; omega, fun e => (by cases e), fun hp => ⟨w.heap.size, 0, rfl, fun i hi => ?_⟩⟩
  obtain ⟨aj, cj, h1, h2⟩ := h.rows i hi
  refine ⟨aj, cj, ?_, (h2.kept fun k e => hW k ⟨h2.ge e, (h2.row.lt k (by rw [own_blk]; exact e)).2⟩).ks, h2.spot.1⟩
  rw [Nat.zero_add, (h.box.kept (hW _ ⟨Nat.le_refl _, h.box.lt⟩)).cell]
  exact h1
def CopP (w : World) (n : Nat) (L : List (List KV)) (e : Ending) (w' : World) : Prop := e = .returned (.slice (some ⟨w.heap.size, 0, none⟩) n n) ∧ Below w.heap.size w w' ∧ LsR w' (fun k => w.heap.size ≤ k ∧ k < w'.heap.size) (some ⟨w.heap.size, 0, none⟩) n n L
set_option maxRecDepth 100000 in
set_option maxHeartbeats 2000000 in
theorem copied_any {w : World} {a : Option Addr} {n c : Nat} {L : List (List KV)} (h : LsAt w a n c L) (hf : FewL L) :
    Calls Try.prog 20 #[.slice a n c] w fun e w' => CopP w n L e w' := by
  have HS : Hid (L.length = n ∧ n ≤ 1000 ∧ ∀ i, (rowL L i).length ≤ 2932031007317) := ⟨h.size, by have := hf.1; have := h.size; omega, fun i => by
    have h1 := hf.2
    rw [show (allL L).length = (allP L).length by simp [allL], all_len] at h1
    show lenL L i ≤ _
    by_cases hi : i < L.length
    · have := sum_ge (lenL L) i L.length hi
      omega
    · rw [lenL_out (by omega)]; omega⟩
  have HK : Hid (LsAt w a n c L) := h
  have hn := HS.out.2.1
  have hmk := made_all n (by omega) w
  have HI0 : Hid (Cpd w (w.alloc (.cells (arrS n) TSK)) L n 0 (arrS n)) := ⟨(Below.refl _ _).alloc (Nat.le_refl _) _, Box.new _ _ _, by simp [arrS], fun j hj => absurd hj (Nat.not_lt_zero _)⟩
  clear h hf
  go_enter Try.func20, Try.ntmps20
  go_wp2_with fail
  clear hmk
  go_loopw [11] (fun s11 wr => ∃ (i : Nat), i ≤ n ∧ s11 = .int .i64 (i : Int) ∧ Hid (∃ arr, Cpd w wr L n i arr)) (fun s11 _ => n - (intOf s11).toNat)
  case atStart => exact ⟨0, Nat.zero_le _, rfl, _, HI0.out⟩
  case round =>
    clear HI0
    obtain ⟨i, hin, rfl, HI⟩ := hrel
    by_cases hi : i < n
    · have hiI : (i : Int) < (n : Int) := by omega
      obtain ⟨arr, hcp⟩ := HI.out
      have HC : Hid (Cpd w wr L n i arr) := hcp
      obtain ⟨b, off, hx, _, hc⟩ := HK.out.spots (by omega)
      obtain ⟨ai, ci, h1, h2, h3⟩ := hc i hi
      have hx0 := hx i hi
      have hc0 := h1 wr HC.out.base
      have HCL : Hid (Calls Try.prog 32 #[.slice ai (rowL L i).length ci] wr fun e w' => ∃ a' c', e = .returned (.slice a' (rowL L i).length c') ∧ OwnK w' wr.heap.size a' (rowL L i).length c' (rowL L i) ∧ Below wr.heap.size wr w') := clone_any (h2.below HC.out.base) h3 (HS.out.2.2 i)
      have HM : Hid (∀ (W : World) (a : Option Addr) (c : Nat), Cpd w W L n i arr → OwnK W w.heap.size a (rowL L i).length c (rowL L i) → Cpd w (W.setCell ⟨w.heap.size, i, none⟩ (.slice a (rowL L i).length c)) L n (i + 1) (arr.setIfInBounds i (.slice a (rowL L i).length c))) := fun W a c hC ho => hC.more hi ho
      clear hx h1 h2 h3 hc hcp HI
      generalize off + i = o0 at hx0 hc0
      generalize rowL L i = ri at hc0 HCL HM
      have hxa := fun W => idxA W (b := w.heap.size) (off := 0) (c := n) hi
      simp only [Nat.zero_add] at hxa
      go_wp2_with fail
      refine HCL.out.mono ?_
      rintro _ w2 ⟨a2, c2, rfl, ho2, hb2⟩
      have HC2 : Hid (Cpd w w2 L n i arr ∧ OwnK w2 w.heap.size a2 ri.length c2 ri) := ⟨HC.out.below hb2, ho2.less HC.out.base.size⟩
      clear ho2 hb2 HC HCL
      have hq : ∃ u, w2.cell? ⟨w.heap.size, i, none⟩ = some u := ⟨_, by rw [HC2.out.1.box.cell]; exact Array.getElem?_eq_getElem (by rw [HC2.out.1.size]; exact hi)⟩
      obtain ⟨u, hu⟩ := hq
      have hus := HC2.out.1.box.soft i
      have HC3 : Hid (Cpd w (w2.setCell ⟨w.heap.size, i, none⟩ (.slice a2 ri.length c2)) L n (i + 1) (arr.setIfInBounds i (.slice a2 ri.length c2))) := HM.out _ _ _ HC2.out.1 HC2.out.2
      go_wp2
      go_roundw
      case rel => exact ⟨i + 1, by omega, by go_num, _, HC3.out⟩
      case measure => simp only [intOf]; omega
    · obtain rfl : i = n := by omega
      obtain ⟨arr, hcp⟩ := HI.out
      have HF : Hid (CopP w i L (.returned (.slice (some ⟨w.heap.size, 0, none⟩) i i)) wr) := ⟨rfl, hcp.base, hcp.lists HS.out.1 (by omega)⟩
      clear hcp HI
      go_wp2
      go_ret
      exact HF.out
end Go.Proofs.Ytjoamhcehpjepab
/- Merge's New, and what is done with no iterator. -/
namespace Go.Proofs.Ytjoamhcehpjepab
open Go.RowKit
set_option linter.unusedVariables false
set_option linter.unusedSimpArgs false
set_option maxRecDepth 100000 in
set_option maxHeartbeats 4000000 in
theorem mrises_any (a : Option Addr) (n c : Nat) (l : List KV) (w : World) (h : KsAt w a n c l) (hn : n ≤ 4000000000000) :
    Calls Try.prog 19 #[.slice a n c] w fun e w' => e = .returned (.bool (decide (RiseK l))) ∧ Below w.heap.size w w' := by
  have HS : Hid (l.length = n) := h.size
  have HK : Hid (KsAt w a n c l) := h
  clear h
  go_enter Try.func19, Try.ntmps19
  go_wp2_with fail
  go_loopw [3] (fun s3 wr => ∃ (i : Nat), i ≤ n ∧ s3 = .int .i64 ((i : Int) + 1) ∧ Hid (Below w.heap.size w wr ∧ ∀ j (hj : j + 1 < l.length), j < i → l[j].1.cmp l[j + 1].1 < 0)) (fun s3 _ => n + 2 - (intOf s3).toNat)
  case atStart => exact ⟨0, Nat.zero_le _, rfl, Below.refl _ _, fun j hj h => absurd h (Nat.not_lt_zero _)⟩
  case round =>
    obtain ⟨i, hin, rfl, HI⟩ := hrel
    have hw1 : IntKind.i64.wrap (i : Int) = (i : Int) := by rw [IntKind.wrap_i64]; omega
    have hw2 : IntKind.i64.wrap ((i : Int) + 1 + 1) = (i : Int) + 1 + 1 := by rw [IntKind.wrap_i64]; omega
    by_cases hi : i + 1 < n
    · have hiI : ((i : Int) + 1) < (n : Int) := by omega
      obtain ⟨b, off, hix, hb, hcs⟩ := HK.out.spots (by omega)
      have HC : Hid (∀ W, Below w.heap.size w W → _) := hcs
      have hx0 := hix i (by omega)
      have hx1 := hix (i + 1) hi
      rw [show ((i + 1 : Nat) : Int) = (i : Int) + 1 by omega] at hx1
      clear hix
      have HA : Hid (∀ W, Below w.heap.size w W → W.cell? ⟨b, off + i * 4, none⟩ = some (.string (l[i]'(by rw [HS.out]; omega)).1.user) ∧ W.cell? ⟨b, off + i * 4 + 1, none⟩ = some (.int .u64 ((l[i]'(by rw [HS.out]; omega)).1.seq : Int)) ∧ W.cell? ⟨b, off + i * 4 + 2, none⟩ = some (.int .i64 (l[i]'(by rw [HS.out]; omega)).1.kind) ∧ W.cell? ⟨b, off + (i + 1) * 4, none⟩ = some (.string (l[i + 1]'(by rw [HS.out]; omega)).1.user) ∧ W.cell? ⟨b, off + (i + 1) * 4 + 1, none⟩ = some (.int .u64 ((l[i + 1]'(by rw [HS.out]; omega)).1.seq : Int)) ∧ W.cell? ⟨b, off + (i + 1) * 4 + 2, none⟩ = some (.int .i64 (l[i + 1]'(by rw [HS.out]; omega)).1.kind)) := fun W hW => by
        obtain ⟨z0, z1, z2, _⟩ := hcs W hW i (by rw [HS.out]; omega)
        obtain ⟨y0, y1, y2, _⟩ := hcs W hW (i + 1) (by rw [HS.out]; omega)
        exact ⟨z0, z1, z2, y0, y1, y2⟩
      have HY : Hid ((l[i]'(by rw [HS.out]; omega)).1.cmp (l[i + 1]'(by rw [HS.out]; omega)).1 < 0 → ∀ j (hj : j + 1 < l.length), j < i + 1 → l[j].1.cmp l[j + 1].1 < 0) := fun hlt j hj hji => by
        by_cases e : j = i
        · subst e; exact hlt
        · exact HI.out.2 j hj (by omega)
      have HN : Hid (¬ (l[i]'(by rw [HS.out]; omega)).1.cmp (l[i + 1]'(by rw [HS.out]; omega)).1 < 0 → ¬ RiseK l) := fun hno hr => hno (rise_at hr i (by rw [HS.out]; omega))
      have HCP : Hid (∀ W : World, Calls Try.prog 31 #[.agg #[.string (l[i]'(by rw [HS.out]; omega)).1.user, .int .u64 ((l[i]'(by rw [HS.out]; omega)).1.seq : Int), .int .i64 (l[i]'(by rw [HS.out]; omega)).1.kind], .agg #[.string (l[i + 1]'(by rw [HS.out]; omega)).1.user, .int .u64 ((l[i + 1]'(by rw [HS.out]; omega)).1.seq : Int), .int .i64 (l[i + 1]'(by rw [HS.out]; omega)).1.kind]] W fun r w' => r = .returned (.int .i64 ((l[i]'(by rw [HS.out]; omega)).1.cmp (l[i + 1]'(by rw [HS.out]; omega)).1)) ∧ Below W.heap.size W w') := fun W => compare_any _ _ _ _ _ _ W
      generalize (l[i]'(by rw [HS.out]; omega)).1 = eA at HA HY HN HCP
      generalize (l[i + 1]'(by rw [HS.out]; omega)).1 = eB at HA HY HN HCP
      generalize eA.cmp eB = cv at HY HN HCP
      generalize off + i * 4 = oA at HA hx0
      generalize off + (i + 1) * 4 = oB at HA hx1
      clear HC hcs
      have HB : Hid (Below w.heap.size w wr) := HI.out.1
      clear HI
      go_wp2_with fail
      have HB1 : Hid (Below w.heap.size w wr.drew) := HB.out.drew
      obtain ⟨x0, x1, x2, y0, y1, y2⟩ := HA.out _ HB1.out
      go_region_held3 (fun V => V.cell? ⟨b, oA, none⟩ = some (.string eA.user) ∧ V.cell? ⟨b, oA + 1, none⟩ = some (.int .u64 (eA.seq : Int)) ∧ V.cell? ⟨b, oA + 2, none⟩ = some (.int .i64 eA.kind) ∧ V.cell? ⟨b, oB, none⟩ = some (.string eB.user) ∧ V.cell? ⟨b, oB + 1, none⟩ = some (.int .u64 (eB.seq : Int)) ∧ V.cell? ⟨b, oB + 2, none⟩ = some (.int .i64 eB.kind)) (first | exact ⟨x0, x1, x2, y0, y1, y2⟩ | go_keep)
        (first
         | (go_at_call 31; refine (HCP.out _).mono ?_; rintro _ vx ⟨rfl, hbx⟩
            have HB1 : Hid (Below w.heap.size w vx) := HB1.out.trans (hbx.mono HB1.out.size)
            obtain ⟨x0, x1, x2, y0, y1, y2⟩ := HA.out _ HB1.out
            clear hbx))
      by_cases hcv : 0 ≤ cv
      · go_wp2
        go_ret
        rw [decide_eq_false (HN.out (by omega))]
        exact ⟨ret1 rfl, HB1.out⟩
      · go_wp2
        go_roundw
        case rel => exact ⟨i + 1, by omega, by congr 1, HB1.out, HY.out (by omega)⟩
        case measure => simp only [intOf]; omega
    · have HR : Hid (RiseK l) := rise_of fun j hj => HI.out.2 j hj (by have := HS.out; omega)
      have hiI : ¬ ((i : Int) + 1) < (n : Int) := by omega
      go_wp2
      go_ret
      rw [decide_eq_true HR.out]
      exact ⟨ret1 rfl, HI.out.1⟩
set_option maxRecDepth 100000 in
set_option maxHeartbeats 4000000 in
theorem new_16 (a : Option Addr) (n c : Nat) (L : List (List KV)) (w : World) (h : LsAt w a n c L) (hf : FewL L) :
    Calls Try.prog 13 #[.slice a n c] w fun e w' => Below w.heap.size w w' ∧ ((RiseL L ∧ ∃ p R, e = .returned (.tuple #[at_ p, .int .i64 0]) ∧ Mg16 w' R p L none ∧ ∀ k, R k → w.heap.size ≤ k) ∨ (¬ RiseL L ∧ e = .returned (.tuple #[nilIt, .int .i64 160]))) := by
  have HS : Hid (L.length = n ∧ FewL L ∧ ∀ i, lenL L i ≤ 4000000000000) := ⟨h.size, hf, few_each hf⟩
  have HK : Hid (LsAt w a n c L) := h
  have hn : n ≤ 1000 := by have := hf.1; have := h.size; omega
  clear h hf
  go_enter Try.func13, Try.ntmps13
  go_wp2_with fail
  go_loopw [8] (fun s4 wr => ∃ (i : Nat), i ≤ n ∧ s4 = .int .i64 (i : Int) ∧ Hid (Below w.heap.size w wr ∧ ∀ j, j < i → RiseK (rowL L j))) (fun s4 _ => n - (intOf s4).toNat)
  case atStart => exact ⟨0, Nat.zero_le _, rfl, Below.refl _ _, fun j hj => absurd hj (Nat.not_lt_zero _)⟩
  case round =>
    obtain ⟨i, hin, rfl, HI⟩ := hrel
    by_cases hi : i < n
    · have hiI : (i : Int) < (n : Int) := by omega
      obtain ⟨b, off, hx, _, hc⟩ := HK.out.spots (by omega)
      obtain ⟨ai, ci, h1, h2, _⟩ := hc i hi
      have hx0 := hx i hi
      have hc0 := h1 wr HI.out.1
      have HRI := mrises_any ai (rowL L i).length ci (rowL L i) wr (h2.below HI.out.1) (HS.out.2.2 i)
      have HRI2 : Hid (Calls Try.prog 19 #[.slice ai (rowL L i).length ci] wr fun e w' => e = .returned (.bool (decide (RiseK (rowL L i)))) ∧ Below wr.heap.size wr w') := HRI
      clear HRI hx h1 h2 hc
      generalize off + i = o at hx0 hc0
      have HY : Hid (RiseK (rowL L i) → ∀ j, j < i + 1 → RiseK (rowL L j)) := fun hr j hj => by
        by_cases e : j = i
        · subst e; exact hr
        · exact HI.out.2 j (by omega)
      have HN : Hid (¬ RiseK (rowL L i) → ¬ RiseL L) := fun hno hl => hno (by
        have hil : i < L.length := by have := HS.out.1; omega
        have e : rowL L i = L[i] := by simp [rowL, List.getD, hil]
        rw [e]
        exact hl _ (List.getElem_mem hil))
      generalize rowL L i = ri at hc0 HRI2 HY HN
      go_wp2_with fail
      refine HRI2.out.mono ?_
      rintro _ w2 ⟨rfl, hb2⟩
      have H2 : Hid (Below w.heap.size w w2) := HI.out.1.trans (hb2.mono HI.out.1.size)
      clear hb2
      by_cases hr : RiseK ri
      · rw [decide_eq_true hr]
        have HR := HY.out hr
        go_wp2
        go_roundw
        case rel => exact ⟨i + 1, by omega, by go_num, H2.out, HR⟩
        case measure => simp only [intOf]; omega
      · rw [decide_eq_false hr]
        have HR : Hid (¬ RiseL L) := HN.out hr
        go_wp2
        go_ret2
        exact ⟨H2.out, .inr ⟨HR.out, ret2 rfl rfl⟩⟩
    · have HR : Hid (RiseL L) := fun l hl => by
        obtain ⟨k, hk, rfl⟩ := List.mem_iff_getElem.1 hl
        have := HI.out.2 k (by have := HS.out.1; omega)
        have e : rowL L k = L[k] := by simp [rowL, List.getD, hk]
        rw [e] at this
        exact this
      have hiI : ¬ (i : Int) < (n : Int) := by omega
      have HCP : Hid (Calls Try.prog 20 #[.slice a n c] wr fun e w' => CopP wr n L e w') := copied_any (HK.out.below HI.out.1) HS.out.2.1
      have HB : Hid (Below w.heap.size w wr) := HI.out.1
      clear HI
      go_wp2_with fail
      refine HCP.out.mono ?_
      rintro _ w2 ⟨rfl, hb2, hls⟩
      have HF : Hid (Below w.heap.size w (w2.alloc (.cells #[.slice (some ⟨wr.heap.size, 0, none⟩) n n, .int .i64 0, .int .i64 0, .bool false, .pointer none] TItr)) ∧ Mg16 (w2.alloc (.cells #[.slice (some ⟨wr.heap.size, 0, none⟩) n n, .int .i64 0, .int .i64 0, .bool false, .pointer none] TItr)) (fun k => wr.heap.size ≤ k ∧ k < w2.heap.size + 1) w2.heap.size L none ∧ w.heap.size ≤ wr.heap.size) := by
        have hbx := Box.new w2 TItr #[.slice (some ⟨wr.heap.size, 0, none⟩) n n, .int .i64 0, .int .i64 0, .bool false, .pointer none]
        refine ⟨(HB.out.trans (hb2.mono HB.out.size)).alloc (Nat.le_trans HB.out.size hb2.size) _, ⟨fun k => wr.heap.size ≤ k ∧ k < w2.heap.size, some ⟨wr.heap.size, 0, none⟩, n, d0, .pointer none, ⟨?_, fun k hk => by simp; exact hk.2, ⟨⟨hb2.size, Nat.lt_succ_self _⟩, fun hk => Nat.lt_irrefl _ hk.2⟩, fun k hk => ⟨hk.1, Nat.lt_succ_of_lt hk.2⟩, ?_, HR.out, HS.out.2.1⟩, fun i e => by cases e⟩, HB.out.size⟩
        · rw [HS.out.1]; exact hbx
        · rw [HS.out.1]; exact hls.kept fun k hk => Below.heap_alloc w2 _ k hk.2
      clear hb2 hls HCP
      go_wp2
      go_ret2
      exact ⟨HF.out.1, .inl ⟨HR.out, w2.heap.size, _, ret2 rfl rfl, HF.out.2.1, fun k hk => Nat.le_trans HF.out.2.2 hk.1⟩⟩
end Go.Proofs.Ytjoamhcehpjepab
/- Merge's iterator as a part of a view. -/
namespace Go.Proofs.Ytjoamhcehpjepab
open Go.RowKit
set_option linter.unusedVariables false
set_option linter.unusedSimpArgs false
abbrev TVw : TypeId := 58
/-- What a view keeps behind its iterator. -/
structure Tl where
  sq : Value
  wb : Value
  ws : Value
  wp : Value
  ak : Value
  av : Value
  is : Value
/-- An iterator that is the first part of a view. -/
structure ItV (T : Tl) (W : World) (R RL : Nat → Prop) (p : Nat) (la : Option Addr) (lc : Nat) (L : List (List KV)) (x : PlL) (b : Bool) (hv : Value) : Prop where
  box : Box W p TVw #[.slice la L.length lc, .int .i64 (x.1 : Int), .int .i64 (x.2 : Int), .bool b, hv, T.sq, T.wb, T.ws, T.wp, T.ak, T.av, T.is]
  lt : ∀ k, R k → k < W.heap.size
  rp : R p ∧ ¬ RL p
  rl : ∀ k, RL k → R k
  ls : LsR W RL la L.length lc L
  rise : RiseL L
  few : FewL L
def MgV (T : Tl) : MgRel := fun W R p L o => ∃ (RL : Nat → Prop) (la : Option Addr) (lc : Nat) (x : PlL) (hv : Value), ItV T W R RL p la lc L x o.isSome hv ∧ ∀ i, o = some i → ∃ up hp pa pc ps v, hv = at_ hp ∧ Hs W R RL p la lc L i x up hp pa pc ps v
section
variable {T : Tl} {W W' w : World} {R RL : Nat → Prop} {p B : Nat} {la : Option Addr} {lc : Nat} {L : List (List KV)} {x last : PlL} {b : Bool} {hv : Value} {i hp : Nat} {up : Bool} {pa : Option Addr} {pc : Nat} {ps : List PlL} {v : Nat → Nat} {o : Option Nat}
theorem ItV.kept (h : ItV T W R RL p la lc L x b hv) (hs : W.heap.size ≤ W'.heap.size) (hk : ∀ k, R k → W'.heap[k]? = W.heap[k]?) : ItV T W' R RL p la lc L x b hv := ⟨h.box.kept (hk p h.rp.1), fun k hr => Nat.lt_of_lt_of_le (h.lt k hr) hs, h.rp, h.rl, h.ls.kept fun k hr => hk k (h.rl k hr), h.rise, h.few⟩
theorem mv_kept {o : Option Nat} (h : MgV T W R p L o) (hs : W.heap.size ≤ W'.heap.size) (hk : ∀ k, R k → W'.heap[k]? = W.heap[k]?) : MgV T W' R p L o := by
  obtain ⟨RL, la, lc, x, hv, h1, h2⟩ := h
  refine ⟨RL, la, lc, x, hv, h1.kept hs hk, fun i e => ?_⟩
  obtain ⟨up, hp, pa, pc, ps, v, e1, h3⟩ := h2 i e
  exact ⟨up, hp, pa, pc, ps, v, e1, h3.kept hk⟩
theorem mv_lt {o : Option Nat} (h : MgV T W R p L o) : ∀ k, R k → k < W.heap.size := by
  obtain ⟨RL, la, lc, x, hv, h1, h2⟩ := h
  exact h1.lt
theorem mv_fit {o : Option Nat} (h : MgV T W R p L o) : ∀ i, o = some i → i < (allL L).length := fun i e => by
  obtain ⟨RL, la, lc, x, hv, h1, h2⟩ := h
  obtain ⟨up, hp, pa, pc, ps, v, e1, h3⟩ := h2 i e
  have := (List.getElem?_eq_some_iff.1 h3.at').1
  simpa [allL] using this
end
end Go.Proofs.Ytjoamhcehpjepab
/- A view's way through all entries, plainly: cuts of entries and of what is seen. -/
namespace Go.Proofs.Ytjoamhcehpjepab
open Go.RowKit
set_option linter.unusedVariables false
set_option linter.unusedSimpArgs false
/-- So many entries and so many of what is seen are of the same users. -/
structure CutV (s : Nat) (S : List KV) (i j : Nat) : Prop where
  le : i ≤ S.length
  lej : j ≤ (seenL s S).length
  ex : ∃ P : ByteArray → Prop, (∀ m (h : m < S.length), m < i ↔ P S[m].1.user) ∧ ∀ k (h : k < (seenL s S).length), k < j ↔ P (seenL s S)[k].1
section
variable {s : Nat} {S : List KV} {i j i' : Nat} {u : ByteArray}
theorem cutv_zero (s : Nat) (S : List KV) : CutV s S 0 0 := ⟨Nat.zero_le _, Nat.zero_le _, fun _ => False, fun m h => by simp, fun k h => by simp⟩
theorem cutv_all (s : Nat) (S : List KV) : CutV s S S.length (seenL s S).length := ⟨Nat.le_refl _, Nat.le_refl _, fun _ => True, fun m h => by simp [h], fun k h => by simp [h]⟩
/-- What is seen is of a user who has an entry. -/
theorem item_entry (hs : SortU S) {k : Nat} (h : k < (seenL s S).length) : ∃ e, lget17 S (seenL s S)[k].1 s = some e ∧ e.1.kind = 1 ∧ e.2 = (seenL s S)[k].2 := (mem_seen hs _ _).1 (List.getElem_mem h)
theorem item_user (hs : SortU S) {k : Nat} (h : k < (seenL s S).length) : ∃ m, ∃ (hm : m < S.length), S[m].1.user = (seenL s S)[k].1 := by
  obtain ⟨e, h1, _⟩ := item_entry hs h
  obtain ⟨hu, _, hm⟩ := lget_user h1
  obtain ⟨m, hml, rfl⟩ := List.getElem_of_mem hm
  exact ⟨m, hml, hu⟩
theorem cutv_end (hs : SortU S) (h : CutV s S S.length j) : j = (seenL s S).length := by
  obtain ⟨P, h1, h2⟩ := h.ex
  have := h.lej
  apply Classical.byContradiction
  intro hne
  have hj : j < (seenL s S).length := by omega
  obtain ⟨m, hm, hu⟩ := item_user hs hj
  have := (h2 j hj).2 (hu ▸ (h1 m hm).1 hm)
  omega
theorem cutv_start (hs : SortU S) (h : CutV s S 0 j) : j = 0 := by
  obtain ⟨P, h1, h2⟩ := h.ex
  have := h.lej
  apply Classical.byContradiction
  intro hne
  have hj : 0 < (seenL s S).length := by omega
  obtain ⟨m, hm, hu⟩ := item_user hs hj
  have := (h1 m hm).2 (hu ▸ (h2 0 hj).1 (by omega))
  omega
/-- Entries of one user, none of whose are left out. -/
structure GroupV (S : List KV) (a b : Nat) (u : ByteArray) : Prop where
  lt : a < b
  le : b ≤ S.length
  here : ∀ m (h : m < S.length), a ≤ m → m < b → S[m].1.user = u
  lo : ∀ m (h : m < S.length), m < a → uc S[m].1.user u < 0
  hi : ∀ m (h : m < S.length), b ≤ m → uc u S[m].1.user < 0
theorem sort_le (hs : SortU S) {a b : Nat} (hb : b < S.length) (hab : a ≤ b) : uc (S[a]'(by omega)).1.user S[b].1.user ≤ 0 := by
  by_cases e : a = b
  · subst e; rw [uc_self]; exact Int.le_refl 0
  · exact List.pairwise_iff_getElem.1 hs a b (by omega) hb (by omega)
/-- A row of entries of one user whose neighbours are of others. -/
theorem group_of (hs : SortU S) {a b : Nat} (hab : a < b) (hb : b ≤ S.length) (h : ∀ m (hm : m < S.length), a ≤ m → m < b → S[m].1.user = u) (hlo : ∀ (h0 : 0 < a), (S[a - 1]'(by omega)).1.user ≠ u) (hhi : ∀ (h1 : b < S.length), S[b].1.user ≠ u) : GroupV S a b u := by
  have hua : (S[a]'(by omega)).1.user = u := h a (by omega) (Nat.le_refl _) hab
  refine ⟨hab, hb, h, fun m hm hma => ?_, fun m hm hbm => ?_⟩
  · have h1 := sort_le hs (a := m) (b := a - 1) (by omega) (by omega)
    have h2 := sort_le hs (a := a - 1) (b := a) (by omega) (by omega)
    have h3 := hlo (by omega)
    rw [hua] at h2
    rcases uc_three (S[a - 1]'(by omega)).1.user u with e | ⟨_, e⟩ | e
    · exact uc_le_lt h1 (by omega)
    · exact absurd e h3
    · omega
  · have h1 := sort_le hs (a := b) (b := m) hm hbm
    have h2 := sort_le hs (a := b - 1) (b := b) (by omega) (by omega)
    rw [h (b - 1) (by omega) (by omega) (by omega)] at h2
    have h3 := hhi (by omega)
    rcases uc_three u (S[b]'(by omega)).1.user with e | ⟨_, e⟩ | e
    · exact uc_lt_le (by omega) h1
    · exact absurd e.symm h3
    · omega
theorem uc_ne {a b : ByteArray} (h : uc a b < 0) : a ≠ b := fun e => by rw [e, uc_self] at h; omega
theorem uc_ne' {a b : ByteArray} (h : uc b a < 0) : a ≠ b := fun e => by rw [e, uc_self] at h; omega
theorem GroupV.iff {a b : Nat} (g : GroupV S a b u) {m : Nat} (h : m < S.length) : S[m].1.user = u ↔ a ≤ m ∧ m < b := by
  constructor
  · intro e
    constructor
    · apply Classical.byContradiction
      intro hn
      exact uc_ne (g.lo m h (by omega)) e
    · apply Classical.byContradiction
      intro hn
      exact uc_ne' (g.hi m h (by omega)) e
  · exact fun ⟨h1, h2⟩ => g.here m h h1 h2
def segL (S : List KV) (a b : Nat) : List KV := (S.take b).drop a
/-- Of a user, the first of all is the first of his. -/
theorem GroupV.get {a b : Nat} (g : GroupV S a b u) (s : Nat) : lget17 S u s = lget17 (segL S a b) u s := by
  have e : S = S.take a ++ (segL S a b ++ S.drop b) := by
    unfold segL
    rw [show S.take a = (S.take b).take a by rw [List.take_take, Nat.min_eq_left (Nat.le_of_lt g.lt)], ← List.append_assoc, List.take_append_drop, List.take_append_drop]
  have n1 : (S.take a).find? (fun e => decide (e.1.user = u ∧ e.1.seq ≤ s)) = none := List.find?_eq_none.2 fun x hx => by
    obtain ⟨m, hm, rfl⟩ := List.getElem_of_mem hx
    rw [List.length_take] at hm
    have := uc_ne (g.lo m (by omega) (by omega))
    rw [List.getElem_take]
    simp [this]
  have n2 : (S.drop b).find? (fun e => decide (e.1.user = u ∧ e.1.seq ≤ s)) = none := List.find?_eq_none.2 fun x hx => by
    obtain ⟨m, hm, rfl⟩ := List.getElem_of_mem hx
    rw [List.length_drop] at hm
    have := uc_ne' (g.hi (b + m) (by omega) (by omega))
    rw [List.getElem_drop]
    simp [this]
  unfold lget17
  conv => lhs; rw [e]
  rw [List.find?_append, n1, List.find?_append, n2]
  simp
theorem seg_nil (S : List KV) (a : Nat) : segL S a a = [] := by unfold segL; simp
theorem seg_on {a b : Nat} (hab : a ≤ b) (hb : b < S.length) : segL S a (b + 1) = segL S a b ++ [S[b]] := by
  unfold segL
  rw [List.take_succ_eq_append_getElem hb, List.drop_append_of_le_length (by rw [List.length_take]; omega)]
theorem seg_back {a b : Nat} (hab : a < b) (hb : b ≤ S.length) : segL S a b = S[a]'(by omega) :: segL S (a + 1) b := by
  unfold segL
  rw [List.drop_eq_getElem_cons (by rw [List.length_take]; omega), List.getElem_take]
/-- Who has something that is seen: where it stands among it all. -/
theorem item_at (hs : SortU S) {e : KV} (he : lget17 S u s = some e) (hk : e.1.kind = 1) : ∃ k, ∃ (hk : k < (seenL s S).length), (seenL s S)[k] = (u, e.2) := by
  have := (mem_seen hs u e.2).2 ⟨e, he, hk, rfl⟩
  obtain ⟨k, hk, h⟩ := List.getElem_of_mem this
  exact ⟨k, hk, h⟩
theorem item_rise (hs : SortU S) {a b : Nat} (hb : b < (seenL s S).length) (hab : a < b) : uc ((seenL s S)[a]'(by omega)).1 (seenL s S)[b].1 < 0 := List.pairwise_iff_getElem.1 (rise_seen hs) a b (by omega) hb hab
/-- Past a user's entries, on. -/
theorem cutv_on (hs : SortU S) (h : CutV s S i j) (g : GroupV S i i' u) :
    (∀ e, lget17 S u s = some e → e.1.kind = 1 → ∃ hj : j < (seenL s S).length, (seenL s S)[j] = (u, e.2) ∧ CutV s S i' (j + 1)) ∧ ((∀ e, lget17 S u s = some e → e.1.kind ≠ 1) → CutV s S i' j) := by
  obtain ⟨P, h1, h2⟩ := h.ex
  have hil : i < S.length := Nat.lt_of_lt_of_le g.lt g.le
  have hui : S[i].1.user = u := g.here i hil (Nat.le_refl _) g.lt
  have hPu : ¬ P u := fun hp => by
    have := (h1 i hil).2 (by rw [hui]; exact hp)
    omega
  have hm : ∀ m (hm : m < S.length), m < i' ↔ (P S[m].1.user ∨ S[m].1.user = u) := fun m hm => by
    rw [← h1 m hm, g.iff hm]
    have := g.lt
    omega
  constructor
  · intro e he hk
    obtain ⟨k, hkl, hke⟩ := item_at hs he hk
    have hkj : k = j := by
      have hjk : ¬ k < j := fun hlt => hPu (by have := (h2 k hkl).1 hlt; rw [hke] at this; exact this)
      apply Classical.byContradiction
      intro hne
      have hjl : j < (seenL s S).length := by omega
      have hr := item_rise hs hkl (show j < k by omega)
      rw [hke] at hr
      obtain ⟨m, hml, hmu⟩ := item_user hs hjl
      have hmi : ¬ m < i := fun hlt => by
        have := (h2 j hjl).2 (hmu ▸ (h1 m hml).1 hlt)
        omega
      have := sort_le hs hml (show i ≤ m by omega)
      rw [hui, hmu] at this
      have ht := uc_turn (seenL s S)[j].1 u
      dsimp only at hr
      omega
    subst hkj
    refine ⟨hkl, hke, g.le, hkl, fun v => P v ∨ v = u, hm, fun k' hk' => ?_⟩
    have := h2 k' hk'
    by_cases e1 : k' = k
    · subst e1
      rw [hke]
      simp
    · have hne : (seenL s S)[k'].1 ≠ u := fun e2 => by
        rcases Nat.lt_or_gt_of_ne e1 with hl | hl
        · have := item_rise hs hkl hl
          rw [hke] at this
          exact uc_ne this e2
        · have := item_rise hs hk' hl
          rw [hke] at this
          exact uc_ne' this e2
      simp only [hne, or_false]
      rw [← this]
      omega
  · intro hno
    refine ⟨g.le, h.lej, fun v => P v ∨ v = u, hm, fun k hk => ?_⟩
    have hne : (seenL s S)[k].1 ≠ u := fun e => by
      obtain ⟨x, hx, hx1, _⟩ := item_entry hs hk
      rw [e] at hx
      exact hno x hx hx1
    simp only [hne, or_false]
    exact h2 k hk
/-- Past a user's entries, back. -/
theorem cutv_back (hs : SortU S) (h : CutV s S i j) (g : GroupV S i' i u) :
    (∀ e, lget17 S u s = some e → e.1.kind = 1 → ∃ hj : j - 1 < (seenL s S).length, 0 < j ∧ (seenL s S)[j - 1] = (u, e.2) ∧ CutV s S i' (j - 1)) ∧ ((∀ e, lget17 S u s = some e → e.1.kind ≠ 1) → CutV s S i' j) := by
  obtain ⟨P, h1, h2⟩ := h.ex
  have hlt := g.lt
  have hil : i - 1 < S.length := by have := g.le; omega
  have hui : S[i - 1].1.user = u := g.here (i - 1) hil (by omega) (by omega)
  have hPu : P u := by
    have := (h1 (i - 1) hil).1 (by omega)
    rw [hui] at this; exact this
  have hm : ∀ m (hm : m < S.length), m < i' ↔ (P S[m].1.user ∧ S[m].1.user ≠ u) := fun m hm => by
    rw [← h1 m hm, ne_eq, g.iff hm]
    omega
  have hle' : i' ≤ S.length := by have := g.le; omega
  constructor
  · intro e he hk
    obtain ⟨k, hkl, hke⟩ := item_at hs he hk
    have hkj : k < j := (h2 k hkl).2 (by rw [hke]; exact hPu)
    have hkj : k = j - 1 := by
      apply Classical.byContradiction
      intro hne
      have hjl : j - 1 < (seenL s S).length := by have := h.lej; omega
      have hr := item_rise hs hjl (show k < j - 1 by omega)
      rw [hke] at hr
      obtain ⟨m, hml, hmu⟩ := item_user hs hjl
      have hmi : m < i := (h1 m hml).2 (hmu ▸ (h2 (j - 1) hjl).1 (by omega))
      have := sort_le hs hil (show m ≤ i - 1 by omega)
      rw [hui, hmu] at this
      have ht := uc_turn (seenL s S)[j - 1].1 u
      dsimp only at hr
      omega
    subst hkj
    refine ⟨hkl, by omega, hke, hle', by omega, fun v => P v ∧ v ≠ u, hm, fun k' hk' => ?_⟩
    have := h2 k' hk'
    by_cases e1 : k' = j - 1
    · subst e1
      rw [hke]
      simp
    · have hne : (seenL s S)[k'].1 ≠ u := fun e2 => by
        rcases Nat.lt_or_gt_of_ne e1 with hl | hl
        · have := item_rise hs hkl hl
          rw [hke] at this
          exact uc_ne this e2
        · have := item_rise hs hk' hl
          rw [hke] at this
          exact uc_ne' this e2
      simp only [ne_eq, hne, not_false_eq_true, and_true]
      rw [← this]
      omega
  · intro hno
    refine ⟨hle', h.lej, fun v => P v ∧ v ≠ u, hm, fun k hk => ?_⟩
    have hne : (seenL s S)[k].1 ≠ u := fun e => by
      obtain ⟨x, hx, hx1, _⟩ := item_entry hs hk
      rw [e] at hx
      exact hno x hx hx1
    simp only [ne_eq, hne, not_false_eq_true, and_true]
    exact h2 k hk
end
end Go.Proofs.Ytjoamhcehpjepab
/- The keys that a view seeks, plainly. -/
namespace Go.Proofs.Ytjoamhcehpjepab
open Go.RowKit
set_option linter.unusedVariables false
set_option linter.unusedSimpArgs false
theorem less_zero : ∀ (x y : List UInt8), Op.bytesLess x (y ++ [0]) = true ↔ (Op.bytesLess x y = true ∨ x = y)
  | [], [] => by simp [Op.bytesLess]
  | [], b :: y => by simp [Op.bytesLess]
  | a :: x, [] => by
    cases x <;> simp [Op.bytesLess]
  | a :: x, b :: y => by
    have ih := less_zero x y
    simp only [List.cons_append, Op.bytesLess, Bool.or_eq_true, Bool.and_eq_true, decide_eq_true_eq, beq_iff_eq, List.cons.injEq]
    rw [ih]
    constructor
    · rintro (h | ⟨h, h2 | h2⟩)
      · exact .inl (.inl h)
      · exact .inl (.inr ⟨h, h2⟩)
      · exact .inr ⟨h, h2⟩
    · rintro ((h | ⟨h, h2⟩) | ⟨h, h2⟩)
      · exact .inl h
      · exact .inr ⟨h, .inl h2⟩
      · exact .inr ⟨h, .inr h2⟩
theorem uc_bless (a b : ByteArray) : uc a b < 0 ↔ Op.bytesLess a.toList b.toList = true := by
  unfold uc
  constructor
  · intro h
    rcases scmp_spec a.toList b.toList with ⟨_, e⟩ | ⟨e, _⟩ | ⟨e, _⟩
    · exact e
    · omega
    · omega
  · intro h
    rw [scmp_of_less h]
    decide
/-- The text behind which no other one comes ahead of the next. -/
def zeroB (u : ByteArray) : ByteArray := u ++ ⟨#[0]⟩
theorem zeroB_list (u : ByteArray) : (zeroB u).toList = u.toList ++ [0] := by
  unfold zeroB
  simp [ByteArray.toList_eq]
theorem uc_zeroB (a u : ByteArray) : uc a (zeroB u) < 0 ↔ uc a u ≤ 0 := by
  rw [uc_bless, zeroB_list, less_zero, ← uc_bless]
  constructor
  · rintro (h | h)
    · omega
    · have : uc a u = 0 := by unfold uc; rw [h]; exact scmp_self _
      omega
  · intro h
    by_cases e : uc a u = 0
    · exact .inr (by rw [uc_zero e])
    · exact .inl (by omega)
/-- The key that no other one of a user is ahead of. -/
def firstK (u : ByteArray) : IK := ⟨u, 18446744073709551615, 9223372036854775807⟩
theorem cmp_first {e : KV} (h : WfE e) (u : ByteArray) : e.1.cmp (firstK u) < 0 ↔ uc e.1.user u < 0 := by
  have hs := h.2.1
  have hk := h.2.2
  unfold IK.cmp uc firstK
  have h1 := icmp_spec (18446744073709551615 : Int) (e.1.seq : Int)
  have h2 := icmp_spec (9223372036854775807 : Int) e.1.kind
  rcases kcmp_spec e.1.user.toList u.toList (e.1.seq : Int) (18446744073709551615 : Int) e.1.kind 9223372036854775807 with ⟨h0, e0⟩ | ⟨h0, hn, e0⟩ | ⟨h0, hn, e0⟩
  · rw [show ((18446744073709551615 : Nat) : Int) = 18446744073709551615 from rfl, e0]
  · rw [show ((18446744073709551615 : Nat) : Int) = 18446744073709551615 from rfl, e0, h0]
    omega
  · rw [show ((18446744073709551615 : Nat) : Int) = 18446744073709551615 from rfl, e0, h0]
    omega
theorem tw17_at {α : Type} (p : α → Bool) : ∀ (l : List α), (∀ i j (hj : j < l.length) (hij : i ≤ j), p l[j] = true → p (l[i]'(by omega)) = true) → ∀ m (h : m < l.length), m < (l.takeWhile p).length ↔ p l[m] = true
  | [], _, m, h => absurd h (Nat.not_lt_zero _)
  | a :: l, hp, m, h => by
    have ih := tw17_at p l fun i j hj hij => hp (i + 1) (j + 1) (by simpa using hj) (by omega)
    by_cases ha : p a = true
    · rw [List.takeWhile_cons_of_pos ha]
      cases m with
      | zero => simp [ha]
      | succ m => simpa using ih m (by simpa using h)
    · rw [List.takeWhile_cons_of_neg ha]
      constructor
      · intro h; simp at h
      · intro hm
        exact absurd (hp 0 m h (Nat.zero_le _) hm) ha
def WfS (S : List KV) : Prop := ∀ e ∈ S, WfE e
section
variable {s : Nat} {S : List KV} {i j : Nat} {u : ByteArray}
theorem seekI_iff (hs : SortU S) (hw : WfS S) (v : ByteArray) {m : Nat} (h : m < S.length) : m < seekI S (firstK v) ↔ uc S[m].1.user v < 0 := by
  have hc : ∀ k (hk : k < S.length), S[k].1.cmp (firstK v) < 0 ↔ uc S[k].1.user v < 0 := fun k hk => cmp_first (hw _ (List.getElem_mem hk)) v
  unfold seekI
  rw [tw17_at _ _ (fun a b hb hab hbt => ?_) m h, decide_eq_true_eq, hc m h]
  simp only [decide_eq_true_eq] at hbt ⊢
  rw [hc] at hbt ⊢
  exact uc_le_lt (sort_le hs hb hab) hbt
theorem seekI_le (S : List KV) (k : IK) : seekI S k ≤ S.length := by
  unfold seekI
  exact (List.takeWhile_sublist _).length_le
theorem seek7_iff (hs : SortU S) (v : ByteArray) {k : Nat} (h : k < (seenL s S).length) : k < seek7 (seenL s S) v ↔ uc (seenL s S)[k].1 v < 0 := by
  unfold seek7
  rw [tw17_at _ _ (fun a b hb hab hbt => ?_) k h, decide_eq_true_eq]
  simp only [decide_eq_true_eq] at hbt ⊢
  by_cases e : a = b
  · subst e; exact hbt
  · exact uc_trans (item_rise hs hb (by omega)) hbt
theorem seek7_le (l : List It17) (v : ByteArray) : seek7 l v ≤ l.length := by
  unfold seek7
  exact (List.takeWhile_sublist _).length_le
/-- To a user. -/
theorem cutv_seek (hs : SortU S) (hw : WfS S) (v : ByteArray) : CutV s S (seekI S (firstK v)) (seek7 (seenL s S) v) := ⟨seekI_le _ _, seek7_le _ _, fun x => uc x v < 0, fun m h => seekI_iff hs hw v h, fun k h => seek7_iff hs v h⟩
/-- Ahead of a user of whom something is seen. -/
theorem cutv_ahead (hs : SortU S) (hw : WfS S) {k : Nat} (hk : k < (seenL s S).length) : CutV s S (seekI S (firstK (seenL s S)[k].1)) k ∧ seekI S (firstK (seenL s S)[k].1) < S.length := by
  refine ⟨⟨seekI_le _ _, by omega, fun x => uc x (seenL s S)[k].1 < 0, fun m h => seekI_iff hs hw _ h, fun a ha => ?_⟩, ?_⟩
  · constructor
    · intro h; exact item_rise hs hk h
    · intro h
      apply Classical.byContradiction
      intro hn
      by_cases e : a = k
      · subst e; rw [uc_self] at h; omega
      · have h2 := item_rise hs ha (show k < a by omega)
        have h3 := uc_turn (seenL s S)[k].1 (seenL s S)[a].1
        omega
  · obtain ⟨m, hm, hu⟩ := item_user hs hk
    apply Classical.byContradiction
    intro hn
    have := (seekI_iff hs hw (seenL s S)[k].1 hm).1 (by omega)
    rw [hu, uc_self] at this
    omega
/-- Behind a user of whom something is seen. -/
theorem cutv_behind (hs : SortU S) (hw : WfS S) {k : Nat} (hk : k < (seenL s S).length) : CutV s S (seekI S (firstK (zeroB (seenL s S)[k].1))) (k + 1) := by
  refine ⟨seekI_le _ _, by omega, fun x => uc x (zeroB (seenL s S)[k].1) < 0, fun m h => seekI_iff hs hw _ h, fun a ha => ?_⟩
  show a < k + 1 ↔ uc (seenL s S)[a].1 (zeroB (seenL s S)[k].1) < 0
  rw [uc_zeroB]
  constructor
  · intro h
    by_cases e : a = k
    · subst e; rw [uc_self]; exact Int.le_refl 0
    · exact Int.le_of_lt (item_rise hs hk (by omega))
  · intro h
    apply Classical.byContradiction
    intro hn
    have h2 := item_rise hs ha (show k < a by omega)
    have h3 := uc_turn (seenL s S)[k].1 (seenL s S)[a].1
    omega
end
/-- The two ways: where one stands between entries, what comes next, what lies behind it. -/
def posV (S : List KV) (i : Nat) : Bool → Option Nat
  | true => normO S i
  | false => if i = 0 then none else some (i - 1)
def nextV (I : List It17) (j : Nat) : Bool → Option Nat
  | true => norm7 I j
  | false => if j = 0 then none else some (j - 1)
/-- How many lie behind where one is. -/
def afterJ (k : Nat) : Bool → Nat
  | true => k + 1
  | false => k
/-- What a user's entries bring. -/
structure PastV (s : Nat) (S : List KV) (up : Bool) (i i' j : Nat) (u : ByteArray) : Prop where
  sm : ∀ e, lget17 S u s = some e → e.1.kind = 1 → ∃ k, nextV (seenL s S) j up = some k ∧ ∃ hk : k < (seenL s S).length, (seenL s S)[k] = (u, e.2) ∧ CutV s S i' (afterJ k up)
  no : (∀ e, lget17 S u s = some e → e.1.kind ≠ 1) → CutV s S i' j
theorem past_on {s : Nat} {S : List KV} {i i' j : Nat} {u : ByteArray} (hs : SortU S) (h : CutV s S i j) (g : GroupV S i i' u) : PastV s S true i i' j u := ⟨fun e he hk => by
  obtain ⟨hj, h1, h2⟩ := (cutv_on hs h g).1 e he hk
  exact ⟨j, by unfold nextV norm7; rw [if_pos hj], hj, h1, h2⟩, (cutv_on hs h g).2⟩
theorem past_back {s : Nat} {S : List KV} {i i' j : Nat} {u : ByteArray} (hs : SortU S) (h : CutV s S i j) (g : GroupV S i' i u) : PastV s S false i i' j u := ⟨fun e he hk => by
  obtain ⟨hj, h0, h1, h2⟩ := (cutv_back hs h g).1 e he hk
  exact ⟨j - 1, by unfold nextV; rw [if_neg (by omega)], hj, h1, h2⟩, (cutv_back hs h g).2⟩
theorem pos_none {s : Nat} {S : List KV} {i j : Nat} {up : Bool} (hs : SortU S) (h : CutV s S i j) (hp : posV S i up = none) : nextV (seenL s S) j up = none := by
  have hle := h.le
  cases up with
  | true =>
    by_cases hi : i < S.length
    · have : posV S i true = some i := by unfold posV normO; rw [if_pos hi]
      rw [this] at hp; cases hp
    · have hi : i = S.length := by omega
      subst hi
      have := cutv_end hs h
      unfold nextV norm7
      rw [if_neg (by omega)]
  | false =>
    by_cases hi : i = 0
    · subst hi
      have := cutv_start hs h
      unfold nextV
      rw [if_pos this]
    · have : posV S i false = some (i - 1) := by unfold posV; rw [if_neg hi]
      rw [this] at hp; cases hp
end Go.Proofs.Ytjoamhcehpjepab
/- A view's iterator from call to call, and blocks beside it. -/
namespace Go.Proofs.Ytjoamhcehpjepab
open Go.RowKit
set_option linter.unusedVariables false
set_option linter.unusedSimpArgs false
/-- Since a world w: the iterator of a view, and blocks laid since that are not its own. -/
structure IvS (T : Tl) (w W : World) (R R' : Nat → Prop) (p : Nat) (L : List (List KV)) (o : Option Nat) (K : Nat → Prop) : Prop where
  it : MgV T W R' p L o
  sub : ∀ k, R' k → R k ∨ w.heap.size ≤ k
  chg : Chg R w W
  keep : ∀ k, K k → k < W.heap.size ∧ w.heap.size ≤ k ∧ ¬ R' k
section
variable {T T' : Tl} {w W W' : World} {R R' : Nat → Prop} {p : Nat} {L : List (List KV)} {o o' : Option Nat} {K K' : Nat → Prop}
theorem IvS.start (h : MgV T w R p L o) : IvS T w w R R p L o fun _ => False := ⟨h, fun k hk => .inl hk, Chg.refl _ _, fun k hk => hk.elim⟩
theorem IvS.step (h : IvS T w W R R' p L o K) (hp : MgPost (MgV T) R' p L o' W W') : ∃ R2, IvS T w W' R R2 p L o' K ∧ (∀ k, K k → W'.heap[k]? = W.heap[k]?) ∧ W.heap.size ≤ W'.heap.size := by
  obtain ⟨R2, h1, h2, h3⟩ := hp
  refine ⟨R2, ⟨h1, fun k hk => ?_, h.chg.andThen h3 fun k hk hr => ?_, fun k hk => ⟨Nat.lt_of_lt_of_le (h.keep k hk).1 h3.size, (h.keep k hk).2.1, fun hr => ?_⟩⟩, fun k hk => h3.block k (h.keep k hk).1 (h.keep k hk).2.2, h3.size⟩
  · rcases h2 k hk with h4 | h4
    · exact h.sub k h4
    · exact .inr (Nat.le_trans h.chg.size h4)
  · rcases h.sub k hr with h4 | h4
    · exact h4
    · omega
  · rcases h2 k hr with h4 | h4
    · exact (h.keep k hk).2.2 h4
    · have := (h.keep k hk).1
      omega
theorem IvS.below (h : IvS T w W R R' p L o K) (hb : Below W.heap.size W W') : IvS T w W' R R' p L o K :=
  ⟨mv_kept h.it hb.size fun k hk => hb.block k (mv_lt h.it k hk), h.sub, h.chg.andThen (Chg.of (R := R) hb) fun _ _ x => x, fun k hk => ⟨Nat.lt_of_lt_of_le (h.keep k hk).1 hb.size, (h.keep k hk).2⟩⟩
theorem IvS.drew (h : IvS T w W R R' p L o K) : IvS T w W.drew R R' p L o K := h.below (Below.refl _ _).drew
theorem IvS.drewN (h : IvS T w W R R' p L o K) (d : Nat) : IvS T w (W.drewN d) R R' p L o K := h.below (Below.drewM (Below.refl _ _) d)
theorem IvS.set (h : IvS T w W R R' p L o K) {q : Nat} (hq : K q) (j : Nat) (v : Value) : IvS T w (W.setCell ⟨q, j, none⟩ v) R R' p L o K := by
  obtain ⟨h1, h2, h3⟩ := h.keep q hq
  exact ⟨mv_kept h.it (by simp) fun k hk => Below.heap_setCell _ _ _ _ (fun e => h3 ((show k = q from e) ▸ hk)), h.sub, h.chg.set (fun hlt => by omega) j v, fun k hk => by simpa using h.keep k hk⟩
theorem IvS.alloc (h : IvS T w W R R' p L o K) (b : Obj) : IvS T w (W.alloc b) R R' p L o fun k => K k ∨ k = W.heap.size := by
  have h' := h.below ((Below.refl _ W).alloc (Nat.le_refl _) b)
  refine ⟨h'.it, h'.sub, h'.chg, fun k hk => ?_⟩
  rcases hk with hk | rfl
  · exact h'.keep k hk
  · refine ⟨by simp, h.chg.size, fun hr => ?_⟩
    have := mv_lt h.it _ hr
    omega
theorem IvS.less (h : IvS T w W R R' p L o K) (hK : ∀ k, K' k → K k) : IvS T w W R R' p L o K' := ⟨h.it, h.sub, h.chg, fun k hk => h.keep k (hK k hk)⟩
theorem IvS.post (h : IvS T w W R R' p L o K) : MgPost (MgV T) R p L o w W := ⟨R', h.it, h.sub, h.chg⟩
theorem MgV.box (h : MgV T W R p L o) : ∃ c0 c1 c2 c3 c4, Box W p TVw #[c0, c1, c2, c3, c4, T.sq, T.wb, T.ws, T.wp, T.ak, T.av, T.is] ∧ R p := by
  obtain ⟨RL, la, lc, x, hv, h1, h2⟩ := h
  exact ⟨_, _, _, _, _, h1.box, h1.rp.1⟩
/-- What a view keeps behind its iterator. -/
theorem MgV.cells (h : MgV T W R p L o) : W.cell? ⟨p, 5, none⟩ = some T.sq ∧ W.cell? ⟨p, 6, none⟩ = some T.wb ∧ W.cell? ⟨p, 7, none⟩ = some T.ws ∧ W.cell? ⟨p, 8, none⟩ = some T.wp ∧ W.cell? ⟨p, 9, none⟩ = some T.ak ∧ W.cell? ⟨p, 10, none⟩ = some T.av ∧ W.cell? ⟨p, 11, none⟩ = some T.is := by
  obtain ⟨c0, c1, c2, c3, c4, hb, _⟩ := h.box
  exact ⟨hb.cell 5, hb.cell 6, hb.cell 7, hb.cell 8, hb.cell 9, hb.cell 10, hb.cell 11⟩
theorem MgV.soft (h : MgV T W R p L o) (j : Nat) : W.frozen? ⟨p, j, none⟩ = false := by
  obtain ⟨c0, c1, c2, c3, c4, hb, _⟩ := h.box
  exact hb.soft j
theorem MgV.rise (h : MgV T W R p L o) : RiseL L := by
  obtain ⟨RL, la, lc, x, hv, h1, h2⟩ := h
  exact h1.rise
/-- One of the cells behind the iterator is written. -/
theorem MgV.put (h : MgV T W R p L o) (j : Nat) (v : Value) (hj : ∀ c0 c1 c2 c3 c4 : Value, (#[c0, c1, c2, c3, c4, T.sq, T.wb, T.ws, T.wp, T.ak, T.av, T.is] : Array Value).setIfInBounds j v = #[c0, c1, c2, c3, c4, T'.sq, T'.wb, T'.ws, T'.wp, T'.ak, T'.av, T'.is]) : MgV T' (W.setCell ⟨p, j, none⟩ v) R p L o := by
  obtain ⟨RL, la, lc, x, hv, h1, h2⟩ := h
  have hne : ∀ k, RL k → k ≠ p := fun k hk e => h1.rp.2 (e ▸ hk)
  refine ⟨RL, la, lc, x, hv, ⟨(h1.box.set j v).eq (hj _ _ _ _ _), fun k hk => by simpa using h1.lt k hk, h1.rp, h1.rl, h1.ls.kept fun k hr => Below.heap_setCell _ _ _ _ (hne k hr), h1.rise, h1.few⟩, fun i e => ?_⟩
  obtain ⟨up, hp, pa, pc, ps, v', e1, h3⟩ := h2 i e
  refine ⟨up, hp, pa, pc, ps, v', e1, ⟨h3.hd.kept (Below.heap_setCell _ _ _ _ (tag_ne h3.hd.box.tag h1.box.tag (by decide))) fun k hk => Below.heap_setCell _ _ _ _ (tag_ne (h3.hd.row.tag hk) h1.box.tag (by decide)), h3.rh, h3.rp, h3.gp, h3.cut, h3.at', h3.next, h3.prev⟩⟩
theorem IvS.put (h : IvS T w W R R' p L o K) (j : Nat) (v : Value) (hj : ∀ c0 c1 c2 c3 c4 : Value, (#[c0, c1, c2, c3, c4, T.sq, T.wb, T.ws, T.wp, T.ak, T.av, T.is] : Array Value).setIfInBounds j v = #[c0, c1, c2, c3, c4, T'.sq, T'.wb, T'.ws, T'.wp, T'.ak, T'.av, T'.is]) : IvS T' w (W.setCell ⟨p, j, none⟩ v) R R' p L o K :=
  ⟨h.it.put j v hj, h.sub, h.chg.set (fun hlt => by
    obtain ⟨_, _, _, _, _, _, hr⟩ := h.it.box
    rcases h.sub p hr with h4 | h4
    · exact h4
    · omega) j v, fun k hk => by simpa using h.keep k hk⟩
/-- Where the iterator is, as its cells tell it. -/
def posW (L : List (List KV)) (p : Nat) (W : World) : Option Nat :=
  match W.cell? ⟨p, 1, none⟩, W.cell? ⟨p, 2, none⟩, W.cell? ⟨p, 3, none⟩ with
  | some (.int _ a), some (.int _ b), some (.bool true) => some ((allP L).idxOf (a.toNat, b.toNat))
  | _, _, _ => none
theorem MgV.pos (h : MgV T W R p L o) : posW L p W = o := by
  obtain ⟨RL, la, lc, x, hv, h1, h2⟩ := h
  have c1 : W.cell? ⟨p, 1, none⟩ = some (.int .i64 (x.1 : Int)) := h1.box.cell 1
  have c2 : W.cell? ⟨p, 2, none⟩ = some (.int .i64 (x.2 : Int)) := h1.box.cell 2
  have c3 : W.cell? ⟨p, 3, none⟩ = some (.bool o.isSome) := h1.box.cell 3
  unfold posW
  rw [c1, c2, c3]
  cases o with
  | none => rfl
  | some i =>
    obtain ⟨up, hp, pa, pc, ps, v, e1, h3⟩ := h2 i rfl
    obtain ⟨hi, he⟩ := List.getElem?_eq_some_iff.1 h3.at'
    have hnd : (allP L).Nodup := (perm_all L).nodup_iff.2 (nodup_places L)
    show some ((allP L).idxOf (((x.1 : Int)).toNat, ((x.2 : Int)).toNat)) = some i
    have e : (((x.1 : Int)).toNat, ((x.2 : Int)).toNat) = (allP L)[i] := by rw [he]; simp
    rw [e, hnd.idxOf_getElem i hi]
/-- How far it is to the end of the way. -/
def farV (n : Nat) (up : Bool) : Option Nat → Nat
  | none => 0
  | some m => if up then n - m else m + 1
end
end Go.Proofs.Ytjoamhcehpjepab
