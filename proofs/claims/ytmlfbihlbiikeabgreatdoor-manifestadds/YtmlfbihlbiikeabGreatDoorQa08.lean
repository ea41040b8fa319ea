/- The contracts of manifest's mayNumber, form.name, form.number and Name; the package variables that the library reads. -/
import Derived.Test.YtmlfbihlbiikeabGreatDoorQa07
import Derived.Deep.RegionHeld3
import Derived.Laws.Concat
import Derived.Test.YtmlfbihlbiikeabGreatDoorRows
import Derived.Deep.DeepHandedRow
import Derived.Deep.DeepLaidRun
import Derived.Lib.LaidTab
import Derived.Lib.TrailingZeros
import Derived.LaidSub
import Derived.MakeChecks
import Derived.Shelf.Vars
import Derived.Test.YtmlfbihlbiikeabGreatDoorQa05
namespace Go.Proofs.YtmlfbihlbiikeabGreatDoor
open Go.Shelf Go.RowKit Go.Lib
set_option linter.unusedVariables false
set_option linter.unusedSimpArgs false
structure Gl (w : World) : Prop where
  pow : Pow w
  syn : ∃ tp p, w.var? Tryz.prog "strconv.ErrSyntax" = some #[.iface tp p]
  rng : ∃ tp p, w.var? Tryz.prog "strconv.ErrRange" = some #[.iface tp p]
theorem gl_pow : Tryz.prog.globalNamed "internal/strconv.uint64pow10" = some 2 := by kernel_rfl
theorem gl_syn : Tryz.prog.globalNamed "strconv.ErrSyntax" = some 0 := by kernel_rfl
theorem gl_rng : Tryz.prog.globalNamed "strconv.ErrRange" = some 1 := by kernel_rfl
theorem var_same {w w' : World} {name : String} {g : Nat} (hg : Tryz.prog.globalNamed name = some g) (e : w'.heap[g]? = w.heap[g]?) : w'.var? Tryz.prog name = w.var? Tryz.prog name := by
  unfold World.var?
  rw [hg]
  simp [e]
theorem var_lt {w : World} {name : String} {g : Nat} {x : Array Value} (hg : Tryz.prog.globalNamed name = some g) (h : w.var? Tryz.prog name = some x) : g < w.heap.size := by
  unfold World.var? at h
  rw [hg] at h
  simp only [Option.bind_some] at h
  cases e : w.heap[g]? with
  | none => rw [e] at h; cases h
  | some o => exact (Array.getElem?_eq_some_iff.1 e).1
theorem Gl.below {B : Nat} {w w' : World} (h : Gl w) (hB : w.heap.size ≤ B) (hb : Below B w w') : Gl w' := by
  obtain ⟨t1, p1, h1⟩ := h.syn
  obtain ⟨t2, p2, h2⟩ := h.rng
  have l1 := var_lt gl_syn h1
  have l2 := var_lt gl_rng h2
  have l0 : 2 < w.heap.size := by
    have := h.pow
    unfold Pow Lib.TabIs at this
    exact var_lt gl_pow this
  refine ⟨?_, ⟨t1, p1, ?_⟩, ⟨t2, p2, ?_⟩⟩
  · have := h.pow
    unfold Pow Lib.TabIs at this ⊢
    rw [var_same gl_pow (hb.block _ (by omega))]
    exact this
  · rw [var_same gl_syn (hb.block _ (by omega))]
    exact h1
  · rw [var_same gl_rng (hb.block _ (by omega))]
    exact h2
theorem Gl.later {w w' : World} (h : Gl w) (hb : Below w.heap.size w w') : Gl w' := h.below (Nat.le_refl _) hb
theorem Gl.kp {R : Nat → Prop} {w w' : World} (h : Gl w) (hk : Kp R w w') (hR : ∀ g, g < 6 → R g) : Gl w' := by
  obtain ⟨t1, p1, h1⟩ := h.syn
  obtain ⟨t2, p2, h2⟩ := h.rng
  have l1 := var_lt gl_syn h1
  have l2 := var_lt gl_rng h2
  have l0 : 2 < w.heap.size := by
    have := h.pow
    unfold Pow Lib.TabIs at this
    exact var_lt gl_pow this
  refine ⟨?_, ⟨t1, p1, ?_⟩, ⟨t2, p2, ?_⟩⟩
  · have := h.pow
    unfold Pow Lib.TabIs at this ⊢
    rw [var_same gl_pow (hk.block _ (hR _ (by decide)) (by omega))]
    exact this
  · rw [var_same gl_syn (hk.block _ (hR _ (by decide)) (by omega))]
    exact h1
  · rw [var_same gl_rng (hk.block _ (hR _ (by decide)) (by omega))]
    exact h2
def mayN (n : Nat) : Bool := decide (1 ≤ n ∧ n ≤ 1099511627776)
theorem may_any (n : Nat) (w : World) : Calls Tryz.prog 51 #[.int .u64 (n : Int)] w fun e w' => e = .returned (.bool (mayN n)) ∧ w = w' := by
  go_enter Tryz.func51, Tryz.ntmps51
  by_cases h1 : (1 : Int) ≤ (n : Int)
  · by_cases h2 : (n : Int) ≤ 1099511627776
    · go_wp2
      go_ret
      exact ⟨ret1 (by unfold mayN; simp; omega), rfl⟩
    · go_wp2
      go_ret
      exact ⟨ret1 (by unfold mayN; simp; omega), rfl⟩
  · go_wp2
    go_ret
    exact ⟨ret1 (by unfold mayN; simp; omega), rfl⟩
def madeN (a b : List UInt8) (nb : Bool) (n : Nat) : List UInt8 := a ++ ((if nb then numB n else []) ++ b)
theorem strOf_size (l : List UInt8) : (strOf l).size = l.length := by
  show l.toArray.size = l.length
  simp
theorem strOf_add (a b : List UInt8) : strOf a ++ strOf b = strOf (a ++ b) := by
  unfold strOf
  exact ByteArray.mk_append_mk _ _
theorem dec_any (n : Nat) (h : n < 18446744073709551616) : (decDigits n).length ≤ 20 := dec_len 19 n (by omega)
theorem numB_any (n : Nat) (h : n < 18446744073709551616) : (numB n).length ≤ 26 := by
  have := dec_any n h
  unfold numB pad6
  rw [List.length_append, List.length_replicate]
  omega
theorem rep_eq (c : Nat) : Lib.repeatL [48] c = List.replicate c 48 := by
  induction c with
  | zero => rfl
  | succ c ih =>
    show [48] ++ Lib.repeatL [48] c = _
    rw [ih, List.replicate_succ]
    rfl
set_option maxRecDepth 100000 in
set_option maxHeartbeats 1000000 in
theorem fname_any (a b : List UInt8) (nb : Bool) (n : Nat) (ha : a.length ≤ 1000) (hb : b.length ≤ 1000) (hn : n < 18446744073709551616) (w : World) (hg : Gl w) :
    Calls Tryz.prog 52 #[.agg #[.string (strOf a), .string (strOf b), .bool nb], .int .u64 (n : Int)] w fun e w' => e = .returned (.string (strOf (madeN a b nb n))) ∧ Below w.heap.size w w' := by
  have HB : Hid (Below w.heap.size w (w.alloc (.cells #[.string (strOf a), .string (strOf b), .bool nb] TFm)) ∧ Gl w) := ⟨(Below.refl _ _).alloc (Nat.le_refl _) _, hg⟩
  have hdl := numB_any n hn
  have HD := dec_any n hn
  cases nb with
  | false =>
    have s1 : ∀ V : World, (Op.stringOp .add (strOf a) ⟨#[]⟩).run Tryz.prog V = .ok (.string (strOf a)) V := fun V => by
      have := run_string_add_sum (P := Tryz.prog) V (strOf a) (strOf []) (by rw [strOf_size, strOf_size]; simp; omega)
      rw [strOf_add, List.append_nil] at this
      exact this
    have s2 : ∀ V : World, (Op.stringOp .add (strOf a) (strOf b)).run Tryz.prog V = .ok (.string (strOf (a ++ b))) V := fun V => by
      rw [run_string_add_sum (P := Tryz.prog) V _ _ (by rw [strOf_size, strOf_size]; omega), strOf_add]
    have hE : madeN a b false n = a ++ b := rfl
    rw [hE]
    generalize strOf (a ++ b) = X at s2 ⊢
    generalize strOf a = A at *
    generalize strOf b = Bq at *
    clear hg
    go_enter Tryz.func52, Tryz.ntmps52
    go_wp2
    go_ret
    exact ⟨rfl, HB.out.1⟩
  | true =>
    have s1 : ∀ V : World, (Op.stringOp .add (strOf a) (strOf (numB n))).run Tryz.prog V = .ok (.string (strOf (a ++ numB n))) V := fun V => by
      rw [run_string_add_sum (P := Tryz.prog) V _ _ (by rw [strOf_size, strOf_size]; omega), strOf_add]
    have s2 : ∀ V : World, (Op.stringOp .add (strOf (a ++ numB n)) (strOf b)).run Tryz.prog V = .ok (.string (strOf (madeN a b true n))) V := fun V => by
      rw [run_string_add_sum (P := Tryz.prog) V _ _ (by rw [strOf_size, strOf_size, List.length_append]; omega), strOf_add, List.append_assoc]
      rfl
    obtain ⟨m, hm⟩ : ∃ m : Nat, m = 6 - (decDigits n).length := ⟨_, rfl⟩
    have HMX : Hid (max (0 : Int) (6 - ((decDigits n).length : Int)) = (m : Int)) := by unfold Hid; omega
    have s0 : ∀ V : World, (Op.stringOp .add (strOf (List.replicate m 48)) (strOf (decDigits n))).run Tryz.prog V = .ok (.string (strOf (numB n))) V := fun V => by
      rw [run_string_add_sum (P := Tryz.prog) V _ _ (by rw [strOf_size, strOf_size, List.length_replicate]; omega), strOf_add, hm]
      rfl
    have hrep : ∀ V : World, Calls Tryz.prog 93 #[.string ⟨#[48]⟩, .int .i64 (m : Int)] V fun e w' => e = .returned (.string (strOf (List.replicate m 48))) ∧ Below V.heap.size V w' := fun V => by
      have := Any.strings_Repeat repL repX ⟨#[48]⟩ m V (by omega) (by show 1 * m ≤ _; omega)
      have e : Lib.repeatL (⟨#[48]⟩ : ByteArray).data.toList m = List.replicate m 48 := rep_eq m
      rw [e] at this
      exact this
    have hsz : (strOf (decDigits n)).size = (decDigits n).length := strOf_size _
    have HFM := fun V (h : Gl V) => fmt_any n hn V h.pow
    have eS : ∀ l : List UInt8, (⟨l.toArray⟩ : ByteArray) = strOf l := fun l => rfl
    simp only [eS] at HFM
    generalize strOf (madeN a b true n) = X at s2 ⊢
    generalize strOf (a ++ numB n) = Y at s1 s2
    generalize strOf (numB n) = Z at s0 s1
    generalize strOf (decDigits n) = Dq at *
    generalize strOf (List.replicate m 48) = Rq at *
    generalize (decDigits n).length = d at *
    generalize strOf a = A at *
    generalize strOf b = Bq at *
    clear hg eS
    go_enter Tryz.func52, Tryz.ntmps52
    go_wp2_with fail
    refine (HFM _ (HB.out.2.later HB.out.1)).mono ?_
    rintro _ w2 ⟨rfl, hb2⟩
    have H2 : Hid (Below w.heap.size w w2 ∧ Box w2 w.heap.size TFm #[.string A, .string Bq, .bool true]) := ⟨HB.out.1.trans (hb2.mono HB.out.1.size), (Box.new _ _ _).kept (hb2.block _ (by simp))⟩
    have c0 := H2.out.2.cell 0
    have c1 := H2.out.2.cell 1
    clear hb2
    go_wp2_with fail
    rw [HMX.out]
    refine (hrep _).mono ?_
    rintro _ w3 ⟨rfl, hb3⟩
    have H3 : Hid (Below w.heap.size w w3 ∧ Box w3 w.heap.size TFm #[.string A, .string Bq, .bool true]) := ⟨H2.out.1.trans (hb3.mono H2.out.1.size), H2.out.2.kept (hb3.block _ H2.out.2.lt)⟩
    have d0 := H3.out.2.cell 0
    have d1 := H3.out.2.cell 1
    clear hb3
    go_wp2
    go_ret
    exact ⟨rfl, H3.out.1⟩
theorem made_name (k : Int) (n : Nat) : (if fmN k = true ∧ mayN n = false then [] else madeN (fmA k) (fmB k) (fmN k) n) = nameP k n := by
  unfold nameP
  by_cases h4 : k = 4
  · subst h4; rfl
  rw [if_neg h4]
  by_cases h5 : k = 5
  · subst h5; rfl
  rw [if_neg h5]
  by_cases hk : k = 1 ∨ k = 2 ∨ k = 3
  · have hN : fmN k = true := decide_eq_true hk
    by_cases hm : n < 1 ∨ 1099511627776 < n
    · rw [if_pos hm, if_pos ⟨hN, decide_eq_false (by omega)⟩]
    · rw [if_neg hm, if_neg (fun h => by have := h.2; unfold mayN at this; rw [decide_eq_true (by omega)] at this; cases this)]
      rcases hk with rfl | rfl | rfl
      · rfl
      · rfl
      · show manB ++ (numB n ++ []) = _
        rw [List.append_nil]
        rfl
  · have hN : fmN k = false := decide_eq_false hk
    rw [if_neg (fun h => by rw [hN] at h; cases h.1)]
    have e : madeN (fmA k) (fmB k) (fmN k) n = [] := by
      unfold madeN fmA fmB
      rw [hN, if_neg (show ¬ k = 3 by omega), if_neg h4, if_neg h5, if_neg (show ¬ k = 1 by omega), if_neg (show ¬ k = 2 by omega)]
      rfl
    rw [e]
    split
    · rfl
    · rw [if_neg (by omega), if_neg (by omega), if_neg (by omega)]
theorem fmA_len (k : Int) : (fmA k).length ≤ 1000 := by
  unfold fmA
  split
  · decide
  · split
    · decide
    · split <;> decide
theorem fmB_len (k : Int) : (fmB k).length ≤ 1000 := by
  unfold fmB
  split
  · decide
  · split <;> decide
set_option maxRecDepth 100000 in
set_option maxHeartbeats 1000000 in
theorem name_any (k : Int) (hk : WfI k) (n : Nat) (hn : n < 18446744073709551616) (w : World) (hg : Gl w) :
    Calls Tryz.prog 19 #[.int .i64 k, .int .u64 (n : Int)] w fun e w' => e = .returned (.string (strOf (nameP k n))) ∧ Below w.heap.size w w' := by
  have HL := fun (W : World) (b : Nat) (h : MpF W b) => MpF.look h hk
  have HM := fun (W : World) => may_any n W
  have HNM := fun (W : World) (h : Gl W) => fname_any (fmA k) (fmB k) (fmN k) n (fmA_len k) (fmB_len k) hn W h
  have HG : Hid (Gl w) := hg
  have HP := made_name k n
  unfold fmV at HL
  generalize nameP k n = Y at *
  generalize strOf (fmA k) = A at *
  generalize strOf (fmB k) = Bq at *
  generalize hX : madeN (fmA k) (fmB k) (fmN k) n = X at *
  clear hX hg hk
  cases hN : fmN k with
  | false =>
    rw [hN] at HP HL HNM
    rw [if_neg (by simp)] at HP
    subst HP
    go_enter Tryz.func19, Tryz.ntmps19
    go_wp2_with fail
    refine (forms_any _).mono ?_
    rintro _ w2 ⟨b, rfl, hF, hbb, hb2⟩
    have hl := HL w2 b hF
    have H2 : Hid (Below w.heap.size w (w2.alloc (.cells #[.string A, .string Bq, .bool false] TFm))) := hb2.alloc (by have := hb2.size; omega) _
    clear hF hbb hb2
    go_wp2_with fail
    refine (HNM _ (HG.out.later H2.out)).mono ?_
    rintro _ w3 ⟨rfl, hb3⟩
    have H3 : Hid (Below w.heap.size w w3) := H2.out.trans (hb3.mono H2.out.size)
    go_wp2
    go_ret
    exact ⟨rfl, H3.out⟩
  | true =>
    rw [hN] at HP HL HNM
    go_enter Tryz.func19, Tryz.ntmps19
    go_wp2_with fail
    refine (forms_any _).mono ?_
    rintro _ w2 ⟨b, rfl, hF, hbb, hb2⟩
    have hl := HL w2 b hF
    have H2 : Hid (Below w.heap.size w (w2.alloc (.cells #[.string A, .string Bq, .bool true] TFm))) := hb2.alloc (by have := hb2.size; omega) _
    clear hF hbb hb2
    go_wp2_with fail
    refine (HM _).mono ?_
    rintro _ w3 ⟨rfl, rfl⟩
    cases hm : mayN n with
    | false =>
      rw [if_pos ⟨trivial, hm⟩] at HP
      subst HP
      go_wp2
      go_ret
      exact ⟨rfl, H2.out⟩
    | true =>
      rw [if_neg (fun h => by rw [hm] at h; cases h.2)] at HP
      subst HP
      go_wp2_with fail
      refine (HNM _ (HG.out.later H2.out)).mono ?_
      rintro _ w3 ⟨rfl, hb3⟩
      have H3 : Hid (Below w.heap.size w w3) := H2.out.trans (hb3.mono H2.out.size)
      go_wp2
      go_ret
      exact ⟨rfl, H3.out⟩
end Go.Proofs.YtmlfbihlbiikeabGreatDoor
namespace Go.Proofs.YtmlfbihlbiikeabGreatDoor
open Go.RowKit
set_option linter.unusedVariables false
def theLaid : List (String × DataW Unit) := Rows.manifestNilRow.laid
theorem g_pow : Tryz.prog.globalNamed "internal/strconv.uint64pow10" = some 2 := by kernel_rfl
theorem t_pow : (Tryz.prog.globals[2]?).map (·.type) = some 246 := by kernel_rfl
theorem c_pow : Tryz.prog.cellsOf 246 = 20 := by kernel_rfl
theorem c_u64 : Tryz.prog.cellsOf 23 = 1 := by kernel_rfl
theorem g_tab : Tryz.prog.globalNamed "math/bits.deBruijn64tab" = some 5 := by kernel_rfl
theorem pow_laid {W : World} (h : laidMetH Tryz.prog theLaid W) : Pow W := by
  have h1 := h.filter (fun x => x.1 == "internal/strconv.uint64pow10")
  have e : theLaid.filter (fun x => x.1 == "internal/strconv.uint64pow10") = [("internal/strconv.uint64pow10", Lib.tabData .u64 Lib.pow10Tab)] := by rfl
  rw [e] at h1
  exact Lib.tabIs_of_head (rest := []) g_pow t_pow Tryz.underlying246 Tryz.underlying23 c_u64 c_pow h1
theorem size_laid {W : World} (h : laidMetH Tryz.prog theLaid W) : 6 ≤ W.heap.size := by
  have h1 := h.filter (fun x => x.1 == "math/bits.deBruijn64tab")
  have e : ∃ d, theLaid.filter (fun x => x.1 == "math/bits.deBruijn64tab") = [("math/bits.deBruijn64tab", d)] ∧ d.handleName?.isNone = true := ⟨_, rfl, rfl⟩
  obtain ⟨d, e, hd⟩ := e
  rw [e] at h1
  rw [MakeChecks.laidMetH_plain _ _ _ (by simp [hd])] at h1
  obtain ⟨ps, ⟨g', t', cs, fuel, p, q, hg', ht', hvar, hd, _, _⟩, _⟩ := h1
  obtain rfl := Option.some.inj (g_tab.symm.trans hg')
  exact var_lt g_tab hvar
theorem iface_trod {H : Type} {enc : TypeId × Value → H} {w : World} {base : Nat} {sp : Nat → Bool} {fuel : Nat} {t : TypeId} {cs : List Value} {n : String} {d : DataW H} {p : List MemPlace} {l : _} (hu : Tryz.prog.underlying t = some (.interface l)) (h : DataW.trod enc Tryz.prog w base sp false fuel t cs = some (.iface n d, p)) : ∃ u v, cs = [.iface u v] := by
  cases fuel with
  | zero => simp [DataW.trod] at h
  | succ f =>
    unfold DataW.trod at h
    rw [hu] at h
    split at h <;> simp_all
theorem sent_laid {W : World} {name : String} {g : Nat} {t : TypeId} {l : _} {n : String} {d : DataW Unit} (hg : Tryz.prog.globalNamed name = some g) (hty : (Tryz.prog.globals[g]?).map (·.type) = some t) (hu : Tryz.prog.underlying t = some (.interface l)) (h : laidMet Tryz.prog [(name, DataW.iface n d)] W) : ∃ tp p, W.var? Tryz.prog name = some #[.iface tp p] := by
  obtain ⟨ps, ⟨g', t', cs, fuel, p, q, hg', ht', hvar, hd, _, _⟩, _⟩ := h
  obtain rfl := Option.some.inj (hg.symm.trans hg')
  obtain rfl := Option.some.inj (hty.symm.trans ht')
  obtain ⟨u, v, hcs⟩ := iface_trod hu hd
  refine ⟨u, v, ?_⟩
  rw [hvar, show cs = #[Value.iface u v] from Array.toList_inj.1 hcs]
theorem syn_laid {W : World} (h : laidMetH Tryz.prog theLaid W) : ∃ tp p, W.var? Tryz.prog "strconv.ErrSyntax" = some #[.iface tp p] := by
  have h1 := h.filter (fun x => x.1 == "strconv.ErrSyntax")
  have e : theLaid.filter (fun x => x.1 == "strconv.ErrSyntax") = [("strconv.ErrSyntax", Rows.laid_strconv_ErrSyntax)] := by rfl
  rw [e] at h1
  rw [MakeChecks.laidMetH_plain _ _ _ (by rfl)] at h1
  exact sent_laid gl_syn (by kernel_rfl : (Tryz.prog.globals[0]?).map (·.type) = some 155) Tryz.underlying155 h1
theorem rng_laid {W : World} (h : laidMetH Tryz.prog theLaid W) : ∃ tp p, W.var? Tryz.prog "strconv.ErrRange" = some #[.iface tp p] := by
  have h1 := h.filter (fun x => x.1 == "strconv.ErrRange")
  have e : theLaid.filter (fun x => x.1 == "strconv.ErrRange") = [("strconv.ErrRange", Rows.laid_strconv_ErrRange)] := by rfl
  rw [e] at h1
  rw [MakeChecks.laidMetH_plain _ _ _ (by rfl)] at h1
  exact sent_laid gl_rng (by kernel_rfl : (Tryz.prog.globals[1]?).map (·.type) = some 155) Tryz.underlying155 h1
theorem gl_of {W : World} (h : laidMetH Tryz.prog theLaid W) : Gl W := ⟨pow_laid h, syn_laid h, rng_laid h⟩
def nums (k : IntKind) (l : List Int) : Array Value := (l.map fun (n : Int) => Value.int k n).toArray
def laidHeap (h : Array Obj) : Array Obj :=
  (((((((h.setIfInBounds 4 (.cells (nums .u8 (Lib.deBruijn32tab.map Int.ofNat)) 263)).setIfInBounds 5 (.cells (nums .u8 (Lib.deBruijn64tab.map Int.ofNat)) 264)).setIfInBounds 2 (.cells (nums .u64 Lib.pow10Tab) 246)).setIfInBounds 1 (.cells #[.iface 256 (.pointer (some ⟨h.size, 0, none⟩))] 155)).setIfInBounds 0 (.cells #[.iface 256 (.pointer (some ⟨h.size + 1, 0, none⟩))] 155)).push (.cells #[.string "value out of range".toUTF8] 258)).push (.cells #[.string "invalid syntax".toUTF8] 258))
end Go.Proofs.YtmlfbihlbiikeabGreatDoor
namespace Go.Proofs.YtmlfbihlbiikeabGreatDoor
open Go.RowKit
set_option linter.unusedVariables false
set_option linter.unusedSimpArgs false
abbrev TFi : TypeId := 151
set_option maxRecDepth 100000 in
set_option maxHeartbeats 1000000 in
theorem newer_any (f g : PF) (w : World) : Calls Tryz.prog 115 #[.agg #[.int .i64 f.level, .int .u64 (f.num : Int), .int .i64 f.size, .string f.small.user, .int .u64 (f.small.seq : Int), .int .i64 f.small.kind, .string f.large.user, .int .u64 (f.large.seq : Int), .int .i64 f.large.kind], .agg #[.int .i64 g.level, .int .u64 (g.num : Int), .int .i64 g.size, .string g.small.user, .int .u64 (g.small.seq : Int), .int .i64 g.small.kind, .string g.large.user, .int .u64 (g.large.seq : Int), .int .i64 g.large.kind]] w fun e w' => e = .returned (.bool (decide (g.num < f.num))) ∧ Below w.heap.size w w' := by
  have HW : Hid (Below w.heap.size w ((w.alloc (.cells (fA f) TFi)).alloc (.cells (fA g) TFi))) := ((Below.refl _ _).alloc (Nat.le_refl _) _).alloc (by simp) _
  go_enter Tryz.func115, Tryz.ntmps115
  go_wp2
  go_ret
  exact ⟨by simp, HW.out⟩
set_option maxRecDepth 100000 in
set_option maxHeartbeats 1000000 in
theorem below_any (f g : PF) (w : World) : Calls Tryz.prog 116 #[.agg #[.int .i64 f.level, .int .u64 (f.num : Int), .int .i64 f.size, .string f.small.user, .int .u64 (f.small.seq : Int), .int .i64 f.small.kind, .string f.large.user, .int .u64 (f.large.seq : Int), .int .i64 f.large.kind], .agg #[.int .i64 g.level, .int .u64 (g.num : Int), .int .i64 g.size, .string g.small.user, .int .u64 (g.small.seq : Int), .int .i64 g.small.kind, .string g.large.user, .int .u64 (g.large.seq : Int), .int .i64 g.large.kind]] w fun e w' => e = .returned (.bool (decide (apartF f g))) ∧ Below w.heap.size w w' := by
  have HW : Hid (Below w.heap.size w ((w.alloc (.cells (fA f) TFi)).alloc (.cells (fA g) TFi))) := ((Below.refl _ _).alloc (Nat.le_refl _) _).alloc (by simp) _
  go_enter Tryz.func116, Tryz.ntmps116
  go_wp2
  go_ret
  exact ⟨by simp [apartF, ul], HW.out⟩
def ordV (n : Nat) : Value := .func (.func (if n = 0 then 115 else 116)) #[] #[]
set_option maxRecDepth 100000 in
theorem orderOf_any (n : Nat) (w : World) : Calls Tryz.prog 85 #[.int .i64 (n : Int)] w fun e w' => e = .returned (ordV n) ∧ w = w' := by
  unfold ordV
  go_enter Tryz.func85, Tryz.ntmps85
  by_cases h : n = 0
  · subst h
    go_wp2
    go_ret
    exact ⟨ret1 rfl, rfl⟩
  · have hb : ((n : Int) == 0) = false := beq_eq_false_iff_ne.2 (by omega)
    rw [if_neg h]
    go_wp2
    go_ret
    exact ⟨ret1 rfl, rfl⟩
end Go.Proofs.YtmlfbihlbiikeabGreatDoor
namespace Go.Proofs.YtmlfbihlbiikeabGreatDoor
open Go.RowKit
set_option linter.unusedVariables false
set_option linter.unusedSimpArgs false
theorem ins_go {a j : Nat} {d : Array Nat} (h : a < j) (hl : lN d[j]! d[j - 1]! = true) : Sort.insInner lN a j d = Sort.insInner lN a (j - 1) (Sort.swp d j (j - 1)) := by
  cases j with
  | zero => omega
  | succ k =>
    rw [Nat.add_sub_cancel] at hl ⊢
    rw [Sort.insInner, if_pos (by rw [hl]; simpa using h)]
theorem ins_no {a j : Nat} {d : Array Nat} (h : j ≤ a ∨ lN d[j]! d[j - 1]! = false) : Sort.insInner lN a j d = d := by
  cases j with
  | zero => rw [Sort.insInner]
  | succ k =>
    rw [Nat.add_sub_cancel] at h
    rw [Sort.insInner, if_neg]
    rw [Bool.and_eq_true, decide_eq_true_eq]
    rintro ⟨h1, h2⟩
    rcases h with h | h
    · omega
    · rw [h] at h2
      cases h2
set_option maxRecDepth 100000 in
set_option maxHeartbeats 8000000 in
theorem ins_at (g o c a b n : Nat) (d : Array Nat) (w : World) (hR : Rw w w g o d) (hn : d.size = n) (hab : a ≤ b) (hb : b ≤ n) (hm : n < 4611686018427387904) :
    Calls Tryz.prog 164 #[.slice (some ⟨g, o, none⟩) n c, .int .i64 (a : Int), .int .i64 (b : Int)] w fun e w' => e = .returned (.tuple #[]) ∧ Rw w w' g o (Sort.insertionSort lN d a b) := by
  have HR : Hid (Rw w w g o d ∧ d.size = n) := ⟨hR, hn⟩
  clear hR hn
  go_enter Tryz.func164, Tryz.ntmps164
  go_wp2
  go_loopg [6] (b - a) (fun kx s6 wr => ∃ (i : Nat) (di : Array Nat), s6 = .int .i64 (i : Int) ∧ a < i ∧ i ≤ b + 1 ∧ kx = b + 1 - i ∧ Hid (Rw w wr g o di ∧ di.size = n ∧ Sort.insOuter lN a b i di = Sort.insOuter lN a b (a + 1) d))
  case atStart => exact ⟨a + 1, d, by go_num, by omega, by omega, by omega, HR.out.1, HR.out.2, rfl⟩
  case round =>
    obtain ⟨i, di, rfl, hai, hib, rfl, HI⟩ := hrel
    by_cases hlt : i < b
    · go_wp2
      go_loopg [7] (i + 1) (fun kx s7 wq => ∃ (j : Nat) (dj : Array Nat), s7 = .int .i64 (j : Int) ∧ a ≤ j ∧ j ≤ i ∧ kx = j + 1 ∧ Hid (Rw w wq g o dj ∧ dj.size = n ∧ Sort.insInner lN a j dj = Sort.insInner lN a i di))
      case atStart => exact ⟨i, di, rfl, by omega, Nat.le_refl _, rfl, HI.out.1, HI.out.2.1, rfl⟩
      case round =>
        obtain ⟨j, dj, rfl, haj, hji, rfl, HJ⟩ := hrel
        obtain ⟨G, HG, hcw, hfw⟩ := HJ.out.1.fam HJ.out.2.1
        have OUT : Hid (Sort.insInner lN a j dj = dj → ∀ W, Rw w W g o dj → Rw w W g o dj ∧ dj.size = n ∧ Sort.insOuter lN a b (i + 1) dj = Sort.insOuter lN a b (a + 1) d) := fun he W hW => by
          refine ⟨hW, HJ.out.2.1, ?_⟩
          rw [← HI.out.2.2]
          conv => rhs; rw [Sort.insOuter, if_pos hlt, ← HJ.out.2.2, he]
        by_cases hja : a < j
        · cases hl : lN (G j) (G (j - 1))
          all_goals have HL : Hid (lN (G j) (G (j - 1)) = _) := hl
          all_goals clear hl
          all_goals go_wp2_with fail
          all_goals go_quiet (first | (go_at_call 170; refine Calls.quiet_of_same (less_any _ _ _)))
          all_goals simp only [HL.out]
          · go_wp2
            go_roundg (b - i)
            case measure => omega
            case rel => exact ⟨i + 1, dj, by go_num, by omega, by omega, by omega, OUT.out (ins_no (.inr (by rw [← HG.out, ← HG.out]; exact HL.out))) _ (HJ.out.1.drewN nq)⟩
          · go_wp2
            go_region
            all_goals go_wp2
            go_roundg j
            case measure => omega
            case rel =>
              refine ⟨j - 1, Sort.swp dj j (j - 1), by congr 1; omega, by omega, by omega, by omega, ?_, by rw [Sort.size_swp]; exact HJ.out.2.1, ?_⟩
              · rw [HG.out, HG.out]
                exact HJ.out.1.swap (by rw [HJ.out.2.1]; omega) (by rw [HJ.out.2.1]; omega) _
              · rw [← HJ.out.2.2, ins_go hja (by rw [← HG.out, ← HG.out]; exact HL.out)]
        · go_wp2_with fail
          go_quiet (first | (go_at_call 170; refine Calls.quiet_of_same (less_any _ _ _)))
          go_wp2
          go_roundg (b - i)
          case measure => omega
          case rel => exact ⟨i + 1, dj, by go_num, by omega, by omega, by omega, OUT.out (ins_no (.inl (by omega))) _ (HJ.out.1.drewN nq)⟩
    · go_wp2
      go_end0
      refine ⟨rfl, ?_⟩
      have h3 := HI.out.2.2
      rw [Sort.insOuter, if_neg hlt] at h3
      unfold Sort.insertionSort
      rw [← h3]
      exact HI.out.1
theorem rev_go {i j : Nat} {d : Array Nat} (h : i < j) : Sort.reverseLoop i j d = Sort.reverseLoop (i + 1) (j - 1) (Sort.swp d i j) := by
  rw [Sort.reverseLoop, if_pos h]
theorem rev_no {i j : Nat} {d : Array Nat} (h : ¬ i < j) : Sort.reverseLoop i j d = d := by
  rw [Sort.reverseLoop, if_neg h]
set_option maxRecDepth 100000 in
set_option maxHeartbeats 8000000 in
theorem rev_at (g o c a b n : Nat) (d : Array Nat) (w : World) (hR : Rw w w g o d) (hn : d.size = n) (hab : a < b) (hb : b ≤ n) (hm : n < 4611686018427387904) :
    Calls Tryz.prog 168 #[.slice (some ⟨g, o, none⟩) n c, .int .i64 (a : Int), .int .i64 (b : Int)] w fun e w' => e = .returned (.tuple #[]) ∧ Rw w w' g o (Sort.reverseRange d a b) := by
  have HR : Hid (Rw w w g o d ∧ d.size = n) := ⟨hR, hn⟩
  clear hR hn
  go_enter Tryz.func168, Tryz.ntmps168
  go_wp2
  go_loopg [6, 7] (b - a) (fun kx s6 s7 wr => ∃ (i j : Nat) (di : Array Nat), s6 = .int .i64 (i : Int) ∧ s7 = .int .i64 (j : Int) ∧ a ≤ i ∧ j < b ∧ i ≤ j + 1 ∧ kx = j + 1 - i ∧ Hid (Rw w wr g o di ∧ di.size = n ∧ Sort.reverseLoop i j di = Sort.reverseLoop a (b - 1) d))
  case atStart => exact ⟨a, b - 1, d, rfl, by congr 1; omega, by omega, by omega, by omega, by omega, HR.out.1, HR.out.2, rfl⟩
  case round =>
    obtain ⟨i, j, di, rfl, rfl, hai, hjb, hij, rfl, HI⟩ := hrel
    obtain ⟨G, HG, hcw, hfw⟩ := HI.out.1.fam HI.out.2.1
    by_cases hlt : i < j
    · go_wp2
      go_region
      all_goals go_wp2
      go_roundg (j - 1 + 1 - (i + 1))
      case measure => omega
      case rel =>
        refine ⟨i + 1, j - 1, Sort.swp di i j, by go_num, by congr 1; omega, by omega, by omega, by omega, rfl, ?_, by rw [Sort.size_swp]; exact HI.out.2.1, ?_⟩
        · rw [HG.out, HG.out]
          exact HI.out.1.swap (by rw [HI.out.2.1]; omega) (by rw [HI.out.2.1]; omega) _
        · rw [← HI.out.2.2]
          exact (rev_go hlt).symm
    · go_wp2
      go_end0
      refine ⟨rfl, ?_⟩
      have h3 := HI.out.2.2
      rw [rev_no hlt] at h3
      unfold Sort.reverseRange
      rw [← h3]
      exact HI.out.1
end Go.Proofs.YtmlfbihlbiikeabGreatDoor
