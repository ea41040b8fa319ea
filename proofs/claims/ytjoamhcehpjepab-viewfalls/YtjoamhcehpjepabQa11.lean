/- Merge's heads are laid: lay, on, back. -/
import Derived.Test.YtjoamhcehpjepabQa10
namespace Go.Proofs.Ytjoamhcehpjepab
open Go.RowKit
set_option linter.unusedVariables false
set_option linter.unusedSimpArgs false
section
variable {w w' : World} {B hp : Nat} {la : Option Addr} {ln lc : Nat} {up : Bool} {pa : Option Addr} {pc : Nat} {ps : List PlL} {last : PlL} {L : List (List KV)}
def LayP (w : World) (B hp : Nat) (la : Option Addr) (ln lc : Nat) (up : Bool) (last : PlL) (L : List (List KV)) (ps : List PlL) (i : Nat) (x : Int) (w' : World) : Prop := ∃ (qs : List PlL) (pa' : Option Addr) (pc' : Nat), Hd w' B hp la ln lc up pa' pc' qs last ∧ Below B w w' ∧ HeapF (ltD L up) qs.length 0 (fun k => qs.getD k d0) ∧ ((0 ≤ x ∧ x < (lenL L i : Int)) → qs.Perm (ps ++ [(i, x.toNat)])) ∧ (¬ (0 ≤ x ∧ x < (lenL L i : Int)) → qs.Perm ps)
set_option maxRecDepth 100000 in
set_option maxHeartbeats 4000000 in
theorem lay_any (h : Hd w B hp la ln lc up pa pc ps last) (hB : B ≤ w.heap.size) (hl : ∀ W, Below B w W → LsAt W la ln lc L) {i : Nat} (hi : i < ln) (x : Int) (hv : InL L ln ps) (hsz : ps.length + 1 ≤ 1000000) (hh : HeapF (ltD L up) ps.length 0 (fun k => ps.getD k d0)) :
    Calls Try.prog 35 #[at_ hp, plV i x] w fun e w' => e = .returned (.tuple #[]) ∧ LayP w B hp la ln lc up last L ps i x w' := by
  have HH : Hid (Hd w B hp la ln lc up pa pc ps last ∧ (∀ W, Below B w W → LsAt W la ln lc L) ∧ InL L ln ps ∧ ps.length + 1 ≤ 1000000 ∧ HeapF (ltD L up) ps.length 0 (fun k => ps.getD k d0)) := ⟨h, hl, hv, hsz, hh⟩
  have HHAS : Hid (∀ W, Below B w W → Calls Try.prog 47 #[.slice la ln lc, .agg #[.int .i64 (i : Int), .int .i64 x]] W fun e w' => e = .returned (.bool (decide (0 ≤ x ∧ x < (lenL L i : Int)))) ∧ Below W.heap.size W w') := fun W hW => has_any (hl W hW) hi x
  have HHV : Hid (∀ W, Below w.heap.size (w.alloc (.cells #[.int .i64 (i : Int), .int .i64 x] TPl)) W → (w.alloc (.cells #[.int .i64 (i : Int), .int .i64 x] TPl)).heap.size ≤ W.heap.size → W.heap[w.heap.size]? = (w.alloc (.cells #[.int .i64 (i : Int), .int .i64 x] TPl)).heap[w.heap.size]? → W.cell? ⟨hp, 0, none⟩ = some (.slice la ln lc) ∧ W.cell? ⟨w.heap.size, 0, none⟩ = some (.int .i64 (i : Int)) ∧ W.cell? ⟨w.heap.size, 1, none⟩ = some (.int .i64 x)) := fun W hW hs hk => by
    have h1 := (h.box.alloc (.cells #[.int .i64 (i : Int), .int .i64 x] TPl)).kept (hW.block _ h.box.lt)
    have h2 := (Box.new w TPl #[.int .i64 (i : Int), .int .i64 x]).kept hk
    exact ⟨h1.cell 0, h2.cell 0, h2.cell 1⟩
  obtain ⟨bb, hbb⟩ : ∃ b, decide (0 ≤ x ∧ x < (lenL L i : Int)) = b := ⟨_, rfl⟩
  rw [hbb] at HHAS
  have HBB : Hid (decide (0 ≤ x ∧ x < (lenL L i : Int)) = bb) := hbb
  clear h hl hv hsz hh hbb
  go_enter Try.func35, Try.ntmps35
  go_wp2_with fail
  have HB0 : Hid (Below (w.alloc (.cells #[.int .i64 (i : Int), .int .i64 x] TPl)).heap.size (w.alloc (.cells #[.int .i64 (i : Int), .int .i64 x] TPl)) (w.alloc (.cells #[.int .i64 (i : Int), .int .i64 x] TPl)).drew) := (Below.refl _ _).drew
  have HX : Hid (∀ W, Below (w.alloc (.cells #[.int .i64 (i : Int), .int .i64 x] TPl)).heap.size (w.alloc (.cells #[.int .i64 (i : Int), .int .i64 x] TPl)) W → (W.cell? ⟨hp, 0, none⟩ = some (.slice la ln lc) ∧ W.cell? ⟨w.heap.size, 0, none⟩ = some (.int .i64 (i : Int)) ∧ W.cell? ⟨w.heap.size, 1, none⟩ = some (.int .i64 x)) ∧ Below w.heap.size w W) := fun W hW => ⟨HHV.out W (hW.mono (by simp)) hW.size (hW.block _ (by simp)), ((Below.refl _ _).alloc (Nat.le_refl _) _).trans (hW.mono (by simp))⟩
  clear HHV
  generalize w.alloc (.cells #[.int .i64 (i : Int), .int .i64 x] TPl) = w1 at HB0 HX ⊢
  obtain ⟨⟨x0, x1, x2⟩, _⟩ := HX.out _ HB0.out
  go_region_held3 (fun V => V.cell? ⟨hp, 0, none⟩ = some (.slice la ln lc) ∧ V.cell? ⟨w.heap.size, 0, none⟩ = some (.int .i64 (i : Int)) ∧ V.cell? ⟨w.heap.size, 1, none⟩ = some (.int .i64 x)) (first | exact ⟨x0, x1, x2⟩ | go_keep)
    (first
     | (go_at_call 47; refine (HHAS.out _ ((HX.out _ HB0.out).2.mono hB)).mono ?_; rintro _ vx ⟨rfl, hbx⟩
        have HB0 : Hid (Below w1.heap.size w1 vx) := HB0.out.trans (hbx.mono HB0.out.size)
        obtain ⟨⟨x0, x1, x2⟩, _⟩ := HX.out _ HB0.out
        clear hbx))
  have HVX : Hid (Below w.heap.size w vx) := (HX.out _ HB0.out).2
  clear HX HB0 HHAS
  cases bb with
  | true =>
    have hxx : 0 ≤ x ∧ x < (lenL L i : Int) := of_decide_eq_true HBB.out
    obtain ⟨xn, rfl⟩ : ∃ n : Nat, x = (n : Int) := ⟨x.toNat, by omega⟩
    have HXX : Hid (0 ≤ (xn : Int) ∧ (xn : Int) < (lenL L i : Int)) := hxx
    clear hxx
    have HP : Hid (∀ W, Below B w W → W = vx → Calls Try.prog 48 #[.iface 50 (at_ hp), .iface TPl (.agg #[.int .i64 (i : Int), .int .i64 (xn : Int)])] W fun e w' => e = .returned (.tuple #[]) ∧ LayP w B hp la ln lc up last L ps i (xn : Int) w') := fun W hW e => by
      have hd : Hd W B hp la ln lc up pa pc ps last := by rw [e]; exact HH.out.1.below HVX.out
      refine (push_any (L := L) hd (i, xn) (Nat.le_trans hB hW.size) (fun V hV => HH.out.2.1 V (hW.trans hV)) (fun q hq => ?_) HH.out.2.2.2.1 HH.out.2.2.2.2).mono ?_
      · rcases List.mem_append.1 hq with hq | hq
        · exact HH.out.2.2.1 q hq
        · obtain rfl := List.mem_singleton.1 hq
          exact ⟨hi, show xn < lenL L i by have := HXX.out.2; omega⟩
      · rintro _ w5 ⟨rfl, qs, pa', pc', g1, g2, g3, g4⟩
        exact ⟨rfl, qs, pa', pc', g2, hW.trans g3, g4, fun _ => by simpa using g1, fun hno => absurd HXX.out hno⟩
    have HVD : Hid (Below B w vx) := HVX.out.mono hB
    go_wp2_with fail
    refine (HP.out _ HVD.out rfl).mono ?_
    rintro _ vy ⟨rfl, hy⟩
    have HY : Hid (LayP w B hp la ln lc up last L ps i (xn : Int) vy) := hy
    clear hy
    go_wp2
    go_end0
    exact ⟨rfl, HY.out⟩
  | false =>
    have hx : ¬ (0 ≤ x ∧ x < (lenL L i : Int)) := of_decide_eq_false HBB.out
    have HF : Hid (LayP w B hp la ln lc up last L ps i x vx) := ⟨ps, pa, pc, HH.out.1.below HVX.out, HVX.out.mono hB, HH.out.2.2.2.2, fun h => absurd h hx, fun _ => List.Perm.refl _⟩
    clear hx
    go_wp2
    go_end0
    exact ⟨rfl, HF.out⟩
/-- What stands next to a gap, on or back. -/
def NextD (L : List (List KV)) : Bool → (Nat → Nat) → PlL → Prop
  | true, v, q => q.2 = v q.1 ∧ q.2 < lenL L q.1
  | false, v, q => q.2 + 1 = v q.1
/-- These are the heads of the first lists. -/
structure Gp (L : List (List KV)) (up : Bool) (v : Nat → Nat) (i : Nat) (ps : List PlL) : Prop where
  mem : ∀ q, q ∈ ps ↔ q.1 < i ∧ NextD L up v q
  nodup : ps.Nodup
  heap : HeapF (ltD L up) ps.length 0 (fun k => ps.getD k d0)
  len : ps.length ≤ i
theorem Gp.start (L : List (List KV)) (up : Bool) (v : Nat → Nat) : Gp L up v 0 [] := ⟨fun q => ⟨fun h => (by cases h), fun h => absurd h.1 (Nat.not_lt_zero _)⟩, List.nodup_nil, fun p _ j _ hj => absurd hj (Nat.not_lt_zero _), Nat.le_refl _⟩
theorem NextD.valid {v : Nat → Nat} {q : PlL} (hv : ∀ i, v i ≤ lenL L i) (h : NextD L up v q) : validL L q := by
  cases up with
  | true => exact h.2
  | false => have := hv q.1; have h' : q.2 + 1 = v q.1 := h; show q.2 < lenL L q.1; omega
theorem Gp.inL {v : Nat → Nat} {i n : Nat} (h : Gp L up v i ps) (hv : ∀ i, v i ≤ lenL L i) (hi : i ≤ n) : InL L n ps := fun q hq => by
  obtain ⟨h1, h2⟩ := (h.mem q).1 hq
  exact ⟨by omega, h2.valid hv⟩
theorem Gp.skip {v : Nat → Nat} {i : Nat} {qs : List PlL} (h : Gp L up v i ps) (hp : qs.Perm ps) (hh : HeapF (ltD L up) qs.length 0 (fun k => qs.getD k d0)) (hno : ∀ j, ¬ NextD L up v (i, j)) : Gp L up v (i + 1) qs :=
  ⟨fun q => by
    rw [hp.mem_iff, h.mem]
    refine ⟨fun ⟨a, b⟩ => ⟨by omega, b⟩, fun ⟨a, b⟩ => ⟨?_, b⟩⟩
    obtain ⟨x, y⟩ := q
    dsimp only at a ⊢
    by_cases e : x = i
    · subst e; exact absurd b (hno y)
    · omega, hp.nodup_iff.2 h.nodup, hh, by rw [hp.length_eq]; have := h.len; omega⟩
theorem Gp.more {v : Nat → Nat} {i j : Nat} {qs : List PlL} (h : Gp L up v i ps) (hp : qs.Perm (ps ++ [(i, j)])) (hh : HeapF (ltD L up) qs.length 0 (fun k => qs.getD k d0)) (hj : ∀ y, NextD L up v (i, y) ↔ y = j) : Gp L up v (i + 1) qs :=
  ⟨fun q => by
    rw [hp.mem_iff, List.mem_append, h.mem, List.mem_singleton]
    obtain ⟨x, y⟩ := q
    dsimp only
    constructor
    · rintro (⟨a, b⟩ | e)
      · exact ⟨by omega, b⟩
      · simp only [Prod.mk.injEq] at e
        obtain ⟨rfl, rfl⟩ := e
        exact ⟨by omega, (hj _).2 rfl⟩
    · rintro ⟨a, b⟩
      by_cases e : x = i
      · subst e
        rw [(hj y).1 b]
        exact .inr rfl
      · exact .inl ⟨by omega, b⟩, by
    rw [hp.nodup_iff, List.nodup_append]
    refine ⟨h.nodup, by simp, fun a ha b hb e => ?_⟩
    obtain rfl := List.mem_singleton.1 hb
    subst e
    exact absurd ((h.mem _).1 ha).1 (Nat.lt_irrefl _), hh, by
    rw [hp.length_eq, List.length_append]
    have := h.len
    simp; omega⟩
def OnP (w : World) (la : Option Addr) (ln lc : Nat) (up : Bool) (L : List (List KV)) (v : Nat → Nat) (e : Ending) (w' : World) : Prop := ∃ (hp : Nat) (pa : Option Addr) (pc : Nat) (ps : List PlL), e = .returned (at_ hp) ∧ Hd w' w.heap.size hp la ln lc up pa pc ps d0 ∧ Below w.heap.size w w' ∧ Gp L up v ln ps
set_option maxRecDepth 100000 in
set_option maxHeartbeats 8000000 in
theorem on_any (fc : Nat) (f1 : Value) (hl : LsAt w la ln lc L) (hln : ln ≤ 1000) {v : Nat → Nat} (hv : ∀ i, v i ≤ lenL L i) (hfew : ∀ i, lenL L i ≤ 4000000000000)
    (hfc : ∀ (W : World) (i : Int), (callFunc fc #[f1, .int .i64 i]).run Try.prog W = .ok (.enter fc #[f1, .int .i64 i]) W)
    (hc : ∀ W, Below w.heap.size w W → ∀ i : Nat, i < ln → Calls Try.prog fc #[f1, .int .i64 (i : Int)] W fun e w' => e = .returned (.int .i64 (v i : Int)) ∧ Below W.heap.size W w') :
    Calls Try.prog 22 #[.slice la ln lc, .func (.func fc) #[f1] #[]] w fun e w' => OnP w la ln lc true L v e w' := by
  have hmf : ∀ (fn : Fn) (first cap : Array Value) (w : World), (Instr.makeFunc fn first cap).run Try.prog w = .ok (.func fn first cap) w := fun _ _ _ _ => rfl
  have HL : Hid (LsAt w la ln lc L ∧ (∀ i, v i ≤ lenL L i) ∧ ∀ i, lenL L i ≤ 4000000000000) := ⟨hl, hv, hfew⟩
  have HC : Hid (∀ W, Below w.heap.size w W → ∀ i : Nat, i < ln → Calls Try.prog fc #[f1, .int .i64 (i : Int)] W fun e w' => e = .returned (.int .i64 (v i : Int)) ∧ Below W.heap.size W w') := hc
  have HI0 : Hid (∃ (pa : Option Addr) (pc : Nat) (ps : List PlL), Hd (w.alloc (.cells #[.slice la ln lc, .int .i64 (1), .func (.func 34) #[.slice la ln lc] #[], .slice none 0 0, .int .i64 0, .int .i64 0] THd)) w.heap.size w.heap.size la ln lc true pa pc ps d0 ∧ Below w.heap.size w (w.alloc (.cells #[.slice la ln lc, .int .i64 (1), .func (.func 34) #[.slice la ln lc] #[], .slice none 0 0, .int .i64 0, .int .i64 0] THd)) ∧ Gp L true v 0 ps) :=
    ⟨none, 0, [], ⟨Nat.le_refl _, Box.new _ _ _, OwnP.nil _ _⟩, (Below.refl _ _).alloc (Nat.le_refl _) _, Gp.start L true v⟩
  clear hl hc hv hfew
  go_enter Try.func22, Try.ntmps22
  go_wp2_with fail
  go_loopw [15] (fun s15 wr => ∃ (i : Nat), i ≤ ln ∧ s15 = .int .i64 (i : Int) ∧ Hid (∃ (pa : Option Addr) (pc : Nat) (ps : List PlL), Hd wr w.heap.size w.heap.size la ln lc true pa pc ps d0 ∧ Below w.heap.size w wr ∧ Gp L true v i ps)) (fun s15 _ => ln - (intOf s15).toNat)
  case atStart => exact ⟨0, Nat.zero_le _, rfl, HI0.out⟩
  case round =>
    clear HI0
    obtain ⟨i, hin, rfl, HI⟩ := hrel
    by_cases hi : i < ln
    · have hiI : (i : Int) < (ln : Int) := by omega
      go_wp2_with fail
      obtain ⟨pa, pc, ps, hd, hb, hg⟩ := HI.out
      have HJ : Hid (Hd wr w.heap.size w.heap.size la ln lc true pa pc ps d0 ∧ Below w.heap.size w wr ∧ Gp L true v i ps) := ⟨hd, hb, hg⟩
      clear hd hb hg HI
      refine (HC.out _ HJ.out.2.1 i hi).mono ?_
      rintro _ w2 ⟨rfl, hb2⟩
      have H2 : Hid (Hd w2 w.heap.size w.heap.size la ln lc true pa pc ps d0 ∧ Below w.heap.size w w2 ∧ Gp L true v i ps) := ⟨HJ.out.1.below hb2, HJ.out.2.1.trans (hb2.mono HJ.out.2.1.size), HJ.out.2.2⟩
      clear hb2 HJ
      have hvb := HL.out.2.1 i
      have hvc := HL.out.2.2 i
      have HSTEP : Hid (∀ (ps qs : List PlL), Gp L true v i ps → HeapF (ltD L true) qs.length 0 (fun k => qs.getD k d0) → ((0 ≤ (v i : Int) ∧ (v i : Int) < (lenL L i : Int)) → qs.Perm (ps ++ [(i, ((v i : Int)).toNat)])) → (¬ (0 ≤ (v i : Int) ∧ (v i : Int) < (lenL L i : Int)) → qs.Perm ps) → Gp L true v (i + 1) qs) := fun ps qs hg hh h1 h2 => by
        by_cases hx : v i < lenL L i
        · refine hg.more (j := v i) (by simpa using h1 ⟨by omega, by omega⟩) hh fun y => ⟨fun h => h.1, fun h => ?_⟩
          subst h
          exact ⟨rfl, hx⟩
        · exact hg.skip (h2 (by omega)) hh fun j h => hx (by obtain ⟨h1, h2⟩ := h; dsimp only at h1 h2; omega)
      obtain ⟨xv, hxv⟩ : ∃ x : Int, x = (v i : Int) := ⟨_, rfl⟩
      rw [← hxv] at HSTEP ⊢
      clear hxv hvb hvc
      go_wp2_with fail
      refine (lay_any H2.out.1 H2.out.2.1.size (fun W hW => HL.out.1.below (H2.out.2.1.trans hW)) hi xv (H2.out.2.2.inL HL.out.2.1 (by omega)) (by have := H2.out.2.2.len; omega) H2.out.2.2.heap).mono ?_
      rintro _ w3 ⟨rfl, qs, pa', pc', g1, g2, g3, g4, g5⟩
      have H3 : Hid (∃ (pa : Option Addr) (pc : Nat) (ps : List PlL), Hd w3 w.heap.size w.heap.size la ln lc true pa pc ps d0 ∧ Below w.heap.size w w3 ∧ Gp L true v (i + 1) ps) := ⟨pa', pc', qs, g1, H2.out.2.1.trans g2, HSTEP.out _ _ H2.out.2.2 g3 g4 g5⟩
      clear g1 g2 g3 g4 g5 H2
      go_wp2
      go_roundw
      case rel => exact ⟨i + 1, by omega, by go_num, H3.out⟩
      case measure => simp only [intOf]; omega
    · obtain rfl : i = ln := by omega
      obtain ⟨pa, pc, ps, hd, hb, hg⟩ := HI.out
      have HF : Hid (Hd wr w.heap.size w.heap.size la i lc true pa pc ps d0 ∧ Below w.heap.size w wr ∧ Gp L true v i ps) := ⟨hd, hb, hg⟩
      clear hd hb hg HI
      go_wp2
      go_ret
      exact ⟨w.heap.size, pa, pc, ps, rfl, HF.out⟩
set_option maxRecDepth 100000 in
set_option maxHeartbeats 8000000 in
theorem back_any (fc : Nat) (f1 : Value) (hl : LsAt w la ln lc L) (hln : ln ≤ 1000) {v : Nat → Nat} (hv : ∀ i, v i ≤ lenL L i) (hfew : ∀ i, lenL L i ≤ 4000000000000)
    (hfc : ∀ (W : World) (i : Int), (callFunc fc #[f1, .int .i64 i]).run Try.prog W = .ok (.enter fc #[f1, .int .i64 i]) W)
    (hc : ∀ W, Below w.heap.size w W → ∀ i : Nat, i < ln → Calls Try.prog fc #[f1, .int .i64 (i : Int)] W fun e w' => e = .returned (.int .i64 (v i : Int)) ∧ Below W.heap.size W w') :
    Calls Try.prog 42 #[.slice la ln lc, .func (.func fc) #[f1] #[]] w fun e w' => OnP w la ln lc false L v e w' := by
  have hmf : ∀ (fn : Fn) (first cap : Array Value) (w : World), (Instr.makeFunc fn first cap).run Try.prog w = .ok (.func fn first cap) w := fun _ _ _ _ => rfl
  have HL : Hid (LsAt w la ln lc L ∧ (∀ i, v i ≤ lenL L i) ∧ ∀ i, lenL L i ≤ 4000000000000) := ⟨hl, hv, hfew⟩
  have HC : Hid (∀ W, Below w.heap.size w W → ∀ i : Nat, i < ln → Calls Try.prog fc #[f1, .int .i64 (i : Int)] W fun e w' => e = .returned (.int .i64 (v i : Int)) ∧ Below W.heap.size W w') := hc
  have HI0 : Hid (∃ (pa : Option Addr) (pc : Nat) (ps : List PlL), Hd (w.alloc (.cells #[.slice la ln lc, .int .i64 (-1), .func (.func 51) #[.slice la ln lc] #[], .slice none 0 0, .int .i64 0, .int .i64 0] THd)) w.heap.size w.heap.size la ln lc false pa pc ps d0 ∧ Below w.heap.size w (w.alloc (.cells #[.slice la ln lc, .int .i64 (-1), .func (.func 51) #[.slice la ln lc] #[], .slice none 0 0, .int .i64 0, .int .i64 0] THd)) ∧ Gp L false v 0 ps) :=
    ⟨none, 0, [], ⟨Nat.le_refl _, Box.new _ _ _, OwnP.nil _ _⟩, (Below.refl _ _).alloc (Nat.le_refl _) _, Gp.start L false v⟩
  clear hl hc hv hfew
  go_enter Try.func42, Try.ntmps42
  go_wp2_with fail
  go_loopw [15] (fun s15 wr => ∃ (i : Nat), i ≤ ln ∧ s15 = .int .i64 (i : Int) ∧ Hid (∃ (pa : Option Addr) (pc : Nat) (ps : List PlL), Hd wr w.heap.size w.heap.size la ln lc false pa pc ps d0 ∧ Below w.heap.size w wr ∧ Gp L false v i ps)) (fun s15 _ => ln - (intOf s15).toNat)
  case atStart => exact ⟨0, Nat.zero_le _, rfl, HI0.out⟩
  case round =>
    clear HI0
    obtain ⟨i, hin, rfl, HI⟩ := hrel
    by_cases hi : i < ln
    · have hiI : (i : Int) < (ln : Int) := by omega
      go_wp2_with fail
      obtain ⟨pa, pc, ps, hd, hb, hg⟩ := HI.out
      have HJ : Hid (Hd wr w.heap.size w.heap.size la ln lc false pa pc ps d0 ∧ Below w.heap.size w wr ∧ Gp L false v i ps) := ⟨hd, hb, hg⟩
      clear hd hb hg HI
      refine (HC.out _ HJ.out.2.1 i hi).mono ?_
      rintro _ w2 ⟨rfl, hb2⟩
      have H2 : Hid (Hd w2 w.heap.size w.heap.size la ln lc false pa pc ps d0 ∧ Below w.heap.size w w2 ∧ Gp L false v i ps) := ⟨HJ.out.1.below hb2, HJ.out.2.1.trans (hb2.mono HJ.out.2.1.size), HJ.out.2.2⟩
      clear hb2 HJ
      have hvb := HL.out.2.1 i
      have hvc := HL.out.2.2 i
      have HSTEP : Hid (∀ (ps qs : List PlL), Gp L false v i ps → HeapF (ltD L false) qs.length 0 (fun k => qs.getD k d0) → ((0 ≤ (v i : Int) - 1 ∧ (v i : Int) - 1 < (lenL L i : Int)) → qs.Perm (ps ++ [(i, ((v i : Int) - 1).toNat)])) → (¬ (0 ≤ (v i : Int) - 1 ∧ (v i : Int) - 1 < (lenL L i : Int)) → qs.Perm ps) → Gp L false v (i + 1) qs) := fun ps qs hg hh h1 h2 => by
        by_cases hx : 0 < v i
        · refine hg.more (j := v i - 1) ?_ hh fun y => ⟨fun h => ?_, fun h => ?_⟩
          · rw [show v i - 1 = ((v i : Int) - 1).toNat by omega]
            exact h1 ⟨by omega, by omega⟩
          · have h' : y + 1 = v i := h
            omega
          · show y + 1 = v i
            omega
        · exact hg.skip (h2 (by omega)) hh fun j h => hx (by have h' : j + 1 = v i := h; omega)
      have hw1 : IntKind.i64.wrap ((v i : Int) - 1) = (v i : Int) - 1 := by rw [IntKind.wrap_i64]; omega
      go_wp2_with fail
      refine (lay_any H2.out.1 H2.out.2.1.size (fun W hW => HL.out.1.below (H2.out.2.1.trans hW)) hi ((v i : Int) - 1) (H2.out.2.2.inL HL.out.2.1 (by omega)) (by have := H2.out.2.2.len; omega) H2.out.2.2.heap).mono ?_
      rintro _ w3 ⟨rfl, qs, pa', pc', g1, g2, g3, g4, g5⟩
      have H3 : Hid (∃ (pa : Option Addr) (pc : Nat) (ps : List PlL), Hd w3 w.heap.size w.heap.size la ln lc false pa pc ps d0 ∧ Below w.heap.size w w3 ∧ Gp L false v (i + 1) ps) := ⟨pa', pc', qs, g1, H2.out.2.1.trans g2, HSTEP.out _ _ H2.out.2.2 g3 g4 g5⟩
      clear g1 g2 g3 g4 g5 H2
      go_wp2
      go_roundw
      case rel => exact ⟨i + 1, by omega, by go_num, H3.out⟩
      case measure => simp only [intOf]; omega
    · obtain rfl : i = ln := by omega
      obtain ⟨pa, pc, ps, hd, hb, hg⟩ := HI.out
      have HF : Hid (Hd wr w.heap.size w.heap.size la i lc false pa pc ps d0 ∧ Below w.heap.size w wr ∧ Gp L false v i ps) := ⟨hd, hb, hg⟩
      clear hd hb hg HI
      go_wp2
      go_ret
      exact ⟨w.heap.size, pa, pc, ps, rfl, HF.out⟩
end
end Go.Proofs.Ytjoamhcehpjepab
/- What comes first is taken, plainly. -/
namespace Go.Proofs.Ytjoamhcehpjepab
open Go.RowKit
set_option linter.unusedVariables false
set_option linter.unusedSimpArgs false
def stepV : Bool → (Nat → Nat) → Nat → Nat → Nat
  | true, v, b => fun i => if i = b then v b + 1 else v i
  | false, v, b => fun i => if i = b then v b - 1 else v i
section
variable {up : Bool} {ps qs : List PlL} {L : List (List KV)} {v : Nat → Nat} {ln : Nat} {x : PlL}
theorem Gp.top (h : Gp L up v ln ps) (hL : RiseL L) (hv : ∀ i, v i ≤ lenL L i) (hne : 0 < ps.length) {q : PlL} (hq : q ∈ ps) (hqx : q ≠ ps.getD 0 d0) : ltD L up (ps.getD 0 d0) q := by
  obtain ⟨k, hk, rfl⟩ := List.getElem_of_mem hq
  have h1 := h.heap.top (ltD_ord L up) k hk
  have e : ps.getD k d0 = ps[k] := by simp [List.getD, hk]
  rw [e] at h1
  have hx : ps.getD 0 d0 ∈ ps := by simp [List.getD, hne]
  have v1 := ((h.mem _).1 hx).2.valid hv
  have v2 := ((h.mem _).1 hq).2.valid hv
  rcases ahead_total hL v1 v2 with e | e | e
  · exact absurd e.symm hqx
  · cases up with
    | true => exact e
    | false => exact absurd e h1
  · cases up with
    | true => exact absurd e h1
    | false => exact e
theorem NextD.lt (hv : ∀ i, v i ≤ lenL L i) {q : PlL} (h : NextD L up v q) : q.1 < L.length := by
  have := h.valid hv
  apply Classical.byContradiction
  intro hn
  have h2 := lenL_out (L := L) (i := q.1) (by omega)
  have h3 : q.2 < lenL L q.1 := this
  omega
theorem sum_down {b : Nat} (hb : 0 < v b) {n : Nat} (hbn : b < n) : sumV (stepV false v b) n + 1 = sumV v n := by
  have h := sum_upd (stepV false v b) b n hbn
  rw [← h]
  congr 1
  funext i
  unfold stepV
  dsimp only
  by_cases e : i = b
  · subst e; simp; omega
  · simp [e]
/-- Where the taken one stands, and the new cut. -/
theorem Gp.cut (h : Gp L up v L.length ps) (hL : RiseL L) (hc : CutL L v) (hne : 0 < ps.length) : CutL L (stepV up v (ps.getD 0 d0).1) ∧
    (up = true → (allP L)[sumV v L.length]? = some (ps.getD 0 d0) ∧ sumV (stepV up v (ps.getD 0 d0).1) L.length = sumV v L.length + 1) ∧
    (up = false → (allP L)[sumV (stepV up v (ps.getD 0 d0).1) L.length]? = some (ps.getD 0 d0) ∧ sumV (stepV up v (ps.getD 0 d0).1) L.length + 1 = sumV v L.length) := by
  have hx : ps.getD 0 d0 ∈ ps := by simp [List.getD, hne]
  have hn := ((h.mem _).1 hx)
  have htop := fun q (hq : q ∈ ps) (hqx : q ≠ ps.getD 0 d0) => h.top hL hc.le hne hq hqx
  generalize ps.getD 0 d0 = x at hn htop ⊢
  obtain ⟨b, j⟩ := x
  obtain ⟨hb, hn⟩ := hn
  dsimp only at hb ⊢
  cases up with
  | true =>
    obtain ⟨e, hj⟩ := hn
    dsimp only at e hj
    subst e
    obtain ⟨g1, g2⟩ := cut_next hL hc hj fun i hi hib => htop (i, v i) ((h.mem _).2 ⟨NextD.lt (up := true) (v := v) hc.le ⟨rfl, hi⟩, rfl, hi⟩) (fun e => hib (Prod.mk.inj e).1)
    exact ⟨g2, fun _ => ⟨g1, sum_upd v b _ hb⟩, fun e => (by cases e)⟩
  | false =>
    have e : j + 1 = v b := hn
    have hj : j = v b - 1 := by omega
    subst hj
    have hb0 : 0 < v b := by omega
    obtain ⟨g1, g2⟩ := cut_prev hL hc hb0 fun i hi hib => by
      have h1 : NextD L false v (i, v i - 1) := show v i - 1 + 1 = v i by omega
      exact htop (i, v i - 1) ((h.mem _).2 ⟨h1.lt hc.le, h1⟩) (fun e => hib (Prod.mk.inj e).1)
    exact ⟨g1, fun e => (by cases e), fun _ => ⟨g2, sum_down hb0 hb⟩⟩
/-- What stands next behind one that was taken. -/
theorem next_step {up : Bool} {v : Nat → Nat} {x : PlL} (hx : NextD L up v x) (hv : ∀ i, v i ≤ lenL L i) (q : PlL) : NextD L up (stepV up v x.1) q ↔ (q.1 = x.1 ∧ 0 ≤ (x.2 : Int) + stepI up ∧ (x.2 : Int) + stepI up < (lenL L x.1 : Int) ∧ (q.2 : Int) = (x.2 : Int) + stepI up) ∨ (q.1 ≠ x.1 ∧ NextD L up v q) := by
  obtain ⟨b, j⟩ := x
  obtain ⟨i, y⟩ := q
  dsimp only
  cases up with
  | true =>
    obtain ⟨e, hj⟩ := hx
    dsimp only at e hj
    subst e
    by_cases e : i = b
    · subst e
      simp only [NextD, stepV, stepI, if_true, true_and, ne_eq, not_true, false_and, or_false]
      omega
    · simp only [NextD, stepV, e, if_false, false_and, false_or, ne_eq, not_false_iff, true_and]
  | false =>
    have e0 : j + 1 = v b := hx
    have hvb := hv b
    by_cases e : i = b
    · subst e
      simp only [NextD, stepV, stepI, if_true, true_and, ne_eq, not_true, false_and, or_false]
      omega
    · simp only [NextD, stepV, e, if_false, false_and, false_or, ne_eq, not_false_iff, true_and]
theorem head_one (h : Gp L up v ln ps) {q x : PlL} (hq : q ∈ ps) (hx : x ∈ ps) (e : q.1 = x.1) : q = x := by
  have h1 := ((h.mem _).1 hq).2
  have h2 := ((h.mem _).1 hx).2
  obtain ⟨b, j⟩ := x
  obtain ⟨i, y⟩ := q
  dsimp only at e
  subst e
  cases up with
  | true =>
    have := h1.1; have := h2.1
    dsimp only at *
    simp; omega
  | false =>
    have a1 : y + 1 = v i := h1
    have a2 : j + 1 = v i := h2
    simp; omega
/-- Another one of its list stands in its place. -/
theorem Gp.fixed (h : Gp L up v ln ps) (hv : ∀ i, v i ≤ lenL L i) (hne : 0 < ps.length) {j : Nat} (hj : (j : Int) = ((ps.getD 0 d0).2 : Int) + stepI up) (hlt : j < lenL L (ps.getD 0 d0).1) (hp : qs.Perm (ps.set 0 ((ps.getD 0 d0).1, j))) (hh : HeapF (ltD L up) qs.length 0 (fun k => qs.getD k d0)) : Gp L up (stepV up v (ps.getD 0 d0).1) ln qs := by
  cases ps with
  | nil => exact absurd hne (Nat.lt_irrefl _)
  | cons x t =>
    have hx0 : (x :: t).getD 0 d0 = x := rfl
    rw [hx0] at hj hlt hp ⊢
    have hxm : x ∈ x :: t := by simp
    have hn := ((h.mem _).1 hxm)
    have hnd := List.nodup_cons.1 h.nodup
    have hst : (x :: t).set 0 (x.1, j) = (x.1, j) :: t := rfl
    rw [hst] at hp
    have key : ∀ q, q ∈ t ↔ q ∈ x :: t ∧ q.1 ≠ x.1 := fun q => by
      constructor
      · intro hq
        refine ⟨by simp [hq], fun e => ?_⟩
        have := head_one h (show q ∈ x :: t by simp [hq]) hxm e
        subst this
        exact hnd.1 hq
      · rintro ⟨hq, hne⟩
        rcases List.mem_cons.1 hq with e | e
        · exact absurd (by rw [e]) hne
        · exact e
    refine ⟨fun q => ?_, ?_, hh, by rw [hp.length_eq]; have := h.len; simpa using this⟩
    · rw [hp.mem_iff, List.mem_cons, key, h.mem, next_step hn.2 hv]
      constructor
      · rintro (rfl | ⟨⟨a, b⟩, c⟩)
        · exact ⟨hn.1, .inl ⟨rfl, by omega, by omega, hj⟩⟩
        · exact ⟨a, .inr ⟨c, b⟩⟩
      · rintro ⟨a, ⟨b, _, _, c⟩ | ⟨b, c⟩⟩
        · left
          obtain ⟨i, y⟩ := q
          dsimp only at b c
          subst b
          have : y = j := by omega
          rw [this]
        · exact .inr ⟨⟨a, c⟩, b⟩
    · rw [hp.nodup_iff]
      exact List.nodup_cons.2 ⟨fun hm => ((key _).1 hm).2 rfl, hnd.2⟩
/-- Its list has no more. -/
theorem Gp.popped (h : Gp L up v ln ps) (hv : ∀ i, v i ≤ lenL L i) (hne : 0 < ps.length) (hno : ¬ (0 ≤ ((ps.getD 0 d0).2 : Int) + stepI up ∧ ((ps.getD 0 d0).2 : Int) + stepI up < (lenL L (ps.getD 0 d0).1 : Int))) (hp : (qs ++ [ps.getD 0 d0]).Perm ps) (hh : HeapF (ltD L up) qs.length 0 (fun k => qs.getD k d0)) : Gp L up (stepV up v (ps.getD 0 d0).1) ln qs := by
  have hxm : ps.getD 0 d0 ∈ ps := by simp [List.getD, hne]
  generalize ps.getD 0 d0 = x at *
  have hn := ((h.mem _).1 hxm)
  have hnd := List.nodup_append.1 (hp.nodup_iff.2 h.nodup)
  have key : ∀ q, q ∈ qs ↔ q ∈ ps ∧ q.1 ≠ x.1 := fun q => by
    constructor
    · intro hq
      have hqp : q ∈ ps := hp.mem_iff.1 (by simp [hq])
      exact ⟨hqp, fun e => hnd.2.2 q hq x (by simp) (head_one h hqp hxm e)⟩
    · rintro ⟨hq, hne⟩
      rcases List.mem_append.1 (hp.mem_iff.2 hq) with e | e
      · exact e
      · exact absurd (by rw [List.mem_singleton.1 e]) hne
  refine ⟨fun q => ?_, hnd.1, hh, by have := hp.length_eq; have := h.len; simp at *; omega⟩
  rw [key, h.mem, next_step hn.2 hv]
  constructor
  · rintro ⟨⟨a, b⟩, c⟩
    exact ⟨a, .inr ⟨c, b⟩⟩
  · rintro ⟨a, ⟨b, c, d, _⟩ | ⟨b, c⟩⟩
    · exact absurd ⟨c, d⟩ hno
    · exact ⟨⟨a, c⟩, b⟩
/-- There is none next to the gap. -/
theorem Gp.none (h : Gp L up v L.length []) (hc : CutL L v) : (up = true → sumV v L.length = (allP L).length) ∧ (up = false → sumV v L.length = 0) := by
  refine ⟨fun e => ?_, fun e => ?_⟩
  · subst e
    apply Nat.le_antisymm (sum_all hc)
    rw [all_len]
    refine sum_le _ fun i hi => ?_
    apply Classical.byContradiction
    intro hlt
    have := (h.mem (i, v i)).2 ⟨hi, rfl, show v i < lenL L i by omega⟩
    cases this
  · subst e
    have hz : ∀ n, n ≤ L.length → sumV v n = 0 := fun n => by
      induction n with
      | zero => exact fun _ => rfl
      | succ n ih =>
        intro hn
        show sumV v n + v n = 0
        rw [ih (by omega), Nat.zero_add]
        apply Classical.byContradiction
        intro hne
        have := (h.mem (n, v n - 1)).2 ⟨by show n < L.length; omega, show v n - 1 + 1 = v n by omega⟩
        cases this
    exact hz _ (Nat.le_refl _)
end
end Go.Proofs.Ytjoamhcehpjepab
/- What comes first is taken: the contract of take, of fit. -/
namespace Go.Proofs.Ytjoamhcehpjepab
open Go.RowKit
set_option linter.unusedVariables false
set_option linter.unusedSimpArgs false
section
variable {w w' : World} {B hp : Nat} {la : Option Addr} {ln lc : Nat} {up : Bool} {pa : Option Addr} {pc : Nat} {ps : List PlL} {last : PlL} {L : List (List KV)} {v : Nat → Nat}
abbrev CHt (pa : Option Addr) (hp : Nat) : Nat → Prop := fun k => blkOf pa = some k ∨ k = hp
def TakeP (w : World) (B hp : Nat) (la : Option Addr) (ln lc : Nat) (up : Bool) (pa : Option Addr) (pc : Nat) (ps : List PlL) (last : PlL) (L : List (List KV)) (v : Nat → Nat) (e : Ending) (w' : World) : Prop :=
  (ps = [] → e = .returned (.tuple #[plV 0 0, .bool false]) ∧ Hd w' B hp la ln lc up pa pc ps last ∧ Chg (CHt pa hp) w w') ∧
  (ps ≠ [] → ∃ qs, e = .returned (.tuple #[plV (ps.getD 0 d0).1 ((ps.getD 0 d0).2 : Int), .bool true]) ∧ Hd w' B hp la ln lc up pa pc qs (ps.getD 0 d0) ∧ Chg (CHt pa hp) w w' ∧ Gp L up (stepV up v (ps.getD 0 d0).1) ln qs)
set_option maxRecDepth 100000 in
set_option maxHeartbeats 2000000 in
theorem take_none (h : Hd w B hp la ln lc up pa pc [] last) :
    Calls Try.prog 46 #[at_ hp] w fun e w' => e = .returned (.tuple #[plV 0 0, .bool false]) ∧ Hd w' B hp la ln lc up pa pc [] last ∧ Chg (CHt pa hp) w w' := by
  have x3 := h.box.cell 3
  simp only [List.getElem?_toArray, List.getElem?_cons_succ, List.getElem?_cons_zero, List.length_nil] at x3
  have HF : Hid (Hd (w.alloc (.cells #[.int .i64 0, .int .i64 0] TPl)) B hp la ln lc up pa pc [] last ∧ Chg (CHt pa hp) w (w.alloc (.cells #[.int .i64 0, .int .i64 0] TPl))) := ⟨h.below ((Below.refl _ _).alloc (Nat.le_refl _) _), (Chg.refl _ _).alloc _⟩
  have hpl := h.box.lt
  clear h
  go_enter Try.func46, Try.ntmps46
  go_wp2
  exact bodyPost_ret (v := .tuple #[.agg #[.int .i64 0, .int .i64 0], .bool false]) (by simp [results, Try.results46, go_sem]) rfl ⟨rfl, HF.out⟩
/-- What take keeps while it works. -/
structure Tk (w W : World) (B hp : Nat) (la : Option Addr) (ln lc : Nat) (up : Bool) (g pc : Nat) (ps : List PlL) (x : PlL) (y : Int) : Prop where
  hd : Hd W B hp la ln lc up (some ⟨g, 0, none⟩) pc ps x
  res : Box W w.heap.size TPl #[.int .i64 0, .int .i64 0]
  nxt : Box W (w.heap.size + 1) TPl #[.int .i64 (x.1 : Int), .int .i64 y]
  chg : Chg (CHt (some ⟨g, 0, none⟩) hp) w W
  old : hp < w.heap.size ∧ g < w.heap.size ∧ hp ≠ g
theorem Tk.below {W W' : World} {g : Nat} {x : PlL} {y : Int} (h : Tk w W B hp la ln lc up g pc ps x y) (hb : Below W.heap.size W W') : Tk w W' B hp la ln lc up g pc ps x y := ⟨h.hd.below hb, h.res.kept (hb.block _ h.res.lt), h.nxt.kept (hb.block _ h.nxt.lt), chg_below h.chg hb, h.old⟩
theorem Tk.start {g : Nat} {x : PlL} {sI : Int} (h : Hd w B hp la ln lc up (some ⟨g, 0, none⟩) pc ps last) : Tk w ((((w.setCell ⟨hp, 4, none⟩ (.int .i64 (x.1 : Int))).setCell ⟨hp, 5, none⟩ (.int .i64 (x.2 : Int))).alloc (.cells #[.int .i64 0, .int .i64 0] TPl)).alloc (.cells #[.int .i64 (x.1 : Int), .int .i64 ((x.2 : Int) + sI)] TPl)).drew B hp la ln lc up g pc ps x ((x.2 : Int) + sI) := by
  have hne : hp ≠ g := h.apart rfl
  have hpl := h.box.lt
  have hgl := (h.row.ge (k := g) rfl).2
  have hb : Box ((((w.setCell ⟨hp, 4, none⟩ (.int .i64 (x.1 : Int))).setCell ⟨hp, 5, none⟩ (.int .i64 (x.2 : Int))).alloc (.cells #[.int .i64 0, .int .i64 0] TPl)).alloc (.cells #[.int .i64 (x.1 : Int), .int .i64 ((x.2 : Int) + sI)] TPl)).drew hp THd _ := (((h.box.set 4 (.int .i64 (x.1 : Int))).set 5 (.int .i64 (x.2 : Int))).alloc (.cells #[.int .i64 0, .int .i64 0] TPl)).alloc (.cells #[.int .i64 (x.1 : Int), .int .i64 ((x.2 : Int) + sI)] TPl)
  have hr1 := Box.new ((w.setCell ⟨hp, 4, none⟩ (.int .i64 (x.1 : Int))).setCell ⟨hp, 5, none⟩ (.int .i64 (x.2 : Int))) TPl #[.int .i64 0, .int .i64 0]
  have hr2 := Box.new (((w.setCell ⟨hp, 4, none⟩ (.int .i64 (x.1 : Int))).setCell ⟨hp, 5, none⟩ (.int .i64 (x.2 : Int))).alloc (.cells #[.int .i64 0, .int .i64 0] TPl)) TPl #[.int .i64 (x.1 : Int), .int .i64 ((x.2 : Int) + sI)]
  rw [show ((w.setCell ⟨hp, 4, none⟩ (.int .i64 (x.1 : Int))).setCell ⟨hp, 5, none⟩ (.int .i64 (x.2 : Int))).heap.size = w.heap.size by simp] at hr1
  rw [show (((w.setCell ⟨hp, 4, none⟩ (.int .i64 (x.1 : Int))).setCell ⟨hp, 5, none⟩ (.int .i64 (x.2 : Int))).alloc (.cells #[.int .i64 0, .int .i64 0] TPl)).heap.size = w.heap.size + 1 by simp] at hr2
  refine ⟨⟨h.ge, hb.eq (by simp), h.row.kept fun k hk => ?_⟩, hr1.alloc _, hr2, ((((((Chg.refl (CHt (some ⟨g, 0, none⟩) hp) w).set (p := hp) (fun _ => .inr rfl) _ _).set (p := hp) (fun _ => .inr rfl) _ _).alloc _).alloc _).drew), hpl, hgl, hne⟩
  have e : g = k := by simpa [blkOf] using hk
  subst e
  exact (Below.heap_alloc _ _ g (by simp; omega)).trans ((Below.heap_alloc _ _ g (by simpa using hgl)).trans ((Below.heap_setCell _ _ _ _ (fun e => hne e.symm)).trans (Below.heap_setCell _ _ _ _ (fun e => hne e.symm))))
theorem Tk.put {W : World} {g : Nat} {x : PlL} {y : Int} {j : Nat} (h : Tk w W B hp la ln lc up g pc ps x y) (hy : y = (j : Int)) : Tk w ((W.setCell ⟨g, 0, none⟩ (.int .i64 (x.1 : Int))).setCell ⟨g, 1, none⟩ (.int .i64 y)).drew B hp la ln lc up g pc (ps.set 0 (x.1, j)) x y := by
  subst hy
  obtain ⟨o1, o2, o3⟩ := h.old
  have hs := (h.hd.row.set 0 (x.1, j))
  simp only [Nat.zero_mul, Nat.zero_add] at hs
  have hl : (ps.set 0 (x.1, j)).length = ps.length := by simp
  refine ⟨⟨h.hd.ge, ?_, ?_⟩, (h.res.other (by omega) _ _).other (by omega) _ _, (h.nxt.other (by omega) _ _).other (by omega) _ _, ((h.chg.set (p := g) (fun _ => .inl rfl) _ _).set (p := g) (fun _ => .inl rfl) _ _).drew, h.old⟩
  · rw [hl]; exact (h.hd.box.other o3 _ _).other o3 _ _
  · rw [hl]; exact hs.kept fun _ _ => rfl
theorem Tk.chgd {W W' : World} {g : Nat} {x : PlL} {y : Int} {qs : List PlL} (h : Tk w W B hp la ln lc up g pc ps x y) (hd : Hd W' B hp la ln lc up (some ⟨g, 0, none⟩) pc qs x) (hc : Chg (CHt (some ⟨g, 0, none⟩) hp) W W') : Tk w W' B hp la ln lc up g pc qs x y := by
  obtain ⟨o1, o2, o3⟩ := h.old
  have key : ∀ k, w.heap.size ≤ k → ¬ CHt (some ⟨g, 0, none⟩) hp k := fun k hk hc => by
    rcases hc with hc | hc
    · have e : g = k := by simpa [blkOf] using hc
      omega
    · omega
  exact ⟨hd, h.res.kept (hc.block _ h.res.lt (key _ (Nat.le_refl _))), h.nxt.kept (hc.block _ h.nxt.lt (key _ (by omega))), h.chg.andThen hc fun _ _ e => e, h.old⟩
set_option maxRecDepth 100000 in
set_option maxHeartbeats 2000000 in
theorem take_some {x : PlL} {t : List PlL} (h : Hd w B hp la ln lc up pa pc (x :: t) last) (hl : ∀ W, Chg (CHt pa hp) w W → LsAt W la ln lc L) (hv : ∀ i, v i ≤ lenL L i) (hfew : ∀ i, lenL L i ≤ 4000000000000) (hln : ln ≤ 1000) (hg : Gp L up v ln (x :: t)) :
    Calls Try.prog 46 #[at_ hp] w fun e w' => ∃ qs, e = .returned (.tuple #[plV x.1 (x.2 : Int), .bool true]) ∧ Hd w' B hp la ln lc up pa pc qs x ∧ Chg (CHt pa hp) w w' ∧ Gp L up (stepV up v x.1) ln qs := by
  have hin := hg.inL hv (Nat.le_refl _)
  have hx := hin x (by simp)
  have hlen : (x :: t).length = t.length + 1 := rfl
  have hx2 : x.2 < 4000000000000 := by have := hfew x.1; have h2 : x.2 < lenL L x.1 := hx.2; omega
  have hxl := hx.1
  obtain ⟨sI, hsI⟩ : ∃ s, s = stepI up := ⟨_, rfl⟩
  have HH : Hid ((∀ W, Chg (CHt pa hp) w W → LsAt W la ln lc L) ∧ (∀ i, v i ≤ lenL L i) ∧ Gp L up v ln (x :: t) ∧ InL L ln (x :: t) ∧ (x.1 < ln ∧ x.2 < lenL L x.1 ∧ t.length + 1 ≤ ln)) := ⟨hl, hv, hg, hin, hx.1, hx.2, hg.len⟩
  have HSI : Hid (sI = stepI up) := hsI
  have hs1 : -1 ≤ sI := by rw [hsI]; cases up <;> decide
  have hs2 : sI ≤ 1 := by rw [hsI]; cases up <;> decide
  obtain ⟨g, rfl, hc, hf⟩ := h.row.spots (by simp)
  obtain ⟨y0, y1⟩ := hc 0 (by simp)
  have e0 : (x :: t).getD 0 d0 = x := rfl
  rw [e0] at y0 y1
  have x1 := h.box.cell 1
  have x3 := h.box.cell 3
  have x4 := h.box.cell 4
  have x5 := h.box.cell 5
  have xs := h.box.soft
  simp only [List.getElem?_toArray, List.getElem?_cons_succ, List.getElem?_cons_zero, hlen] at x1 x3 x4 x5
  rw [← hsI] at x1
  have HT : Hid (_) := Tk.start (x := x) (sI := sI) h
  have hpg : hp ≠ g := h.apart rfl
  have hpl := h.box.lt
  have hgl := (h.row.ge (k := g) rfl).2
  have hxi := fun W => idxP W (b := g) (c := pc) (n := t.length + 1) (i := 0) (by omega)
  simp only [Nat.zero_mul, Nat.zero_add] at y0 y1 hxi
  clear h hl hv hfew hg hin hx hc e0 hsI
  go_enter Try.func46, Try.ntmps46
  go_wp2_with fail
  go_region
  clear x1 x3 x4 x5 xs y0 y1 hf
  generalize ((((w.setCell ⟨hp, 4, none⟩ (.int .i64 (x.1 : Int))).setCell ⟨hp, 5, none⟩ (.int .i64 (x.2 : Int))).alloc (.cells #[.int .i64 0, .int .i64 0] TPl)).alloc (.cells #[.int .i64 (x.1 : Int), .int .i64 ((x.2 : Int) + sI)] TPl)).drew = W2 at HT ⊢
  have hb0 := HT.out.hd.box.cell 0
  have hn0 := HT.out.nxt.cell 0
  have hn1 := HT.out.nxt.cell 1
  simp only [List.getElem?_toArray, List.getElem?_cons_succ, List.getElem?_cons_zero] at hb0 hn0 hn1
  have HHAS : Hid (∀ W, Below W2.heap.size W2 W → Calls Try.prog 47 #[.slice la ln lc, .agg #[.int .i64 (x.1 : Int), .int .i64 ((x.2 : Int) + sI)]] W fun e w' => e = .returned (.bool (decide (0 ≤ (x.2 : Int) + sI ∧ (x.2 : Int) + sI < (lenL L x.1 : Int)))) ∧ Below W.heap.size W w') := fun W hW => has_any (HH.out.1 W (chg_below HT.out.chg hW)) hxl _
  obtain ⟨bb, hbb⟩ : ∃ b, decide (0 ≤ (x.2 : Int) + sI ∧ (x.2 : Int) + sI < (lenL L x.1 : Int)) = b := ⟨_, rfl⟩
  have HBB : Hid (decide (0 ≤ (x.2 : Int) + sI ∧ (x.2 : Int) + sI < (lenL L x.1 : Int)) = bb) := hbb
  rw [hbb] at HHAS
  clear hbb
  have HB0 : Hid (Below W2.heap.size W2 W2.drew) := (Below.refl _ _).drew
  go_wp2_with fail
  go_region_held3 (fun V => V.cell? ⟨hp, 0, none⟩ = some (.slice la ln lc) ∧ V.cell? ⟨w.heap.size + 1, 0, none⟩ = some (.int .i64 (x.1 : Int)) ∧ V.cell? ⟨w.heap.size + 1, 1, none⟩ = some (.int .i64 ((x.2 : Int) + sI))) (first | exact ⟨hb0, hn0, hn1⟩ | go_keep)
    (first
     | (go_at_call 47; refine (HHAS.out _ HB0.out).mono ?_; rintro _ vx ⟨rfl, hbx⟩
        have HB0 : Hid (Below W2.heap.size W2 vx) := HB0.out.trans (hbx.mono HB0.out.size)
        have HT3 : Hid (Tk w vx B hp la ln lc up g pc (x :: t) x ((x.2 : Int) + sI)) := HT.out.below HB0.out
        have hb0 : vx.cell? ⟨hp, 0, none⟩ = some (.slice la ln lc) := HT3.out.hd.box.cell 0
        have hn0 : vx.cell? ⟨w.heap.size + 1, 0, none⟩ = some (.int .i64 (x.1 : Int)) := HT3.out.nxt.cell 0
        have hn1 : vx.cell? ⟨w.heap.size + 1, 1, none⟩ = some (.int .i64 ((x.2 : Int) + sI)) := HT3.out.nxt.cell 1
        clear hbx))
  clear HT HHAS HB0
  have hb3 := HT3.out.hd.box.cell 3
  simp only [List.getElem?_toArray, List.getElem?_cons_succ, List.getElem?_cons_zero, hlen] at hb3
  obtain ⟨g', hg', hc, hf⟩ := HT3.out.hd.row.spots (by simp)
  simp only [Option.some.injEq, Addr.mk.injEq, and_true] at hg'
  subst hg'
  obtain ⟨y0, y1⟩ := hc 0 (by simp)
  simp only [Nat.zero_mul, Nat.zero_add] at y0 y1
  clear hc
  cases bb with
  | true =>
    have hyy : 0 ≤ (x.2 : Int) + sI ∧ (x.2 : Int) + sI < (lenL L x.1 : Int) := of_decide_eq_true HBB.out
    obtain ⟨j, hj⟩ : ∃ j : Nat, (x.2 : Int) + sI = (j : Int) := ⟨((x.2 : Int) + sI).toNat, by omega⟩
    have hset : (x :: t).set 0 (x.1, j) = (x.1, j) :: t := rfl
    have HT4 : Hid (_) := HT3.out.put hj
    have HJ : Hid ((x.2 : Int) + sI = (j : Int) ∧ j < lenL L x.1 ∧ InL L ln ((x.1, j) :: t) ∧ HeapF (ltD L up) ((x.1, j) :: t).length 1 (fun k => ((x.1, j) :: t).getD k d0)) := by
      refine ⟨hj, by omega, fun q hq => ?_, ?_⟩
      · rcases List.mem_cons.1 hq with e | e
        · rw [e]; exact ⟨HH.out.2.2.2.2.1, show j < lenL L x.1 by omega⟩
        · exact HH.out.2.2.2.1 q (by simp [e])
      · refine HH.out.2.2.1.heap.from1 (Nat.le_refl _) fun k hk hkn => ?_
        cases k with
        | zero => exact absurd hk (Nat.lt_irrefl _)
        | succ k => rfl
    clear hyy hj
    rw [hset] at HT4
    clear hset
    go_wp2_with fail
    go_region
    clear hb0 hn0 hn1 hb3 y0 y1 hf HT3
    generalize ((vx.setCell ⟨g, 0, none⟩ (.int .i64 (x.1 : Int))).setCell ⟨g, 1, none⟩ (.int .i64 ((x.2 : Int) + sI))).drew = W4 at HT4 ⊢
    go_wp2_with fail
    have hfix := fix_any (L := L) HT4.out.hd (fun W hW => HH.out.1 W (HT4.out.chg.andThen (hW.wide fun k _ e => Or.inl e) fun _ _ e => e)) HJ.out.2.2.1 (by have := HH.out.2.2.2.2.2.2; simp; omega) (by simp) HJ.out.2.2.2
    refine hfix.mono ?_
    rintro _ w5 ⟨rfl, qs, hp5, hd5, hc5, hf5⟩
    have HT5 : Hid (Tk w w5 B hp la ln lc up g pc qs x ((x.2 : Int) + sI) ∧ Gp L up (stepV up v x.1) ln qs) := ⟨HT4.out.chgd hd5 (hc5.wide fun k _ e => Or.inl e), HH.out.2.2.1.fixed (qs := qs) HH.out.2.1 (by simp) (j := j) (by rw [← HJ.out.1, HSI.out]; rfl) HJ.out.2.1 hp5 (by rw [hp5.length_eq]; exact hf5)⟩
    clear hp5 hd5 hc5 hf5 hfix HT4 HJ
    have z4 := HT5.out.1.hd.box.cell 4
    have z5 := HT5.out.1.hd.box.cell 5
    have r0 := HT5.out.1.res.cell 0
    have r1 := HT5.out.1.res.cell 1
    have rs := HT5.out.1.res.soft
    have hrl := HT5.out.1.res.lt
    simp only [List.getElem?_toArray, List.getElem?_cons_succ, List.getElem?_cons_zero] at z4 z5 r0 r1
    have HF : Hid (Hd ((w5.setCell ⟨w.heap.size, 0, none⟩ (.int .i64 (x.1 : Int))).setCell ⟨w.heap.size, 1, none⟩ (.int .i64 (x.2 : Int))) B hp la ln lc up (some ⟨g, 0, none⟩) pc qs x ∧ Chg (CHt (some ⟨g, 0, none⟩) hp) w ((w5.setCell ⟨w.heap.size, 0, none⟩ (.int .i64 (x.1 : Int))).setCell ⟨w.heap.size, 1, none⟩ (.int .i64 (x.2 : Int)))) := by
      obtain ⟨o1, o2, o3⟩ := HT5.out.1.old
      refine ⟨HT5.out.1.hd.kept ((Below.heap_setCell _ _ _ _ (show hp ≠ w.heap.size by omega)).trans (Below.heap_setCell _ _ _ _ (show hp ≠ w.heap.size by omega))) fun k hk => ?_, (HT5.out.1.chg.set (p := w.heap.size) (fun h => absurd h (Nat.lt_irrefl _)) _ _).set (p := w.heap.size) (fun h => absurd h (Nat.lt_irrefl _)) _ _⟩
      have e : g = k := by simpa [blkOf] using hk
      subst e
      exact (Below.heap_setCell _ _ _ _ (show g ≠ w.heap.size by omega)).trans (Below.heap_setCell _ _ _ _ (show g ≠ w.heap.size by omega))
    go_wp2
    exact bodyPost_ret (v := .tuple #[.agg #[.int .i64 (x.1 : Int), .int .i64 (x.2 : Int)], .bool true]) (by simp [results, Try.results46, go_sem, r0, r1, hrl]) rfl ⟨qs, rfl, HF.out.1, HF.out.2, HT5.out.2⟩
  | false =>
    have hyn : ¬ (0 ≤ (x.2 : Int) + sI ∧ (x.2 : Int) + sI < (lenL L x.1 : Int)) := of_decide_eq_false HBB.out
    have HYN : Hid (¬ (0 ≤ (x.2 : Int) + sI ∧ (x.2 : Int) + sI < (lenL L x.1 : Int))) := hyn
    clear hyn hb0 hn0 hn1 hb3 y0 y1 hf
    go_wp2_with fail
    have hpop := pop_any (L := L) (n := t.length) HT3.out.hd (fun W hW => HH.out.1 W (HT3.out.chg.andThen (hW.wide fun k _ e => Or.inl e) fun _ _ e => e)) HH.out.2.2.2.1 (by have := HH.out.2.2.2.2.2.2; simp; omega) rfl HH.out.2.2.1.heap
    refine hpop.mono ?_
    rintro _ w5 ⟨⟨v5, rfl⟩, qs, hp5, hd5, hc5, hf5⟩
    have HT5 : Hid (Tk w w5 B hp la ln lc up g pc qs x ((x.2 : Int) + sI) ∧ Gp L up (stepV up v x.1) ln qs) := ⟨HT3.out.chgd hd5 hc5, HH.out.2.2.1.popped (qs := qs) HH.out.2.1 (by simp) (by rw [← HSI.out]; exact HYN.out) hp5 hf5⟩
    clear hp5 hd5 hc5 hf5 hpop HT3 HYN
    have z4 := HT5.out.1.hd.box.cell 4
    have z5 := HT5.out.1.hd.box.cell 5
    have r0 := HT5.out.1.res.cell 0
    have r1 := HT5.out.1.res.cell 1
    have rs := HT5.out.1.res.soft
    have hrl := HT5.out.1.res.lt
    simp only [List.getElem?_toArray, List.getElem?_cons_succ, List.getElem?_cons_zero] at z4 z5 r0 r1
    have HF : Hid (Hd ((w5.setCell ⟨w.heap.size, 0, none⟩ (.int .i64 (x.1 : Int))).setCell ⟨w.heap.size, 1, none⟩ (.int .i64 (x.2 : Int))) B hp la ln lc up (some ⟨g, 0, none⟩) pc qs x ∧ Chg (CHt (some ⟨g, 0, none⟩) hp) w ((w5.setCell ⟨w.heap.size, 0, none⟩ (.int .i64 (x.1 : Int))).setCell ⟨w.heap.size, 1, none⟩ (.int .i64 (x.2 : Int)))) := by
      obtain ⟨o1, o2, o3⟩ := HT5.out.1.old
      refine ⟨HT5.out.1.hd.kept ((Below.heap_setCell _ _ _ _ (show hp ≠ w.heap.size by omega)).trans (Below.heap_setCell _ _ _ _ (show hp ≠ w.heap.size by omega))) fun k hk => ?_, (HT5.out.1.chg.set (p := w.heap.size) (fun h => absurd h (Nat.lt_irrefl _)) _ _).set (p := w.heap.size) (fun h => absurd h (Nat.lt_irrefl _)) _ _⟩
      have e : g = k := by simpa [blkOf] using hk
      subst e
      exact (Below.heap_setCell _ _ _ _ (show g ≠ w.heap.size by omega)).trans (Below.heap_setCell _ _ _ _ (show g ≠ w.heap.size by omega))
    go_wp2
    exact bodyPost_ret (v := .tuple #[.agg #[.int .i64 (x.1 : Int), .int .i64 (x.2 : Int)], .bool true]) (by simp [results, Try.results46, go_sem, r0, r1, hrl]) rfl ⟨qs, rfl, HF.out.1, HF.out.2, HT5.out.2⟩
end
end Go.Proofs.Ytjoamhcehpjepab
/- Merge's iterator in memory; fit; an iterator goes to what comes first. -/
namespace Go.Proofs.Ytjoamhcehpjepab
open Go.RowKit
set_option linter.unusedVariables false
set_option linter.unusedSimpArgs false
abbrev TItr : TypeId := 52
set_option maxRecDepth 100000 in
theorem eqlP (i : Nat) (j : Int) (W : World) : (binOp .eql TPl (.agg #[.int .i64 (i : Int), .int .i64 j]) (.agg #[.int .i64 (i : Int), .int .i64 j])).run Try.prog W = .ok (.bool true) W := by
  simp [go_sem, Try.underlying49, Try.underlying3]
section
variable {w w' : World} {B hp : Nat} {la : Option Addr} {ln lc : Nat} {up : Bool} {pa : Option Addr} {pc : Nat} {ps : List PlL} {last : PlL} {L : List (List KV)} {v : Nat → Nat}
set_option maxRecDepth 100000 in
set_option maxHeartbeats 2000000 in
theorem fit_any (h : Hd w B hp la ln lc up pa pc ps last) (s : Bool) :
    Calls Try.prog 39 #[at_ hp, .int .i64 (stepI s), .agg #[.int .i64 (last.1 : Int), .int .i64 (last.2 : Int)]] w fun e w' => e = .returned (.bool (s == up)) ∧ Below w.heap.size w w' := by
  have hB0 := (Below.refl w.heap.size w).alloc (Nat.le_refl _) (.cells #[.int .i64 (last.1 : Int), .int .i64 (last.2 : Int)] TPl)
  have hh := h.below hB0
  have y1 := hh.box.cell 1
  have y4 := hh.box.cell 4
  have y5 := hh.box.cell 5
  simp only [List.getElem?_toArray, List.getElem?_cons_succ, List.getElem?_cons_zero] at y1 y4 y5
  have HB : Hid (∀ m, Below w.heap.size w ((w.alloc (.cells #[.int .i64 (last.1 : Int), .int .i64 (last.2 : Int)] TPl)).drewN m)) := fun m => Below.drewM hB0 m
  have heq := eqlP last.1 (last.2 : Int)
  have hpl := h.box.lt
  clear hh h hB0
  cases s <;> cases up <;> simp only [stepI] at y1 ⊢
  · go_enter Try.func39, Try.ntmps39
    go_wp2_with fail
    go_quiet (fail)
    go_wp2
    go_ret
    exact ⟨ret1 rfl, HB.out _⟩
  · go_enter Try.func39, Try.ntmps39
    go_wp2_with fail
    go_quiet (fail)
    go_wp2
    go_ret
    exact ⟨ret1 rfl, HB.out _⟩
  · go_enter Try.func39, Try.ntmps39
    go_wp2_with fail
    go_quiet (fail)
    go_wp2
    go_ret
    exact ⟨ret1 rfl, HB.out _⟩
  · go_enter Try.func39, Try.ntmps39
    go_wp2_with fail
    go_quiet (fail)
    go_wp2
    go_ret
    exact ⟨ret1 rfl, HB.out _⟩
end
/-- Lists whose blocks are all among these. -/
def LsR (W : World) (RL : Nat → Prop) (a : Option Addr) (n c : Nat) (L : List (List KV)) : Prop := ∀ W' : World, (∀ k, RL k → W'.heap[k]? = W.heap[k]?) → LsAt W' a n c L
theorem LsR.kept {W W' : World} {RL : Nat → Prop} {a : Option Addr} {n c : Nat} {L : List (List KV)} (h : LsR W RL a n c L) (hk : ∀ k, RL k → W'.heap[k]? = W.heap[k]?) : LsR W' RL a n c L := fun W2 h2 => h W2 fun k hr => (h2 k hr).trans (hk k hr)
theorem LsR.ls {W : World} {RL : Nat → Prop} {a : Option Addr} {n c : Nat} {L : List (List KV)} (h : LsR W RL a n c L) : LsAt W a n c L := h W fun _ _ => rfl
/-- The heads of an iterator that is somewhere. -/
structure Hs (W : World) (R RL : Nat → Prop) (p : Nat) (la : Option Addr) (lc : Nat) (L : List (List KV)) (i : Nat) (x : PlL) (up : Bool) (hp : Nat) (pa : Option Addr) (pc : Nat) (ps : List PlL) (v : Nat → Nat) : Prop where
  hd : Hd W 0 hp la L.length lc up pa pc ps x
  rh : R hp ∧ ¬ RL hp
  rp : ∀ k, blkOf pa = some k → R k ∧ ¬ RL k
  gp : Gp L up v L.length ps
  cut : CutL L v
  at' : (allP L)[i]? = some x
  next : up = true → sumV v L.length = i + 1
  prev : up = false → sumV v L.length = i
/-- An iterator in memory. -/
structure It (W : World) (R RL : Nat → Prop) (p : Nat) (la : Option Addr) (lc : Nat) (L : List (List KV)) (x : PlL) (b : Bool) (hv : Value) : Prop where
  box : Box W p TItr #[.slice la L.length lc, .int .i64 (x.1 : Int), .int .i64 (x.2 : Int), .bool b, hv]
  lt : ∀ k, R k → k < W.heap.size
  rp : R p ∧ ¬ RL p
  rl : ∀ k, RL k → R k
  ls : LsR W RL la L.length lc L
  rise : RiseL L
  few : FewL L
def Mg16 : MgRel := fun W R p L o => ∃ (RL : Nat → Prop) (la : Option Addr) (lc : Nat) (x : PlL) (hv : Value), It W R RL p la lc L x o.isSome hv ∧ ∀ i, o = some i → ∃ up hp pa pc ps v, hv = at_ hp ∧ Hs W R RL p la lc L i x up hp pa pc ps v
section
variable {W W' : World} {R RL : Nat → Prop} {p : Nat} {la : Option Addr} {lc : Nat} {L : List (List KV)} {x : PlL} {b : Bool} {hv : Value} {i hp : Nat} {up : Bool} {pa : Option Addr} {pc : Nat} {ps : List PlL} {v : Nat → Nat}
theorem It.kept (h : It W R RL p la lc L x b hv) (hs : W.heap.size ≤ W'.heap.size) (hk : ∀ k, R k → W'.heap[k]? = W.heap[k]?) : It W' R RL p la lc L x b hv := ⟨h.box.kept (hk p h.rp.1), fun k hr => Nat.lt_of_lt_of_le (h.lt k hr) hs, h.rp, h.rl, h.ls.kept fun k hr => hk k (h.rl k hr), h.rise, h.few⟩
theorem Hs.kept (h : Hs W R RL p la lc L i x up hp pa pc ps v) (hk : ∀ k, R k → W'.heap[k]? = W.heap[k]?) : Hs W' R RL p la lc L i x up hp pa pc ps v := ⟨h.hd.kept (hk hp h.rh.1) fun k e => hk k (h.rp k e).1, h.rh, h.rp, h.gp, h.cut, h.at', h.next, h.prev⟩
theorem mg_kept {o : Option Nat} (h : Mg16 W R p L o) (hs : W.heap.size ≤ W'.heap.size) (hk : ∀ k, R k → W'.heap[k]? = W.heap[k]?) : Mg16 W' R p L o := by
  obtain ⟨RL, la, lc, x, hv, h1, h2⟩ := h
  refine ⟨RL, la, lc, x, hv, h1.kept hs hk, fun i e => ?_⟩
  obtain ⟨up, hp, pa, pc, ps, v, e1, h3⟩ := h2 i e
  exact ⟨up, hp, pa, pc, ps, v, e1, h3.kept hk⟩
theorem mg_lt {o : Option Nat} (h : Mg16 W R p L o) : ∀ k, R k → k < W.heap.size := by
  obtain ⟨RL, la, lc, x, hv, h1, h2⟩ := h
  exact h1.lt
theorem mg_fit {o : Option Nat} (h : Mg16 W R p L o) : ∀ i, o = some i → i < (allL L).length := fun i e => by
  obtain ⟨RL, la, lc, x, hv, h1, h2⟩ := h
  obtain ⟨up, hp, pa, pc, ps, v, e1, h3⟩ := h2 i e
  have := (List.getElem?_eq_some_iff.1 h3.at').1
  simpa [allL] using this
theorem few_each (h : FewL L) (i : Nat) : lenL L i ≤ 4000000000000 := by
  have h1 := h.2
  rw [show (allL L).length = (allP L).length by simp [allL], all_len] at h1
  by_cases hi : i < L.length
  · have := sum_ge (lenL L) i L.length hi
    omega
  · rw [lenL_out (by omega)]
    omega
/-- Where one is when what comes next to a gap is taken. -/
def afterT (L : List (List KV)) (v : Nat → Nat) : Bool → Option Nat
  | true => normO (allL L) (sumV v L.length)
  | false => if sumV v L.length = 0 then none else some (sumV v L.length - 1)
theorem Hd.zero {w : World} {B hp : Nat} {la : Option Addr} {ln lc : Nat} {up : Bool} {pa : Option Addr} {pc : Nat} {ps : List PlL} {last : PlL} (h : Hd w B hp la ln lc up pa pc ps last) : Hd w 0 hp la ln lc up pa pc ps last := ⟨Nat.zero_le _, h.box, h.row.size, h.row.row.1, by
  rcases h.row.row.2 with hn | ⟨g, c, cur, hv, hb, rest⟩
  · exact .inl hn
  · exact .inr ⟨g, c, cur, hv, Nat.zero_le _, rest⟩⟩
end
end Go.Proofs.Ytjoamhcehpjepab
