/- Merge's heads are laid: lay, on, back. -/
import Derived.Test.YtfijibengmgegaaM16MgN
namespace Go.Proofs.Ytfijibengmgegaa
open Go.RowKit
set_option linter.unusedVariables false
set_option linter.unusedSimpArgs false
section
variable {w w' : World} {B hp : Nat} {la : Option Addr} {ln lc : Nat} {up : Bool} {pa : Option Addr} {pc : Nat} {ps : List PlL} {last : PlL} {L : List (List KV)}
def LayP (w : World) (B hp : Nat) (la : Option Addr) (ln lc : Nat) (up : Bool) (last : PlL) (L : List (List KV)) (ps : List PlL) (i : Nat) (x : Int) (w' : World) : Prop := ∃ (qs : List PlL) (pa' : Option Addr) (pc' : Nat), Hd w' B hp la ln lc up pa' pc' qs last ∧ Below B w w' ∧ HeapF (ltD L up) qs.length 0 (fun k => qs.getD k d0) ∧ ((0 ≤ x ∧ x < (lenL L i : Int)) → qs.Perm (ps ++ [(i, x.toNat)])) ∧ (¬ (0 ≤ x ∧ x < (lenL L i : Int)) → qs.Perm ps)
set_option maxRecDepth 100000 in
set_option maxHeartbeats 4000000 in
theorem lay_any (h : Hd w B hp la ln lc up pa pc ps last) (hB : B ≤ w.heap.size) (hl : ∀ W, Below B w W → LsAt W la ln lc L) {i : Nat} (hi : i < ln) (x : Int) (hv : InL L ln ps) (hsz : ps.length + 1 ≤ 1000000) (hh : HeapF (ltD L up) ps.length 0 (fun k => ps.getD k d0)) :
    Calls Try.prog 39 #[at_ hp, plV i x] w fun e w' => e = .returned (.tuple #[]) ∧ LayP w B hp la ln lc up last L ps i x w' := by
  have HH : Hid (Hd w B hp la ln lc up pa pc ps last ∧ (∀ W, Below B w W → LsAt W la ln lc L) ∧ InL L ln ps ∧ ps.length + 1 ≤ 1000000 ∧ HeapF (ltD L up) ps.length 0 (fun k => ps.getD k d0)) := ⟨h, hl, hv, hsz, hh⟩
  have HHAS : Hid (∀ W, Below B w W → Calls Try.prog 47 #[.slice la ln lc, .agg #[.int .i64 (i : Int), .int .i64 x]] W fun e w' => e = .returned (.bool (decide (0 ≤ x ∧ x < (lenL L i : Int)))) ∧ Below W.heap.size W w') := fun W hW => has_any (hl W hW) hi x
  have HHV : Hid (∀ W, Below w.heap.size (w.alloc (.cells #[.int .i64 (i : Int), .int .i64 x] TPl)) W → (w.alloc (.cells #[.int .i64 (i : Int), .int .i64 x] TPl)).heap.size ≤ W.heap.size → W.heap[w.heap.size]? = (w.alloc (.cells #[.int .i64 (i : Int), .int .i64 x] TPl)).heap[w.heap.size]? → W.cell? ⟨hp, 0, none⟩ = some (.slice la ln lc) ∧ W.cell? ⟨w.heap.size, 0, none⟩ = some (.int .i64 (i : Int)) ∧ W.cell? ⟨w.heap.size, 1, none⟩ = some (.int .i64 x)) := fun W hW hs hk => by
    have h1 := (h.box.alloc (.cells #[.int .i64 (i : Int), .int .i64 x] TPl)).kept (hW.block _ h.box.lt)
    have h2 := (Box.new w TPl #[.int .i64 (i : Int), .int .i64 x]).kept hk
    exact ⟨h1.cell 0, h2.cell 0, h2.cell 1⟩
  obtain ⟨bb, hbb⟩ : ∃ b, decide (0 ≤ x ∧ x < (lenL L i : Int)) = b := ⟨_, rfl⟩
  rw [hbb] at HHAS
  have HBB : Hid (decide (0 ≤ x ∧ x < (lenL L i : Int)) = bb) := hbb
  clear h hl hv hsz hh hbb
  go_enter Try.func39, Try.ntmps39
  go_wp2_with fail
  have HB0 : Hid (Below (w.alloc (.cells #[.int .i64 (i : Int), .int .i64 x] TPl)).heap.size (w.alloc (.cells #[.int .i64 (i : Int), .int .i64 x] TPl)) (w.alloc (.cells #[.int .i64 (i : Int), .int .i64 x] TPl)).drew) := (Below.refl _ _).drew
  have HX : Hid (∀ W, Below (w.alloc (.cells #[.int .i64 (i : Int), .int .i64 x] TPl)).heap.size (w.alloc (.cells #[.int .i64 (i : Int), .int .i64 x] TPl)) W → (W.cell? ⟨hp, 0, none⟩ = some (.slice la ln lc) ∧ W.cell? ⟨w.heap.size, 0, none⟩ = some (.int .i64 (i : Int)) ∧ W.cell? ⟨w.heap.size, 1, none⟩ = some (.int .i64 x)) ∧ Below w.heap.size w W) := fun W hW => ⟨HHV.out W (hW.mono (by simp)) hW.size (hW.block _ (by simp)), ((Below.refl _ _).alloc (Nat.le_refl _) _).trans (hW.mono (by simp))⟩
  clear HHV
  generalize w.alloc (.cells #[.int .i64 (i : Int), .int .i64 x] TPl) = w1 at HB0 HX ⊢
  obtain ⟨⟨x0, x1, x2⟩, _⟩ := HX.out _ HB0.out
  go_region_held3 (fun V => V.cell? ⟨hp, 0, none⟩ = some (.slice la ln lc) ∧ V.cell? ⟨w.heap.size, 0, none⟩ = some (.int .i64 (i : Int)) ∧ V.cell? ⟨w.heap.size, 1, none⟩ = some (.int .i64 x)) (first | exact ⟨x0, x1, x2⟩ | go_keep)
    (first
     | (go_at_call 47; refine (HHAS.out _ ((HX.out _ HB0.out).2.mono hB)).mono ?_; rintro _ vx ⟨rfl, hbx⟩
        have HB0 : Hid (Below w1.heap.size w1 vx) := HB0.out.trans (hbx.mono HB0.out.size)
        obtain ⟨⟨x0, x1, x2⟩, _⟩ := HX.out _ HB0.out
        clear hbx))
  have HVX : Hid (Below w.heap.size w vx) := (HX.out _ HB0.out).2
  clear HX HB0 HHAS
  cases bb with
  | true =>
    have hxx : 0 ≤ x ∧ x < (lenL L i : Int) := of_decide_eq_true HBB.out
    obtain ⟨xn, rfl⟩ : ∃ n : Nat, x = (n : Int) := ⟨x.toNat, by omega⟩
    have HXX : Hid (0 ≤ (xn : Int) ∧ (xn : Int) < (lenL L i : Int)) := hxx
    clear hxx
    have HP : Hid (∀ W, Below B w W → W = vx → Calls Try.prog 48 #[.iface 56 (at_ hp), .iface TPl (.agg #[.int .i64 (i : Int), .int .i64 (xn : Int)])] W fun e w' => e = .returned (.tuple #[]) ∧ LayP w B hp la ln lc up last L ps i (xn : Int) w') := fun W hW e => by
      have hd : Hd W B hp la ln lc up pa pc ps last := by rw [e]; exact HH.out.1.below HVX.out
      refine (push_any (L := L) hd (i, xn) (Nat.le_trans hB hW.size) (fun V hV => HH.out.2.1 V (hW.trans hV)) (fun q hq => ?_) HH.out.2.2.2.1 HH.out.2.2.2.2).mono ?_
      · rcases List.mem_append.1 hq with hq | hq
        · exact HH.out.2.2.1 q hq
        · obtain rfl := List.mem_singleton.1 hq
          exact ⟨hi, show xn < lenL L i by have := HXX.out.2; omega⟩
      · rintro _ w5 ⟨rfl, qs, pa', pc', g1, g2, g3, g4⟩
        exact ⟨rfl, qs, pa', pc', g2, hW.trans g3, g4, fun _ => by simpa using g1, fun hno => absurd HXX.out hno⟩
    have HVD : Hid (Below B w vx) := HVX.out.mono hB
    go_wp2_with fail
    refine (HP.out _ HVD.out rfl).mono ?_
    rintro _ vy ⟨rfl, hy⟩
    have HY : Hid (LayP w B hp la ln lc up last L ps i (xn : Int) vy) := hy
    clear hy
    go_wp2
    go_end0
    exact ⟨rfl, HY.out⟩
  | false =>
    have hx : ¬ (0 ≤ x ∧ x < (lenL L i : Int)) := of_decide_eq_false HBB.out
    have HF : Hid (LayP w B hp la ln lc up last L ps i x vx) := ⟨ps, pa, pc, HH.out.1.below HVX.out, HVX.out.mono hB, HH.out.2.2.2.2, fun h => absurd h hx, fun _ => List.Perm.refl _⟩
    clear hx
    go_wp2
    go_end0
    exact ⟨rfl, HF.out⟩
/-- What stands next to a gap, on or back. -/
def NextD (L : List (List KV)) : Bool → (Nat → Nat) → PlL → Prop
  | true, v, q => q.2 = v q.1 ∧ q.2 < lenL L q.1
  | false, v, q => q.2 + 1 = v q.1
/-- These are the heads of the first lists. -/
structure Gp (L : List (List KV)) (up : Bool) (v : Nat → Nat) (i : Nat) (ps : List PlL) : Prop where
  mem : ∀ q, q ∈ ps ↔ q.1 < i ∧ NextD L up v q
  nodup : ps.Nodup
  heap : HeapF (ltD L up) ps.length 0 (fun k => ps.getD k d0)
  len : ps.length ≤ i
theorem Gp.start (L : List (List KV)) (up : Bool) (v : Nat → Nat) : Gp L up v 0 [] := ⟨fun q => ⟨fun h => (by cases h), fun h => absurd h.1 (Nat.not_lt_zero _)⟩, List.nodup_nil, fun p _ j _ hj => absurd hj (Nat.not_lt_zero _), Nat.le_refl _⟩
theorem NextD.valid {v : Nat → Nat} {q : PlL} (hv : ∀ i, v i ≤ lenL L i) (h : NextD L up v q) : validL L q := by
  cases up with
  | true => exact h.2
  | false => have := hv q.1; have h' : q.2 + 1 = v q.1 := h; show q.2 < lenL L q.1; omega
theorem Gp.inL {v : Nat → Nat} {i n : Nat} (h : Gp L up v i ps) (hv : ∀ i, v i ≤ lenL L i) (hi : i ≤ n) : InL L n ps := fun q hq => by
  obtain ⟨h1, h2⟩ := (h.mem q).1 hq
  exact ⟨by omega, h2.valid hv⟩
theorem Gp.skip {v : Nat → Nat} {i : Nat} {qs : List PlL} (h : Gp L up v i ps) (hp : qs.Perm ps) (hh : HeapF (ltD L up) qs.length 0 (fun k => qs.getD k d0)) (hno : ∀ j, ¬ NextD L up v (i, j)) : Gp L up v (i + 1) qs :=
  ⟨fun q => by
    rw [hp.mem_iff, h.mem]
    refine ⟨fun ⟨a, b⟩ => ⟨by omega, b⟩, fun ⟨a, b⟩ => ⟨?_, b⟩⟩
    obtain ⟨x, y⟩ := q
    dsimp only at a ⊢
    by_cases e : x = i
    · subst e; exact absurd b (hno y)
    · omega, hp.nodup_iff.2 h.nodup, hh, by rw [hp.length_eq]; have := h.len; omega⟩
theorem Gp.more {v : Nat → Nat} {i j : Nat} {qs : List PlL} (h : Gp L up v i ps) (hp : qs.Perm (ps ++ [(i, j)])) (hh : HeapF (ltD L up) qs.length 0 (fun k => qs.getD k d0)) (hj : ∀ y, NextD L up v (i, y) ↔ y = j) : Gp L up v (i + 1) qs :=
  ⟨fun q => by
    rw [hp.mem_iff, List.mem_append, h.mem, List.mem_singleton]
    obtain ⟨x, y⟩ := q
    dsimp only
    constructor
    · rintro (⟨a, b⟩ | e)
      · exact ⟨by omega, b⟩
      · simp only [Prod.mk.injEq] at e
        obtain ⟨rfl, rfl⟩ := e
        exact ⟨by omega, (hj _).2 rfl⟩
    · rintro ⟨a, b⟩
      by_cases e : x = i
      · subst e
        rw [(hj y).1 b]
        exact .inr rfl
      · exact .inl ⟨by omega, b⟩, by
    rw [hp.nodup_iff, List.nodup_append]
    refine ⟨h.nodup, by simp, fun a ha b hb e => ?_⟩
    obtain rfl := List.mem_singleton.1 hb
    subst e
    exact absurd ((h.mem _).1 ha).1 (Nat.lt_irrefl _), hh, by
    rw [hp.length_eq, List.length_append]
    have := h.len
    simp; omega⟩
def OnP (w : World) (la : Option Addr) (ln lc : Nat) (up : Bool) (L : List (List KV)) (v : Nat → Nat) (e : Ending) (w' : World) : Prop := ∃ (hp : Nat) (pa : Option Addr) (pc : Nat) (ps : List PlL), e = .returned (at_ hp) ∧ Hd w' w.heap.size hp la ln lc up pa pc ps d0 ∧ Below w.heap.size w w' ∧ Gp L up v ln ps
set_option maxRecDepth 100000 in
set_option maxHeartbeats 8000000 in
theorem on_any (fc : Nat) (f1 : Value) (hl : LsAt w la ln lc L) (hln : ln ≤ 1000) {v : Nat → Nat} (hv : ∀ i, v i ≤ lenL L i) (hfew : ∀ i, lenL L i ≤ 4000000000000)
    (hfc : ∀ (W : World) (i : Int), (callFunc fc #[f1, .int .i64 i]).run Try.prog W = .ok (.enter fc #[f1, .int .i64 i]) W)
    (hc : ∀ W, Below w.heap.size w W → ∀ i : Nat, i < ln → Calls Try.prog fc #[f1, .int .i64 (i : Int)] W fun e w' => e = .returned (.int .i64 (v i : Int)) ∧ Below W.heap.size W w') :
    Calls Try.prog 29 #[.slice la ln lc, .func (.func fc) #[f1] #[]] w fun e w' => OnP w la ln lc true L v e w' := by
  have hmf : ∀ (fn : Fn) (first cap : Array Value) (w : World), (Instr.makeFunc fn first cap).run Try.prog w = .ok (.func fn first cap) w := fun _ _ _ _ => rfl
  have HL : Hid (LsAt w la ln lc L ∧ (∀ i, v i ≤ lenL L i) ∧ ∀ i, lenL L i ≤ 4000000000000) := ⟨hl, hv, hfew⟩
  have HC : Hid (∀ W, Below w.heap.size w W → ∀ i : Nat, i < ln → Calls Try.prog fc #[f1, .int .i64 (i : Int)] W fun e w' => e = .returned (.int .i64 (v i : Int)) ∧ Below W.heap.size W w') := hc
  have HI0 : Hid (∃ (pa : Option Addr) (pc : Nat) (ps : List PlL), Hd (w.alloc (.cells #[.slice la ln lc, .int .i64 (1), .func (.func 38) #[.slice la ln lc] #[], .slice none 0 0, .int .i64 0, .int .i64 0] THd)) w.heap.size w.heap.size la ln lc true pa pc ps d0 ∧ Below w.heap.size w (w.alloc (.cells #[.slice la ln lc, .int .i64 (1), .func (.func 38) #[.slice la ln lc] #[], .slice none 0 0, .int .i64 0, .int .i64 0] THd)) ∧ Gp L true v 0 ps) :=
    ⟨none, 0, [], ⟨Nat.le_refl _, Box.new _ _ _, OwnP.nil _ _⟩, (Below.refl _ _).alloc (Nat.le_refl _) _, Gp.start L true v⟩
  clear hl hc hv hfew
  go_enter Try.func29, Try.ntmps29
  go_wp2_with fail
  go_loopw [15] (fun s15 wr => ∃ (i : Nat), i ≤ ln ∧ s15 = .int .i64 (i : Int) ∧ Hid (∃ (pa : Option Addr) (pc : Nat) (ps : List PlL), Hd wr w.heap.size w.heap.size la ln lc true pa pc ps d0 ∧ Below w.heap.size w wr ∧ Gp L true v i ps)) (fun s15 _ => ln - (intOf s15).toNat)
  case atStart => exact ⟨0, Nat.zero_le _, rfl, HI0.out⟩
  case round =>
    clear HI0
    obtain ⟨i, hin, rfl, HI⟩ := hrel
    by_cases hi : i < ln
    · have hiI : (i : Int) < (ln : Int) := by omega
      go_wp2_with fail
      obtain ⟨pa, pc, ps, hd, hb, hg⟩ := HI.out
      have HJ : Hid (Hd wr w.heap.size w.heap.size la ln lc true pa pc ps d0 ∧ Below w.heap.size w wr ∧ Gp L true v i ps) := ⟨hd, hb, hg⟩
      clear hd hb hg HI
      refine (HC.out _ HJ.out.2.1 i hi).mono ?_
      rintro _ w2 ⟨rfl, hb2⟩
      have H2 : Hid (Hd w2 w.heap.size w.heap.size la ln lc true pa pc ps d0 ∧ Below w.heap.size w w2 ∧ Gp L true v i ps) := ⟨HJ.out.1.below hb2, HJ.out.2.1.trans (hb2.mono HJ.out.2.1.size), HJ.out.2.2⟩
      clear hb2 HJ
      have hvb := HL.out.2.1 i
      have hvc := HL.out.2.2 i
      have HSTEP : Hid (∀ (ps qs : List PlL), Gp L true v i ps → HeapF (ltD L true) qs.length 0 (fun k => qs.getD k d0) → ((0 ≤ (v i : Int) ∧ (v i : Int) < (lenL L i : Int)) → qs.Perm (ps ++ [(i, ((v i : Int)).toNat)])) → (¬ (0 ≤ (v i : Int) ∧ (v i : Int) < (lenL L i : Int)) → qs.Perm ps) → Gp L true v (i + 1) qs) := fun ps qs hg hh h1 h2 => by
        by_cases hx : v i < lenL L i
        · refine hg.more (j := v i) (by simpa using h1 ⟨by omega, by omega⟩) hh fun y => ⟨fun h => h.1, fun h => ?_⟩
          subst h
          exact ⟨rfl, hx⟩
        · exact hg.skip (h2 (by omega)) hh fun j h => hx (by obtain ⟨h1, h2⟩ := h; dsimp only at h1 h2; omega)
      obtain ⟨xv, hxv⟩ : ∃ x : Int, x = (v i : Int) := ⟨_, rfl⟩
      rw [← hxv] at HSTEP ⊢
      clear hxv hvb hvc
      go_wp2_with fail
      refine (lay_any H2.out.1 H2.out.2.1.size (fun W hW => HL.out.1.below (H2.out.2.1.trans hW)) hi xv (H2.out.2.2.inL HL.out.2.1 (by omega)) (by have := H2.out.2.2.len; omega) H2.out.2.2.heap).mono ?_
      rintro _ w3 ⟨rfl, qs, pa', pc', g1, g2, g3, g4, g5⟩
      have H3 : Hid (∃ (pa : Option Addr) (pc : Nat) (ps : List PlL), Hd w3 w.heap.size w.heap.size la ln lc true pa pc ps d0 ∧ Below w.heap.size w w3 ∧ Gp L true v (i + 1) ps) := ⟨pa', pc', qs, g1, H2.out.2.1.trans g2, HSTEP.out _ _ H2.out.2.2 g3 g4 g5⟩
      clear g1 g2 g3 g4 g5 H2
      go_wp2
      go_roundw
      case rel => exact ⟨i + 1, by omega, by go_num, H3.out⟩
      case measure => simp only [intOf]; omega
    · obtain rfl : i = ln := by omega
      obtain ⟨pa, pc, ps, hd, hb, hg⟩ := HI.out
      have HF : Hid (Hd wr w.heap.size w.heap.size la i lc true pa pc ps d0 ∧ Below w.heap.size w wr ∧ Gp L true v i ps) := ⟨hd, hb, hg⟩
      clear hd hb hg HI
      go_wp2
      go_ret
      exact ⟨w.heap.size, pa, pc, ps, rfl, HF.out⟩
set_option maxRecDepth 100000 in
set_option maxHeartbeats 8000000 in
theorem back_any (fc : Nat) (f1 : Value) (hl : LsAt w la ln lc L) (hln : ln ≤ 1000) {v : Nat → Nat} (hv : ∀ i, v i ≤ lenL L i) (hfew : ∀ i, lenL L i ≤ 4000000000000)
    (hfc : ∀ (W : World) (i : Int), (callFunc fc #[f1, .int .i64 i]).run Try.prog W = .ok (.enter fc #[f1, .int .i64 i]) W)
    (hc : ∀ W, Below w.heap.size w W → ∀ i : Nat, i < ln → Calls Try.prog fc #[f1, .int .i64 (i : Int)] W fun e w' => e = .returned (.int .i64 (v i : Int)) ∧ Below W.heap.size W w') :
    Calls Try.prog 32 #[.slice la ln lc, .func (.func fc) #[f1] #[]] w fun e w' => OnP w la ln lc false L v e w' := by
  have hmf : ∀ (fn : Fn) (first cap : Array Value) (w : World), (Instr.makeFunc fn first cap).run Try.prog w = .ok (.func fn first cap) w := fun _ _ _ _ => rfl
  have HL : Hid (LsAt w la ln lc L ∧ (∀ i, v i ≤ lenL L i) ∧ ∀ i, lenL L i ≤ 4000000000000) := ⟨hl, hv, hfew⟩
  have HC : Hid (∀ W, Below w.heap.size w W → ∀ i : Nat, i < ln → Calls Try.prog fc #[f1, .int .i64 (i : Int)] W fun e w' => e = .returned (.int .i64 (v i : Int)) ∧ Below W.heap.size W w') := hc
  have HI0 : Hid (∃ (pa : Option Addr) (pc : Nat) (ps : List PlL), Hd (w.alloc (.cells #[.slice la ln lc, .int .i64 (-1), .func (.func 40) #[.slice la ln lc] #[], .slice none 0 0, .int .i64 0, .int .i64 0] THd)) w.heap.size w.heap.size la ln lc false pa pc ps d0 ∧ Below w.heap.size w (w.alloc (.cells #[.slice la ln lc, .int .i64 (-1), .func (.func 40) #[.slice la ln lc] #[], .slice none 0 0, .int .i64 0, .int .i64 0] THd)) ∧ Gp L false v 0 ps) :=
    ⟨none, 0, [], ⟨Nat.le_refl _, Box.new _ _ _, OwnP.nil _ _⟩, (Below.refl _ _).alloc (Nat.le_refl _) _, Gp.start L false v⟩
  clear hl hc hv hfew
  go_enter Try.func32, Try.ntmps32
  go_wp2_with fail
  go_loopw [15] (fun s15 wr => ∃ (i : Nat), i ≤ ln ∧ s15 = .int .i64 (i : Int) ∧ Hid (∃ (pa : Option Addr) (pc : Nat) (ps : List PlL), Hd wr w.heap.size w.heap.size la ln lc false pa pc ps d0 ∧ Below w.heap.size w wr ∧ Gp L false v i ps)) (fun s15 _ => ln - (intOf s15).toNat)
  case atStart => exact ⟨0, Nat.zero_le _, rfl, HI0.out⟩
  case round =>
    clear HI0
    obtain ⟨i, hin, rfl, HI⟩ := hrel
    by_cases hi : i < ln
    · have hiI : (i : Int) < (ln : Int) := by omega
      go_wp2_with fail
      obtain ⟨pa, pc, ps, hd, hb, hg⟩ := HI.out
      have HJ : Hid (Hd wr w.heap.size w.heap.size la ln lc false pa pc ps d0 ∧ Below w.heap.size w wr ∧ Gp L false v i ps) := ⟨hd, hb, hg⟩
      clear hd hb hg HI
      refine (HC.out _ HJ.out.2.1 i hi).mono ?_
      rintro _ w2 ⟨rfl, hb2⟩
      have H2 : Hid (Hd w2 w.heap.size w.heap.size la ln lc false pa pc ps d0 ∧ Below w.heap.size w w2 ∧ Gp L false v i ps) := ⟨HJ.out.1.below hb2, HJ.out.2.1.trans (hb2.mono HJ.out.2.1.size), HJ.out.2.2⟩
      clear hb2 HJ
      have hvb := HL.out.2.1 i
      have hvc := HL.out.2.2 i
      have HSTEP : Hid (∀ (ps qs : List PlL), Gp L false v i ps → HeapF (ltD L false) qs.length 0 (fun k => qs.getD k d0) → ((0 ≤ (v i : Int) - 1 ∧ (v i : Int) - 1 < (lenL L i : Int)) → qs.Perm (ps ++ [(i, ((v i : Int) - 1).toNat)])) → (¬ (0 ≤ (v i : Int) - 1 ∧ (v i : Int) - 1 < (lenL L i : Int)) → qs.Perm ps) → Gp L false v (i + 1) qs) := fun ps qs hg hh h1 h2 => by
        by_cases hx : 0 < v i
        · refine hg.more (j := v i - 1) ?_ hh fun y => ⟨fun h => ?_, fun h => ?_⟩
          · rw [show v i - 1 = ((v i : Int) - 1).toNat by omega]
            exact h1 ⟨by omega, by omega⟩
          · have h' : y + 1 = v i := h
            omega
          · show y + 1 = v i
            omega
        · exact hg.skip (h2 (by omega)) hh fun j h => hx (by have h' : j + 1 = v i := h; omega)
      have hw1 : IntKind.i64.wrap ((v i : Int) - 1) = (v i : Int) - 1 := by rw [IntKind.wrap_i64]; omega
      go_wp2_with fail
      refine (lay_any H2.out.1 H2.out.2.1.size (fun W hW => HL.out.1.below (H2.out.2.1.trans hW)) hi ((v i : Int) - 1) (H2.out.2.2.inL HL.out.2.1 (by omega)) (by have := H2.out.2.2.len; omega) H2.out.2.2.heap).mono ?_
      rintro _ w3 ⟨rfl, qs, pa', pc', g1, g2, g3, g4, g5⟩
      have H3 : Hid (∃ (pa : Option Addr) (pc : Nat) (ps : List PlL), Hd w3 w.heap.size w.heap.size la ln lc false pa pc ps d0 ∧ Below w.heap.size w w3 ∧ Gp L false v (i + 1) ps) := ⟨pa', pc', qs, g1, H2.out.2.1.trans g2, HSTEP.out _ _ H2.out.2.2 g3 g4 g5⟩
      clear g1 g2 g3 g4 g5 H2
      go_wp2
      go_roundw
      case rel => exact ⟨i + 1, by omega, by go_num, H3.out⟩
      case measure => simp only [intOf]; omega
    · obtain rfl : i = ln := by omega
      obtain ⟨pa, pc, ps, hd, hb, hg⟩ := HI.out
      have HF : Hid (Hd wr w.heap.size w.heap.size la i lc false pa pc ps d0 ∧ Below w.heap.size w wr ∧ Gp L false v i ps) := ⟨hd, hb, hg⟩
      clear hd hb hg HI
      go_wp2
      go_ret
      exact ⟨w.heap.size, pa, pc, ps, rfl, HF.out⟩
end
end Go.Proofs.Ytfijibengmgegaa
