/- The contracts of sstable's fill: how many entries a block has. -/
import Derived.Test.YtgegjcnjlibfdaaGreatQa07
import Derived.Test.YtgegjcnjlibfdaaGreatQa09
import Derived.Laws.EntriesVeiled
import Derived.Lib.MinMax
import Derived.RangeFuncNested
import Derived.RangeFuncBound
import Derived.RangeFuncCalls
import Derived.RangeFuncLeaves
import Derived.RangeFuncBox
import Derived.Shelf.Abstract
import Derived.Shelf.RegionOpen
import Derived.OwnWalkIn
import Derived.TacticsInMore
import Derived.LoopNIn
import Derived.LoopIn
namespace Go.Proofs.YtgegjcnjlibfdaaGreat
set_option maxRecDepth 100000
open Go.RowKit
set_option linter.unusedVariables false
set_option linter.unusedSimpArgs false
abbrev TKs : TypeId := 23
abbrev TOp : TypeId := 26
abbrev TFb : TypeId := 100
def opA (bl iv : Int) (bits : Nat) : Array Value := #[.int .i64 bl, .int .i64 iv, .float .f64 bits]
theorem ks_to {w0 : World} {l0 : List KV} {a : Option Addr} {n c : Nat} (h : KsAt w0 a n c l0) (hbare : a = none → c = 0) (hspot : ∀ x, a = some x → x.spot = none) (k : Nat) (hk : k ≤ n) :
    ∃ a', (∀ W : World, (Instr.slice TKs (.slice a n c) none (some (.int .i64 (k : Int))) none).run Tryz.prog W = .ok (.slice a' k c) W) ∧
      (∀ (W : World) (l : List KV), KsAt W a n c l → KsAt W a' k c (l.take k)) ∧ (a' = none → c = 0) ∧ (∀ x, a' = some x → x.spot = none) := by
  have hle := h.le
  have hmx := h.max
  have hz : ∀ W, (sizeOf (Tryz.prog.elem TKs)).run Tryz.prog W = .ok 4 W := fun W => by kernel_rfl
  refine ⟨a, fun W => ?_, fun W l hl => hl.upTo hk, hbare, hspot⟩
  cases a with
  | none =>
    have := hbare rfl
    obtain rfl : k = 0 := by omega
    obtain rfl : c = 0 := by omega
    simp [Instr.slice, run_underlying Tryz.underlying23, go_sem]
  | some ad =>
    have h1 : k ≤ c := by omega
    have hz2 := hz W
    by_cases hc : c = 0
    · subst hc
      obtain rfl : k = 0 := by omega
      simp [Instr.slice, run_underlying Tryz.underlying23, go_sem, hz2]
    · simp [Instr.slice, run_underlying Tryz.underlying23, go_sem, h1, hz2, hc]
structure FL (a : Option Addr) (n c iv bl : Nat) (l : List KV) : Prop where
  bare : a = none → c = 0
  spot : ∀ x, a = some x → x.spot = none
  one : 1 ≤ iv
  top : iv ≤ 16
  ok : chkL l = 0
  len : l.length = n
  small : n ≤ 1000000
set_option maxHeartbeats 4000000 in
theorem full_any {V : World} {a : Option Addr} {n c iv bl : Nat} {l : List KV} {bits : Nat} (h : KsAt V a n c l) (hf : FL a n c iv bl l) {lb ob : Nat} (hl : Box V lb TKs #[.slice a n c]) (ho : Box V ob TOp (opA (bl : Int) (iv : Int) bits)) {m : Nat} (hm : m ≤ n) :
    Calls Tryz.prog 122 #[.int .i64 (m : Int), at_ lb, at_ ob] V fun r w' => r = .returned (.bool (fullN iv bl l m)) ∧ Below V.heap.size V w' := by
  have hsz := h.size
  have hmx := h.max
  unfold maxLen at hmx
  have hle := h.le
  have hsmall := hf.small
  obtain ⟨a', hs, hq, hb', hsp'⟩ := ks_to h hf.bare hf.spot m hm
  have HB : Hid (∀ W, Below V.heap.size V W → Calls Tryz.prog 64 #[.slice a' m c, .int .i64 (iv : Int)] W fun r w' => ∃ a2 c2, r = .returned (.slice a2 (layP iv (l.take m)).length c2) ∧ Below W.heap.size W w') := fun W hW => by
    refine (blk_yes a' m c (l.take m) iv hf.one hf.top W ((hq V l h).below hW) hb' hsp' (by omega) ?_).mono ?_
    · have := (chkL_zero.1 hf.ok)
      exact chkL_zero.2 ⟨fun e he => this.1 e (List.mem_of_mem_take he), List.Pairwise.sublist (List.take_sublist _ _) this.2⟩
    · rintro _ w' ⟨a2, c2, rfl, ho2, hb2⟩
      exact ⟨a2, c2, rfl, hb2⟩
  have HK : Hid (∀ W : World, Below V.heap.size V W → W.cell? ⟨lb, 0, none⟩ = some (.slice a n c) ∧ W.cell? ⟨ob, 0, none⟩ = some (.int .i64 (bl : Int)) ∧ W.cell? ⟨ob, 1, none⟩ = some (.int .i64 (iv : Int))) := by
    intro W hW
    have tr : ∀ {a : Addr} {v : Value}, V.cell? a = some v → W.cell? a = some v := fun {a v} hv => by rw [hW.cell (World.block_lt_of_cell? V _ hv)]; exact hv
    exact ⟨tr (hl.cell 0), tr (ho.cell 0), tr (ho.cell 1)⟩
  have HLB : Hid ((layP iv (l.take m)).length ≤ (layP iv (l.take m)).length) := Nat.le_refl _
  have HF : Hid (fullN iv bl l m = decide (bl ≤ (layP iv (l.take m)).length)) := rfl
  rw [HF.out]
  generalize (layP iv (l.take m)).length = L at *
  obtain ⟨x0, x1, x2⟩ := HK.out V.drew (Below.refl _ _).drew
  clear hq hb' hsp' h hl ho hf
  go_enter Tryz.func122, Tryz.ntmps122
  go_wp2_with fail
  go_region_held3 (fun W => W.cell? ⟨lb, 0, none⟩ = some (.slice a n c) ∧ W.cell? ⟨ob, 0, none⟩ = some (.int .i64 (bl : Int)) ∧ W.cell? ⟨ob, 1, none⟩ = some (.int .i64 (iv : Int))) (first | with_reducible exact ⟨x0, x1, x2⟩ | go_keep)
    (first
     | (go_at_call 64; refine (HB.out _ (Below.refl _ _).drew).mono ?_; rintro _ v1 ⟨a2, c2, rfl, hb1⟩
        have HB1 : Hid (Below V.heap.size V v1) := (Below.refl _ _).drew.trans hb1
        obtain ⟨x0, x1, x2⟩ := HK.out v1 HB1.out
        clear hb1))
  by_cases hcv : bl ≤ L
  · have HC : Hid (decide (bl ≤ L) = true) := decide_eq_true hcv
    have hcv' : (bl : Int) ≤ (L : Int) := by omega
    go_wp2
    go_ret
    exact ⟨ret1 (by first | rfl | (rw [HC.out]; rfl)), HB1.out⟩
  · have HC : Hid (decide (bl ≤ L) = false) := decide_eq_false hcv
    have hcv' : ¬ (bl : Int) ≤ (L : Int) := by omega
    go_wp2
    go_ret
    exact ⟨ret1 (by first | rfl | (rw [HC.out]; rfl)), HB1.out⟩
def fnF (lb ob : Nat) : Value := .func (.func 122) #[] #[at_ lb, at_ ob]
structure FW (w V : World) (a : Option Addr) (n c iv bl bits : Nat) : Prop where
  base : Below w.heap.size w V
  lb : Box V w.heap.size TKs #[.slice a n c]
  ob : Box V (w.heap.size + 1) TOp (opA (bl : Int) (iv : Int) bits)
  fb : Box V (w.heap.size + 2) TFb #[fnF w.heap.size (w.heap.size + 1)]
theorem FW.call {w V V' : World} {a : Option Addr} {n c iv bl bits : Nat} (h : FW w V a n c iv bl bits) (hb : Below V.heap.size V V') : FW w V' a n c iv bl bits := ⟨h.base.trans (hb.mono h.base.size), h.lb.kept (hb.block _ h.lb.lt), h.ob.kept (hb.block _ h.ob.lt), h.fb.kept (hb.block _ h.fb.lt)⟩
set_option maxHeartbeats 2000000 in
theorem fill2_any {w V : World} {a : Option Addr} {n c iv bl bits : Nat} {l : List KV} (h : KsAt w a n c l) (hf : FL a n c iv bl l) (hV : FW w V a n c iv bl bits) {i : Nat} (hi : i + 1 ≤ n) :
    Calls Tryz.prog 123 #[.int .i64 (i : Int), at_ (w.heap.size + 2)] V fun r w' => r = .returned (.bool (fullN iv bl l (i + 1))) ∧ Below V.heap.size V w' := by
  have hc := full_any (h.below hV.base) hf hV.lb hV.ob hi
  rw [show ((i + 1 : Nat) : Int) = 1 + (i : Int) by omega] at hc
  have c0 : V.cell? ⟨w.heap.size + 2, 0, none⟩ = some (.func (.func 122) #[] #[at_ w.heap.size, at_ (w.heap.size + 1)]) := hV.fb.cell 0
  have hs := hf.small
  clear h hf hV
  go_enter Tryz.func123, Tryz.ntmps123
  go_wp2_with fail
  refine hc.mono ?_
  rintro _ w1 ⟨rfl, hb⟩
  have HB : Hid (Below V.heap.size V w1) := hb
  clear hb hc
  go_wp2
  go_ret
  exact ⟨ret1 rfl, HB.out⟩
set_option maxHeartbeats 4000000 in
theorem filln_any {w : World} {a : Option Addr} {n c iv bl bits : Nat} {l : List KV} (h : KsAt w a n c l) (hf : FL a n c iv bl l) (hn : 1 ≤ n) :
    Calls Tryz.prog 104 #[.slice a n c, .agg (opA (bl : Int) (iv : Int) bits)] w fun r w' => r = .returned (.int .i64 ((fillN iv bl l : Nat) : Int)) ∧ Below w.heap.size w w' := by
  have HS : Hid (KsAt w a n c l ∧ FL a n c iv bl l) := ⟨h, hf⟩
  have hsm := hf.small
  have hmf : ∀ (fn : Fn) (first cap : Array Value) (w : World), (Instr.makeFunc fn first cap).run Tryz.prog w = .ok (.func fn first cap) w := fun _ _ _ _ => rfl
  have HFU : Hid (∀ (m : Nat), m ≤ n → ∀ V, FW w V a n c iv bl bits → Calls Tryz.prog 122 #[.int .i64 (m : Int), at_ w.heap.size, at_ (w.heap.size + 1)] V fun r w' => r = .returned (.bool (fullN iv bl l m)) ∧ Below V.heap.size V w') := fun m hm V hV => full_any (h.below hV.base) hf hV.lb hV.ob hm
  have HFI : Hid (∀ r, IsFill iv bl l r → r = fillN iv bl l) := fun r hr => hr.uniq (fillN_is iv bl (by intro e; rw [← hf.len, e] at hn; simp at hn))
  have HW : Hid (FW w (((w.alloc (.cells #[.slice a n c] TKs)).alloc (.cells (opA (bl : Int) (iv : Int) bits) TOp)).alloc (.cells #[fnF w.heap.size (w.heap.size + 1)] TFb)) a n c iv bl bits) := by
    refine ⟨(((Below.refl _ _).alloc (Nat.le_refl _) _).alloc (by simp) _).alloc (by simp; omega) _, ((Box.new _ _ _).alloc _).alloc _, ?_, ?_⟩
    · have := (Box.new (w.alloc (.cells #[.slice a n c] TKs)) TOp (opA (bl : Int) (iv : Int) bits)).alloc (.cells #[fnF w.heap.size (w.heap.size + 1)] TFb)
      rw [World.size_alloc] at this
      exact this
    · have := Box.new ((w.alloc (.cells #[.slice a n c] TKs)).alloc (.cells (opA (bl : Int) (iv : Int) bits) TOp)) TFb #[fnF w.heap.size (w.heap.size + 1)]
      rw [World.size_alloc, World.size_alloc] at this
      exact this
  have HSR : Hid (∀ (mm : Nat) (V : World), 1 ≤ mm → mm ≤ n → (mm = n ∨ fullN iv bl l mm = true) → FW w V a n c iv bl bits → Calls Tryz.prog 47 #[.int .i64 ((mm : Int) - 1), .func (.func 123) #[] #[at_ (w.heap.size + 2)]] V fun e w' => ∃ r : Nat, e = .returned (.int .i64 (r : Int)) ∧ r + 1 = fillN iv bl l ∧ r ≤ 1000000 ∧ Below V.heap.size V w') := by
    intro mm V h1 h2 h3 hV
    rw [show (mm : Int) - 1 = ((mm - 1 : Nat) : Int) by omega]
    refine (searchF (mm - 1) (by omega) (fun i => fullN iv bl l (i + 1)) _ V (fun W hW i hi => fill2_any h hf (hV.call hW) (by omega)) (fun i j hij hj hp => full_mono hf.one (by omega) (by rw [hf.len]; omega) hp)).mono ?_
    rintro _ w' ⟨r, rfl, hr, g1, g2, hb⟩
    refine ⟨r, rfl, HFI.out _ ⟨by omega, by rw [hf.len]; omega, fun q hq1 hq2 => ?_, ?_⟩, by omega, hb⟩
    · have := g1 (q - 1) (by omega)
      rw [show q - 1 + 1 = q by omega] at this
      exact this
    · by_cases hrm : r < mm - 1
      · exact .inr (g2 r (Nat.le_refl _) hrm)
      · have e : r + 1 = mm := by omega
        rw [e, hf.len]
        exact h3
  clear h hf
  unfold opA at HW ⊢
  unfold fnF at HW
  go_enter Tryz.func104, Tryz.ntmps104
  go_wp2_with fail
  generalize ((w.alloc (.cells #[.slice a n c] TKs)).alloc (.cells #[.int .i64 (bl : Int), .int .i64 (iv : Int), .float .f64 bits] TOp)).alloc (.cells #[.func (.func 122) #[] #[at_ w.heap.size, at_ (w.heap.size + 1)]] TFb) = W0 at *
  go_loopw [6] (fun s wr => ∃ m : Nat, 1 ≤ m ∧ m ≤ 2000000 ∧ s = .int .i64 (m : Int) ∧ Hid (FW w wr a n c iv bl bits)) (fun s _ => n - (intOf s).toNat)
  case atStart => exact ⟨1, by omega, by omega, rfl, HW.out⟩
  case round =>
    obtain ⟨m, hm1, hm2, rfl, HR⟩ := hrel
    have c0 : wr.cell? ⟨w.heap.size, 0, none⟩ = some (.slice a n c) := HR.out.lb.cell 0
    have c2 : wr.cell? ⟨w.heap.size + 2, 0, none⟩ = some (.func (.func 122) #[] #[at_ w.heap.size, at_ (w.heap.size + 1)]) := HR.out.fb.cell 0
    by_cases hmn : m < n
    · have hfu := HFU.out m (by omega) wr HR.out
      have hmn' : (m : Int) < (n : Int) := by omega
      have hw2 : IntKind.i64.wrap ((m : Int) * 2) = (m : Int) * 2 := by
        have := i64_wrap (m * 2) (by omega)
        simpa using this
      cases hfl : fullN iv bl l m with
      | true =>
        have HFL : Hid (fullN iv bl l m = true) := hfl
        rw [hfl] at hfu
        clear hfl
        go_wp2_with fail
        refine hfu.mono ?_
        rintro _ w1 ⟨rfl, hb1⟩
        have H1 : Hid (FW w w1 a n c iv bl bits) := HR.out.call hb1
        have c0 : w1.cell? ⟨w.heap.size, 0, none⟩ = some (.slice a n c) := H1.out.lb.cell 0
        have hmin : min (m : Int) (n : Int) = (m : Int) := by omega
        clear hb1 hfu
        go_wp2_with fail
        refine (HSR.out m w1 hm1 (by omega) (.inr HFL.out) H1.out).mono ?_
        rintro _ w2 ⟨r, rfl, hr, hr2, hb2⟩
        have H2 : Hid (Below w.heap.size w w2 ∧ r + 1 = fillN iv bl l) := ⟨H1.out.base.trans (hb2.mono H1.out.base.size), hr⟩
        clear hr hb2
        go_wp2
        go_ret
        exact ⟨ret1 (by rw [← H2.out.2]; show Value.int _ _ = _; congr 1; omega), H2.out.1⟩
      | false =>
        rw [hfl] at hfu
        clear hfl
        go_wp2_with fail
        refine hfu.mono ?_
        rintro _ w1 ⟨rfl, hb1⟩
        have H1 : Hid (FW w w1 a n c iv bl bits) := HR.out.call hb1
        clear hb1 hfu
        go_wp2
        go_roundw
        case rel => exact ⟨m * 2, by omega, by omega, by go_num, H1.out⟩
        case measure => simp only [intOf]; omega
    · have hmn' : ¬ (m : Int) < (n : Int) := by omega
      have hmin : min (m : Int) (n : Int) = (n : Int) := by omega
      go_wp2_with fail
      refine (HSR.out n wr hn (Nat.le_refl _) (.inl rfl) HR.out).mono ?_
      rintro _ w2 ⟨r, rfl, hr, hr2, hb2⟩
      have H2 : Hid (Below w.heap.size w w2 ∧ r + 1 = fillN iv bl l) := ⟨HR.out.base.trans (hb2.mono HR.out.base.size), hr⟩
      clear hr hb2
      go_wp2
      go_ret
      exact ⟨ret1 (by rw [← H2.out.2]; show Value.int _ _ = _; congr 1; omega), H2.out.1⟩
end Go.Proofs.YtgegjcnjlibfdaaGreat
/- Entries in groups, as sstable's groups tells them: an iterator. -/
namespace Go.Proofs.YtgegjcnjlibfdaaGreat
set_option maxRecDepth 100000
open Go.RowKit Go.Shelf
attribute [local go_sem] Oper.semAt_some
set_option linter.unusedVariables false
set_option linter.unusedSimpArgs false
/-- A group as it is told. -/
abbrev GpX (w : World) := { x : Option Addr × List KV // KsAt w x.1 x.2.length x.2.length x.2 ∧ x.2 ≠ [] ∧ x.2.length ≤ 1000 ∧ chkL x.2 = 0 ∧ (x.1 = none → x.2.length = 0) ∧ ∀ y, x.1 = some y → y.spot = none }
def GpX.vals {w : World} (x : GpX w) : Array Value := #[.slice x.1.1 x.1.2.length x.1.2.length]
def GpX.ls {w : World} (l : List (GpX w)) : List (List KV) := l.map fun x => x.1.2
theorem gls_snoc {w : World} (l : List (GpX w)) (x : GpX w) : GpX.ls (l ++ [x]) = GpX.ls l ++ [x.1.2] := by simp [GpX.ls]
theorem ks_to3 {w0 : World} {l0 : List KV} {a : Option Addr} {n c : Nat} (h : KsAt w0 a n c l0) (hspot : ∀ x, a = some x → x.spot = none) (z : Nat) (hz : 0 < z) (hzn : z ≤ n) :
    ∃ a', (∀ W : World, (Instr.slice TKs (.slice a n c) none (some (.int .i64 (z : Int))) (some (.int .i64 (z : Int)))).run Tryz.prog W = .ok (.slice a' z z) W) ∧
      (∀ (W : World) (l : List KV), KsAt W a n c l → KsAt W a' z z (l.take z)) ∧ (a' ≠ none) ∧ ∀ x, a' = some x → x.spot = none := by
  have hle := h.le
  have hmx := h.max
  obtain ⟨b, off, rfl, _⟩ := h.here (by omega)
  have hzz : ∀ W, (sizeOf (Tryz.prog.elem TKs)).run Tryz.prog W = .ok 4 W := fun W => by kernel_rfl
  refine ⟨some ⟨b, off, none⟩, fun W => ?_, fun W l hl => ?_, by simp, fun x e => by cases e; rfl⟩
  · have hz2 := hzz W
    have h1 : z ≤ c := by omega
    simp [Instr.slice, run_underlying Tryz.underlying23, go_sem, hz2, h1]
    try omega
  · have h2 := hl.upTo hzn
    exact ⟨h2.size, Nat.le_refl _, by omega, h2.here⟩
theorem chk_drop {l : List KV} (h : chkL l = 0) (k : Nat) : chkL (l.drop k) = 0 := by
  have := chkL_zero.1 h
  exact chkL_zero.2 ⟨fun e he => this.1 e (List.mem_of_mem_drop he), List.Pairwise.sublist (List.drop_sublist _ _) this.2⟩
theorem chk_take {l : List KV} (h : chkL l = 0) (k : Nat) : chkL (l.take k) = 0 := by
  have := chkL_zero.1 h
  exact chkL_zero.2 ⟨fun e he => this.1 e (List.mem_of_mem_take he), List.Pairwise.sublist (List.take_sublist _ _) this.2⟩
def lenV : Value → Nat
  | .slice _ n _ => n
  | _ => 0
theorem grown_noneG {W W' : World} (h : Below W.heap.size W W') : W.grownBy W' none := ⟨h.os, h.tape, h.output, h.size, fun k hk _ => h.block k hk⟩
set_option maxHeartbeats 4000000 in
theorem groups1_in (f : Nat) (hf : 2 ≤ f) (w : World) (a : Option Addr) (n c iv bl bits : Nat) (l : List KV) (h : KsAt w a n c l) (hF : FL a n c iv bl l) (hn3 : n ≤ 1000) (lb Bs : Nat) (J Jx : List (GpX w) → World → Prop) (W : World) (hWw : Below w.heap.size w W)
    (hJ : AbidesFrom W.heap.size J)
    (hY : ∀ pre x W1, J pre W1 → pre.length < (grps iv bl l).length → YieldAt Fence.wide (f - 1) Tryz.prog lb (GpX.vals x) W1 fun e W' =>
      (e = .returned (.bool true) ∧ J (pre ++ [x]) W' ∧ Kp4 w.heap.size Bs W1 W') ∨ (e = .returned (.bool false) ∧ Jx (pre ++ [x]) W'))
    (hB0 : Boxed W Bs TKs (.slice a n c)) (hB1 : Box W (Bs + 1) TOp (opA (bl : Int) (iv : Int) bits)) (h0 : J [] W) :
    CallsIn Fence.wide f Tryz.prog 103 #[.func (.yield lb) #[] #[], .pointer (some ⟨Bs, 0, none⟩), .pointer (some ⟨Bs + 1, 0, none⟩)] W fun e W' => (∃ v, e = .returned v) ∧
      ((∃ xs, GpX.ls xs = grps iv bl l ∧ J xs W') ∨ (∃ pre, (∃ t, GpX.ls pre ++ t = grps iv bl l) ∧ Jx pre W')) := by
  have HK : Hid (KsAt w a n c l ∧ FL a n c iv bl l) := ⟨h, hF⟩
  have hsm := hF.small
  have hmix : Tryz.prog.follows Departure.mixedOrders = true := by kernel_rfl
  have hx0 := hB0.cell
  have HW0 : Hid (Below w.heap.size w W) := hWw
  clear h hF hWw
  refine callsIn_of_wp Tryz.func103 rfl trivial ?_ rfl
  simp only [Tryz.ntmps103, List.size_toArray, List.length_cons, List.length_nil, Nat.reduceAdd, Nat.reduceSub, Array.replicate_succ, Array.replicate_zero, List.push_toArray, List.append_toArray, List.nil_append, List.cons_append]
  gi_wp2
  gi_loopw [4] (fun x wr => ∃ (ar : Option Addr) (nr cr : Nat) (pre : List (GpX w)), nr ≤ n ∧ x = .slice ar nr cr ∧ Hid (∃ r, KsAt w ar nr cr r ∧ FL ar nr cr iv bl r ∧ GpX.ls pre ++ grps iv bl r = grps iv bl l ∧ J pre wr ∧ Below w.heap.size w wr ∧ Box wr (Bs + 1) TOp (opA (bl : Int) (iv : Int) bits))) (fun x _ => lenV x)
  case atStart => exact ⟨a, n, c, [], Nat.le_refl _, rfl, l, HK.out.1, HK.out.2, rfl, h0, HW0.out, hB1⟩
  case round =>
    obtain ⟨ar, nr, cr, pre, hnr, rfl, HR⟩ := hrel
    obtain ⟨r, hk, hfl, hg, hj, hbw, hbo⟩ := HR.out
    have HQ : Hid (KsAt w ar nr cr r ∧ FL ar nr cr iv bl r ∧ GpX.ls pre ++ grps iv bl r = grps iv bl l ∧ J pre wr ∧ Below w.heap.size w wr ∧ Box wr (Bs + 1) TOp (opA (bl : Int) (iv : Int) bits)) := ⟨hk, hfl, hg, hj, hbw, hbo⟩
    clear hk hfl hg hj hbw hbo HR
    by_cases hlt : 0 < nr
    · have hrne : r ≠ [] := by
        intro e
        have h1 := HQ.out.2.1.len
        rw [e] at h1
        simp at h1
        omega
      have hfi := fillN_is iv bl hrne
      have HGC : Hid (grps iv bl r = r.take (fillN iv bl r) :: grps iv bl (r.drop (fillN iv bl r))) := grps_cons iv bl hrne
      have hc := filln_any (bits := bits) (w := wr) (HQ.out.1.below HQ.out.2.2.2.2.1) HQ.out.2.1 hlt
      have hz1 := hfi.pos
      have hz2 := hfi.le
      rw [HQ.out.2.1.len] at hz2
      generalize fillN iv bl r = z at *
      obtain ⟨p2, q2, r2, np2, sp2⟩ := ks_to3 HQ.out.1 HQ.out.2.1.spot z (by omega) hz2
      obtain ⟨p3, q3, r3, bp3, sp3⟩ := ks_from HQ.out.1 HQ.out.2.1.bare HQ.out.2.1.spot z hz2
      have hzl : (r.take z).length = z := by rw [List.length_take, HQ.out.2.1.len]; omega
      have hxp : KsAt w p2 (r.take z).length (r.take z).length (r.take z) ∧ r.take z ≠ [] ∧ (r.take z).length ≤ 1000 ∧ chkL (r.take z) = 0 ∧ (p2 = none → (r.take z).length = 0) ∧ ∀ y, p2 = some y → y.spot = none := by
        rw [hzl]
        refine ⟨r2 _ _ HQ.out.1, fun e => ?_, by omega, chk_take HQ.out.2.1.ok z, fun e => absurd e np2, sp2⟩
        rw [e] at hzl
        simp at hzl
        omega
      have HN : Hid (KsAt w p3 (nr - z) (cr - z) (r.drop z) ∧ FL p3 (nr - z) (cr - z) iv bl (r.drop z)) := ⟨r3 _ _ HQ.out.1, bp3, sp3, HQ.out.2.1.one, HQ.out.2.1.top, chk_drop HQ.out.2.1.ok z, by rw [List.length_drop, HQ.out.2.1.len], by have := HQ.out.2.1.small; omega⟩
      obtain ⟨x, HXE⟩ : ∃ x : GpX w, Hid (x = ⟨(p2, r.take z), hxp⟩) := ⟨_, rfl⟩
      have hval : GpX.vals x = #[.slice p2 z z] := by
        rw [HXE.out]
        simp only [GpX.vals, hzl]
      have HX2 : Hid (x.1.2 = r.take z) := by rw [HXE.out]; rfl
      have HPL : Hid (pre.length < (grps iv bl l).length) := by
        have h1 := congrArg List.length HQ.out.2.2.1
        rw [HGC.out] at h1
        simp [GpX.ls] at h1
        unfold Hid
        omega
      have b0 : wr.cell? ⟨Bs + 1, 0, none⟩ = some (.int .i64 (bl : Int)) := HQ.out.2.2.2.2.2.cell 0
      have b1 : wr.cell? ⟨Bs + 1, 1, none⟩ = some (.int .i64 (iv : Int)) := HQ.out.2.2.2.2.2.cell 1
      have b2 : wr.cell? ⟨Bs + 1, 2, none⟩ = some (.float .f64 bits) := HQ.out.2.2.2.2.2.cell 2
      unfold opA at hc
      clear hxp hzl r2 r3 bp3 sp3 sp2 np2 hfi hrne HXE
      gi_wp2
      refine ⟨trivial, fun _ => (by omega), (callsIn_wide.2 hc).mono ?_⟩
      rintro e w1 ⟨rfl, hb1⟩
      have H1 : Hid (J pre w1 ∧ Below w.heap.size w w1 ∧ Box w1 (Bs + 1) TOp (opA (bl : Int) (iv : Int) bits)) := ⟨hJ pre _ _ none HQ.out.2.2.2.1 (grown_noneG hb1) (fun r e => by cases e), HQ.out.2.2.2.2.1.trans (hb1.mono HQ.out.2.2.2.2.1.size), HQ.out.2.2.2.2.2.kept (hb1.block _ HQ.out.2.2.2.2.2.lt)⟩
      obtain ⟨fn, tmps, assign, body, hy, hR⟩ := hY pre x w1 H1.out.1 HPL.out
      rw [hval] at hy
      clear hb1 hc hval b0 b1 b2
      gi_wp2
      refine ⟨fun _ => (by omega), hR.mono ?_⟩
      rintro e W3 (⟨rfl, hJ3, hk3⟩ | ⟨rfl, hJx3⟩)
      · have H3 : Hid (J (pre ++ [x]) W3 ∧ Below w.heap.size w W3 ∧ Box W3 (Bs + 1) TOp (opA (bl : Int) (iv : Int) bits)) := ⟨hJ3, H1.out.2.1.trans hk3.below, H1.out.2.2.kept hk3.box1⟩
        clear hJ3 hk3
        gi_wp2
        refine ⟨⟨p3, nr - z, cr - z, pre ++ [x], by omega, rfl, r.drop z, HN.out.1, HN.out.2, ?_, H3.out.1, H3.out.2.1, H3.out.2.2⟩, ?_⟩
        · have h1 := HQ.out.2.2.1
          rw [HGC.out] at h1
          rw [gls_snoc, HX2.out, List.append_assoc]
          exact h1
        · simp [lenV]
          omega
      · gi_wp2
        refine bodyPost_ret (results_none rfl _ _ _) rfl ?_
        refine ⟨⟨_, rfl⟩, .inr ⟨_, ⟨grps iv bl (r.drop z), ?_⟩, hJx3⟩⟩
        have h1 := HQ.out.2.2.1
        rw [HGC.out] at h1
        rw [gls_snoc, HX2.out, List.append_assoc]
        exact h1
    · obtain rfl : nr = 0 := by omega
      gi_wp2
      go_end0
      refine ⟨⟨_, rfl⟩, .inl ⟨pre, ?_, HQ.out.2.2.2.1⟩⟩
      have h1 := HQ.out.2.2.1
      rw [List.eq_nil_of_length_eq_zero HQ.out.2.1.len, grps_nil, List.append_nil] at h1
      exact h1
theorem groups_stops (f : Nat) (hf : 2 ≤ f) (w : World) (a : Option Addr) (n c iv bl bits : Nat) (l : List KV) (h : KsAt w a n c l) (hF : FL a n c iv bl l) (hn3 : n ≤ 1000) (Bs : Nat) (w0 : World) (hw0 : Below w.heap.size w w0) (hB0 : Boxed w0 Bs TKs (.slice a n c)) (hB1 : Box w0 (Bs + 1) TOp (opA (bl : Int) (iv : Int) bits)) :
    SeqStopsK Fence.wide f Tryz.prog 103 #[.pointer (some ⟨Bs, 0, none⟩), .pointer (some ⟨Bs + 1, 0, none⟩)] (GpX.vals (w := w)) (Kp4 w.heap.size Bs) (fun xs => GpX.ls xs = grps iv bl l) (fun pre => ∃ t, GpX.ls pre ++ t = grps iv bl l) (grps iv bl l).length w0 :=
  fun lb J Jx W hW hJ _ hY h0 => groups1_in f hf w a n c iv bl bits l h hF hn3 lb Bs J Jx W (hw0.trans (hW.mono hw0.size)) hJ hY ((hW.block _ hB0.lt).trans hB0) (hB1.kept (hW.block _ hB1.lt)) h0
theorem groups_any (a : Option Addr) (n c : Nat) (bl iv : Int) (bits : Nat) (w : World) : Calls Tryz.prog 62 #[.slice a n c, .agg (opA bl iv bits)] w fun e w' =>
    e = .returned (.func (.func 103) #[] #[.pointer (some ⟨w.heap.size, 0, none⟩), .pointer (some ⟨w.heap.size + 1, 0, none⟩)]) ∧ w' = (w.alloc (.cells #[.slice a n c] TKs)).alloc (.cells (opA bl iv bits) TOp) := by
  have hmf : ∀ (fn : Fn) (first cap : Array Value) (w : World), (Instr.makeFunc fn first cap).run Tryz.prog w = .ok (.func fn first cap) w := fun _ _ _ _ => rfl
  unfold opA
  go_enter Tryz.func62, Tryz.ntmps62
  go_wp2
  go_ret
  exact ⟨ret1 rfl, rfl⟩
end Go.Proofs.YtgegjcnjlibfdaaGreat
