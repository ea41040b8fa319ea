/- Heads: Pop; the library's down and up at heads. -/
import Derived.Test.YtjoamhcehpjepabQa09
import Derived.Deep.LoopGhost
import Derived.WalkKit
namespace Go.Proofs.Ytjoamhcehpjepab
open Go.RowKit
set_option linter.unusedVariables false
set_option linter.unusedSimpArgs false
section
variable {w w' : World} {B hp : Nat} {la : Option Addr} {ln lc : Nat} {up : Bool} {pa : Option Addr} {pc : Nat} {ps : List PlL} {last : PlL} {L : List (List KV)}
set_option maxRecDepth 100000 in
theorem sliceP (W : World) {b n c i : Nat} (hi : i ≤ n) (hn : n ≤ c) : (Instr.slice 76 (.slice (some ⟨b, 0, none⟩) n c) none (some (.int .i64 (i : Int))) none).run Try.prog W = .ok (.slice (some ⟨b, 0, none⟩) i c) W := by
  have hz : (sizeOf (Try.prog.elem 76)).run Try.prog W = .ok 2 W := by kernel_rfl
  simp [Instr.slice, run_underlying Try.underlying76, go_sem, hz]
  intro h; omega
set_option maxRecDepth 100000 in
set_option maxHeartbeats 4000000 in
theorem hpop_any {q : PlL} (h : Hd w B hp la ln lc up pa pc (ps ++ [q]) last) (hn : ps.length + 1 ≤ 2000000000000) :
    Calls Try.prog 82 #[at_ hp] w fun e w' => e = .returned (.iface TPl (.agg #[.int .i64 (q.1 : Int), .int .i64 (q.2 : Int)])) ∧ Hd w' B hp la ln lc up pa pc ps last ∧ Chg (fun k => k = hp) w w' := by
  have hlen : (ps ++ [q]).length = ps.length + 1 := by simp
  obtain ⟨g, rfl, hc, hf⟩ := h.row.spots (by omega)
  have x3 := h.box.cell 3
  have hxs := h.box.soft 3
  simp only [List.getElem?_toArray, List.getElem?_cons_succ, List.getElem?_cons_zero] at x3
  obtain ⟨x4, x5⟩ := hc ps.length (by omega)
  have hpc := (row_addr h.row.row).1
  rw [hlen] at x3 hpc
  have hxi := fun W => idxP W (b := g) (c := pc) (Nat.lt_succ_self ps.length)
  have hsl := fun W => sliceP W (b := g) (c := pc) (n := ps.length + 1) (Nat.le_succ ps.length) hpc
  have eq : (ps ++ [q]).getD ps.length d0 = q := by simp [List.getD]
  rw [eq] at x4 x5
  have hne : hp ≠ g := h.apart rfl
  have hplt := h.box.lt
  have hglt := (h.row.ge (k := g) rfl).2
  have HS : Hid (∀ o : Obj, Hd ((w.setCell ⟨hp, 3, none⟩ (.slice (some ⟨g, 0, none⟩) ps.length pc)).alloc o) B hp la ln lc up (some ⟨g, 0, none⟩) pc ps last ∧ Chg (fun k => k = hp) w ((w.setCell ⟨hp, 3, none⟩ (.slice (some ⟨g, 0, none⟩) ps.length pc)).alloc o)) := fun o => by
    have hr := h.row
    rw [hlen] at hr
    refine ⟨⟨h.ge, ((h.box.set 3 _).alloc o).eq (by simp), (hr.pop).kept fun k hk => ?_⟩, ((Chg.refl (fun k => k = hp) w).set (p := hp) (fun _ => rfl) _ _).alloc o⟩
    have e : g = k := by simpa [blkOf] using hk
    subst e
    exact (Below.heap_alloc _ o g (by simpa using hglt)).trans (Below.heap_setCell _ _ _ _ (fun e => hne e.symm))
  have hw1 : IntKind.i64.wrap (((ps.length + 1 : Nat) : Int) - 1) = (ps.length : Int) := by rw [IntKind.wrap_i64]; omega
  clear h hc eq hlen
  generalize ps.length = n at *
  go_enter Try.func82, Try.ntmps82
  go_wp2
  go_ret
  exact ⟨ret1 rfl, HS.out _⟩
/-- How far down has come. -/
structure Dn (w W : World) (B hp : Nat) (la : Option Addr) (ln lc : Nat) (up : Bool) (pa : Option Addr) (pc : Nat) (last : PlL) (L : List (List KV)) (n i0 : Nat) (ps qs : List PlL) (i : Nat) : Prop where
  hd : Hd W B hp la ln lc up pa pc qs last
  chg : Chg (fun k => blkOf pa = some k) w W
  perm : qs.Perm ps
  inv : DInv (ltD L up) n i0 i (fun k => qs.getD k d0)
  same : ∀ k, n ≤ k → qs.getD k d0 = ps.getD k d0
theorem chg_below {R : Nat → Prop} {w w' w2 : World} (h : Chg R w w') (hb : Below w'.heap.size w' w2) : Chg R w w2 := h.andThen (Chg.of (R := R) hb) fun _ _ e => e
theorem Dn.below {n i0 i : Nat} {qs : List PlL} {W W2 : World} (h : Dn w W B hp la ln lc up pa pc last L n i0 ps qs i) (hb : Below W.heap.size W W2) : Dn w W2 B hp la ln lc up pa pc last L n i0 ps qs i := ⟨h.hd.below hb, chg_below h.chg hb, h.perm, h.inv, h.same⟩
theorem swL_getD (l : List PlL) {i j : Nat} (hi : i < l.length) (hj : j < l.length) : (fun k => (swL d0 l i j).getD k d0) = sw (fun k => l.getD k d0) i j := funext fun k => swL_get d0 l hi hj k
theorem Dn.step {n i0 i j : Nat} {qs : List PlL} {W W2 : World} (h : Dn w W B hp la ln lc up pa pc last L n i0 ps qs i) (hk : Kid i j) (hj : j < n) (hn : n ≤ ps.length) (hlt : ltD L up (qs.getD j d0) (qs.getD i d0)) (hsib : ∀ k, Kid i k → k < n → ¬ ltD L up (qs.getD k d0) (qs.getD j d0))
    (hd : Hd W2 B hp la ln lc up pa pc (swL d0 qs i j) last) (hc : Chg (fun k => blkOf pa = some k) W W2) : Dn w W2 B hp la ln lc up pa pc last L n i0 ps (swL d0 qs i j) j := by
  have hl := h.perm.length_eq
  have hij : i < j := by rcases hk with e | e <;> omega
  have hiq : i < qs.length := by omega
  have hjq : j < qs.length := by omega
  refine ⟨hd, h.chg.andThen hc fun _ _ e => e, (swL_perm d0 qs hiq hjq).trans h.perm, ?_, fun k hk' => ?_⟩
  · rw [swL_getD qs hiq hjq]
    exact h.inv.step (ltD_ord L up) hk hj hlt hsib
  · rw [swL_get d0 qs hiq hjq, sw_other (by omega) (by omega)]
    exact h.same k hk'
theorem InL.perm {ps qs : List PlL} (h : InL L ln ps) (hp : qs.Perm ps) : InL L ln qs := fun q hq => h q (hp.mem_iff.1 hq)
def DownP (w : World) (B hp : Nat) (la : Option Addr) (ln lc : Nat) (up : Bool) (pa : Option Addr) (pc : Nat) (last : PlL) (L : List (List KV)) (n i0 : Nat) (ps : List PlL) (e : Ending) (w' : World) : Prop := ∃ (qs : List PlL) (b : Bool), e = .returned (.bool b) ∧ qs.Perm ps ∧ Hd w' B hp la ln lc up pa pc qs last ∧ Chg (fun k => blkOf pa = some k) w w' ∧ HeapF (ltD L up) n i0 (fun k => qs.getD k d0) ∧ (∀ k, n ≤ k → qs.getD k d0 = ps.getD k d0)
set_option maxRecDepth 100000 in
set_option maxHeartbeats 8000000 in
theorem down_any (h : Hd w B hp la ln lc up pa pc ps last) (hl : ∀ W, Chg (fun k => blkOf pa = some k) w W → LsAt W la ln lc L) (hv : InL L ln ps) (i0 n : Nat) (hn : n ≤ ps.length) (hsz : ps.length ≤ 1000000) (hi0 : i0 ≤ 1000000) (hh : HeapF (ltD L up) n (i0 + 1) (fun k => ps.getD k d0)) :
    Calls Try.prog 61 #[.iface 50 (at_ hp), .int .i64 (i0 : Int), .int .i64 (n : Int)] w fun e w' => DownP w B hp la ln lc up pa pc last L n i0 ps e w' := by
  have HL : Hid (∀ W, Chg (fun k => blkOf pa = some k) w W → LsAt W la ln lc L) := hl
  have HV : Hid (InL L ln ps ∧ n ≤ ps.length) := ⟨hv, hn⟩
  have HI0 : Hid (Dn w w B hp la ln lc up pa pc last L n i0 ps ps i0) := ⟨h, Chg.refl _ _, List.Perm.refl _, DInv.start hh, fun _ _ => rfl⟩
  clear h hl hv hh
  go_enter Try.func61, Try.ntmps61
  go_wp2_with fail
  go_loopw [7] (fun s7 wr => ∃ (i : Nat) (qs : List PlL), i ≤ 1000000 ∧ s7 = .int .i64 (i : Int) ∧ Hid (Dn w wr B hp la ln lc up pa pc last L n i0 ps qs i)) (fun s7 _ => 1000001 - (intOf s7).toNat)
  case atStart => exact ⟨i0, ps, hi0, rfl, HI0.out⟩
  case round =>
    clear HI0
    obtain ⟨i, qs, hi, rfl, HI⟩ := hrel
    have HVQ : Hid (InL L ln qs ∧ qs.length = ps.length) := ⟨HV.out.1.perm HI.out.perm, HI.out.perm.length_eq⟩
    by_cases h1 : 2 * i + 1 < n
    · have h1I : (2 * (i : Int) + 1) < (n : Int) := by omega
      by_cases h2 : 2 * i + 2 < n
      · have h2I : (2 * (i : Int) + 1 + 1) < (n : Int) := by omega
        go_wp2_with fail
        have HLS := less_any (i := 2 * i + 2) (j := 2 * i + 1) HI.out.hd (HL.out _ HI.out.chg) HVQ.out.1 (by have := HVQ.out.2; have := HV.out.2; omega) (by have := HVQ.out.2; have := HV.out.2; omega)
        rw [show ((2 * i + 1 : Nat) : Int) = 2 * (i : Int) + 1 by omega, show ((2 * i + 2 : Nat) : Int) = 2 * (i : Int) + 1 + 1 by omega] at HLS
        refine HLS.mono ?_
        rintro _ w3 ⟨rfl, hb3⟩
        have HJ : Hid (Dn w w3 B hp la ln lc up pa pc last L n i0 ps qs i) := HI.out.below hb3
        clear hb3 HLS HI
        by_cases hl2 : ltD L up (qs.getD (2 * i + 2) d0) (qs.getD (2 * i + 1) d0)
        · have HSIB : Hid (∀ k, Kid i k → k < n → ¬ ltD L up (qs.getD k d0) (qs.getD (2 * i + 2) d0)) := fun k hk hkn hc => by
            rcases hk with rfl | rfl
            · exact (ltD_ord L up).asym _ _ hc hl2
            · exact (ltD_ord L up).asym _ _ hc hc
          rw [decide_eq_true hl2]
          clear hl2
          go_wp2_with fail
          have HLT := less_any (i := 2 * i + 2) (j := i) HJ.out.hd (HL.out _ HJ.out.chg) HVQ.out.1 (by have := HVQ.out.2; have := HV.out.2; omega) (by have := HVQ.out.2; have := HV.out.2; omega)
          rw [show ((2 * i + 2 : Nat) : Int) = 2 * (i : Int) + 1 + 1 by omega] at HLT
          refine HLT.mono ?_
          rintro _ w4 ⟨rfl, hb4⟩
          have HJ4 : Hid (Dn w w4 B hp la ln lc up pa pc last L n i0 ps qs i) := HJ.out.below hb4
          clear hb4 HJ HLT
          by_cases hlt : ltD L up (qs.getD (2 * i + 2) d0) (qs.getD i d0)
          · have HLTT : Hid (ltD L up (qs.getD (2 * i + 2) d0) (qs.getD i d0)) := hlt
            rw [decide_eq_true hlt]
            clear hlt
            go_wp2_with fail
            have HSW := swap_any (i := i) (j := 2 * i + 2) HJ4.out.hd (by have := HVQ.out.2; have := HV.out.2; omega) (by have := HVQ.out.2; have := HV.out.2; omega)
            rw [show ((2 * i + 2 : Nat) : Int) = 2 * (i : Int) + 1 + 1 by omega] at HSW
            refine HSW.mono ?_
            rintro _ w5 ⟨rfl, hd5, hc5⟩
            have HJ5 : Hid (Dn w w5 B hp la ln lc up pa pc last L n i0 ps (swL d0 qs i (2 * i + 2)) (2 * i + 2)) := HJ4.out.step (by unfold Kid; omega) (by omega) HV.out.2 HLTT.out HSIB.out hd5 hc5
            clear hd5 hc5 HSW HJ4
            go_wp2
            go_roundw
            case rel => exact ⟨2 * i + 2, swL d0 qs i (2 * i + 2), by omega, by rw [show ((2 * i + 2 : Nat) : Int) = 2 * (i : Int) + 1 + 1 by omega], HJ5.out⟩
            case measure => simp only [intOf]; omega
          · have HNO : Hid (∀ k, Kid i k → k < n → ¬ ltD L up (qs.getD k d0) (qs.getD i d0)) := fun k hk hkn => (ltD_ord L up).trans _ _ _ hlt (HSIB.out k hk hkn)
            rw [decide_eq_false hlt]
            clear hlt
            go_wp2
            go_ret
            exact ⟨qs, _, rfl, HJ4.out.perm, HJ4.out.hd, HJ4.out.chg, HJ4.out.inv.stop HNO.out, HJ4.out.same⟩
        · have HSIB : Hid (∀ k, Kid i k → k < n → ¬ ltD L up (qs.getD k d0) (qs.getD (2 * i + 1) d0)) := fun k hk hkn hc => by
            rcases hk with rfl | rfl
            · exact (ltD_ord L up).asym _ _ hc hc
            · exact hl2 hc
          rw [decide_eq_false hl2]
          clear hl2
          go_wp2_with fail
          have HLT := less_any (i := 2 * i + 1) (j := i) HJ.out.hd (HL.out _ HJ.out.chg) HVQ.out.1 (by have := HVQ.out.2; have := HV.out.2; omega) (by have := HVQ.out.2; have := HV.out.2; omega)
          rw [show ((2 * i + 1 : Nat) : Int) = 2 * (i : Int) + 1 by omega] at HLT
          refine HLT.mono ?_
          rintro _ w4 ⟨rfl, hb4⟩
          have HJ4 : Hid (Dn w w4 B hp la ln lc up pa pc last L n i0 ps qs i) := HJ.out.below hb4
          clear hb4 HJ HLT
          by_cases hlt : ltD L up (qs.getD (2 * i + 1) d0) (qs.getD i d0)
          · have HLTT : Hid (ltD L up (qs.getD (2 * i + 1) d0) (qs.getD i d0)) := hlt
            rw [decide_eq_true hlt]
            clear hlt
            go_wp2_with fail
            have HSW := swap_any (i := i) (j := 2 * i + 1) HJ4.out.hd (by have := HVQ.out.2; have := HV.out.2; omega) (by have := HVQ.out.2; have := HV.out.2; omega)
            rw [show ((2 * i + 1 : Nat) : Int) = 2 * (i : Int) + 1 by omega] at HSW
            refine HSW.mono ?_
            rintro _ w5 ⟨rfl, hd5, hc5⟩
            have HJ5 : Hid (Dn w w5 B hp la ln lc up pa pc last L n i0 ps (swL d0 qs i (2 * i + 1)) (2 * i + 1)) := HJ4.out.step (by unfold Kid; omega) (by omega) HV.out.2 HLTT.out HSIB.out hd5 hc5
            clear hd5 hc5 HSW HJ4
            go_wp2
            go_roundw
            case rel => exact ⟨2 * i + 1, swL d0 qs i (2 * i + 1), by omega, by rw [show ((2 * i + 1 : Nat) : Int) = 2 * (i : Int) + 1 by omega], HJ5.out⟩
            case measure => simp only [intOf]; omega
          · have HNO : Hid (∀ k, Kid i k → k < n → ¬ ltD L up (qs.getD k d0) (qs.getD i d0)) := fun k hk hkn => (ltD_ord L up).trans _ _ _ hlt (HSIB.out k hk hkn)
            rw [decide_eq_false hlt]
            clear hlt
            go_wp2
            go_ret
            exact ⟨qs, _, rfl, HJ4.out.perm, HJ4.out.hd, HJ4.out.chg, HJ4.out.inv.stop HNO.out, HJ4.out.same⟩
      · have h2I : ¬ (2 * (i : Int) + 1 + 1) < (n : Int) := by omega
        have HJ : Hid (Dn w wr B hp la ln lc up pa pc last L n i0 ps qs i) := HI.out
        have HSIB : Hid (∀ k, Kid i k → k < n → ¬ ltD L up (qs.getD k d0) (qs.getD (2 * i + 1) d0)) := fun k hk hkn hc => by
          rcases hk with rfl | rfl
          · exact (ltD_ord L up).asym _ _ hc hc
          · omega
        clear HI
        go_wp2_with fail
        have HLT := less_any (i := 2 * i + 1) (j := i) HJ.out.hd (HL.out _ HJ.out.chg) HVQ.out.1 (by have := HVQ.out.2; have := HV.out.2; omega) (by have := HVQ.out.2; have := HV.out.2; omega)
        rw [show ((2 * i + 1 : Nat) : Int) = 2 * (i : Int) + 1 by omega] at HLT
        refine HLT.mono ?_
        rintro _ w4 ⟨rfl, hb4⟩
        have HJ4 : Hid (Dn w w4 B hp la ln lc up pa pc last L n i0 ps qs i) := HJ.out.below hb4
        clear hb4 HJ HLT
        by_cases hlt : ltD L up (qs.getD (2 * i + 1) d0) (qs.getD i d0)
        · have HLTT : Hid (ltD L up (qs.getD (2 * i + 1) d0) (qs.getD i d0)) := hlt
          rw [decide_eq_true hlt]
          clear hlt
          go_wp2_with fail
          have HSW := swap_any (i := i) (j := 2 * i + 1) HJ4.out.hd (by have := HVQ.out.2; have := HV.out.2; omega) (by have := HVQ.out.2; have := HV.out.2; omega)
          rw [show ((2 * i + 1 : Nat) : Int) = 2 * (i : Int) + 1 by omega] at HSW
          refine HSW.mono ?_
          rintro _ w5 ⟨rfl, hd5, hc5⟩
          have HJ5 : Hid (Dn w w5 B hp la ln lc up pa pc last L n i0 ps (swL d0 qs i (2 * i + 1)) (2 * i + 1)) := HJ4.out.step (by unfold Kid; omega) (by omega) HV.out.2 HLTT.out HSIB.out hd5 hc5
          clear hd5 hc5 HSW HJ4
          go_wp2
          go_roundw
          case rel => exact ⟨2 * i + 1, swL d0 qs i (2 * i + 1), by omega, by rw [show ((2 * i + 1 : Nat) : Int) = 2 * (i : Int) + 1 by omega], HJ5.out⟩
          case measure => simp only [intOf]; omega
        · have HNO : Hid (∀ k, Kid i k → k < n → ¬ ltD L up (qs.getD k d0) (qs.getD i d0)) := fun k hk hkn => (ltD_ord L up).trans _ _ _ hlt (HSIB.out k hk hkn)
          rw [decide_eq_false hlt]
          clear hlt
          go_wp2
          go_ret
          exact ⟨qs, _, rfl, HJ4.out.perm, HJ4.out.hd, HJ4.out.chg, HJ4.out.inv.stop HNO.out, HJ4.out.same⟩
    · have h1I : ¬ (2 * (i : Int) + 1) < (n : Int) := by omega
      have HNO : Hid (∀ k, Kid i k → k < n → ¬ ltD L up (qs.getD k d0) (qs.getD i d0)) := fun k hk hkn => by rcases hk with rfl | rfl <;> omega
      go_wp2
      go_ret
      exact ⟨qs, _, rfl, HI.out.perm, HI.out.hd, HI.out.chg, HI.out.inv.stop HNO.out, HI.out.same⟩
end
end Go.Proofs.Ytjoamhcehpjepab
/- The library's up at heads; Push, Fix, Pop. -/
namespace Go.Proofs.Ytjoamhcehpjepab
open Go.RowKit
set_option linter.unusedVariables false
set_option linter.unusedSimpArgs false
section
variable {w w' : World} {B hp : Nat} {la : Option Addr} {ln lc : Nat} {up : Bool} {pa : Option Addr} {pc : Nat} {ps : List PlL} {last : PlL} {L : List (List KV)}
/-- How far up has come. -/
structure Up (w W : World) (B hp : Nat) (la : Option Addr) (ln lc : Nat) (up : Bool) (pa : Option Addr) (pc : Nat) (last : PlL) (L : List (List KV)) (ps qs : List PlL) (j : Nat) : Prop where
  hd : Hd W B hp la ln lc up pa pc qs last
  chg : Chg (fun k => blkOf pa = some k) w W
  perm : qs.Perm ps
  inv : UInv (ltD L up) ps.length j (fun k => qs.getD k d0)
theorem Up.below {j : Nat} {qs : List PlL} {W W2 : World} (h : Up w W B hp la ln lc up pa pc last L ps qs j) (hb : Below W.heap.size W W2) : Up w W2 B hp la ln lc up pa pc last L ps qs j := ⟨h.hd.below hb, chg_below h.chg hb, h.perm, h.inv⟩
theorem Up.step {i j : Nat} {qs : List PlL} {W W2 : World} (h : Up w W B hp la ln lc up pa pc last L ps qs j) (hk : Kid i j) (hj : j < ps.length) (hlt : ltD L up (qs.getD j d0) (qs.getD i d0))
    (hd : Hd W2 B hp la ln lc up pa pc (swL d0 qs i j) last) (hc : Chg (fun k => blkOf pa = some k) W W2) : Up w W2 B hp la ln lc up pa pc last L ps (swL d0 qs i j) i := by
  have hl := h.perm.length_eq
  have hij : i < j := by rcases hk with e | e <;> omega
  have hiq : i < qs.length := by omega
  have hjq : j < qs.length := by omega
  refine ⟨hd, h.chg.andThen hc fun _ _ e => e, (swL_perm d0 qs hiq hjq).trans h.perm, ?_⟩
  rw [swL_getD qs hiq hjq]
  exact h.inv.step (ltD_ord L up) hk hj hlt
def UpP (w : World) (B hp : Nat) (la : Option Addr) (ln lc : Nat) (up : Bool) (pa : Option Addr) (pc : Nat) (last : PlL) (L : List (List KV)) (ps : List PlL) (w' : World) : Prop := ∃ (qs : List PlL), qs.Perm ps ∧ Hd w' B hp la ln lc up pa pc qs last ∧ Chg (fun k => blkOf pa = some k) w w' ∧ HeapF (ltD L up) ps.length 0 (fun k => qs.getD k d0)
set_option maxRecDepth 100000 in
set_option maxHeartbeats 8000000 in
theorem up_any (h : Hd w B hp la ln lc up pa pc ps last) (hl : ∀ W, Chg (fun k => blkOf pa = some k) w W → LsAt W la ln lc L) (hv : InL L ln ps) (j0 : Nat) (hj0 : j0 < ps.length) (hsz : ps.length ≤ 1000000) (hu : UInv (ltD L up) ps.length j0 (fun k => ps.getD k d0)) :
    Calls Try.prog 57 #[.iface 50 (at_ hp), .int .i64 (j0 : Int)] w fun e w' => e = .returned (.tuple #[]) ∧ UpP w B hp la ln lc up pa pc last L ps w' := by
  have HL : Hid (∀ W, Chg (fun k => blkOf pa = some k) w W → LsAt W la ln lc L) := hl
  have HV : Hid (InL L ln ps ∧ ps.length ≤ 1000000) := ⟨hv, hsz⟩
  have HI0 : Hid (Up w w B hp la ln lc up pa pc last L ps ps j0) := ⟨h, Chg.refl _ _, List.Perm.refl _, hu⟩
  clear h hl hv hu
  go_enter Try.func57, Try.ntmps57
  go_wp2_with fail
  go_loopw [1] (fun s1 wr => ∃ (j : Nat) (qs : List PlL), j < ps.length ∧ s1 = .int .i64 (j : Int) ∧ Hid (Up w wr B hp la ln lc up pa pc last L ps qs j)) (fun s1 _ => (intOf s1).toNat)
  case atStart => exact ⟨j0, ps, hj0, rfl, HI0.out⟩
  case round =>
    clear HI0
    obtain ⟨j, qs, hj, rfl, HI⟩ := hrel
    have HVQ : Hid (InL L ln qs ∧ qs.length = ps.length) := ⟨HV.out.1.perm HI.out.perm, HI.out.perm.length_eq⟩
    by_cases h0 : j = 0
    · subst h0
      have HF : Hid (HeapF (ltD L up) ps.length 0 (fun k => qs.getD k d0)) := HI.out.inv.stop fun p hp => by rcases hp with e | e <;> omega
      go_wp2
      go_end0
      exact ⟨rfl, qs, HI.out.perm, HI.out.hd, HI.out.chg, HF.out⟩
    · have hw1 : IntKind.i64.wrap ((j : Int) - 1) = (j : Int) - 1 := by rw [IntKind.wrap_i64]; omega
      have hqb : ((((j : Int) - 1) / 2) == (j : Int)) = false := by simp; omega
      have hqI : ((((j - 1) / 2 : Nat)) : Int) = ((j : Int) - 1) / 2 := by omega
      go_wp2_with fail
      have HLT := less_any (i := j) (j := (j - 1) / 2) HI.out.hd (HL.out _ HI.out.chg) HVQ.out.1 (by have := HVQ.out.2; omega) (by have := HVQ.out.2; omega)
      rw [hqI] at HLT
      refine HLT.mono ?_
      rintro _ w4 ⟨rfl, hb4⟩
      have HJ4 : Hid (Up w w4 B hp la ln lc up pa pc last L ps qs j) := HI.out.below hb4
      clear hb4 HI HLT
      by_cases hlt : ltD L up (qs.getD j d0) (qs.getD ((j - 1) / 2) d0)
      · have HLTT : Hid (ltD L up (qs.getD j d0) (qs.getD ((j - 1) / 2) d0)) := hlt
        rw [decide_eq_true hlt]
        clear hlt
        go_wp2_with fail
        have HSW := swap_any (i := (j - 1) / 2) (j := j) HJ4.out.hd (by have := HVQ.out.2; omega) (by have := HVQ.out.2; omega)
        rw [hqI] at HSW
        refine HSW.mono ?_
        rintro _ w5 ⟨rfl, hd5, hc5⟩
        have HJ5 : Hid (Up w w5 B hp la ln lc up pa pc last L ps (swL d0 qs ((j - 1) / 2) j) ((j - 1) / 2)) := HJ4.out.step (by unfold Kid; omega) hj HLTT.out hd5 hc5
        clear hd5 hc5 HSW HJ4
        go_wp2
        go_roundw
        case rel => exact ⟨(j - 1) / 2, swL d0 qs ((j - 1) / 2) j, by omega, by rw [hqI], HJ5.out⟩
        case measure => simp only [intOf]; omega
      · have HF : Hid (HeapF (ltD L up) ps.length 0 (fun k => qs.getD k d0)) := HJ4.out.inv.stop fun p hp => by
          have e : p = (j - 1) / 2 := by rcases hp with e | e <;> omega
          subst e
          exact hlt
        rw [decide_eq_false hlt]
        clear hlt
        go_wp2
        go_end0
        exact ⟨rfl, qs, HJ4.out.perm, HJ4.out.hd, HJ4.out.chg, HF.out⟩
theorem HeapF.up0 {α : Type} {lt : α → α → Prop} {n : Nat} {f : Nat → α} (h : HeapF lt n 0 f) : UInv lt n 0 f := ⟨fun p k hk hn _ => h p (Nat.zero_le _) k hk hn, fun q hq => by rcases hq with e | e <;> omega⟩
theorem HeapF.congr {α : Type} {lt : α → α → Prop} {n s : Nat} {f g : Nat → α} (h : HeapF lt n s f) (e : ∀ k, k < n → g k = f k) : HeapF lt n s g := fun p hp j hj hn => by
  have hpn : p < n := by rcases hj with e | e <;> omega
  rw [e j hn, e p hpn]
  exact h p hp j hj hn
set_option maxRecDepth 100000 in
set_option maxHeartbeats 8000000 in
theorem fix_any (h : Hd w B hp la ln lc up pa pc ps last) (hl : ∀ W, Chg (fun k => blkOf pa = some k) w W → LsAt W la ln lc L) (hv : InL L ln ps) (hsz : ps.length ≤ 1000000) (h0 : 0 < ps.length) (hh : HeapF (ltD L up) ps.length 1 (fun k => ps.getD k d0)) :
    Calls Try.prog 55 #[.iface 50 (at_ hp), .int .i64 0] w fun e w' => e = .returned (.tuple #[]) ∧ UpP w B hp la ln lc up pa pc last L ps w' := by
  have HL : Hid (∀ W, Chg (fun k => blkOf pa = some k) w W → LsAt W la ln lc L) := hl
  have HV : Hid (InL L ln ps ∧ ps.length ≤ 1000000 ∧ HeapF (ltD L up) ps.length 1 (fun k => ps.getD k d0)) := ⟨hv, hsz, hh⟩
  have HH : Hid (Hd w B hp la ln lc up pa pc ps last) := h
  clear hl hv hh
  have hlen := len_any h
  clear h
  go_enter Try.func55, Try.ntmps55
  go_wp2_with fail
  refine hlen.mono ?_
  rintro _ w1 ⟨rfl, hb1⟩
  have H1 : Hid (Hd w1 B hp la ln lc up pa pc ps last ∧ Chg (fun k => blkOf pa = some k) w w1) := ⟨HH.out.below hb1, Chg.of hb1⟩
  clear hb1 hlen
  go_wp2_with fail
  refine (down_any H1.out.1 (fun W hW => HL.out W (H1.out.2.andThen hW fun _ _ e => e)) HV.out.1 0 ps.length (Nat.le_refl _) HV.out.2.1 (by omega) HV.out.2.2).mono ?_
  rintro _ w2 ⟨qs, b, rfl, hp2, hd2, hc2, hf2, _⟩
  have H2 : Hid (Hd w2 B hp la ln lc up pa pc qs last ∧ Chg (fun k => blkOf pa = some k) w w2 ∧ qs.Perm ps ∧ HeapF (ltD L up) ps.length 0 (fun k => qs.getD k d0)) := ⟨hd2, H1.out.2.andThen hc2 (fun _ _ e => e), hp2, hf2⟩
  clear hp2 hd2 hc2 hf2 H1
  cases b with
  | true =>
    go_wp2
    go_end0
    exact ⟨rfl, qs, H2.out.2.2.1, H2.out.1, H2.out.2.1, H2.out.2.2.2⟩
  | false =>
    go_wp2_with fail
    have hql : qs.length = ps.length := H2.out.2.2.1.length_eq
    have HU := up_any (L := L) H2.out.1 (fun W hW => HL.out W (H2.out.2.1.andThen hW fun _ _ e => e)) (HV.out.1.perm H2.out.2.2.1) 0 (by omega) (by rw [hql]; exact HV.out.2.1) (by rw [hql]; exact H2.out.2.2.2.up0)
    refine HU.mono ?_
    rintro _ w3 ⟨rfl, rs, hp3, hd3, hc3, hf3⟩
    rw [hql] at hf3
    have H3 : Hid (UpP w B hp la ln lc up pa pc last L ps w3) := ⟨rs, hp3.trans H2.out.2.2.1, hd3, H2.out.2.1.andThen hc3 (fun _ _ e => e), hf3⟩
    clear hp3 hd3 hc3 hf3 HU
    go_wp2
    go_end0
    exact ⟨rfl, H3.out⟩
/-- What is left when what stands on top is taken away. -/
theorem pop_parts {x : PlL} {n : Nat} {rs ps qs : List PlL} (hx : ps.getD 0 d0 = x) (hn : ps.length = n + 1) (hr : rs = swL d0 ps 0 n) (hq : qs.Perm rs) (hs : ∀ k, n ≤ k → qs.getD k d0 = rs.getD k d0) : qs = qs.take n ++ [x] := by
  have h1 : rs.length = n + 1 := by rw [hr, swL_len, hn]
  have h2 : qs.length = n + 1 := by rw [hq.length_eq, h1]
  have h3 : qs.getD n d0 = x := by
    rw [hs n (Nat.le_refl _), hr, swL_get d0 ps (by omega) (by omega), sw_right, hx]
  have h4 : qs.drop n = [x] := by
    rw [List.drop_eq_getElem_cons (by omega), List.drop_eq_nil_of_le (by omega)]
    congr 1
    rw [← h3]
    simp [List.getD, h2]
  conv => lhs; rw [← List.take_append_drop n qs, h4]
set_option maxRecDepth 100000 in
set_option maxHeartbeats 8000000 in
theorem pop_any {n : Nat} (h : Hd w B hp la ln lc up pa pc ps last) (hl : ∀ W, Chg (fun k => blkOf pa = some k) w W → LsAt W la ln lc L) (hv : InL L ln ps) (hsz : ps.length ≤ 1000000) (hn : ps.length = n + 1) (hh : HeapF (ltD L up) ps.length 0 (fun k => ps.getD k d0)) :
    Calls Try.prog 56 #[.iface 50 (at_ hp)] w fun e w' => (∃ v, e = .returned v) ∧ ∃ qs : List PlL, (qs ++ [ps.getD 0 d0]).Perm ps ∧ Hd w' B hp la ln lc up pa pc qs last ∧ Chg (fun k => blkOf pa = some k ∨ k = hp) w w' ∧ HeapF (ltD L up) qs.length 0 (fun k => qs.getD k d0) := by
  have HL : Hid (∀ W, Chg (fun k => blkOf pa = some k) w W → LsAt W la ln lc L) := hl
  have HV : Hid (InL L ln ps ∧ ps.length ≤ 1000000 ∧ HeapF (ltD L up) ps.length 0 (fun k => ps.getD k d0)) := ⟨hv, hsz, hh⟩
  have HH : Hid (Hd w B hp la ln lc up pa pc ps last) := h
  clear hl hv hh
  have hlen := len_any h
  rw [hn] at hlen
  clear h
  have hw1 : IntKind.i64.wrap (((n + 1 : Nat) : Int) - 1) = (n : Int) := by rw [IntKind.wrap_i64]; omega
  go_enter Try.func56, Try.ntmps56
  go_wp2_with fail
  refine hlen.mono ?_
  rintro _ w1 ⟨rfl, hb1⟩
  have H1 : Hid (Hd w1 B hp la ln lc up pa pc ps last ∧ Chg (fun k => blkOf pa = some k) w w1) := ⟨HH.out.below hb1, Chg.of hb1⟩
  clear hb1 hlen
  go_wp2_with fail
  refine (swap_any (i := 0) (j := n) H1.out.1 (by omega) (by omega)).mono ?_
  rintro _ w2 ⟨rfl, hd2, hc2⟩
  have H2 : Hid (Hd w2 B hp la ln lc up pa pc (swL d0 ps 0 n) last ∧ Chg (fun k => blkOf pa = some k) w w2 ∧ (swL d0 ps 0 n).Perm ps ∧ (swL d0 ps 0 n).length = n + 1 ∧ HeapF (ltD L up) n 1 (fun k => (swL d0 ps 0 n).getD k d0)) := by
    refine ⟨hd2, H1.out.2.andThen hc2 (fun _ _ e => e), swL_perm d0 ps (by omega) (by omega), by rw [swL_len, hn], ?_⟩
    have h9 := HV.out.2.2
    refine h9.from1 (by omega) fun k hk hkn => ?_
    show (swL d0 ps 0 n).getD k d0 = ps.getD k d0
    rw [swL_get d0 ps (by omega) (by omega), sw_other (by omega) (by omega)]
  clear hd2 hc2 H1
  obtain ⟨rs, hrs⟩ : ∃ rs, rs = swL d0 ps 0 n := ⟨_, rfl⟩
  have HRS : Hid (rs = swL d0 ps 0 n) := hrs
  rw [← hrs] at H2
  clear hrs
  go_wp2_with fail
  refine (down_any H2.out.1 (fun W hW => HL.out W (H2.out.2.1.andThen hW fun _ _ e => e)) (HV.out.1.perm H2.out.2.2.1) 0 n (by have := H2.out.2.2.2.1; omega) (by have := H2.out.2.2.2.1; omega) (by omega) H2.out.2.2.2.2).mono ?_
  rintro _ w3 ⟨qs, b, rfl, hp3, hd3, hc3, hf3, hs3⟩
  have H3 : Hid (Hd w3 B hp la ln lc up pa pc (qs.take n ++ [ps.getD 0 d0]) last ∧ Chg (fun k => blkOf pa = some k) w w3 ∧ (qs.take n ++ [ps.getD 0 d0]).Perm ps ∧ HeapF (ltD L up) (qs.take n).length 0 (fun k => (qs.take n).getD k d0) ∧ (qs.take n).length = n) := by
    have e := pop_parts (x := ps.getD 0 d0) rfl hn HRS.out hp3 hs3
    have hql : (qs.take n).length = n := by
      rw [List.length_take, hp3.length_eq, H2.out.2.2.2.1]; omega
    refine ⟨by rw [← e]; exact hd3, H2.out.2.1.andThen hc3 (fun _ _ e => e), by rw [← e]; exact hp3.trans H2.out.2.2.1, ?_, hql⟩
    rw [hql]
    refine hf3.congr fun k hk => ?_
    show (qs.take n).getD k d0 = qs.getD k d0
    simp [List.getD, List.getElem?_take, hk]
  clear hp3 hd3 hc3 hf3 hs3 H2 HRS
  generalize qs.take n = ts at H3
  obtain ⟨x, hx⟩ : ∃ x, ps.getD 0 d0 = x := ⟨_, rfl⟩
  have HX : Hid (ps.getD 0 d0 = x) := hx
  rw [hx] at H3
  clear hx
  go_wp2_with fail
  refine (hpop_any H3.out.1 (by have := H3.out.2.2.2.2; omega)).mono ?_
  rintro _ w4 ⟨rfl, hd4, hc4⟩
  have H4 : Hid (Hd w4 B hp la ln lc up pa pc ts last ∧ Chg (fun k => blkOf pa = some k ∨ k = hp) w w4) := ⟨hd4, (H3.out.2.1.wide fun k _ e => Or.inl e).andThen hc4 (fun k _ e => Or.inr e)⟩
  clear hd4 hc4
  go_wp2
  go_ret
  exact ⟨⟨_, rfl⟩, ts, by rw [HX.out]; exact H3.out.2.2.1, H4.out.1, H4.out.2, H3.out.2.2.2.1⟩
set_option maxRecDepth 100000 in
set_option maxHeartbeats 8000000 in
theorem push_any (h : Hd w B hp la ln lc up pa pc ps last) (q : PlL) (hB : B ≤ w.heap.size) (hl : ∀ W, Below B w W → LsAt W la ln lc L) (hv : InL L ln (ps ++ [q])) (hsz : ps.length + 1 ≤ 1000000) (hh : HeapF (ltD L up) ps.length 0 (fun k => ps.getD k d0)) :
    Calls Try.prog 48 #[.iface 50 (at_ hp), .iface TPl (.agg #[.int .i64 (q.1 : Int), .int .i64 (q.2 : Int)])] w fun e w' => e = .returned (.tuple #[]) ∧ ∃ (qs : List PlL) (pa' : Option Addr) (pc' : Nat), qs.Perm (ps ++ [q]) ∧ Hd w' B hp la ln lc up pa' pc' qs last ∧ Below B w w' ∧ HeapF (ltD L up) qs.length 0 (fun k => qs.getD k d0) := by
  have HL : Hid (∀ W, Below B w W → LsAt W la ln lc L) := hl
  have HV : Hid (InL L ln (ps ++ [q]) ∧ ps.length + 1 ≤ 1000000 ∧ HeapF (ltD L up) ps.length 0 (fun k => ps.getD k d0)) := ⟨hv, hsz, hh⟩
  have hlp : (ps ++ [q]).length = ps.length + 1 := by simp
  clear hl hv hh
  have hpu := hpush_any h q (by omega) hB
  clear h
  go_enter Try.func48, Try.ntmps48
  go_wp2_with fail
  refine hpu.mono ?_
  rintro _ w1 ⟨rfl, pa1, pc1, hd1, hb1⟩
  have H1 : Hid (Hd w1 B hp la ln lc up pa1 pc1 (ps ++ [q]) last ∧ Below B w w1) := ⟨hd1, hb1⟩
  clear hd1 hb1 hpu
  go_wp2_with fail
  refine (len_any H1.out.1).mono ?_
  rintro _ w2 ⟨rfl, hb2⟩
  have H2 : Hid (Hd w2 B hp la ln lc up pa1 pc1 (ps ++ [q]) last ∧ Below B w w2) := ⟨H1.out.1.below hb2, H1.out.2.trans (hb2.mono (Nat.le_trans hB H1.out.2.size))⟩
  clear hb2 H1
  rw [hlp]
  have hw1 : IntKind.i64.wrap (((ps.length + 1 : Nat) : Int) - 1) = (ps.length : Int) := by rw [IntKind.wrap_i64]; omega
  go_wp2_with fail
  have hup := up_any (L := L) H2.out.1 (fun W hW => HL.out W (H2.out.2.trans (hW.below (fun k hk => (H2.out.1.row.ge hk).1) (Nat.le_trans hB H2.out.2.size)))) HV.out.1 ps.length (by omega) (by omega) (by
    rw [hlp]
    refine HV.out.2.2.push fun k hk => ?_
    show (ps ++ [q]).getD k d0 = ps.getD k d0
    simp [List.getD, List.getElem?_append_left hk])
  refine hup.mono ?_
  rintro _ w3 ⟨rfl, qs, hp3, hd3, hc3, hf3⟩
  have H3 : Hid (qs.Perm (ps ++ [q]) ∧ Hd w3 B hp la ln lc up pa1 pc1 qs last ∧ Below B w w3 ∧ HeapF (ltD L up) qs.length 0 (fun k => qs.getD k d0)) := ⟨hp3, hd3, H2.out.2.trans (hc3.below (fun k hk => (H2.out.1.row.ge hk).1) (Nat.le_trans hB H2.out.2.size)), by rw [hp3.length_eq]; exact hf3⟩
  clear hp3 hd3 hc3 hf3 hup
  go_wp2
  go_end0
  exact ⟨rfl, qs, pa1, pc1, H3.out⟩
end
end Go.Proofs.Ytjoamhcehpjepab
/- Where a gap cuts a list: the library's Search at merge's closure. -/
namespace Go.Proofs.Ytjoamhcehpjepab
open Go.RowKit
set_option linter.unusedVariables false
set_option linter.unusedSimpArgs false
set_option maxRecDepth 100000 in
set_option maxHeartbeats 1000000 in
theorem search16 (n : Nat) (hn : n < 4611686018427387904) (pr : Nat → Bool) (c1 c2 c3 : Value) (w : World)
    (hf : ∀ W : World, Below w.heap.size w W → ∀ i : Nat, i < n → Calls Try.prog 50 #[.int .i64 (i : Int), c1, c2, c3] W fun e w' => e = .returned (.bool (pr i)) ∧ Below W.heap.size W w')
    (hm : ∀ a b, a ≤ b → b < n → pr a = true → pr b = true) :
    Calls Try.prog 49 #[.int .i64 (n : Int), .func (.func 50) #[] #[c1, c2, c3]] w fun e w' => ∃ r : Nat, e = .returned (.int .i64 (r : Int)) ∧ r ≤ n ∧ (∀ i, i < r → pr i = false) ∧ (∀ i, r ≤ i → i < n → pr i = true) ∧ Below w.heap.size w w' := by
  have HF : Hid (∀ W : World, Below w.heap.size w W → ∀ i : Nat, i < n → Calls Try.prog 50 #[.int .i64 (i : Int), c1, c2, c3] W fun e w' => e = .returned (.bool (pr i)) ∧ Below W.heap.size W w') := hf
  have HM : Hid (∀ a b, a ≤ b → b < n → pr a = true → pr b = true) := hm
  clear hf hm
  go_enter Try.func49, Try.ntmps49
  go_wp2
  go_loopg [5, 6] n (fun kx s5 s6 wr => ∃ (lo hi : Nat), s5 = .int .i64 (lo : Int) ∧ s6 = .int .i64 (hi : Int) ∧ lo ≤ hi ∧ hi ≤ n ∧ hi - lo ≤ kx ∧ Hid (Below w.heap.size w wr ∧ (∀ t, t < lo → pr t = false) ∧ (∀ t, hi ≤ t → t < n → pr t = true)))
  case atStart => exact ⟨0, n, rfl, rfl, Nat.zero_le _, Nat.le_refl _, by omega, Below.refl _ _, fun t ht => absurd ht (Nat.not_lt_zero _), fun t h1 h2 => by omega⟩
  case round =>
    obtain ⟨lo, hi, rfl, rfl, hlh, hin, hg, HI⟩ := hrel
    by_cases hlt : lo < hi
    · have hc := HF.out _ HI.out.1 ((lo + hi) / 2) (by omega)
      rw [show (((lo + hi) / 2 : Nat) : Int) = ((lo : Int) + (hi : Int)) / 2 by omega] at hc
      cases hp : pr ((lo + hi) / 2) <;> rw [hp] at hc
      · have HP : Hid (pr ((lo + hi) / 2) = false) := hp
        clear hp
        go_wp2_with fail
        refine hc.mono ?_
        rintro _ w2 ⟨rfl, hb⟩
        have HB : Hid (Below w.heap.size w w2) := HI.out.1.trans (hb.mono HI.out.1.size)
        clear hb hc
        go_wp2
        go_roundg (hi - ((lo + hi) / 2 + 1))
        case measure => omega
        case rel =>
          refine ⟨(lo + hi) / 2 + 1, hi, by congr 1, rfl, by omega, hin, Nat.le_refl _, HB.out, fun t ht => ?_, HI.out.2.2⟩
          cases h : pr t with
          | false => rfl
          | true =>
            have := HM.out t ((lo + hi) / 2) (by omega) (by omega) h
            rw [HP.out] at this
            cases this
      · have HP : Hid (pr ((lo + hi) / 2) = true) := hp
        clear hp
        go_wp2_with fail
        refine hc.mono ?_
        rintro _ w2 ⟨rfl, hb⟩
        have HB : Hid (Below w.heap.size w w2) := HI.out.1.trans (hb.mono HI.out.1.size)
        clear hb hc
        go_wp2
        go_roundg ((lo + hi) / 2 - lo)
        case measure => omega
        case rel => exact ⟨lo, (lo + hi) / 2, rfl, by congr 1, by omega, by omega, Nat.le_refl _, HB.out, HI.out.2.1, fun t h1 h2 => HM.out _ t h1 h2 HP.out⟩
    · obtain rfl : hi = lo := by omega
      go_wp2
      go_ret
      exact ⟨hi, ret1 rfl, hin, HI.out.2.1, HI.out.2.2, HI.out.1⟩
/-- Is an entry of a list behind a gap. -/
def gapP (k : IK) (m i : Nat) (e : KV) : Prop := 0 < e.1.cmp k ∨ (e.1.cmp k = 0 ∧ m ≤ i)
instance (k : IK) (m i : Nat) (e : KV) : Decidable (gapP k m i e) := inferInstanceAs (Decidable (_ ∨ _))
abbrev gapA (a : Option Addr) (n c : Nat) (k : IK) (m : Nat) : Array Value := #[.slice a n c, .string k.user, .int .u64 (k.seq : Int), .int .i64 k.kind, .int .i64 (m : Int)]
abbrev TGap : TypeId := 87
set_option maxRecDepth 100000 in
set_option maxHeartbeats 4000000 in
theorem clos_any {w : World} {ai : Option Addr} {li ci : Nat} {l : List KV} {a : Option Addr} {n c : Nat} (hk : KsAt w ai li ci l) (k : IK) (m i : Nat) (q1 q2 q3 : Nat) (hq1 : Box w q1 30 #[.slice ai li ci]) (hq2 : Box w q2 TGap (gapA a n c k m)) (hq3 : Box w q3 3 #[.int .i64 (i : Int)]) (j : Nat) (hj : j < li) (hjl : j < l.length) :
    Calls Try.prog 50 #[.int .i64 (j : Int), at_ q1, at_ q2, at_ q3] w fun e w' => e = .returned (.bool (decide (gapP k m i l[j]))) ∧ Below w.heap.size w w' := by
  obtain ⟨b, off, hix, hb, hcs⟩ := hk.spots (by omega)
  have hx := hix j hj
  have HC : Hid (∀ W, Below w.heap.size w W → W.cell? ⟨q1, 0, none⟩ = some (.slice ai li ci) ∧ W.cell? ⟨b, off + j * 4, none⟩ = some (.string l[j].1.user) ∧ W.cell? ⟨b, off + j * 4 + 1, none⟩ = some (.int .u64 (l[j].1.seq : Int)) ∧ W.cell? ⟨b, off + j * 4 + 2, none⟩ = some (.int .i64 l[j].1.kind) ∧ W.cell? ⟨q2, 1, none⟩ = some (.string k.user) ∧ W.cell? ⟨q2, 2, none⟩ = some (.int .u64 (k.seq : Int)) ∧ W.cell? ⟨q2, 3, none⟩ = some (.int .i64 k.kind)) := fun W hW => by
    obtain ⟨z0, z1, z2, _⟩ := hcs W hW j hjl
    have h2 := hq2.kept (hW.block _ hq2.lt)
    exact ⟨(hq1.kept (hW.block _ hq1.lt)).cell 0, z0, z1, z2, h2.cell 1, h2.cell 2, h2.cell 3⟩
  have HG : Hid (∀ W, Below w.heap.size w W → W.cell? ⟨q2, 4, none⟩ = some (.int .i64 (m : Int)) ∧ W.cell? ⟨q3, 0, none⟩ = some (.int .i64 (i : Int))) := fun W hW => ⟨(hq2.kept (hW.block _ hq2.lt)).cell 4, (hq3.kept (hW.block _ hq3.lt)).cell 0⟩
  have HP : Hid (decide (gapP k m i l[j]) = (decide (0 < l[j].1.cmp k) || (decide (l[j].1.cmp k = 0) && decide (m ≤ i)))) := by
    show decide (gapP k m i l[j]) = _
    by_cases ha : 0 < l[j].1.cmp k
    · rw [decide_eq_true (show gapP k m i l[j] from .inl ha), decide_eq_true ha]; rfl
    · by_cases hb : l[j].1.cmp k = 0 ∧ m ≤ i
      · rw [decide_eq_true (show gapP k m i l[j] from .inr hb), decide_eq_true hb.1, decide_eq_true hb.2]; simp
      · rw [decide_eq_false (show ¬ gapP k m i l[j] from fun h => h.elim ha hb), decide_eq_false ha]
        by_cases hc : l[j].1.cmp k = 0
        · rw [decide_eq_false (fun h => hb ⟨hc, h⟩)]; simp
        · rw [decide_eq_false hc]; simp
  have HCP : Hid (∀ W : World, Calls Try.prog 31 #[.agg #[.string l[j].1.user, .int .u64 (l[j].1.seq : Int), .int .i64 l[j].1.kind], .agg #[.string k.user, .int .u64 (k.seq : Int), .int .i64 k.kind]] W fun r w' => r = .returned (.int .i64 (l[j].1.cmp k)) ∧ Below W.heap.size W w') := fun W => compare_any _ _ _ _ _ _ W
  rw [HP.out]
  clear hix hcs hk hq1 hq2 hq3 hb HP
  generalize l[j].1.cmp k = cv at HCP ⊢
  generalize l[j] = e at HC HCP
  generalize off + j * 4 = oj at HC hx
  have HB0 : Hid (Below w.heap.size w w.drew) := (Below.refl _ _).drew
  obtain ⟨x0, x1, x2, x3, x4, x5, x6⟩ := HC.out _ HB0.out
  go_enter Try.func50, Try.ntmps50
  go_wp2_with fail
  go_region_held3 (fun V => V.cell? ⟨q1, 0, none⟩ = some (.slice ai li ci) ∧ V.cell? ⟨b, oj, none⟩ = some (.string e.1.user) ∧ V.cell? ⟨b, oj + 1, none⟩ = some (.int .u64 (e.1.seq : Int)) ∧ V.cell? ⟨b, oj + 2, none⟩ = some (.int .i64 e.1.kind) ∧ V.cell? ⟨q2, 1, none⟩ = some (.string k.user) ∧ V.cell? ⟨q2, 2, none⟩ = some (.int .u64 (k.seq : Int)) ∧ V.cell? ⟨q2, 3, none⟩ = some (.int .i64 k.kind)) (first | exact ⟨x0, x1, x2, x3, x4, x5, x6⟩ | go_keep)
    (first
     | (go_at_call 31; refine (HCP.out _).mono ?_; rintro _ vx ⟨rfl, hbx⟩
        have HB0 : Hid (Below w.heap.size w vx) := HB0.out.trans (hbx.mono HB0.out.size)
        obtain ⟨x0, x1, x2, x3, x4, x5, x6⟩ := HC.out _ HB0.out
        clear hbx))
  obtain ⟨y0, y1⟩ := HG.out _ HB0.out
  clear x0 x1 x2 x3 x4 x5 x6
  by_cases h1 : 0 < cv
  · go_wp2
    go_ret
    exact ⟨ret1 (by simp [h1]), HB0.out⟩
  · by_cases h2 : cv = 0
    · go_wp2
      go_ret
      exact ⟨ret1 (by simp [h2]), HB0.out⟩
    · go_wp2
      go_ret
      exact ⟨ret1 (by simp [h1, h2]), HB0.out⟩
theorem tw_at {P : KV → Bool} : ∀ {l : List KV} {i : Nat}, i ≤ l.length → (∀ j (hj : j < l.length), j < i → P l[j] = true) → (∀ hi : i < l.length, P l[i] = false) → (l.takeWhile P).length = i
  | [], i, h, _, _ => by
    obtain rfl : i = 0 := by simpa using h
    rfl
  | e :: l, 0, _, _, h => by
    have := h (by simp)
    rw [List.takeWhile_cons_of_neg (by simpa using this)]
    rfl
  | e :: l, i + 1, h, h1, h2 => by
    have h0 := h1 0 (by simp) (by omega)
    rw [List.takeWhile_cons_of_pos (by simpa using h0)]
    have ih := tw_at (P := P) (l := l) (i := i) (by simpa using h) (fun j hj hji => h1 (j + 1) (by simpa using hj) (by omega)) (fun hi => h2 (by simpa using hi))
    show (List.takeWhile _ l).length + 1 = i + 1
    rw [ih]
/-- How many of a list a gap takes. -/
def gapV (L : List (List KV)) (k : IK) (m i : Nat) : Nat := ((rowL L i).takeWhile fun e => !decide (gapP k m i e)).length
theorem gap_at {L : List (List KV)} {k : IK} {m i r : Nat} (hr : r ≤ (rowL L i).length) (h1 : ∀ j (hj : j < (rowL L i).length), j < r → ¬ gapP k m i (rowL L i)[j]) (h2 : ∀ hj : r < (rowL L i).length, gapP k m i (rowL L i)[r]) : gapV L k m i = r :=
  tw_at hr (fun j hj hjr => by simp [h1 j hj hjr]) (fun hj => by simp [h2 hj])
theorem gapP_mono {k : IK} {m i : Nat} {e f : KV} (h : gapP k m i e) (hef : e.1.cmp f.1 < 0) : gapP k m i f := by
  left
  have h1 : f.1.cmp e.1 = -e.1.cmp f.1 := IK.cmp_turn _ _
  rcases h with h | ⟨h, _⟩
  · have h2 : k.cmp e.1 = -e.1.cmp k := IK.cmp_turn _ _
    have h3 : k.cmp f.1 < 0 := IK.cmp_trans (show k.cmp e.1 < 0 by omega) hef
    have h4 : f.1.cmp k = -k.cmp f.1 := IK.cmp_turn _ _
    omega
  · have h2 : k.cmp e.1 = -e.1.cmp k := IK.cmp_turn _ _
    have h3 : k.cmp f.1 < 0 := cmp_le_lt (show k.cmp e.1 ≤ 0 by omega) hef
    have h4 : f.1.cmp k = -k.cmp f.1 := IK.cmp_turn _ _
    omega
theorem rise_row {L : List (List KV)} (hL : RiseL L) (i : Nat) : RiseK (rowL L i) := by
  unfold rowL
  by_cases hi : i < L.length
  · rw [show L.getD i [] = L[i] by simp [List.getD, hi]]
    exact hL _ (List.getElem_mem hi)
  · rw [show L.getD i [] = [] by simp [List.getD, Nat.not_lt.1 hi]]
    exact List.Pairwise.nil
set_option maxRecDepth 100000 in
set_option maxHeartbeats 4000000 in
theorem cut_any {w : World} {a : Option Addr} {n c : Nat} {L : List (List KV)} (h : LsAt w a n c L) (hL : RiseL L) (k : IK) (m i : Nat) (hi : i < n) (hfew : lenL L i ≤ 4000000000000) :
    Calls Try.prog 41 #[.agg (gapA a n c k m), .int .i64 (i : Int)] w fun e w' => e = .returned (.int .i64 (gapV L k m i : Int)) ∧ Below w.heap.size w w' := by
  have hmf : ∀ (fn : Fn) (first cap : Array Value) (w : World), (Instr.makeFunc fn first cap).run Try.prog w = .ok (.func fn first cap) w := fun _ _ _ _ => rfl
  obtain ⟨b, o, ai, ci, hx, hy, hk, hb⟩ := h.listA hi
  have hlen : lenL L i = (rowL L i).length := rfl
  have hmx := hk.max
  have hle := hk.le
  have HR : Hid (RiseK (rowL L i)) := rise_row hL i
  rw [hlen] at hy hk hle
  have hB1 := ((Below.refl w.heap.size w).alloc (Nat.le_refl _) (.cells (gapA a n c k m) TGap)).alloc (by simp) (.cells #[.int .i64 (i : Int)] 3)
  have hcl := hy _ hB1
  have HW : Hid (_) := hB1.alloc (by simp; omega) (.cells #[.slice ai (rowL L i).length ci] 30)
  have HQ1 : Hid (Box ((((w.alloc (.cells (gapA a n c k m) TGap)).alloc (.cells #[.int .i64 (i : Int)] 3))).alloc (.cells #[.slice ai (rowL L i).length ci] 30)) (w.heap.size + 1 + 1) 30 #[.slice ai (rowL L i).length ci]) := by
    have := Box.new ((w.alloc (.cells (gapA a n c k m) TGap)).alloc (.cells #[.int .i64 (i : Int)] 3)) 30 #[.slice ai (rowL L i).length ci]
    unfold Hid; simpa using this
  have HQ2 : Hid (Box ((((w.alloc (.cells (gapA a n c k m) TGap)).alloc (.cells #[.int .i64 (i : Int)] 3))).alloc (.cells #[.slice ai (rowL L i).length ci] 30)) w.heap.size TGap (gapA a n c k m)) := ((Box.new w TGap (gapA a n c k m)).alloc _).alloc _
  have HQ3 : Hid (Box ((((w.alloc (.cells (gapA a n c k m) TGap)).alloc (.cells #[.int .i64 (i : Int)] 3))).alloc (.cells #[.slice ai (rowL L i).length ci] 30)) (w.heap.size + 1) 3 #[.int .i64 (i : Int)]) := by
    have := Box.new (w.alloc (.cells (gapA a n c k m) TGap)) 3 #[.int .i64 (i : Int)]
    rw [show (w.alloc (.cells (gapA a n c k m) TGap)).heap.size = w.heap.size + 1 by simp] at this
    exact this.alloc _
  have HK : Hid (KsAt w ai (rowL L i).length ci (rowL L i)) := hk
  have hn62 : (rowL L i).length < 4611686018427387904 := by rw [← hlen]; omega
  clear h hL hi hfew hB1 hy hk hb hlen hmx hle
  have HGV : Hid (∀ r, r ≤ (rowL L i).length → (∀ j (hj : j < (rowL L i).length), j < r → ¬ gapP k m i (rowL L i)[j]) → (∀ hj : r < (rowL L i).length, gapP k m i (rowL L i)[r]) → gapV L k m i = r) := fun r h1 h2 h3 => gap_at h1 h2 h3
  generalize gapV L k m i = gv at HGV ⊢
  generalize rowL L i = l at *
  unfold gapA at HW HQ1 HQ2 HQ3 hcl ⊢
  go_enter Try.func41, Try.ntmps41
  go_wp2_with fail
  generalize ((w.alloc (.cells #[.slice a n c, .string k.user, .int .u64 (k.seq : Int), .int .i64 k.kind, .int .i64 (m : Int)] TGap)).alloc (.cells #[.int .i64 (i : Int)] 3)).alloc (.cells #[.slice ai l.length ci] 30) = W3 at HW HQ1 HQ2 HQ3 ⊢
  refine (search16 l.length hn62 (fun j => decide (∃ hj : j < l.length, gapP k m i l[j])) (at_ (w.heap.size + 1 + 1)) (at_ w.heap.size) (at_ (w.heap.size + 1)) W3 (fun W hW j hj => ?_) (fun x y hxy hy hx => ?_)).mono ?_
  · have := clos_any (a := a) (n := n) (c := c) (HK.out.below (HW.out.trans (hW.mono HW.out.size))) k m i (w.heap.size + 1 + 1) w.heap.size (w.heap.size + 1) (HQ1.out.kept (hW.block _ HQ1.out.lt)) (HQ2.out.kept (hW.block _ HQ2.out.lt)) (HQ3.out.kept (hW.block _ HQ3.out.lt)) j hj hj
    rw [show decide (∃ hj : j < l.length, gapP k m i l[j]) = decide (gapP k m i l[j]) from decide_eq_decide.2 ⟨fun ⟨_, h⟩ => h, fun h => ⟨hj, h⟩⟩]
    exact this
  · simp only [decide_eq_true_eq] at hx ⊢
    obtain ⟨hx1, hx2⟩ := hx
    refine ⟨hy, ?_⟩
    by_cases e : x = y
    · subst e; exact hx2
    · exact gapP_mono hx2 (List.pairwise_iff_getElem.1 HR.out x y hx1 hy (by omega))
  · rintro _ w4 ⟨r, rfl, hr, hr1, hr2, hb4⟩
    have HG : Hid (gv = r) := HGV.out r hr (fun j hj hjr hp => by
      have := hr1 j hjr
      simp only [decide_eq_false_iff_not] at this
      exact this ⟨hj, hp⟩) (fun hj => by
      have := hr2 r (Nat.le_refl _) hj
      simp only [decide_eq_true_eq] at this
      exact this.2)
    have H4 : Hid (Below w.heap.size w w4) := HW.out.trans (hb4.mono HW.out.size)
    clear hr hr1 hr2 hb4
    go_wp2
    go_ret
    rw [HG.out]
    exact ⟨ret1 rfl, H4.out⟩
end Go.Proofs.Ytjoamhcehpjepab
/- Merge's heads, plainly: what stands next to a gap; what is left when one is taken. -/
namespace Go.Proofs.Ytjoamhcehpjepab
open Go.RowKit
set_option linter.unusedVariables false
set_option linter.unusedSimpArgs false
section
variable {L : List (List KV)} {v : Nat → Nat} {k : IK} {m : Nat} {p q x : PlL} {ps : List PlL}
theorem rowL_len (L : List (List KV)) (i : Nat) : (rowL L i).length = lenL L i := rfl
theorem gapV_le (L : List (List KV)) (k : IK) (m i : Nat) : gapV L k m i ≤ lenL L i := List.takeWhile_prefix _ |>.length_le
theorem gap_in {i j : Nat} (h : j < gapV L k m i) : ¬ gapP k m i (entL L (i, j)) := by
  have hl := gapV_le L k m i
  have hj : j < (rowL L i).length := by rw [rowL_len]; omega
  have h1 : ((rowL L i).takeWhile fun e => !decide (gapP k m i e))[j] = (rowL L i)[j] := by
    have := List.takeWhile_prefix (l := rowL L i) fun e => !decide (gapP k m i e)
    exact this.getElem h
  have h2 : (!decide (gapP k m i ((rowL L i).takeWhile fun e => !decide (gapP k m i e))[j])) = true := by
    have := List.all_takeWhile (p := fun e => !decide (gapP k m i e)) (l := rowL L i)
    rw [List.all_eq_true] at this
    exact this _ (List.getElem_mem h)
  rw [h1, rowL_at hj] at h2
  simpa using h2
theorem gap_out (hL : RiseL L) {i j : Nat} (h : gapV L k m i ≤ j) (hj : j < lenL L i) : gapP k m i (entL L (i, j)) := by
  have hv : gapV L k m i < (rowL L i).length := by rw [rowL_len]; omega
  have h0 : gapP k m i (rowL L i)[gapV L k m i] := by
    have h1 : (rowL L i).drop (gapV L k m i) = (rowL L i).dropWhile fun e => !decide (gapP k m i e) := by
      have := List.takeWhile_append_dropWhile (p := fun e => !decide (gapP k m i e)) (l := rowL L i)
      conv => lhs; rw [← this]
      unfold gapV
      rw [List.drop_left]
    have h2 : ((rowL L i).dropWhile fun e => !decide (gapP k m i e)).head? = some (rowL L i)[gapV L k m i] := by
      rw [← h1, List.head?_drop, List.getElem?_eq_getElem hv]
    have h3 := List.head?_dropWhile_not (fun e => !decide (gapP k m i e)) (rowL L i)
    rw [h2] at h3
    simpa using h3
  rw [rowL_at hv] at h0
  by_cases e : gapV L k m i = j
  · rw [← e]; exact h0
  · exact gapP_mono h0 (rise_ahead hL (by omega) hj)
theorem gap_cut (hL : RiseL L) (k : IK) (m : Nat) : CutL L (gapV L k m) := ⟨gapV_le L k m, fun i j i' j' h1 h2 h3 => by
  have a := gap_in h1
  have b := gap_out hL h2 h3
  unfold gapP at a b
  have c1 : k.cmp (entL L (i', j')).1 = -(entL L (i', j')).1.cmp k := IK.cmp_turn _ _
  by_cases e1 : (entL L (i, j)).1.cmp k < 0
  · exact .inl (cmp_lt_le e1 (by rw [c1]; rcases b with b | ⟨b, _⟩ <;> omega))
  · have e2 : (entL L (i, j)).1.cmp k = 0 := by omega
    have e3 : i < m := by omega
    rcases b with b | ⟨b, hm⟩
    · exact .inl (cmp_le_lt (Int.le_of_eq e2) (by rw [c1]; omega))
    · refine .inr ⟨?_, show i < i' by omega⟩
      have z1 : (entL L (i, j)).1.cmp (entL L (i', j')).1 ≤ 0 := cmp_le_trans (Int.le_of_eq e2) (by rw [c1]; omega)
      have c2 : k.cmp (entL L (i, j)).1 = -(entL L (i, j)).1.cmp k := IK.cmp_turn _ _
      have z2 : (entL L (i', j')).1.cmp (entL L (i, j)).1 ≤ 0 := cmp_le_trans (Int.le_of_eq b) (by rw [c2]; omega)
      have c3 : (entL L (i', j')).1.cmp (entL L (i, j)).1 = -(entL L (i, j)).1.cmp (entL L (i', j')).1 := IK.cmp_turn _ _
      show cmpL L (i, j) (i', j') = 0
      unfold cmpL
      omega⟩
theorem sum_at (hL : RiseL L) (h : CutL L v) {n : Nat} (hn : (allP L)[n]? = some p) : n < sumV v L.length ↔ p.2 < v p.1 := by
  have hs := cut_split hL h
  have hl := cut_len (L := L) h.le
  constructor
  · intro hlt
    rw [hs, List.getElem?_append_left (by omega)] at hn
    have := (List.mem_filter.1 (List.mem_of_getElem? hn)).2
    simpa [inV] using this
  · intro hlt
    apply Classical.byContradiction
    intro hge
    rw [hs, List.getElem?_append_right (by omega)] at hn
    have := (List.mem_filter.1 (List.mem_of_getElem? hn)).2
    simp [inV] at this
    omega
theorem sum_all (h : CutL L v) : sumV v L.length ≤ (allP L).length := by
  rw [all_len]
  exact sum_le _ fun i _ => h.le i
theorem sum_is (hL : RiseL L) (h : CutL L v) {n : Nat} (hn : n ≤ (allP L).length) (h1 : ∀ j p, j < n → (allP L)[j]? = some p → p.2 < v p.1) (h2 : ∀ p, (allP L)[n]? = some p → ¬ p.2 < v p.1) : sumV v L.length = n := by
  have ha := sum_all h
  apply Nat.le_antisymm
  · apply Classical.byContradiction
    intro hlt
    have hn' : n < (allP L).length := by omega
    exact h2 _ (List.getElem?_eq_getElem hn') ((sum_at hL h (List.getElem?_eq_getElem hn')).1 (by omega))
  · apply Classical.byContradiction
    intro hlt
    have hn' : sumV v L.length < (allP L).length := by omega
    exact absurd ((sum_at hL h (List.getElem?_eq_getElem hn')).2 (h1 _ _ (by omega) (List.getElem?_eq_getElem hn'))) (Nat.lt_irrefl _)
theorem allP_lt (hL : RiseL L) {i j : Nat} (hi : (allP L)[i]? = some p) (hj : (allP L)[j]? = some q) (hij : i < j) : aheadL L p q := by
  obtain ⟨a, rfl⟩ := List.getElem?_eq_some_iff.1 hi
  obtain ⟨b, rfl⟩ := List.getElem?_eq_some_iff.1 hj
  exact List.pairwise_iff_getElem.1 (all_rises hL) i j a b hij
theorem gap_ent {i j : Nat} (hL : RiseL L) (hj : j < lenL L i) : j < gapV L k m i ↔ ¬ gapP k m i (entL L (i, j)) := ⟨gap_in, fun h => Nat.lt_of_not_le fun h' => h (gap_out hL h' hj)⟩
/-- A gap behind a place, and ahead of it. -/
theorem gap_next (hL : RiseL L) {i : Nat} (hi : (allP L)[i]? = some p) : sumV (gapV L (entL L p).1 (p.1 + 1)) L.length = i + 1 := by
  have hlt : i < (allP L).length := (List.getElem?_eq_some_iff.1 hi).1
  refine sum_is hL (gap_cut hL _ _) (by omega) (fun j q hj hq => ?_) fun q hq hin => ?_
  · have hv : validL L q := mem_allP.1 (List.mem_of_getElem? hq)
    refine (gap_ent hL hv).2 fun hg => ?_
    have hpq : q = p ∨ aheadL L q p := by
      by_cases e : j = i
      · subst e; rw [hq] at hi; exact .inl (Option.some.inj hi)
      · exact .inr (allP_lt hL hq hi (by omega))
    rcases hpq with e | e
    · subst e
      have := IK.cmp_self (entL L q).1
      rcases hg with hg | ⟨_, hg⟩
      · exact absurd hg (by show ¬ 0 < (entL L q).1.cmp (entL L q).1; omega)
      · omega
    · have e1 : (entL L (q.1, q.2)).1.cmp (entL L p).1 = cmpL L q p := rfl
      rcases hg with hg | ⟨hg, hg2⟩ <;> rcases e with e | ⟨e, e2⟩ <;> omega
  · have hv : validL L q := mem_allP.1 (List.mem_of_getElem? hq)
    have hno := (gap_ent hL hv).1 hin
    have e := allP_lt hL hi hq (by omega)
    have e1 : (entL L (q.1, q.2)).1.cmp (entL L p).1 = -cmpL L p q := IK.cmp_turn _ _
    refine hno ?_
    rcases e with e | ⟨e, e2⟩
    · exact .inl (by omega)
    · exact .inr ⟨by omega, e2⟩
theorem gap_prev (hL : RiseL L) {i : Nat} (hi : (allP L)[i]? = some p) : sumV (gapV L (entL L p).1 p.1) L.length = i := by
  have hlt : i < (allP L).length := (List.getElem?_eq_some_iff.1 hi).1
  refine sum_is hL (gap_cut hL _ _) (by omega) (fun j q hj hq => ?_) fun q hq hin => ?_
  · have hv : validL L q := mem_allP.1 (List.mem_of_getElem? hq)
    refine (gap_ent hL hv).2 fun hg => ?_
    have e := allP_lt hL hq hi hj
    have e1 : (entL L (q.1, q.2)).1.cmp (entL L p).1 = cmpL L q p := rfl
    rcases hg with hg | ⟨hg, hg2⟩ <;> rcases e with e | ⟨e, e2⟩ <;> omega
  · rw [hq] at hi
    obtain rfl := Option.some.inj hi
    have hv : validL L q := mem_allP.1 (List.mem_of_getElem? hq)
    refine (gap_ent hL hv).1 hin (.inr ⟨IK.cmp_self _, Nat.le_refl _⟩)
theorem gap_seek (hL : RiseL L) (k : IK) : sumV (gapV L k 0) L.length = seekI (allL L) k := by
  have hc := gap_cut hL k 0
  refine (seekI_at (by unfold allL; rw [List.length_map]; exact sum_all hc) (fun j hj hlt => ?_) fun hi => ?_).symm
  · have hj' : j < (allP L).length := by simpa [allL] using hj
    have hq : (allP L)[j]? = some (allP L)[j] := List.getElem?_eq_getElem hj'
    have h1 := (sum_at hL hc hq).1 hlt
    have h2 := gap_in h1
    rw [show (allL L)[j] = entL L (allP L)[j] by simp [allL]]
    unfold gapP at h2
    have h3 : (entL L (allP L)[j]) = entL L ((allP L)[j].1, (allP L)[j].2) := rfl
    rw [h3]
    omega
  · have hj' : sumV (gapV L k 0) L.length < (allP L).length := by simpa [allL] using hi
    have hq : (allP L)[sumV (gapV L k 0) L.length]? = some (allP L)[sumV (gapV L k 0) L.length] := List.getElem?_eq_getElem hj'
    have hv : validL L (allP L)[sumV (gapV L k 0) L.length] := mem_allP.1 (List.getElem_mem hj')
    have h1 : ¬ (allP L)[sumV (gapV L k 0) L.length].2 < gapV L k 0 (allP L)[sumV (gapV L k 0) L.length].1 := fun h => absurd ((sum_at hL hc hq).2 h) (Nat.lt_irrefl _)
    have h2 := gap_out hL (Nat.le_of_not_lt h1) hv
    rw [show (allL L)[sumV (gapV L k 0) L.length] = entL L (allP L)[sumV (gapV L k 0) L.length] by simp [allL]]
    unfold gapP at h2
    have h3 : (entL L (allP L)[sumV (gapV L k 0) L.length]) = entL L ((allP L)[sumV (gapV L k 0) L.length].1, (allP L)[sumV (gapV L k 0) L.length].2) := rfl
    rw [h3]
    omega
end
end Go.Proofs.Ytjoamhcehpjepab
