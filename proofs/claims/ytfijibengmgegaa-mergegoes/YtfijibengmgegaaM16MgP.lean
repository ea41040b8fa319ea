/- Heads: Pop; the library's down and up at heads. -/
import Derived.Test.YtfijibengmgegaaM16MgH
namespace Go.Proofs.Ytfijibengmgegaa
open Go.RowKit
set_option linter.unusedVariables false
set_option linter.unusedSimpArgs false
section
variable {w w' : World} {B hp : Nat} {la : Option Addr} {ln lc : Nat} {up : Bool} {pa : Option Addr} {pc : Nat} {ps : List PlL} {last : PlL} {L : List (List KV)}
set_option maxRecDepth 100000 in
theorem sliceP (W : World) {b n c i : Nat} (hi : i ≤ n) (hn : n ≤ c) : (Instr.slice 74 (.slice (some ⟨b, 0, none⟩) n c) none (some (.int .i64 (i : Int))) none).run Try.prog W = .ok (.slice (some ⟨b, 0, none⟩) i c) W := by
  have hz : (sizeOf (Try.prog.elem 74)).run Try.prog W = .ok 2 W := by kernel_rfl
  simp [Instr.slice, run_underlying Try.underlying74, go_sem, hz]
  intro h; omega
set_option maxRecDepth 100000 in
set_option maxHeartbeats 4000000 in
theorem hpop_any {q : PlL} (h : Hd w B hp la ln lc up pa pc (ps ++ [q]) last) (hn : ps.length + 1 ≤ 2000000000000) :
    Calls Try.prog 78 #[at_ hp] w fun e w' => e = .returned (.iface TPl (.agg #[.int .i64 (q.1 : Int), .int .i64 (q.2 : Int)])) ∧ Hd w' B hp la ln lc up pa pc ps last ∧ Chg (fun k => k = hp) w w' := by
  have hlen : (ps ++ [q]).length = ps.length + 1 := by simp
  obtain ⟨g, rfl, hc, hf⟩ := h.row.spots (by omega)
  have x3 := h.box.cell 3
  have hxs := h.box.soft 3
  simp only [List.getElem?_toArray, List.getElem?_cons_succ, List.getElem?_cons_zero] at x3
  obtain ⟨x4, x5⟩ := hc ps.length (by omega)
  have hpc := (row_addr h.row.row).1
  rw [hlen] at x3 hpc
  have hxi := fun W => idxP W (b := g) (c := pc) (Nat.lt_succ_self ps.length)
  have hsl := fun W => sliceP W (b := g) (c := pc) (n := ps.length + 1) (Nat.le_succ ps.length) hpc
  have eq : (ps ++ [q]).getD ps.length d0 = q := by simp [List.getD]
  rw [eq] at x4 x5
  have hne : hp ≠ g := h.apart rfl
  have hplt := h.box.lt
  have hglt := (h.row.ge (k := g) rfl).2
  have HS : Hid (∀ o : Obj, Hd ((w.setCell ⟨hp, 3, none⟩ (.slice (some ⟨g, 0, none⟩) ps.length pc)).alloc o) B hp la ln lc up (some ⟨g, 0, none⟩) pc ps last ∧ Chg (fun k => k = hp) w ((w.setCell ⟨hp, 3, none⟩ (.slice (some ⟨g, 0, none⟩) ps.length pc)).alloc o)) := fun o => by
    have hr := h.row
    rw [hlen] at hr
    refine ⟨⟨h.ge, ((h.box.set 3 _).alloc o).eq (by simp), (hr.pop).kept fun k hk => ?_⟩, ((Chg.refl (fun k => k = hp) w).set (p := hp) (fun _ => rfl) _ _).alloc o⟩
    have e : g = k := by simpa [blkOf] using hk
    subst e
    exact (Below.heap_alloc _ o g (by simpa using hglt)).trans (Below.heap_setCell _ _ _ _ (fun e => hne e.symm))
  have hw1 : IntKind.i64.wrap (((ps.length + 1 : Nat) : Int) - 1) = (ps.length : Int) := by rw [IntKind.wrap_i64]; omega
  clear h hc eq hlen
  generalize ps.length = n at *
  go_enter Try.func78, Try.ntmps78
  go_wp2
  go_ret
  exact ⟨ret1 rfl, HS.out _⟩
/-- How far down has come. -/
structure Dn (w W : World) (B hp : Nat) (la : Option Addr) (ln lc : Nat) (up : Bool) (pa : Option Addr) (pc : Nat) (last : PlL) (L : List (List KV)) (n i0 : Nat) (ps qs : List PlL) (i : Nat) : Prop where
  hd : Hd W B hp la ln lc up pa pc qs last
  chg : Chg (fun k => blkOf pa = some k) w W
  perm : qs.Perm ps
  inv : DInv (ltD L up) n i0 i (fun k => qs.getD k d0)
  same : ∀ k, n ≤ k → qs.getD k d0 = ps.getD k d0
theorem chg_below {R : Nat → Prop} {w w' w2 : World} (h : Chg R w w') (hb : Below w'.heap.size w' w2) : Chg R w w2 := h.andThen (Chg.of (R := R) hb) fun _ _ e => e
theorem Dn.below {n i0 i : Nat} {qs : List PlL} {W W2 : World} (h : Dn w W B hp la ln lc up pa pc last L n i0 ps qs i) (hb : Below W.heap.size W W2) : Dn w W2 B hp la ln lc up pa pc last L n i0 ps qs i := ⟨h.hd.below hb, chg_below h.chg hb, h.perm, h.inv, h.same⟩
theorem swL_getD (l : List PlL) {i j : Nat} (hi : i < l.length) (hj : j < l.length) : (fun k => (swL d0 l i j).getD k d0) = sw (fun k => l.getD k d0) i j := funext fun k => swL_get d0 l hi hj k
theorem Dn.step {n i0 i j : Nat} {qs : List PlL} {W W2 : World} (h : Dn w W B hp la ln lc up pa pc last L n i0 ps qs i) (hk : Kid i j) (hj : j < n) (hn : n ≤ ps.length) (hlt : ltD L up (qs.getD j d0) (qs.getD i d0)) (hsib : ∀ k, Kid i k → k < n → ¬ ltD L up (qs.getD k d0) (qs.getD j d0))
    (hd : Hd W2 B hp la ln lc up pa pc (swL d0 qs i j) last) (hc : Chg (fun k => blkOf pa = some k) W W2) : Dn w W2 B hp la ln lc up pa pc last L n i0 ps (swL d0 qs i j) j := by
  have hl := h.perm.length_eq
  have hij : i < j := by rcases hk with e | e <;> omega
  have hiq : i < qs.length := by omega
  have hjq : j < qs.length := by omega
  refine ⟨hd, h.chg.andThen hc fun _ _ e => e, (swL_perm d0 qs hiq hjq).trans h.perm, ?_, fun k hk' => ?_⟩
  · rw [swL_getD qs hiq hjq]
    exact h.inv.step (ltD_ord L up) hk hj hlt hsib
  · rw [swL_get d0 qs hiq hjq, sw_other (by omega) (by omega)]
    exact h.same k hk'
theorem InL.perm {ps qs : List PlL} (h : InL L ln ps) (hp : qs.Perm ps) : InL L ln qs := fun q hq => h q (hp.mem_iff.1 hq)
def DownP (w : World) (B hp : Nat) (la : Option Addr) (ln lc : Nat) (up : Bool) (pa : Option Addr) (pc : Nat) (last : PlL) (L : List (List KV)) (n i0 : Nat) (ps : List PlL) (e : Ending) (w' : World) : Prop := ∃ (qs : List PlL) (b : Bool), e = .returned (.bool b) ∧ qs.Perm ps ∧ Hd w' B hp la ln lc up pa pc qs last ∧ Chg (fun k => blkOf pa = some k) w w' ∧ HeapF (ltD L up) n i0 (fun k => qs.getD k d0) ∧ (∀ k, n ≤ k → qs.getD k d0 = ps.getD k d0)
set_option maxRecDepth 100000 in
set_option maxHeartbeats 8000000 in
theorem down_any (h : Hd w B hp la ln lc up pa pc ps last) (hl : ∀ W, Chg (fun k => blkOf pa = some k) w W → LsAt W la ln lc L) (hv : InL L ln ps) (i0 n : Nat) (hn : n ≤ ps.length) (hsz : ps.length ≤ 1000000) (hi0 : i0 ≤ 1000000) (hh : HeapF (ltD L up) n (i0 + 1) (fun k => ps.getD k d0)) :
    Calls Try.prog 55 #[.iface 56 (at_ hp), .int .i64 (i0 : Int), .int .i64 (n : Int)] w fun e w' => DownP w B hp la ln lc up pa pc last L n i0 ps e w' := by
  have HL : Hid (∀ W, Chg (fun k => blkOf pa = some k) w W → LsAt W la ln lc L) := hl
  have HV : Hid (InL L ln ps ∧ n ≤ ps.length) := ⟨hv, hn⟩
  have HI0 : Hid (Dn w w B hp la ln lc up pa pc last L n i0 ps ps i0) := ⟨h, Chg.refl _ _, List.Perm.refl _, DInv.start hh, fun _ _ => rfl⟩
  clear h hl hv hh
  go_enter Try.func55, Try.ntmps55
  go_wp2_with fail
  go_loopw [7] (fun s7 wr => ∃ (i : Nat) (qs : List PlL), i ≤ 1000000 ∧ s7 = .int .i64 (i : Int) ∧ Hid (Dn w wr B hp la ln lc up pa pc last L n i0 ps qs i)) (fun s7 _ => 1000001 - (intOf s7).toNat)
  case atStart => exact ⟨i0, ps, hi0, rfl, HI0.out⟩
  case round =>
    clear HI0
    obtain ⟨i, qs, hi, rfl, HI⟩ := hrel
    have HVQ : Hid (InL L ln qs ∧ qs.length = ps.length) := ⟨HV.out.1.perm HI.out.perm, HI.out.perm.length_eq⟩
    by_cases h1 : 2 * i + 1 < n
    · have h1I : (2 * (i : Int) + 1) < (n : Int) := by omega
      by_cases h2 : 2 * i + 2 < n
      · have h2I : (2 * (i : Int) + 1 + 1) < (n : Int) := by omega
        go_wp2_with fail
        have HLS := less_any (i := 2 * i + 2) (j := 2 * i + 1) HI.out.hd (HL.out _ HI.out.chg) HVQ.out.1 (by have := HVQ.out.2; have := HV.out.2; omega) (by have := HVQ.out.2; have := HV.out.2; omega)
        rw [show ((2 * i + 1 : Nat) : Int) = 2 * (i : Int) + 1 by omega, show ((2 * i + 2 : Nat) : Int) = 2 * (i : Int) + 1 + 1 by omega] at HLS
        refine HLS.mono ?_
        rintro _ w3 ⟨rfl, hb3⟩
        have HJ : Hid (Dn w w3 B hp la ln lc up pa pc last L n i0 ps qs i) := HI.out.below hb3
        clear hb3 HLS HI
        by_cases hl2 : ltD L up (qs.getD (2 * i + 2) d0) (qs.getD (2 * i + 1) d0)
        · have HSIB : Hid (∀ k, Kid i k → k < n → ¬ ltD L up (qs.getD k d0) (qs.getD (2 * i + 2) d0)) := fun k hk hkn hc => by
            rcases hk with rfl | rfl
            · exact (ltD_ord L up).asym _ _ hc hl2
            · exact (ltD_ord L up).asym _ _ hc hc
          rw [decide_eq_true hl2]
          clear hl2
          go_wp2_with fail
          have HLT := less_any (i := 2 * i + 2) (j := i) HJ.out.hd (HL.out _ HJ.out.chg) HVQ.out.1 (by have := HVQ.out.2; have := HV.out.2; omega) (by have := HVQ.out.2; have := HV.out.2; omega)
          rw [show ((2 * i + 2 : Nat) : Int) = 2 * (i : Int) + 1 + 1 by omega] at HLT
          refine HLT.mono ?_
          rintro _ w4 ⟨rfl, hb4⟩
          have HJ4 : Hid (Dn w w4 B hp la ln lc up pa pc last L n i0 ps qs i) := HJ.out.below hb4
          clear hb4 HJ HLT
          by_cases hlt : ltD L up (qs.getD (2 * i + 2) d0) (qs.getD i d0)
          · have HLTT : Hid (ltD L up (qs.getD (2 * i + 2) d0) (qs.getD i d0)) := hlt
            rw [decide_eq_true hlt]
            clear hlt
            go_wp2_with fail
            have HSW := swap_any (i := i) (j := 2 * i + 2) HJ4.out.hd (by have := HVQ.out.2; have := HV.out.2; omega) (by have := HVQ.out.2; have := HV.out.2; omega)
            rw [show ((2 * i + 2 : Nat) : Int) = 2 * (i : Int) + 1 + 1 by omega] at HSW
            refine HSW.mono ?_
            rintro _ w5 ⟨rfl, hd5, hc5⟩
            have HJ5 : Hid (Dn w w5 B hp la ln lc up pa pc last L n i0 ps (swL d0 qs i (2 * i + 2)) (2 * i + 2)) := HJ4.out.step (by unfold Kid; omega) (by omega) HV.out.2 HLTT.out HSIB.out hd5 hc5
            clear hd5 hc5 HSW HJ4
            go_wp2
            go_roundw
            case rel => exact ⟨2 * i + 2, swL d0 qs i (2 * i + 2), by omega, by rw [show ((2 * i + 2 : Nat) : Int) = 2 * (i : Int) + 1 + 1 by omega], HJ5.out⟩
            case measure => simp only [intOf]; omega
          · have HNO : Hid (∀ k, Kid i k → k < n → ¬ ltD L up (qs.getD k d0) (qs.getD i d0)) := fun k hk hkn => (ltD_ord L up).trans _ _ _ hlt (HSIB.out k hk hkn)
            rw [decide_eq_false hlt]
            clear hlt
            go_wp2
            go_ret
            exact ⟨qs, _, rfl, HJ4.out.perm, HJ4.out.hd, HJ4.out.chg, HJ4.out.inv.stop HNO.out, HJ4.out.same⟩
        · have HSIB : Hid (∀ k, Kid i k → k < n → ¬ ltD L up (qs.getD k d0) (qs.getD (2 * i + 1) d0)) := fun k hk hkn hc => by
            rcases hk with rfl | rfl
            · exact (ltD_ord L up).asym _ _ hc hc
            · exact hl2 hc
          rw [decide_eq_false hl2]
          clear hl2
          go_wp2_with fail
          have HLT := less_any (i := 2 * i + 1) (j := i) HJ.out.hd (HL.out _ HJ.out.chg) HVQ.out.1 (by have := HVQ.out.2; have := HV.out.2; omega) (by have := HVQ.out.2; have := HV.out.2; omega)
          rw [show ((2 * i + 1 : Nat) : Int) = 2 * (i : Int) + 1 by omega] at HLT
          refine HLT.mono ?_
          rintro _ w4 ⟨rfl, hb4⟩
          have HJ4 : Hid (Dn w w4 B hp la ln lc up pa pc last L n i0 ps qs i) := HJ.out.below hb4
          clear hb4 HJ HLT
          by_cases hlt : ltD L up (qs.getD (2 * i + 1) d0) (qs.getD i d0)
          · have HLTT : Hid (ltD L up (qs.getD (2 * i + 1) d0) (qs.getD i d0)) := hlt
            rw [decide_eq_true hlt]
            clear hlt
            go_wp2_with fail
            have HSW := swap_any (i := i) (j := 2 * i + 1) HJ4.out.hd (by have := HVQ.out.2; have := HV.out.2; omega) (by have := HVQ.out.2; have := HV.out.2; omega)
            rw [show ((2 * i + 1 : Nat) : Int) = 2 * (i : Int) + 1 by omega] at HSW
            refine HSW.mono ?_
            rintro _ w5 ⟨rfl, hd5, hc5⟩
            have HJ5 : Hid (Dn w w5 B hp la ln lc up pa pc last L n i0 ps (swL d0 qs i (2 * i + 1)) (2 * i + 1)) := HJ4.out.step (by unfold Kid; omega) (by omega) HV.out.2 HLTT.out HSIB.out hd5 hc5
            clear hd5 hc5 HSW HJ4
            go_wp2
            go_roundw
            case rel => exact ⟨2 * i + 1, swL d0 qs i (2 * i + 1), by omega, by rw [show ((2 * i + 1 : Nat) : Int) = 2 * (i : Int) + 1 by omega], HJ5.out⟩
            case measure => simp only [intOf]; omega
          · have HNO : Hid (∀ k, Kid i k → k < n → ¬ ltD L up (qs.getD k d0) (qs.getD i d0)) := fun k hk hkn => (ltD_ord L up).trans _ _ _ hlt (HSIB.out k hk hkn)
            rw [decide_eq_false hlt]
            clear hlt
            go_wp2
            go_ret
            exact ⟨qs, _, rfl, HJ4.out.perm, HJ4.out.hd, HJ4.out.chg, HJ4.out.inv.stop HNO.out, HJ4.out.same⟩
      · have h2I : ¬ (2 * (i : Int) + 1 + 1) < (n : Int) := by omega
        have HJ : Hid (Dn w wr B hp la ln lc up pa pc last L n i0 ps qs i) := HI.out
        have HSIB : Hid (∀ k, Kid i k → k < n → ¬ ltD L up (qs.getD k d0) (qs.getD (2 * i + 1) d0)) := fun k hk hkn hc => by
          rcases hk with rfl | rfl
          · exact (ltD_ord L up).asym _ _ hc hc
          · omega
        clear HI
        go_wp2_with fail
        have HLT := less_any (i := 2 * i + 1) (j := i) HJ.out.hd (HL.out _ HJ.out.chg) HVQ.out.1 (by have := HVQ.out.2; have := HV.out.2; omega) (by have := HVQ.out.2; have := HV.out.2; omega)
        rw [show ((2 * i + 1 : Nat) : Int) = 2 * (i : Int) + 1 by omega] at HLT
        refine HLT.mono ?_
        rintro _ w4 ⟨rfl, hb4⟩
        have HJ4 : Hid (Dn w w4 B hp la ln lc up pa pc last L n i0 ps qs i) := HJ.out.below hb4
        clear hb4 HJ HLT
        by_cases hlt : ltD L up (qs.getD (2 * i + 1) d0) (qs.getD i d0)
        · have HLTT : Hid (ltD L up (qs.getD (2 * i + 1) d0) (qs.getD i d0)) := hlt
          rw [decide_eq_true hlt]
          clear hlt
          go_wp2_with fail
          have HSW := swap_any (i := i) (j := 2 * i + 1) HJ4.out.hd (by have := HVQ.out.2; have := HV.out.2; omega) (by have := HVQ.out.2; have := HV.out.2; omega)
          rw [show ((2 * i + 1 : Nat) : Int) = 2 * (i : Int) + 1 by omega] at HSW
          refine HSW.mono ?_
          rintro _ w5 ⟨rfl, hd5, hc5⟩
          have HJ5 : Hid (Dn w w5 B hp la ln lc up pa pc last L n i0 ps (swL d0 qs i (2 * i + 1)) (2 * i + 1)) := HJ4.out.step (by unfold Kid; omega) (by omega) HV.out.2 HLTT.out HSIB.out hd5 hc5
          clear hd5 hc5 HSW HJ4
          go_wp2
          go_roundw
          case rel => exact ⟨2 * i + 1, swL d0 qs i (2 * i + 1), by omega, by rw [show ((2 * i + 1 : Nat) : Int) = 2 * (i : Int) + 1 by omega], HJ5.out⟩
          case measure => simp only [intOf]; omega
        · have HNO : Hid (∀ k, Kid i k → k < n → ¬ ltD L up (qs.getD k d0) (qs.getD i d0)) := fun k hk hkn => (ltD_ord L up).trans _ _ _ hlt (HSIB.out k hk hkn)
          rw [decide_eq_false hlt]
          clear hlt
          go_wp2
          go_ret
          exact ⟨qs, _, rfl, HJ4.out.perm, HJ4.out.hd, HJ4.out.chg, HJ4.out.inv.stop HNO.out, HJ4.out.same⟩
    · have h1I : ¬ (2 * (i : Int) + 1) < (n : Int) := by omega
      have HNO : Hid (∀ k, Kid i k → k < n → ¬ ltD L up (qs.getD k d0) (qs.getD i d0)) := fun k hk hkn => by rcases hk with rfl | rfl <;> omega
      go_wp2
      go_ret
      exact ⟨qs, _, rfl, HI.out.perm, HI.out.hd, HI.out.chg, HI.out.inv.stop HNO.out, HI.out.same⟩
end
end Go.Proofs.Ytfijibengmgegaa
