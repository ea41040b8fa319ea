/- The contract of wal's pieces: the function that is ranged over tells a log's pieces, one behind the other. -/
import Derived.RangeFuncNested
import Derived.RangeFuncBound
import Derived.RangeFuncCalls
import Derived.RangeFuncLeaves
import Derived.Shelf.Abstract
import Derived.Shelf.RegionOpen
import Derived.OwnWalkIn
import Derived.TacticsInMore
import Derived.LoopNIn
import Derived.LoopIn
import Derived.Test.YtdhfimolgcnejaaW9At
namespace Go.Proofs.Ytdhfimolgcnejaa
open Go.RowKit Go.Shelf
attribute [local go_sem] Oper.semAt_some

/-- A piece as it is told: with the place of its own bytes. -/
abbrev PcX (w : World) (b : List UInt8) := { x : Pc × Option Addr × Nat // x.1.Ok b.length ∧ BsAt w x.2.1 x.1.n x.2.2 (x.1.body b) }
def PcX.vals {w : World} {b : List UInt8} (x : PcX w b) : Array Value := #[PcV x.1.1 x.1.2.1 x.1.2.2, .int .i64 (x.1.1.fault : Int)]
def PcX.pcs {w : World} {b : List UInt8} (l : List (PcX w b)) : List Pc := l.map fun x => x.1.1

/-- Blocks that hold a piece are kept. -/
def KeepT (W W' : World) : Prop := ∀ (k : Nat) (arr : Array Value) (fz : Nat × Nat), W.heap[k]? = some (Obj.cells arr 46 fz) → W'.heap[k]? = some (Obj.cells arr 46 fz)
theorem KeepT.refl (W : World) : KeepT W W := fun _ _ _ h => h
theorem KeepT.trans {A B C : World} (h : KeepT A B) (k : KeepT B C) : KeepT A C := fun i arr fz hi => k i arr fz (h i arr fz hi)
theorem KeepT.of {W W' : World} (h : Below W.heap.size W W') : KeepT W W' := fun k _ _ hk => (h.block k (Array.getElem?_eq_some_iff.1 hk).1).trans hk
theorem KeepT.grown {W W' : World} {row : Option Nat} (h : W.grownBy W' row) (hr : ∀ r, row = some r → ∀ arr fz, W.heap[r]? ≠ some (.cells arr 46 fz)) : KeepT W W' := fun k arr fz hk =>
  (h.block k (Array.getElem?_eq_some_iff.1 hk).1 (fun e => hr k e.symm arr fz hk)).trans hk
theorem KeepT.set {W : World} {p : Nat} {o : Obj} (ho : W.heap[p]? = some o) (hn : ∀ arr fz, o ≠ .cells arr 46 fz) (j : Nat) (v : Value) : KeepT W (W.setCell ⟨p, j, none⟩ v) := fun k arr fz hk =>
  (Below.heap_setCell _ _ _ k (fun e => by rw [e] at hk; rw [ho] at hk; exact hn arr fz (Option.some.inj hk))).trans hk
/-- What a round keeps: what lay below n₀, the pieces, the block of what is ranged over. -/
structure Kp3 (n₀ Bs : Nat) (W W' : World) : Prop where
  below : Below n₀ W W'
  tag : KeepT W W'
  box : W'.heap[Bs]? = W.heap[Bs]?
theorem Kp3.trans {n₀ Bs : Nat} {A B C : World} (h : Kp3 n₀ Bs A B) (k : Kp3 n₀ Bs B C) : Kp3 n₀ Bs A C := ⟨h.below.trans k.below, h.tag.trans k.tag, k.box.trans h.box⟩
theorem Kp3.put {n₀ Bs : Nat} {w : World} (hn : n₀ ≤ w.heap.size) (hB : Bs < w.heap.size) (W : World) (l : Nat) (o o' : Obj) (hl : w.heap.size ≤ l) (h : W.heap[l]? = some o) (h1 : o.isCells = false) (h2 : o.isWalk = false) : Kp3 n₀ Bs W (W.putObj l o') := by
  refine ⟨belowK_b hn W l o o' hl h h1 h2, KeepT.grown (grownBy_putObj' W l o') (fun r e arr fz hr => ?_), World.putObj_heap_other (by omega)⟩
  cases e
  rw [h] at hr
  cases hr
  cases h1
theorem Kp3.of {n₀ Bs : Nat} {W W' : World} (h : Below W.heap.size W W') (hn : n₀ ≤ W.heap.size) (hB : Bs < W.heap.size) : Kp3 n₀ Bs W W' := ⟨h.mono hn, KeepT.of h, h.block Bs hB⟩
theorem grown_none {W W' : World} (h : Below W.heap.size W W') : W.grownBy W' none := ⟨h.os, h.tape, h.output, h.size, fun k hk _ => h.block k hk⟩
theorem pcsX_snoc {w : World} {b : List UInt8} (l : List (PcX w b)) (x : PcX w b) : PcX.pcs (l ++ [x]) = PcX.pcs l ++ [x.1.1] := by simp [PcX.pcs]

set_option maxRecDepth 100000 in
set_option maxHeartbeats 2000000 in
theorem pieces1_in (n : Nat) (hn : 1 ≤ n) (w : World) (a : Option Addr) (len cap : Nat) (b : List UInt8) (h : BsAt w a len cap b) (hl : len ≤ 140737488355328) (l Bs : Nat) (J Jx : List (PcX w b) → World → Prop) (W : World)
    (hJ : AbidesFrom W.heap.size J)
    (hY : ∀ pre x W1, J pre W1 → pre.length < (pcs b 0).length → YieldAt Fence.wide (n - 1) Try.prog l (PcX.vals x) W1 fun e W' =>
      (e = .returned (.bool true) ∧ J (pre ++ [x]) W' ∧ Kp3 w.heap.size Bs W1 W') ∨ (e = .returned (.bool false) ∧ Jx (pre ++ [x]) W'))
    (hW : Below w.heap.size w W) (hBs : Boxed W Bs 23 (.slice a len cap)) (h0 : J [] W) :
    CallsIn Fence.wide n Try.prog 29 #[.func (.yield l) #[] #[], .pointer (some ⟨Bs, 0, none⟩)] W fun e W' => (∃ v, e = .returned v) ∧
      ((∃ xs, PcX.pcs xs = pcs b 0 ∧ J xs W') ∨ (∃ pre, (∃ t, PcX.pcs pre ++ t = pcs b 0) ∧ Jx pre W')) := by
  have HBS : Hid (BsAt w a len cap b) := h
  have HLN : Hid (b.length = len) := h.size
  clear h
  refine callsIn_of_wp Try.func29 rfl trivial ?_ rfl
  simp only [Try.ntmps29, List.size_toArray, List.length_cons, List.length_nil, Nat.reduceAdd, Nat.reduceSub, Array.replicate_succ, Array.replicate_zero, List.push_toArray, List.append_toArray, List.nil_append, List.cons_append]
  gi_wp2
  gi_loopw [3] (fun i wr => ∃ (p : Nat) (pre : List (PcX w b)), p ≤ len + 128 ∧ i = .int .i64 (p : Int) ∧ Hid (PcX.pcs pre ++ pcs b p = pcs b 0) ∧ Hid (J pre wr) ∧ Hid (Below w.heap.size w wr) ∧ Hid (pre.length ≤ p) ∧ Hid (Boxed wr Bs 23 (.slice a len cap))) (fun i _ => len - (intOf i).toNat)
  case atStart => exact ⟨0, [], by omega, rfl, rfl, h0, hW, Nat.le_refl _, hBs⟩
  case round =>
    obtain ⟨p, pre, hp, rfl, HP, HJ, HB, HPL, HBX⟩ := hrel
    have hbx := HBX.out.cell
    by_cases hlt : p < len
    · obtain ⟨L, HL⟩ : ∃ L, Hid (leftN p = L) := ⟨_, rfl⟩
      have hL := leftN_pos p
      rw [HL.out] at hL
      by_cases h7 : L < 7
      · have HSK : Hid (PcX.pcs pre ++ pcs b (p + L) = pcs b 0) := by
          unfold Hid
          rw [← HP.out, pcs_skip b p (by rw [HLN.out]; exact hlt) (by rw [HL.out]; exact h7), HL.out]
        gi_wp2_with (refine ⟨trivial, ?_⟩; gi_at_call 16; refine (callsIn_wide.2 (left_at _ p L _ rfl (by omega) HL.out)).mono ?_; rintro e w' ⟨rfl, rfl⟩)
        refine ⟨⟨p + L, pre, by omega, by simp, HSK.out, HJ.out, HB.out, ?_, HBX.out⟩, ?_⟩
        · have := HPL.out
          unfold Hid
          omega
        · simp [intOf]
          omega
      · gi_wp2_with (refine ⟨trivial, ?_⟩; gi_at_call 16; refine (callsIn_wide.2 (left_at _ p L _ rfl (by omega) HL.out)).mono ?_; rintro e w' ⟨rfl, rfl⟩)
        refine ⟨trivial, ?_⟩
        refine (callsIn_wide.2 (pieceAt_any a len cap b p w _ HBS.out HB.out (by omega) hl)).mono ?_
        rintro e w2 ⟨a2, c2, rfl, hbs, hb2⟩
        have hok := pcAt_ok b p (by rw [HLN.out]; omega)
        have hgood := fun hf => pcs_good b p (by rw [HLN.out]; exact hlt) (by rw [HL.out]; exact h7) hf
        have hbad := fun hf => pcs_bad b p (by rw [HLN.out]; exact hlt) (by rw [HL.out]; exact h7) hf
        have hbeh := pcAt_behind b p
        obtain ⟨x, hx⟩ : ∃ x, pcAt b p = x := ⟨_, rfl⟩
        rw [hx] at hok hgood hbad hbeh hbs ⊢
        have HBX2 : Hid (Boxed w2 Bs 23 (.slice a len cap)) := (hb2.block _ HBX.out.lt).trans HBX.out
        have HJ2 : Hid (J pre w2) := hJ pre _ _ none HJ.out (grown_none hb2) (fun r e => by cases e)
        have HB2 : Hid (Below w.heap.size w w2) := HB.out.trans (hb2.mono HB.out.size)
        obtain ⟨v, hv⟩ : ∃ v : Array Value, v = #[.int .u8 (x.kind.toNat : Int), .slice a2 x.n c2, .int .i64 (x.behind : Int)] := ⟨_, rfl⟩
        have HJ3 := HJ2.out
        obtain ⟨fn, tmps, assign, body, hy, hR⟩ := hY pre ⟨(x, a2, c2), hok, hbs⟩ (w2.alloc (.cells #[.int .u8 (x.kind.toNat : Int), .slice a2 x.n c2, .int .i64 (x.behind : Int)] 46))
          (hJ pre _ _ none HJ2.out (World.grownBy_alloc _ _ _) (fun r e => by cases e)) (by
            rw [← HP.out, List.length_append]
            have hne : pcs b p ≠ [] := by
              by_cases hf : x.fault = 0
              · rw [hgood hf]; simp
              · rw [hbad hf]; simp
            have := List.length_pos_iff.2 hne
            simp only [PcX.pcs, List.length_map]
            omega)
        dsimp only [PcX.vals, PcV] at hy
        unfold PcV
        have HGD : Hid (x.fault = 0 → pcs b p = x :: pcs b x.behind) := hgood
        have HBD : Hid (x.fault ≠ 0 → pcs b p = [x]) := hbad
        have HBH : Hid (x.fault = 0 → x.off = p + 7 ∧ x.n = cntN b p) := hbeh
        have HOK : Hid (x.Ok b.length) := hok
        clear hgood hbad hbeh hx hv hb2
        gi_wp2
        refine hR.mono ?_
        rintro e W3 (⟨rfl, hJ3, hk3⟩ | ⟨rfl, hJx3⟩)
        · have HBX3 : Hid (Boxed W3 Bs 23 (.slice a len cap)) := hk3.box.trans (HBX2.out.alloc _)
          have HB3 : Hid (Below w.heap.size w W3) := (HB2.out.alloc HB2.out.size _).trans hk3.below
          have HJ4 : Hid (J _ W3) := hJ3
          have hbb : Box W3 w2.heap.size 46 _ := hk3.tag _ _ _ (heap_alloc_new w2 _)
          have y2 := hbb.cell 2
          simp only [List.getElem?_toArray, List.getElem?_cons_zero, List.getElem?_cons_succ] at y2
          clear hJ3 hk3 hbb
          by_cases hf : x.fault = 0
          · have hne : ((x.fault : Int) != 0) = false := by rw [hf]; rfl
            have HF : Hid (x.fault = 0) := hf
            clear hf
            gi_wp2
            refine ⟨⟨x.behind, _, ?_, rfl, ?_, HJ4.out, HB3.out, ?_, HBX3.out⟩, ?_⟩
            · have h1 := HBH.out HF.out
              have h2 := HOK.out
              have h3 := HLN.out
              have h4 := HF.out
              unfold Pc.Ok at h2
              unfold Pc.behind
              omega
            · unfold Hid
              rw [pcsX_snoc, ← HP.out, HGD.out HF.out]
              simp
            · have h1 := HBH.out HF.out
              have h2 := HPL.out
              unfold Hid Pc.behind
              simp
              omega
            · have h1 := HBH.out HF.out
              simp [intOf]
              unfold Pc.behind
              omega
          · have hne : ((x.fault : Int) != 0) = true := by simp; omega
            gi_wp2
            refine bodyPost_ret (results_none rfl _ _ _) rfl ?_
            exact ⟨⟨_, rfl⟩, .inl ⟨_, by rw [pcsX_snoc, ← HP.out, HBD.out hf], HJ4.out⟩⟩
        · gi_wp2
          refine bodyPost_ret (results_none rfl _ _ _) rfl ?_
          refine ⟨⟨_, rfl⟩, .inr ⟨_, ?_, hJx3⟩⟩
          rw [pcsX_snoc, ← HP.out]
          by_cases hf : x.fault = 0
          · exact ⟨pcs b x.behind, by rw [HGD.out hf]; simp⟩
          · exact ⟨[], by rw [HBD.out hf]; simp⟩
    · gi_wp2
      go_end0
      exact ⟨⟨_, rfl⟩, .inl ⟨pre, by rw [← HP.out, pcs_end b p (by rw [HLN.out]; omega)]; simp, HJ.out⟩⟩

/-- What pieces hands back tells all pieces; or a beginning of them, where a round has said 'no more'. -/
theorem pieces_stops (n : Nat) (hn : 1 ≤ n) (w : World) (a : Option Addr) (len cap : Nat) (b : List UInt8) (h : BsAt w a len cap b) (hl : len ≤ 140737488355328) (Bs : Nat) (w0 : World) (hB : Below w.heap.size w w0) (hBs : Boxed w0 Bs 23 (.slice a len cap)) :
    SeqStopsK Fence.wide n Try.prog 29 #[.pointer (some ⟨Bs, 0, none⟩)] (PcX.vals (w := w) (b := b)) (Kp3 w.heap.size Bs) (fun xs => PcX.pcs xs = pcs b 0) (fun pre => ∃ t, PcX.pcs pre ++ t = pcs b 0) (pcs b 0).length w0 :=
  fun l J Jx W hW hJ _ hY h0 => pieces1_in n hn w a len cap b h hl l Bs J Jx W hJ hY (hB.trans (hW.mono hB.size)) ((hW.block _ hBs.lt).trans hBs) h0
set_option maxHeartbeats 400000 in
theorem pieces_any (a : Option Addr) (len cap : Nat) (w : World) : Calls Try.prog 20 #[.slice a len cap] w fun e w' => e = .returned (.func (.func 29) #[] #[.pointer (some ⟨w.heap.size, 0, none⟩)]) ∧ w' = w.alloc (.cells #[.slice a len cap] 23) := by
  go_enter Try.func20, Try.ntmps20
  go_wp2
  go_ret
  exact ⟨rfl, rfl⟩
end Go.Proofs.Ytdhfimolgcnejaa
