/- The document's own arena: cells. -/
import Derived.Test.YtedddgkdpeielaaB6Ref
import Derived.Deep.DeepCutAuto
namespace Go.Proofs.Ytedddgkdpeielaa
open Go.RowKit
theorem RfAt.setK {w : World} {B q gb g cc : Nat} {A : PA} (h : RfAt w B q gb (some ⟨g, 0, none⟩) cc A) (k : Nat) (n : Int) (hn : in64 n) : RfAt (w.setCell ⟨g, k, none⟩ (.int .i64 n)) B q gb (some ⟨g, 0, none⟩) cc { A with cells := A.cells.set k n } := by
  have hq : q ≠ g := (h.cq (k := g) rfl).symm
  have hgb : gb ≠ g := (h.cg (k := g) rfl).symm
  refine ⟨Box.eq (h.box.other hq k _) (by simp), h.row.other hgb k _, ?_, PA.set_inv h.inv k hn, h.hq, h.hg⟩
  have := h.cells.put k n hn
  simpa using this
set_option maxRecDepth 100000 in
theorem rstore_at {w : World} {B q gb : Nat} {ac : Option Addr} {cc : Nat} {A : PA} (h : RfAt w B q gb ac cc A) (c n : Int) (hn : in64 n) : Calls Try.prog 25 #[at_ q, .int .i64 c, .int .i64 n] w fun e w' => e = .returned (.int .i64 (A.store c n).1) ∧ RfAt w' B q gb ac cc (A.store c n).2 ∧ Chg (RFoot q gb ac) w w' := by
  have d2 := h.d2
  have HA : Hid (RfAt w B q gb ac cc A) := h
  cases hh : A.has c with
  | false =>
    have HE : Hid (A.store c n = (1, A)) := by unfold Hid; simp [PA.store, hh]
    have hh' : 0 ≤ c → (A.cells.length : Int) ≤ c := by simpa [PA.has] using hh
    generalize A.cells.length = m at d2 hh'
    clear hh h hn
    by_cases h1 : c < 0
    · clear hh'
      go_enter Try.func25, Try.ntmps25
      go_wp2
      go_returns
      rw [HE.out]
      exact ⟨rfl, HA.out, Chg.refl _ _⟩
    · have h2 : (m : Int) ≤ c := hh' (by omega)
      clear hh'
      go_enter Try.func25, Try.ntmps25
      go_wp2
      go_returns
      rw [HE.out]
      exact ⟨rfl, HA.out, Chg.refl _ _⟩
  | true =>
    obtain ⟨k, rfl, hk⟩ := PA.has_nat hh
    have HE : Hid (A.store (k : Int) n = (0, { A with cells := A.cells.set k n })) := by unfold Hid; simp [PA.store, hh]
    obtain ⟨g, rfl, e0⟩ := h.cells.at hk
    have sk := h.cells.soft k
    have H9 : Hid (RfAt (w.setCell ⟨g, k, none⟩ (.int .i64 n)) B q gb (some ⟨g, 0, none⟩) cc { A with cells := A.cells.set k n }) := h.setK k n hn
    generalize A.cells.getD k 0 = v at e0
    generalize A.cells.length = m at d2 hk
    have x0 : ¬ ((k : Int) < 0) := by omega
    have x1 : (0 : Int) ≤ (k : Int) := by omega
    have x2 : (k : Int) < (m : Int) := by omega
    clear hh h hk hn
    go_enter Try.func25, Try.ntmps25
    go_wp2
    go_returns
    rw [HE.out]
    exact ⟨rfl, H9.out, (Chg.refl (RFoot q gb (some ⟨g, 0, none⟩)) w).set (fun _ => .inr (.inr rfl)) k _⟩
set_option maxRecDepth 100000 in
theorem rcas_at {w : World} {B q gb : Nat} {ac : Option Addr} {cc : Nat} {A : PA} (h : RfAt w B q gb ac cc A) (c o n : Int) (hn : in64 n) : Calls Try.prog 26 #[at_ q, .int .i64 c, .int .i64 o, .int .i64 n] w fun e w' => e = .returned (.tuple #[.bool (A.cas c o n).1, .int .i64 (A.cas c o n).2.1]) ∧ RfAt w' B q gb ac cc (A.cas c o n).2.2 ∧ Chg (RFoot q gb ac) w w' := by
  have d2 := h.d2
  have HA : Hid (RfAt w B q gb ac cc A) := h
  cases hh : A.has c with
  | false =>
    have HE : Hid (A.cas c o n = (false, 1, A)) := by unfold Hid; simp [PA.cas, hh]
    have hh' : 0 ≤ c → (A.cells.length : Int) ≤ c := by simpa [PA.has] using hh
    generalize A.cells.length = m at d2 hh'
    clear hh h hn
    by_cases h1 : c < 0
    · clear hh'
      go_enter Try.func26, Try.ntmps26
      go_wp2
      go_returns
      rw [HE.out]
      exact ⟨rfl, HA.out, Chg.refl _ _⟩
    · have h2 : (m : Int) ≤ c := hh' (by omega)
      clear hh'
      go_enter Try.func26, Try.ntmps26
      go_wp2
      go_returns
      rw [HE.out]
      exact ⟨rfl, HA.out, Chg.refl _ _⟩
  | true =>
    obtain ⟨k, rfl, hk⟩ := PA.has_nat hh
    obtain ⟨g, rfl, e0⟩ := h.cells.at hk
    have sk := h.cells.soft k
    have H9 : Hid (RfAt (w.setCell ⟨g, k, none⟩ (.int .i64 n)) B q gb (some ⟨g, 0, none⟩) cc { A with cells := A.cells.set k n }) := h.setK k n hn
    obtain ⟨v, hv⟩ : ∃ v, v = A.cells.getD k 0 := ⟨_, rfl⟩
    rw [← hv] at e0
    have x0 : ¬ ((k : Int) < 0) := by omega
    have x1 : (0 : Int) ≤ (k : Int) := by omega
    have x2 : (k : Int) < (A.cells.length : Int) := by omega
    have HV : Hid (v = A.cells.getD k 0) := hv
    have HHH : Hid (A.has (k : Int) = true) := hh
    generalize A.cells.length = m at d2 hk x2
    clear hh h hk hn hv
    by_cases ho : v = o
    · have HE : Hid (A.cas (k : Int) o n = (true, 0, { A with cells := A.cells.set k n })) := by
        unfold Hid PA.cas
        rw [if_pos HHH.out, if_pos (by rw [Int.toNat_natCast, ← HV.out]; exact ho)]
        rfl
      subst ho
      go_enter Try.func26, Try.ntmps26
      go_wp2
      go_returns
      rw [HE.out]
      exact ⟨rfl, H9.out, (Chg.refl (RFoot q gb (some ⟨g, 0, none⟩)) w).set (fun _ => .inr (.inr rfl)) k _⟩
    · have HE : Hid (A.cas (k : Int) o n = (false, 0, A)) := by
        unfold Hid PA.cas
        rw [if_pos HHH.out, if_neg (by rw [Int.toNat_natCast, ← HV.out]; exact ho)]
      go_enter Try.func26, Try.ntmps26
      go_wp2
      go_returns
      rw [HE.out]
      exact ⟨rfl, HA.out, Chg.refl _ _⟩
/-- One cell more. -/
theorem RfAt.push {w w' : World} {B q gb : Nat} {ac : Option Addr} {cc : Nat} {A : PA} (h : RfAt w B q gb ac cc A) {g c' : Nat} (hr : OwnN w' B (some ⟨g, 0, none⟩) (A.cells.length + 1) c' (A.cells ++ [0])) (hg : (w.alloc (.cells #[.int .i64 0] 3)).grownBy w' (blkOf ac)) (hl : blkOf ac = some g ∨ w.heap.size < g) (hi : ({ A with cells := A.cells ++ [0] } : PA).Inv) :
    RfAt (w'.setCell ⟨q, 2, none⟩ (.slice (some ⟨g, 0, none⟩) (A.cells.length + 1) c')) B q gb (some ⟨g, 0, none⟩) c' { A with cells := A.cells ++ [0] } ∧ Chg (RFoot q gb ac) w (w'.setCell ⟨q, 2, none⟩ (.slice (some ⟨g, 0, none⟩) (A.cells.length + 1) c')) ∧ w'.cell? ⟨q, 2, none⟩ = some (.slice ac A.cells.length cc) ∧ w'.frozen? ⟨q, 2, none⟩ = false := by
  have h2 := h.alloc (.cells #[.int .i64 0] 3)
  have kq : w'.heap[q]? = (w.alloc (.cells #[.int .i64 0] 3)).heap[q]? := hg.block q h2.box.lt (fun e => h.cq e.symm rfl)
  have kg : w'.heap[gb]? = (w.alloc (.cells #[.int .i64 0] 3)).heap[gb]? := hg.block gb h2.row.lt (fun e => h.cg e.symm rfl)
  have b1 := h2.box.kept kq
  have b2 := h2.row.kept kg
  have hgq : g ≠ q := by
    rcases hl with e | e
    · exact h.cq e
    · have := h.box.lt; omega
  refine ⟨⟨Box.eq (b1.set 2 _) (by simp), b2.other h.qg.symm 2 _, ?_, hi, h.hq, h.hg⟩, ?_, ?_, b1.soft 2⟩
  · have := hr.kept (w' := w'.setCell ⟨q, 2, none⟩ (.slice (some ⟨g, 0, none⟩) (A.cells.length + 1) c')) (fun k e => by
      obtain rfl : g = k := by simpa [blkOf] using e
      exact Below.heap_setCell _ _ _ _ hgq)
    simpa using this
  · have c1 : Chg (RFoot q gb ac) w (w.alloc (.cells #[.int .i64 0] 3)) := (Chg.refl _ _).alloc _
    have c2 : Chg (RFoot q gb ac) w w' := c1.andThen (Chg.grown hg) (fun k _ e => .inr (.inr e))
    exact c2.set (fun _ => .inl rfl) 2 _
  · rw [b1.cell 2]
    rfl
set_option maxRecDepth 100000 in
set_option maxHeartbeats 1000000 in
theorem rcell_at {w : World} {B q gb : Nat} {ac : Option Addr} {cc : Nat} {A : PA} (h : RfAt w B q gb ac cc A) : Calls Try.prog 23 #[at_ q] w fun e w' => e = .returned (.tuple #[.int .i64 A.cell.1, .int .i64 A.cell.2.1]) ∧ (∃ ac' cc', RfAt w' B q gb ac' cc' A.cell.2.2) ∧ Chg (RFoot q gb ac) w w' := by
  have HA : Hid (RfAt w B q gb ac cc A) := h
  have d0 := h.d0
  have d1 := h.d1
  have s1 := h.soft 1
  have i1 := h.inv.used
  have i2 := h.inv.size
  obtain ⟨s, hs⟩ : ∃ s, s = A.bytes.length := ⟨_, rfl⟩
  obtain ⟨u, hu⟩ : ∃ u, u = A.used := ⟨_, rfl⟩
  rw [← hs] at d0 i1 i2
  rw [← hu] at d1 i1
  have HH : Hid (s = A.bytes.length ∧ u = A.used) := ⟨hs, hu⟩
  have hBw : B ≤ w.heap.size := Nat.le_of_lt (Nat.lt_of_le_of_lt h.hq h.box.lt)
  clear h hs hu
  by_cases h2 : (s : Int) - (u : Int) < 8
  · have HE : Hid (A.cell = (0, 60, A)) := by obtain ⟨e1, e2⟩ := HH.out; unfold Hid PA.cell; rw [if_pos (by omega)]
    go_enter Try.func23, Try.ntmps23
    go_wp2
    go_region
    go_wp2
    go_returns
    rw [HE.out]
    exact ⟨rfl, ⟨ac, cc, HA.out.drew⟩, (Chg.refl _ _).drew⟩
  · have HE : Hid (A.cell = ((A.cells.length : Int), 0, { A with used := u + 8, cells := A.cells ++ [0] })) := by obtain ⟨e1, e2⟩ := HH.out; unfold Hid PA.cell; rw [if_neg (by omega), e2]
    have hi := HA.out.inv
    have hz := HH.out
    have HI : Hid (({ A with used := u + 8, cells := A.cells ++ [0] } : PA).Inv) := by have := PA.cell_inv hi; rw [HE.out] at this; exact this
    have hi2 : ({ A with used := u + 8 } : PA).Inv := ⟨by simp; omega, hi.size, by have := hi.cells; simp; omega, hi.wf⟩
    have H1 : Hid (RfAt (w.setCell ⟨q, 1, none⟩ (.int .i64 ((u + 8 : Nat) : Int))).drew B q gb ac cc { A with used := u + 8 }) := (HA.out.setUsed _ hi2).drew
    have hcl : A.cells.length ≤ 65536 := by have := hi.cells; omega
    have d2 := H1.out.d2
    simp only [] at d2
    have hc1 : Chg (RFoot q gb ac) w (w.setCell ⟨q, 1, none⟩ (.int .i64 ((u + 8 : Nat) : Int))).drew := ((Chg.refl (RFoot q gb ac) w).set (fun _ => .inl rfl) 1 _).drew
    have HC1 : Hid (Chg (RFoot q gb ac) w (w.setCell ⟨q, 1, none⟩ (.int .i64 ((u + 8 : Nat) : Int))).drew) := hc1
    obtain ⟨m, hm⟩ : ∃ m, Hid (m = A.cells.length) := ⟨_, rfl⟩
    rw [← hm.out] at d2 hcl
    obtain ⟨W1, hW1⟩ : ∃ W1, W1 = (w.setCell ⟨q, 1, none⟩ (.int .i64 ((u : Int) + 8))).drew := ⟨_, rfl⟩
    have eW : (w.setCell ⟨q, 1, none⟩ (.int .i64 ((u + 8 : Nat) : Int))).drew = W1 := by rw [hW1]; rfl
    rw [eW] at H1 HC1 d2
    have hBW : B ≤ W1.heap.size := Nat.le_trans hBw HC1.out.size
    clear hi hz hi2 hc1 eW
    have HO : Hid (OwnN W1 B ac m cc A.cells) := by have := H1.out.cells; rw [hm.out]; exact this
    go_enter Try.func23, Try.ntmps23
    go_wp2
    go_region
    go_upto_region 4 with fail
    rw [← hW1]
    clear hW1 d0 d1 s1
    go_wp2_with (first | (at_builtin; refine wpList_push W1 rfl _ _ rfl B ac m cc A.cells rfl HO.out 0 ⟨by omega, by omega⟩ rfl (by omega) hBW ?_))
    intro g c' w2 hr hg hl
    rw [hm.out] at hr
    obtain ⟨r1, r2, r3, r4⟩ := H1.out.push hr hg hl HI.out
    simp only [← hm.out] at r1 r2 r3
    have HR : Hid (RfAt (w2.setCell ⟨q, 2, none⟩ (.slice (some ⟨g, 0, none⟩) (m + 1) c')) B q gb (some ⟨g, 0, none⟩) c' { A with used := u + 8, cells := A.cells ++ [0] } ∧ Chg (RFoot q gb ac) W1 (w2.setCell ⟨q, 2, none⟩ (.slice (some ⟨g, 0, none⟩) (m + 1) c'))) := ⟨r1, r2⟩
    clear hr hg hl r1 r2
    have hlt : q < w2.heap.size := World.block_lt_of_cell? w2 _ r3
    go_wp2
    go_returns
    rw [HE.out, ← hm.out]
    exact ⟨rfl, ⟨_, _, HR.out.1⟩, HC1.out.andThen HR.out.2 (fun _ _ h => h)⟩
end Go.Proofs.Ytedddgkdpeielaa
