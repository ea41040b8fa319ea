/- The document's own arena in memory, and its smaller methods. -/
import Derived.Test.YtedddgkdpeielaaB6Three
import Derived.Test.YtedddgkdpeielaaB6Put
namespace Go.Proofs.Ytedddgkdpeielaa
open Go.RowKit
abbrev TR : TypeId := 38
theorem OwnN.put {w : World} {B g len cap : Nat} {l : List Int} (h : OwnN w B (some ⟨g, 0, none⟩) len cap l) (j : Nat) (x : Int) (hx : in64 x) : OwnN (w.setCell ⟨g, j, none⟩ (.int .i64 x)) B (some ⟨g, 0, none⟩) len cap (l.set j x) := by
  have hs := h.size
  refine ⟨by rw [List.length_set]; exact hs, ?_, set_wf h.wf j hx⟩
  have := h.row.stored j (.int .i64 x)
  have e : cellsN (l.set j x) = (cellsN l).set j (.int .i64 x) := by simp [cellsN, List.map_set]
  rw [e]
  exact this.1
theorem OwnN.soft {w : World} {B g len cap : Nat} {l : List Int} (h : OwnN w B (some ⟨g, 0, none⟩) len cap l) (j : Nat) : w.frozen? ⟨g, j, none⟩ = false := by
  rcases h.row.2 with ⟨hv, _⟩ | ⟨g', c, cur, hv, _, hg, _⟩
  · simp at hv
  · simp only [Value.slice.injEq, Option.some.injEq, Addr.mk.injEq, true_and, and_true] at hv
    obtain ⟨rfl, rfl⟩ := hv
    unfold World.frozen?
    rw [hg]
    simp
structure RfAt (w : World) (B q gb : Nat) (ac : Option Addr) (cc : Nat) (A : PA) : Prop where
  box : Box w q TR #[.slice (some ⟨gb, 0, none⟩) A.bytes.length A.bytes.length, .int .i64 (A.used : Int), .slice ac A.cells.length cc]
  row : Box w gb 5 (cellsB A.bytes).toArray
  cells : OwnN w B ac A.cells.length cc A.cells
  inv : A.Inv
  hq : B ≤ q
  hg : B ≤ gb
def RFoot (q gb : Nat) (ac : Option Addr) : Nat → Prop := fun k => k = q ∨ k = gb ∨ blkOf ac = some k
section
variable {w w' : World} {B q gb : Nat} {ac : Option Addr} {cc : Nat} {A : PA}
theorem RfAt.d0 (h : RfAt w B q gb ac cc A) : w.cell? ⟨q, 0, none⟩ = some (.slice (some ⟨gb, 0, none⟩) A.bytes.length A.bytes.length) := by rw [h.box.cell 0]; rfl
theorem RfAt.d1 (h : RfAt w B q gb ac cc A) : w.cell? ⟨q, 1, none⟩ = some (.int .i64 (A.used : Int)) := by rw [h.box.cell 1]; rfl
theorem RfAt.d2 (h : RfAt w B q gb ac cc A) : w.cell? ⟨q, 2, none⟩ = some (.slice ac A.cells.length cc) := by rw [h.box.cell 2]; rfl
theorem RfAt.soft (h : RfAt w B q gb ac cc A) (j : Nat) : w.frozen? ⟨q, j, none⟩ = false := h.box.soft j
theorem RfAt.foot_lt (h : RfAt w B q gb ac cc A) {k : Nat} (hk : RFoot q gb ac k) : k < w.heap.size := by
  rcases hk with rfl | rfl | hk
  · exact h.box.lt
  · exact h.row.lt
  · exact tag_lt (h.cells.tag hk)
theorem RfAt.foot_ge (h : RfAt w B q gb ac cc A) {k : Nat} (hk : RFoot q gb ac k) : B ≤ k := by
  rcases hk with rfl | rfl | hk
  · exact h.hq
  · exact h.hg
  · exact h.cells.ge hk
theorem RfAt.kept (h : RfAt w B q gb ac cc A) (hk : ∀ k, RFoot q gb ac k → w'.heap[k]? = w.heap[k]?) : RfAt w' B q gb ac cc A :=
  ⟨h.box.kept (hk q (.inl rfl)), h.row.kept (hk gb (.inr (.inl rfl))), h.cells.kept (fun k e => hk k (.inr (.inr e))), h.inv, h.hq, h.hg⟩
theorem RfAt.chg {R : Nat → Prop} (h : RfAt w B q gb ac cc A) (hc : Chg R w w') (hR : ∀ k, RFoot q gb ac k → ¬ R k) : RfAt w' B q gb ac cc A := h.kept fun k hk => hc.block k (h.foot_lt hk) (hR k hk)
theorem RfAt.below (h : RfAt w B q gb ac cc A) (hb : Below w.heap.size w w') : RfAt w' B q gb ac cc A := h.kept fun k hk => hb.block k (h.foot_lt hk)
theorem RfAt.drew (h : RfAt w B q gb ac cc A) : RfAt w.drew B q gb ac cc A := h.kept fun _ _ => rfl
theorem RfAt.alloc (h : RfAt w B q gb ac cc A) (o : Obj) : RfAt (w.alloc o) B q gb ac cc A := h.below ((Below.refl _ _).alloc (Nat.le_refl _) _)
theorem RfAt.qg (h : RfAt w B q gb ac cc A) : q ≠ gb := tag_ne h.box.tag h.row.tag (by decide)
theorem RfAt.cq (h : RfAt w B q gb ac cc A) {k : Nat} (hk : blkOf ac = some k) : k ≠ q := tag_ne (h.cells.tag hk) h.box.tag (by decide)
theorem RfAt.cg (h : RfAt w B q gb ac cc A) {k : Nat} (hk : blkOf ac = some k) : k ≠ gb := tag_ne (h.cells.tag hk) h.row.tag (by decide)
/-- No block of it is the other arena's. -/
theorem RfAt.offAr {p : Nat} {A' : PA} (h : RfAt w B q gb ac cc A) (ha : ArAt w p A') {k : Nat} (hk : RFoot q gb ac k) : k ≠ p := by
  rcases hk with rfl | rfl | hk
  · exact tag_ne h.box.tag ha.box.tag (by decide)
  · exact tag_ne h.row.tag ha.box.tag (by decide)
  · exact h.cells.offAr ha hk
theorem RfAt.setUsed (h : RfAt w B q gb ac cc A) (u : Nat) (hi : ({ A with used := u } : PA).Inv) : RfAt (w.setCell ⟨q, 1, none⟩ (.int .i64 (u : Int))) B q gb ac cc { A with used := u } :=
  ⟨Box.eq (h.box.set 1 _) rfl, h.row.other h.qg.symm 1 _, h.cells.kept (fun _ e => Below.heap_setCell _ _ _ _ (h.cq e)), hi, h.hq, h.hg⟩
end
set_option maxRecDepth 100000 in
theorem rnew_no {w : World} (s : Int) (h : s < 0 ∨ 65536 < s) : Calls Try.prog 10 #[.int .i64 s] w fun e w' => e = .returned (.tuple #[.pointer none, .int .i64 1]) ∧ w' = w := by
  by_cases h1 : s < 0
  · clear h
    go_enter Try.func10, Try.ntmps10
    go_wp2
    go_returns
    exact ⟨rfl, rfl⟩
  · have h2 : 65536 < s := by omega
    clear h
    go_enter Try.func10, Try.ntmps10
    go_wp2
    go_returns
    exact ⟨rfl, rfl⟩
set_option maxRecDepth 100000 in
theorem rnew_at {w : World} (s : Nat) (h : s ≤ 65536) : Calls Try.prog 10 #[.int .i64 (s : Int)] w fun e w' => ∃ q, e = .returned (.tuple #[at_ q, .int .i64 0]) ∧ RfAt w' w.heap.size q w.heap.size none 0 (PA.new s) ∧ Below w.heap.size w w' := by
  have h1 : ¬ ((s : Int) < 0) := by omega
  have h2 : ¬ (65536 < (s : Int)) := by omega
  obtain ⟨W1, hmk, hbx, hbl, hsz⟩ := own_madeB s h w
  have HB : Hid (Box W1 w.heap.size 5 (cellsB (List.replicate s 0)).toArray ∧ Below w.heap.size w W1 ∧ W1.heap.size = w.heap.size + 1) := ⟨hbx, hbl, hsz⟩
  have HS : Hid (s ≤ 65536) := h
  clear h hbx hbl hsz
  go_enter Try.func10, Try.ntmps10
  go_wp2
  go_returns
  obtain ⟨h3, h4, h5⟩ := HB.out
  refine ⟨_, rfl, ⟨?_, h3.alloc _, OwnN.nil _ _, PA.new_inv HS.out, by omega, Nat.le_refl _⟩, h4.alloc h4.size _⟩
  have := Box.new W1 TR #[.slice (some ⟨w.heap.size, 0, none⟩) s s, .int .i64 0, .slice none 0 0]
  simpa [PA.new] using this
set_option maxRecDepth 100000 in
theorem ralloc_at {w : World} {B q gb : Nat} {ac : Option Addr} {cc : Nat} {A : PA} (h : RfAt w B q gb ac cc A) (n : Int) (hn : in64 n) : Calls Try.prog 20 #[at_ q, .int .i64 n] w fun e w' => e = .returned (.tuple #[.int .i64 (A.alloc n).1, .int .i64 (A.alloc n).2.1]) ∧ RfAt w' B q gb ac cc (A.alloc n).2.2 ∧ Chg (RFoot q gb ac) w w' := by
  have HA : Hid (RfAt w B q gb ac cc A) := h
  by_cases h1 : n < 1
  · have HE : Hid (A.alloc n = (0, 1, A)) := by unfold Hid; simp [PA.alloc, h1]
    clear h
    go_enter Try.func20, Try.ntmps20
    go_wp2
    go_returns
    rw [HE.out]
    exact ⟨rfl, HA.out, Chg.refl _ _⟩
  · have d0 := h.d0
    have d1 := h.d1
    have s1 := h.soft 1
    have i1 := h.inv.used
    have i2 := h.inv.size
    obtain ⟨s, hs⟩ : ∃ s, s = A.bytes.length := ⟨_, rfl⟩
    obtain ⟨u, hu⟩ : ∃ u, u = A.used := ⟨_, rfl⟩
    rw [← hs] at d0 i1 i2
    rw [← hu] at d1 i1
    have HH : Hid (s = A.bytes.length ∧ u = A.used) := ⟨hs, hu⟩
    obtain ⟨hn1, hn2⟩ := hn
    have HN : Hid (1 ≤ n) := by unfold Hid; omega
    clear h hs hu hn1
    by_cases h2 : (s : Int) - (u : Int) < n
    · have HE : Hid (A.alloc n = (0, 60, A)) := by obtain ⟨e1, e2⟩ := HH.out; unfold Hid PA.alloc; rw [if_neg (by omega), if_pos (by omega)]
      go_enter Try.func20, Try.ntmps20
      go_wp2
      go_region
      go_wp2
      go_returns
      rw [HE.out]
      exact ⟨rfl, HA.out.drew, (Chg.refl _ _).drew⟩
    · have HE : Hid (A.alloc n = ((u : Int), 0, { A with used := u + n.toNat })) := by obtain ⟨e1, e2⟩ := HH.out; unfold Hid PA.alloc; rw [if_neg (by omega), if_neg (by omega), e2]
      have hz := HH.out
      have hi := HA.out.inv
      have H9 : Hid (RfAt (w.setCell ⟨q, 1, none⟩ (.int .i64 ((u + n.toNat : Nat) : Int))) B q gb ac cc { A with used := u + n.toNat }) := HA.out.setUsed _ ⟨by simp; omega, hi.size, by have := hi.cells; simp; omega, hi.wf⟩
      have HW : Hid (((u + n.toNat : Nat) : Int) = (u : Int) + n) := by have := HN.out; unfold Hid; omega
      clear hz hi
      go_enter Try.func20, Try.ntmps20
      go_wp2
      go_region
      go_wp2
      go_returns
      have h9 := H9.out
      rw [HW.out] at h9
      rw [HE.out]
      exact ⟨rfl, h9.drew, ((Chg.refl (RFoot q gb ac) w).set (fun _ => .inl rfl) 1 _).drew⟩
set_option maxRecDepth 100000 in
theorem rload_at {w : World} {B q gb : Nat} {ac : Option Addr} {cc : Nat} {A : PA} (h : RfAt w B q gb ac cc A) (c : Int) : Calls Try.prog 24 #[at_ q, .int .i64 c] w fun e w' => e = .returned (.tuple #[.int .i64 (A.load c).1, .int .i64 (A.load c).2]) ∧ w' = w := by
  have d2 := h.d2
  cases hh : A.has c with
  | false =>
    have HE : Hid (A.load c = (0, 1)) := by unfold Hid; simp [PA.load, hh]
    have hh' : 0 ≤ c → (A.cells.length : Int) ≤ c := by simpa [PA.has] using hh
    generalize A.cells.length = n at d2 hh'
    clear hh h
    by_cases h1 : c < 0
    · clear hh'
      go_enter Try.func24, Try.ntmps24
      go_wp2
      go_returns
      rw [HE.out]
      exact ⟨rfl, rfl⟩
    · have h2 : (n : Int) ≤ c := hh' (by omega)
      clear hh'
      go_enter Try.func24, Try.ntmps24
      go_wp2
      go_returns
      rw [HE.out]
      exact ⟨rfl, rfl⟩
  | true =>
    obtain ⟨k, rfl, hk⟩ := PA.has_nat hh
    have HE : Hid (A.load (k : Int) = (A.cells.getD k 0, 0)) := by unfold Hid; simp [PA.load, hh]
    obtain ⟨g, rfl, e0⟩ := h.cells.at hk
    obtain ⟨v, hv⟩ : ∃ v, Hid (v = A.cells.getD k 0) := ⟨_, rfl⟩
    rw [← hv.out] at e0
    generalize A.cells.length = n at d2 hk
    have x0 : ¬ ((k : Int) < 0) := by omega
    have x1 : (0 : Int) ≤ (k : Int) := by omega
    have x2 : (k : Int) < (n : Int) := by omega
    clear hh h hk
    go_enter Try.func24, Try.ntmps24
    go_wp2
    go_returns
    rw [HE.out, ← hv.out]
    exact ⟨rfl, rfl⟩
end Go.Proofs.Ytedddgkdpeielaa
