/- The contract of do: a change of names, done to a map. -/
import Derived.Test.YtkelahekfkhcfaaFsMem
import Derived.Shelf.SlMaps.Clone
import Derived.Deep.RegionLaw
namespace Go.Proofs.Ytkelahekfkhcfaa
open Go.RowKit Go.Maps
theorem NmAt.drew {w : World} {mo : Option Nat} {blk : Nat → Nat} {l : List PName} (h : NmAt w mo blk l) : NmAt w.drew mo blk l := h.kept fun _ _ => rfl
theorem NmAt.put {w : World} {m : Nat} {blk : Nat → Nat} {l : List PName} (h : NmAt w (some m) blk l) (hlen : l.length ≤ 1000000) (s : ByteArray) (hs : s.size ≤ 32) (k : Nat) :
    ∃ w', (Instr.mapUpdate 61 (.map (some m)) (.string s) (at_ (blk k))).run Try.prog w = .ok () w' ∧ NmAt w' (some m) blk (withN l ⟨s.data.toList, k⟩) ∧ w.grownBy w' (some m) := by
  have hkey : keyOf Try.prog 9 (.string s) = some (.string s.data.toList) := WideMaps.keyOf_string_mk Try.underlying9 (by unfold maxLen; omega)
  obtain ⟨w', hrun, hown, hg⟩ := World.ownsMap.update h lawS Try.underlying61 (by unfold maxLen; omega) hkey (ptrElem_at (blk k))
  rw [mapOf_put blk l ⟨s.data.toList, k⟩] at hown
  exact ⟨w', hrun, NmAt.of hown, hg⟩
theorem NmAt.strike {w : World} {m : Nat} {blk : Nat → Nat} {l : List PName} (h : NmAt w (some m) blk l) (s : ByteArray) (hs : s.size ≤ 32) (ty : TypeId) :
    ∃ w', (Builtin.delete_ #[61, 9] ty #[.map (some m), .string s]).run Try.prog w = .ok (.tuple #[]) w' ∧ NmAt w' (some m) blk (without l s.data.toList) ∧ w.grownBy w' (some m) := by
  have hkey : keyOf Try.prog 9 (.string s) = some (.string s.data.toList) := WideMaps.keyOf_string_mk Try.underlying9 (by unfold maxLen; omega)
  obtain ⟨w', hrun, hown, ht⟩ := World.ownsMap.drop h lawS Try.underlying61 hkey ty
  rw [mapOf_del] at hown
  exact ⟨w', hrun, NmAt.of hown, ht.grown⟩
theorem step_del {ops : Array Oper} {o : Oper} {a : Act} {w : World} {K : Act → World → Prop} {Q : Exit → Act → World → Prop} {E : Prop}
    (hg : o.guard = none) (x y : Operand) (hop : o.op = Op.call { callee := Callee.builtin Builtin.delete, args := #[x, y], argTypes := #[61, 9] })
    (m : Nat) (blk : Nat → Nat) (l : List PName) (h : NmAt w (some m) blk l) (s : ByteArray) (hs : s.size ≤ 32) (hx : a.eval x = .map (some m)) (hy : a.eval y = .string s)
    (hK : ∀ w', NmAt w' (some m) blk (without l s.data.toList) → w.grownBy w' (some m) → K (a.put o.dst (.tuple #[])) w') :
    if Region.wanted o (yielded ops a.tmps) = true then Oper.wp Try.prog o a w K Q else E := by
  have hw : Region.wanted o (yielded ops a.tmps) = true := by simp [Region.wanted, hg]
  rw [if_pos hw]
  obtain ⟨w', hrun, r1, r2⟩ := h.strike s hs o.type
  unfold Oper.wp
  simp [execOp, hop, resolve, invoke, builtin, hx, hy, hrun, Result.andThen]
  exact hK w' r1 r2
theorem strOf_size (l : List UInt8) : (strOf l).size = l.length := rfl
theorem strOf_data (l : List UInt8) : (strOf l).data.toList = l := rfl
theorem filled {s : ByteArray} (h : 0 < s.size) : s.toList.isEmpty = false := by
  rw [ByteArray.toList_eq]
  cases hs : s.data.toList with
  | nil =>
    have : s.data.toList.length = s.size := rfl
    rw [hs] at this
    simp at this
    omega
  | cons a r => rfl
theorem nameless : (ByteArray.toList ByteArray.empty).isEmpty = true := by
  rw [ByteArray.toList_eq]
  rfl
set_option maxRecDepth 100000 in
set_option maxHeartbeats 1000000 in
theorem do_one (w : World) (b j : Nat) (t : TypeId) (arr : Array Value) (m : Nat) (blk : Nat → Nat) (l : List PName) (s : ByteArray) (k : Nat) (hB : Box w b t arr) (hj : arr[j]? = some (.map (some m))) (hne : m ≠ b) (hnm : NmAt w (some m) blk l) (hlen : l.length ≤ 1000000) (hs : 0 < s.size ∧ s.size ≤ 32) :
    Calls Try.prog 43 #[.pointer (some ⟨b, j, none⟩), .agg #[.string ByteArray.empty, .string s, at_ (blk k)]] w fun e w' => e = .returned (.tuple #[]) ∧ NmAt w' (some m) blk (withN l ⟨s.data.toList, k⟩) ∧ Box w' b t arr ∧ Chg (fun i => i = m) w w' := by
  have hc := hB.cell j
  rw [hj] at hc
  have hlt := hB.lt
  have hq := fun w => run_eql_map_nil_sl (P := Try.prog) w 61 9 70 (some m) Try.underlying61
  have hsz := filled hs.1
  obtain ⟨w1, hrun, hn1, hg1⟩ := ((hnm.kept (w' := w.alloc (.cells #[.string ByteArray.empty, .string s, at_ (blk k)] 74)) (fun _ e => Below.heap_alloc _ _ _ (by cases e; exact tag_lt hnm.tag))).drew).put hlen s hs.2 k
  go_enter Try.func43, Try.ntmps43
  go_wp2
  go_region
  go_wp2
  go_returns
  refine ⟨rfl, hn1, ?_, ?_⟩
  · exact hB.kept ((hg1.block b (by simp; omega) (by simpa using fun e => hne e.symm)).trans (Below.heap_alloc _ _ _ hlt))
  · exact Chg.andThen ((Chg.refl _ _).alloc _).drew (Chg.grown hg1) (fun i _ e => (Option.some.inj e).symm)
theorem NmAt.made (w : World) (blk : Nat → Nat) : NmAt (w.alloc (.map #[] 0)) (some w.heap.size) blk [] := NmAt.of (World.ownsMap_made w Try.prog 9 ptrElem)
set_option maxRecDepth 100000 in
set_option maxHeartbeats 1000000 in
theorem do_first (w : World) (b j : Nat) (t : TypeId) (arr : Array Value) (blk : Nat → Nat) (s : ByteArray) (k : Nat) (hB : Box w b t arr) (hj : arr[j]? = some (.map none)) (hs : 0 < s.size ∧ s.size ≤ 32) :
    Calls Try.prog 43 #[.pointer (some ⟨b, j, none⟩), .agg #[.string ByteArray.empty, .string s, at_ (blk k)]] w fun e w' => e = .returned (.tuple #[]) ∧ ∃ m, w.heap.size ≤ m ∧ NmAt w' (some m) blk [⟨s.data.toList, k⟩] ∧ Box w' b t (arr.setIfInBounds j (.map (some m))) ∧ Chg (fun i => i = b) w w' := by
  have hc := hB.cell j
  rw [hj] at hc
  have hf := hB.soft j
  have hlt := hB.lt
  have hmm := @run_makeMap Try.prog
  have hq := fun w => run_eql_map_nil_sl (P := Try.prog) w 61 9 70 none Try.underlying61
  have hsz := filled hs.1
  obtain ⟨W, hW⟩ : ∃ W, W = ((w.setCell ⟨b, j, none⟩ (.map (some (w.heap.size + 1)))).alloc (.cells #[.string ByteArray.empty, .string s, at_ (blk k)] 74)).alloc (.map #[] 0) := ⟨_, rfl⟩
  have hsize : (w.setCell ⟨b, j, none⟩ (.map (some (w.heap.size + 1)))).heap.size = w.heap.size := by simp
  have hn0 : NmAt W (some (w.heap.size + 1)) blk [] := by
    have := NmAt.made ((w.setCell ⟨b, j, none⟩ (.map (some (w.heap.size + 1)))).alloc (.cells #[.string ByteArray.empty, .string s, at_ (blk k)] 74)) blk
    rw [hW]
    simpa [hsize] using this
  have hB0 : Box W b t (arr.setIfInBounds j (.map (some (w.heap.size + 1)))) := by
    rw [hW]
    exact ((hB.set j _).alloc _).alloc _
  have hC0 : Chg (fun i => i = b) w W := by
    rw [hW]
    exact (((Chg.refl (fun i => i = b) w).set (p := b) (fun _ => rfl) j _).alloc _).alloc _
  have hWs : W.heap.size = w.heap.size + 2 := by rw [hW]; simp
  obtain ⟨w1, hrun, hn1, hg1⟩ := hn0.drew.put (by simp) s hs.2 k
  rw [hW] at hrun
  go_enter Try.func43, Try.ntmps43
  go_wp2
  go_region
  go_wp2
  go_returns
  refine ⟨rfl, w.heap.size + 1, by omega, hn1, ?_, ?_⟩
  · exact hB0.kept (hg1.block b (by simp [hWs]; omega) (by simp; omega))
  · exact Chg.andThen hC0.drew (Chg.grown hg1) (fun i hi e => by cases e; omega)
set_option maxRecDepth 100000 in
set_option maxHeartbeats 1000000 in
theorem do_two (w : World) (b j : Nat) (t : TypeId) (arr : Array Value) (m : Nat) (blk : Nat → Nat) (l : List PName) (s u : ByteArray) (k : Nat) (hB : Box w b t arr) (hj : arr[j]? = some (.map (some m))) (hne : m ≠ b) (hnm : NmAt w (some m) blk l) (hsh : ∀ x ∈ l, x.name.length ≤ 32) (hf : findN l s.data.toList = some k) (hlen : l.length ≤ 1000000) (hs : s.size ≤ 32) (hu : 0 < u.size ∧ u.size ≤ 32) :
    Calls Try.prog 43 #[.pointer (some ⟨b, j, none⟩), .agg #[.string s, .string u, .pointer none]] w fun e w' => e = .returned (.tuple #[]) ∧ NmAt w' (some m) blk (withN (without l s.data.toList) ⟨u.data.toList, k⟩) ∧ Box w' b t arr ∧ Chg (fun i => i = m) w w' := by
  have hc := hB.cell j
  rw [hj] at hc
  have hlt := hB.lt
  have hq := fun w => run_eql_map_nil_sl (P := Try.prog) w 61 9 70 (some m) Try.underlying61
  have hsz := filled hu.1
  have hn0 : NmAt (w.alloc (.cells #[.string s, .string u, .pointer none] 74)) (some m) blk l := hnm.kept (fun _ e => Below.heap_alloc _ _ _ (by cases e; exact tag_lt hnm.tag))
  have hl := hn0.drew.look hsh s
  rw [hf, ptrOf] at hl
  have hB0 : Box (w.alloc (.cells #[.string s, .string u, .pointer none] 74)) b t arr := hB.alloc _
  have hml := tag_lt hnm.tag
  go_enter Try.func43, Try.ntmps43
  go_wp2
  go_region
  go_wp2
  go_region_law (refine step_del rfl _ _ rfl m blk l (hn0.kept (fun _ _ => rfl)) s hs (by simp [Act.eval]) (by simp [Act.eval]) ?_; intro w2 hn2 hg2)
  all_goals
    have hB2 : Box w2 b t arr := hB0.kept (hg2.block b (by simp; omega) (by simpa using fun e => hne e.symm))
    have hc2 := hB2.cell j
    rw [hj] at hc2
    have hd2 : w2.cell? ⟨w.heap.size, 1, none⟩ = some (.string u) := by
      rw [World.cell?_of_block (hg2.block w.heap.size (by simp) (by simp; omega))]
      simp
    obtain ⟨w3, hrun, hn3, hg3⟩ := hn2.drew.put (Nat.le_trans (without_le _ _) hlen) u hu.2 k
    go_wp2
    go_region
    go_wp2
    go_returns
    refine ⟨rfl, hn3, hB2.kept (hg3.block b (by have := hg2.size; simp at this ⊢; omega) (by simpa using fun e => hne e.symm)), ?_⟩
    have c1 : Chg (fun i => i = m) w (w.alloc (.cells #[.string s, .string u, .pointer none] 74)) := (Chg.refl _ _).alloc _
    have c2 : Chg (fun i => i = m) w w2 := Chg.andThen c1.drew.drew (Chg.grown hg2) (fun i _ e => (Option.some.inj e).symm)
    exact Chg.andThen c2.drew (Chg.grown hg3) (fun i _ e => (Option.some.inj e).symm)
set_option maxRecDepth 100000 in
set_option maxHeartbeats 1000000 in
theorem do_three (w : World) (b j : Nat) (t : TypeId) (arr : Array Value) (m : Nat) (blk : Nat → Nat) (l : List PName) (s : ByteArray) (k : Nat) (hB : Box w b t arr) (hj : arr[j]? = some (.map (some m))) (hne : m ≠ b) (hnm : NmAt w (some m) blk l) (hsh : ∀ x ∈ l, x.name.length ≤ 32) (hf : findN l s.data.toList = some k) (hs : s.size ≤ 32) :
    Calls Try.prog 43 #[.pointer (some ⟨b, j, none⟩), .agg #[.string s, .string ByteArray.empty, .pointer none]] w fun e w' => e = .returned (.tuple #[]) ∧ NmAt w' (some m) blk (without l s.data.toList) ∧ Box w' b t arr ∧ Chg (fun i => i = m) w w' := by
  have hc := hB.cell j
  rw [hj] at hc
  have hlt := hB.lt
  have hq := fun w => run_eql_map_nil_sl (P := Try.prog) w 61 9 70 (some m) Try.underlying61
  have hsz := nameless
  have hn0 : NmAt (w.alloc (.cells #[.string s, .string ByteArray.empty, .pointer none] 74)) (some m) blk l := hnm.kept (fun _ e => Below.heap_alloc _ _ _ (by cases e; exact tag_lt hnm.tag))
  have hl := hn0.drew.look hsh s
  rw [hf, ptrOf] at hl
  have hB0 : Box (w.alloc (.cells #[.string s, .string ByteArray.empty, .pointer none] 74)) b t arr := hB.alloc _
  have hml := tag_lt hnm.tag
  go_enter Try.func43, Try.ntmps43
  go_wp2
  go_region
  go_wp2
  go_region_law (refine step_del rfl _ _ rfl m blk l (hn0.kept (fun _ _ => rfl)) s hs (by simp [Act.eval]) (by simp [Act.eval]) ?_; intro w2 hn2 hg2)
  all_goals
    have hd2 : w2.cell? ⟨w.heap.size, 1, none⟩ = some (.string ByteArray.empty) := by
      rw [World.cell?_of_block (hg2.block w.heap.size (by simp) (by simp; omega))]
      simp
    go_wp2
    go_returns
    refine ⟨rfl, hn2, hB0.kept (hg2.block b (by simp; omega) (by simpa using fun e => hne e.symm)), ?_⟩
    have c1 : Chg (fun i => i = m) w (w.alloc (.cells #[.string s, .string ByteArray.empty, .pointer none] 74)) := (Chg.refl _ _).alloc _
    exact Chg.andThen c1.drew.drew (Chg.grown hg2) (fun i _ e => (Option.some.inj e).symm)
/-- All kinds. -/
theorem do_any {K : Nat} (w : World) (b j : Nat) (t : TypeId) (arr : Array Value) (mo : Option Nat) (blk : Nat → Nat) (l : List PName) (c : PChange) (hB : Box w b t arr) (hj : arr[j]? = some (.map mo)) (hne : ∀ m, mo = some m → m ≠ b) (hnm : NmAt w mo blk l) (hN : Nice K l) (hok : OkC K l c) (hlen : l.length ≤ 1000000) :
    Calls Try.prog 43 #[.pointer (some ⟨b, j, none⟩), .agg (cellsC1 blk c).toArray] w fun e w' => e = .returned (.tuple #[]) ∧ ∃ m, (mo = some m ∨ (mo = none ∧ w.heap.size ≤ m)) ∧ NmAt w' (some m) blk (changedN l c) ∧ Box w' b t (arr.setIfInBounds j (.map (some m))) ∧ Chg (fun i => mo = some i ∨ (mo = none ∧ i = b)) w w' := by
  have same : ∀ m, mo = some m → arr.setIfInBounds j (.map (some m)) = arr := by
    intro m e
    subst e
    apply Array.ext_getElem?
    intro i
    rw [Array.getElem?_setIfInBounds]
    split
    · rename_i e
      subst e
      split
      · exact hj.symm
      · rename_i hn
        rw [Array.getElem?_eq_none (by omega)] at hj
        cases hj
    · rfl
  rcases hok.kind with e | e | e
  · obtain ⟨h1, h2, h3, h4⟩ := hok.one e
    have hl := good_len h1
    have e1 : cellsC1 blk c = [.string ByteArray.empty, .string (strOf c.name), at_ (blk c.file)] := by rw [cellsC1, if_pos e]
    have e2 : changedN l c = withN l ⟨(strOf c.name).data.toList, c.file⟩ := by rw [changedN, if_pos e]; rfl
    rw [e1, e2]
    cases mo with
    | some m =>
      refine (do_one w b j t arr m blk l (strOf c.name) c.file hB hj (hne m rfl) hnm hlen hl).mono ?_
      rintro e w' ⟨rfl, hn, hb, hc⟩
      exact ⟨rfl, m, .inl rfl, hn, (hb.eq (same m rfl).symm), hc.wide fun i _ e => .inl (by rw [e])⟩
    | none =>
      obtain rfl : l = [] := hnm
      refine (do_first w b j t arr blk (strOf c.name) c.file hB hj hl).mono ?_
      rintro e w' ⟨rfl, m, hm, hn, hb, hc⟩
      exact ⟨rfl, m, .inr ⟨rfl, hm⟩, hn, hb, hc.wide fun i _ e => .inr ⟨rfl, e⟩⟩
  · obtain ⟨h1, h2⟩ := hok.two e
    have hl := good_len h2
    obtain ⟨x, hx, ex, _⟩ := find_mem h1
    have hxl := hN.short x hx
    rw [ex] at hxl
    have e1 : cellsC1 blk c = [.string (strOf c.name), .string (strOf c.to), .pointer none] := by rw [cellsC1, if_neg (by omega), if_pos e]
    have e2 : changedN l c = withN (without l (strOf c.name).data.toList) ⟨(strOf c.to).data.toList, c.file⟩ := by rw [changedN, if_neg (by omega), if_pos e]; rfl
    rw [e1, e2]
    cases mo with
    | some m =>
      refine (do_two w b j t arr m blk l (strOf c.name) (strOf c.to) c.file hB hj (hne m rfl) hnm hN.short h1 hlen hxl hl).mono ?_
      rintro e w' ⟨rfl, hn, hb, hc⟩
      exact ⟨rfl, m, .inl rfl, hn, (hb.eq (same m rfl).symm), hc.wide fun i _ e => .inl (by rw [e])⟩
    | none =>
      obtain rfl : l = [] := hnm
      cases hx
  · have h1 := hok.three e
    obtain ⟨k, hk⟩ := Option.isSome_iff_exists.1 h1
    obtain ⟨x, hx, ex, _⟩ := find_mem hk
    have hxl := hN.short x hx
    rw [ex] at hxl
    have e1 : cellsC1 blk c = [.string (strOf c.name), .string ByteArray.empty, .pointer none] := by rw [cellsC1, if_neg (by omega), if_neg (by omega)]
    have e2 : changedN l c = without l (strOf c.name).data.toList := by rw [changedN, if_neg (by omega), if_neg (by omega)]; rfl
    rw [e1, e2]
    cases mo with
    | some m =>
      refine (do_three w b j t arr m blk l (strOf c.name) k hB hj (hne m rfl) hnm hN.short hk hxl).mono ?_
      rintro e w' ⟨rfl, hn, hb, hc⟩
      exact ⟨rfl, m, .inl rfl, hn, (hb.eq (same m rfl).symm), hc.wide fun i _ e => .inl (by rw [e])⟩
    | none =>
      obtain rfl : l = [] := hnm
      cases hx
end Go.Proofs.Ytkelahekfkhcfaa
