/- The contract of do: a change of names, done to a map. -/
import Derived.Test.YtmlfbihlbiikeaaGreatDoorQa30
import Derived.Shelf.SlMaps.Clone
import Derived.Deep.RegionLaw
import Derived.Deep.AppendLies
import Derived.Deep.RegionWith
namespace Go.Proofs.YtmlfbihlbiikeaaGreatDoor
open Go.RowKit Go.Maps
theorem NmAt.drew {w : World} {mo : Option Nat} {blk : Nat → Nat} {l : List PName} (h : NmAt w mo blk l) : NmAt w.drew mo blk l := h.kept fun _ _ => rfl
theorem NmAt.put {w : World} {m : Nat} {blk : Nat → Nat} {l : List PName} (h : NmAt w (some m) blk l) (hlen : l.length ≤ 1000000) (s : ByteArray) (hs : s.size ≤ 32) (k : Nat) :
    ∃ w', (Instr.mapUpdate 85 (.map (some m)) (.string s) (at_ (blk k))).run Tryz.prog w = .ok () w' ∧ NmAt w' (some m) blk (withN l ⟨s.data.toList, k⟩) ∧ w.grownBy w' (some m) := by
  have hkey : keyOf Tryz.prog 9 (.string s) = some (.string s.data.toList) := WideMaps.keyOf_string_mk Tryz.underlying9 (by unfold maxLen; omega)
  obtain ⟨w', hrun, hown, hg⟩ := World.ownsMap.update h lawS Tryz.underlying85 (by unfold maxLen; omega) hkey (ptrElem_at (blk k))
  rw [mapOf_put blk l ⟨s.data.toList, k⟩] at hown
  exact ⟨w', hrun, NmAt.of hown, hg⟩
theorem NmAt.strike {w : World} {m : Nat} {blk : Nat → Nat} {l : List PName} (h : NmAt w (some m) blk l) (s : ByteArray) (hs : s.size ≤ 32) (ty : TypeId) :
    ∃ w', (Builtin.delete_ #[85, 9] ty #[.map (some m), .string s]).run Tryz.prog w = .ok (.tuple #[]) w' ∧ NmAt w' (some m) blk (without l s.data.toList) ∧ w.grownBy w' (some m) := by
  have hkey : keyOf Tryz.prog 9 (.string s) = some (.string s.data.toList) := WideMaps.keyOf_string_mk Tryz.underlying9 (by unfold maxLen; omega)
  obtain ⟨w', hrun, hown, ht⟩ := World.ownsMap.drop h lawS Tryz.underlying85 hkey ty
  rw [mapOf_del] at hown
  exact ⟨w', hrun, NmAt.of hown, ht.grown⟩
theorem step_del {ops : Array Oper} {o : Oper} {a : Act} {w : World} {K : Act → World → Prop} {Q : Exit → Act → World → Prop} {E : Prop}
    (hg : o.guard = none) (x y : Operand) (hop : o.op = Op.call { callee := Callee.builtin Builtin.delete, args := #[x, y], argTypes := #[85, 9] })
    (m : Nat) (blk : Nat → Nat) (l : List PName) (h : NmAt w (some m) blk l) (s : ByteArray) (hs : s.size ≤ 32) (hx : a.eval x = .map (some m)) (hy : a.eval y = .string s)
    (hK : ∀ w', NmAt w' (some m) blk (without l s.data.toList) → w.grownBy w' (some m) → K (a.put o.dst (.tuple #[])) w') :
    if Region.wanted o (yielded ops a.tmps) = true then Oper.wp Tryz.prog o a w K Q else E := by
  have hw : Region.wanted o (yielded ops a.tmps) = true := by simp [Region.wanted, hg]
  rw [if_pos hw]
  obtain ⟨w', hrun, r1, r2⟩ := h.strike s hs o.type
  unfold Oper.wp
  simp [execOp, hop, resolve, invoke, builtin, hx, hy, hrun, Result.andThen]
  exact hK w' r1 r2
theorem filled {s : ByteArray} (h : 0 < s.size) : s.toList.isEmpty = false := by
  rw [ByteArray.toList_eq]
  cases hs : s.data.toList with
  | nil =>
    have : s.data.toList.length = s.size := rfl
    rw [hs] at this
    simp at this
    omega
  | cons a r => rfl
theorem nameless : (ByteArray.toList ByteArray.empty).isEmpty = true := by
  rw [ByteArray.toList_eq]
  rfl
set_option maxRecDepth 100000 in
set_option maxHeartbeats 1000000 in
theorem do_one (w : World) (b j : Nat) (t : TypeId) (arr : Array Value) (m : Nat) (blk : Nat → Nat) (l : List PName) (s : ByteArray) (k : Nat) (hB : Box w b t arr) (hj : arr[j]? = some (.map (some m))) (hne : m ≠ b) (hnm : NmAt w (some m) blk l) (hlen : l.length ≤ 1000000) (hs : 0 < s.size ∧ s.size ≤ 32) :
    Calls Tryz.prog 84 #[.pointer (some ⟨b, j, none⟩), .agg #[.string ByteArray.empty, .string s, at_ (blk k)]] w fun e w' => e = .returned (.tuple #[]) ∧ NmAt w' (some m) blk (withN l ⟨s.data.toList, k⟩) ∧ Box w' b t arr ∧ Chg (fun i => i = m) w w' := by
  have hc := hB.cell j
  rw [hj] at hc
  have hlt := hB.lt
  have hq := fun w => run_eql_map_nil_sl (P := Tryz.prog) w 85 9 96 (some m) Tryz.underlying85
  have hsz := filled hs.1
  obtain ⟨w1, hrun, hn1, hg1⟩ := ((hnm.kept (w' := w.alloc (.cells #[.string ByteArray.empty, .string s, at_ (blk k)] 101)) (fun _ e => Below.heap_alloc _ _ _ (by cases e; exact tag_lt hnm.tag))).drew).put hlen s hs.2 k
  go_enter Tryz.func84, Tryz.ntmps84
  go_wp2
  go_region
  go_wp2
  go_returns
  refine ⟨rfl, hn1, ?_, ?_⟩
  · exact hB.kept ((hg1.block b (by simp; omega) (by simpa using fun e => hne e.symm)).trans (Below.heap_alloc _ _ _ hlt))
  · exact Chg.andThen ((Chg.refl _ _).alloc _).drew (Chg.grown hg1) (fun i _ e => (Option.some.inj e).symm)
theorem NmAt.made (w : World) (blk : Nat → Nat) : NmAt (w.alloc (.map #[] 0)) (some w.heap.size) blk [] := NmAt.of (World.ownsMap_made w Tryz.prog 9 ptrElem)
set_option maxRecDepth 100000 in
set_option maxHeartbeats 1000000 in
theorem do_first (w : World) (b j : Nat) (t : TypeId) (arr : Array Value) (blk : Nat → Nat) (s : ByteArray) (k : Nat) (hB : Box w b t arr) (hj : arr[j]? = some (.map none)) (hs : 0 < s.size ∧ s.size ≤ 32) :
    Calls Tryz.prog 84 #[.pointer (some ⟨b, j, none⟩), .agg #[.string ByteArray.empty, .string s, at_ (blk k)]] w fun e w' => e = .returned (.tuple #[]) ∧ ∃ m, w.heap.size ≤ m ∧ NmAt w' (some m) blk [⟨s.data.toList, k⟩] ∧ Box w' b t (arr.setIfInBounds j (.map (some m))) ∧ Chg (fun i => i = b) w w' := by
  have hc := hB.cell j
  rw [hj] at hc
  have hf := hB.soft j
  have hlt := hB.lt
  have hmm := @run_makeMap Tryz.prog
  have hq := fun w => run_eql_map_nil_sl (P := Tryz.prog) w 85 9 96 none Tryz.underlying85
  have hsz := filled hs.1
  obtain ⟨W, hW⟩ : ∃ W, W = ((w.setCell ⟨b, j, none⟩ (.map (some (w.heap.size + 1)))).alloc (.cells #[.string ByteArray.empty, .string s, at_ (blk k)] 101)).alloc (.map #[] 0) := ⟨_, rfl⟩
  have hsize : (w.setCell ⟨b, j, none⟩ (.map (some (w.heap.size + 1)))).heap.size = w.heap.size := by simp
  have hn0 : NmAt W (some (w.heap.size + 1)) blk [] := by
    have := NmAt.made ((w.setCell ⟨b, j, none⟩ (.map (some (w.heap.size + 1)))).alloc (.cells #[.string ByteArray.empty, .string s, at_ (blk k)] 101)) blk
    rw [hW]
    simpa [hsize] using this
  have hB0 : Box W b t (arr.setIfInBounds j (.map (some (w.heap.size + 1)))) := by
    rw [hW]
    exact ((hB.set j _).alloc _).alloc _
  have hC0 : Chg (fun i => i = b) w W := by
    rw [hW]
    exact (((Chg.refl (fun i => i = b) w).set (p := b) (fun _ => rfl) j _).alloc _).alloc _
  have hWs : W.heap.size = w.heap.size + 2 := by rw [hW]; simp
  obtain ⟨w1, hrun, hn1, hg1⟩ := hn0.drew.put (by simp) s hs.2 k
  rw [hW] at hrun
  go_enter Tryz.func84, Tryz.ntmps84
  go_wp2
  go_region
  go_wp2
  go_returns
  refine ⟨rfl, w.heap.size + 1, by omega, hn1, ?_, ?_⟩
  · exact hB0.kept (hg1.block b (by simp [hWs]; omega) (by simp; omega))
  · exact Chg.andThen hC0.drew (Chg.grown hg1) (fun i hi e => by cases e; omega)
set_option maxRecDepth 100000 in
set_option maxHeartbeats 1000000 in
theorem do_two (w : World) (b j : Nat) (t : TypeId) (arr : Array Value) (m : Nat) (blk : Nat → Nat) (l : List PName) (s u : ByteArray) (k : Nat) (hB : Box w b t arr) (hj : arr[j]? = some (.map (some m))) (hne : m ≠ b) (hnm : NmAt w (some m) blk l) (hsh : ∀ x ∈ l, x.name.length ≤ 32) (hf : findN l s.data.toList = some k) (hlen : l.length ≤ 1000000) (hs : s.size ≤ 32) (hu : 0 < u.size ∧ u.size ≤ 32) :
    Calls Tryz.prog 84 #[.pointer (some ⟨b, j, none⟩), .agg #[.string s, .string u, .pointer none]] w fun e w' => e = .returned (.tuple #[]) ∧ NmAt w' (some m) blk (withN (without l s.data.toList) ⟨u.data.toList, k⟩) ∧ Box w' b t arr ∧ Chg (fun i => i = m) w w' := by
  have hc := hB.cell j
  rw [hj] at hc
  have hlt := hB.lt
  have hq := fun w => run_eql_map_nil_sl (P := Tryz.prog) w 85 9 96 (some m) Tryz.underlying85
  have hsz := filled hu.1
  have hn0 : NmAt (w.alloc (.cells #[.string s, .string u, .pointer none] 101)) (some m) blk l := hnm.kept (fun _ e => Below.heap_alloc _ _ _ (by cases e; exact tag_lt hnm.tag))
  have hl := hn0.drew.look hsh s
  rw [hf, ptrOf] at hl
  have hB0 : Box (w.alloc (.cells #[.string s, .string u, .pointer none] 101)) b t arr := hB.alloc _
  have hml := tag_lt hnm.tag
  go_enter Tryz.func84, Tryz.ntmps84
  go_wp2
  go_region
  go_wp2
  go_region_law (refine step_del rfl _ _ rfl m blk l (hn0.kept (fun _ _ => rfl)) s hs (by simp [Act.eval]) (by simp [Act.eval]) ?_; intro w2 hn2 hg2)
  all_goals
    have hB2 : Box w2 b t arr := hB0.kept (hg2.block b (by simp; omega) (by simpa using fun e => hne e.symm))
    have hc2 := hB2.cell j
    rw [hj] at hc2
    have hd2 : w2.cell? ⟨w.heap.size, 1, none⟩ = some (.string u) := by
      rw [World.cell?_of_block (hg2.block w.heap.size (by simp) (by simp; omega))]
      simp
    obtain ⟨w3, hrun, hn3, hg3⟩ := hn2.drew.put (Nat.le_trans (without_le _ _) hlen) u hu.2 k
    go_wp2
    go_region
    go_wp2
    go_returns
    refine ⟨rfl, hn3, hB2.kept (hg3.block b (by have := hg2.size; simp at this ⊢; omega) (by simpa using fun e => hne e.symm)), ?_⟩
    have c1 : Chg (fun i => i = m) w (w.alloc (.cells #[.string s, .string u, .pointer none] 101)) := (Chg.refl _ _).alloc _
    have c2 : Chg (fun i => i = m) w w2 := Chg.andThen c1.drew.drew (Chg.grown hg2) (fun i _ e => (Option.some.inj e).symm)
    exact Chg.andThen c2.drew (Chg.grown hg3) (fun i _ e => (Option.some.inj e).symm)
set_option maxRecDepth 100000 in
set_option maxHeartbeats 1000000 in
theorem do_three (w : World) (b j : Nat) (t : TypeId) (arr : Array Value) (m : Nat) (blk : Nat → Nat) (l : List PName) (s : ByteArray) (k : Nat) (hB : Box w b t arr) (hj : arr[j]? = some (.map (some m))) (hne : m ≠ b) (hnm : NmAt w (some m) blk l) (hsh : ∀ x ∈ l, x.name.length ≤ 32) (hf : findN l s.data.toList = some k) (hs : s.size ≤ 32) :
    Calls Tryz.prog 84 #[.pointer (some ⟨b, j, none⟩), .agg #[.string s, .string ByteArray.empty, .pointer none]] w fun e w' => e = .returned (.tuple #[]) ∧ NmAt w' (some m) blk (without l s.data.toList) ∧ Box w' b t arr ∧ Chg (fun i => i = m) w w' := by
  have hc := hB.cell j
  rw [hj] at hc
  have hlt := hB.lt
  have hq := fun w => run_eql_map_nil_sl (P := Tryz.prog) w 85 9 96 (some m) Tryz.underlying85
  have hsz := nameless
  have hn0 : NmAt (w.alloc (.cells #[.string s, .string ByteArray.empty, .pointer none] 101)) (some m) blk l := hnm.kept (fun _ e => Below.heap_alloc _ _ _ (by cases e; exact tag_lt hnm.tag))
  have hl := hn0.drew.look hsh s
  rw [hf, ptrOf] at hl
  have hB0 : Box (w.alloc (.cells #[.string s, .string ByteArray.empty, .pointer none] 101)) b t arr := hB.alloc _
  have hml := tag_lt hnm.tag
  go_enter Tryz.func84, Tryz.ntmps84
  go_wp2
  go_region
  go_wp2
  go_region_law (refine step_del rfl _ _ rfl m blk l (hn0.kept (fun _ _ => rfl)) s hs (by simp [Act.eval]) (by simp [Act.eval]) ?_; intro w2 hn2 hg2)
  all_goals
    have hd2 : w2.cell? ⟨w.heap.size, 1, none⟩ = some (.string ByteArray.empty) := by
      rw [World.cell?_of_block (hg2.block w.heap.size (by simp) (by simp; omega))]
      simp
    go_wp2
    go_returns
    refine ⟨rfl, hn2, hB0.kept (hg2.block b (by simp; omega) (by simpa using fun e => hne e.symm)), ?_⟩
    have c1 : Chg (fun i => i = m) w (w.alloc (.cells #[.string s, .string ByteArray.empty, .pointer none] 101)) := (Chg.refl _ _).alloc _
    exact Chg.andThen c1.drew.drew (Chg.grown hg2) (fun i _ e => (Option.some.inj e).symm)
theorem do_any {K : Nat} (w : World) (b j : Nat) (t : TypeId) (arr : Array Value) (mo : Option Nat) (blk : Nat → Nat) (l : List PName) (c : PChange) (hB : Box w b t arr) (hj : arr[j]? = some (.map mo)) (hne : ∀ m, mo = some m → m ≠ b) (hnm : NmAt w mo blk l) (hN : Nice K l) (hok : OkC K l c) (hlen : l.length ≤ 1000000) :
    Calls Tryz.prog 84 #[.pointer (some ⟨b, j, none⟩), .agg (cellsC1 blk c).toArray] w fun e w' => e = .returned (.tuple #[]) ∧ ∃ m, (mo = some m ∨ (mo = none ∧ w.heap.size ≤ m)) ∧ NmAt w' (some m) blk (changedN l c) ∧ Box w' b t (arr.setIfInBounds j (.map (some m))) ∧ Chg (fun i => mo = some i ∨ (mo = none ∧ i = b)) w w' := by
  have same : ∀ m, mo = some m → arr.setIfInBounds j (.map (some m)) = arr := by
    intro m e
    subst e
    apply Array.ext_getElem?
    intro i
    rw [Array.getElem?_setIfInBounds]
    split
    · rename_i e
      subst e
      split
      · exact hj.symm
      · rename_i hn
        rw [Array.getElem?_eq_none (by omega)] at hj
        cases hj
    · rfl
  rcases hok.kind with e | e | e
  · obtain ⟨h1, h2, h3, h4⟩ := hok.one e
    have hl := good_len h1
    have e1 : cellsC1 blk c = [.string ByteArray.empty, .string (strOf c.name), at_ (blk c.file)] := by rw [cellsC1, if_pos e]
    have e2 : changedN l c = withN l ⟨(strOf c.name).data.toList, c.file⟩ := by rw [changedN, if_pos e]; rfl
    rw [e1, e2]
    cases mo with
    | some m =>
      refine (do_one w b j t arr m blk l (strOf c.name) c.file hB hj (hne m rfl) hnm hlen hl).mono ?_
      rintro e w' ⟨rfl, hn, hb, hc⟩
      exact ⟨rfl, m, .inl rfl, hn, (hb.eq (same m rfl).symm), hc.wide fun i _ e => .inl (by rw [e])⟩
    | none =>
      obtain rfl : l = [] := hnm
      refine (do_first w b j t arr blk (strOf c.name) c.file hB hj hl).mono ?_
      rintro e w' ⟨rfl, m, hm, hn, hb, hc⟩
      exact ⟨rfl, m, .inr ⟨rfl, hm⟩, hn, hb, hc.wide fun i _ e => .inr ⟨rfl, e⟩⟩
  · obtain ⟨h1, h2⟩ := hok.two e
    have hl := good_len h2
    obtain ⟨x, hx, ex, _⟩ := find_mem h1
    have hxl := hN.short x hx
    rw [ex] at hxl
    have e1 : cellsC1 blk c = [.string (strOf c.name), .string (strOf c.to), .pointer none] := by rw [cellsC1, if_neg (by omega), if_pos e]
    have e2 : changedN l c = withN (without l (strOf c.name).data.toList) ⟨(strOf c.to).data.toList, c.file⟩ := by rw [changedN, if_neg (by omega), if_pos e]; rfl
    rw [e1, e2]
    cases mo with
    | some m =>
      refine (do_two w b j t arr m blk l (strOf c.name) (strOf c.to) c.file hB hj (hne m rfl) hnm hN.short h1 hlen hxl hl).mono ?_
      rintro e w' ⟨rfl, hn, hb, hc⟩
      exact ⟨rfl, m, .inl rfl, hn, (hb.eq (same m rfl).symm), hc.wide fun i _ e => .inl (by rw [e])⟩
    | none =>
      obtain rfl : l = [] := hnm
      cases hx
  · have h1 := hok.three e
    obtain ⟨k, hk⟩ := Option.isSome_iff_exists.1 h1
    obtain ⟨x, hx, ex, _⟩ := find_mem hk
    have hxl := hN.short x hx
    rw [ex] at hxl
    have e1 : cellsC1 blk c = [.string (strOf c.name), .string ByteArray.empty, .pointer none] := by rw [cellsC1, if_neg (by omega), if_neg (by omega)]
    have e2 : changedN l c = without l (strOf c.name).data.toList := by rw [changedN, if_neg (by omega), if_neg (by omega)]; rfl
    rw [e1, e2]
    cases mo with
    | some m =>
      refine (do_three w b j t arr m blk l (strOf c.name) k hB hj (hne m rfl) hnm hN.short hk hxl).mono ?_
      rintro e w' ⟨rfl, hn, hb, hc⟩
      exact ⟨rfl, m, .inl rfl, hn, (hb.eq (same m rfl).symm), hc.wide fun i _ e => .inl (by rw [e])⟩
    | none =>
      obtain rfl : l = [] := hnm
      cases hx
end Go.Proofs.YtmlfbihlbiikeaaGreatDoor
namespace Go.Proofs.YtmlfbihlbiikeaaGreatDoor
open Go.RowKit Go.Maps
theorem cellsC1_form (blk : Nat → Nat) (c : PChange) : ∃ s u v, cellsC1 blk c = [.string s, .string u, .pointer v] := by
  unfold cellsC1
  split
  · exact ⟨_, _, _, rfl⟩
  · split
    · exact ⟨_, _, _, rfl⟩
    · exact ⟨_, _, _, rfl⟩
theorem infoRen : (Tryz.prog.info? 101).map (fun i => (i.zero, i.size, i.bytes)) = some (some (.agg #[.string ByteArray.empty, .string ByteArray.empty, .pointer none]), 3, 40) := by kernel_rfl
set_option maxRecDepth 100000 in
set_option maxHeartbeats 2000000 in
theorem rename_any {K : Nat} (w : World) (p : Nat) (c : FsC) (hB : FsB w p c) (blk : Nat → Nat) (l : List PName) (since : List PChange) (ch : PChange) (hnm : NmAt w c.mn blk l) (hN : Nice K l) (hok : OkC K l ch) (hlen : l.length ≤ 1000000) (hsl : c.sl = since.length) (hs : since.length ≤ 1000000) (hrow : w.ownsRow 0 101 3 (.slice c.sa c.sl c.sc) c.sl (cellsC blk since)) :
    Calls Tryz.prog 40 #[at_ p, .agg (cellsC1 blk ch).toArray] w fun e w' => e = .returned (.tuple #[]) ∧ ∃ m g cap, (c.mn = some m ∨ (c.mn = none ∧ w.heap.size ≤ m)) ∧ NmAt w' (some m) blk (changedN l ch) ∧ w'.ownsRow 0 101 3 (.slice (some ⟨g, 0, none⟩) (c.sl + 1) cap) (c.sl + 1) (cellsC blk (since ++ [ch])) ∧ ((Value.slice c.sa c.sl c.sc).ownBlock = some g ∨ w.heap.size ≤ g) ∧ FsB w' p { c with mn := some m, sa := some ⟨g, 0, none⟩, sl := c.sl + 1, sc := cap } ∧ Chg (fun i => i = p ∨ c.mn = some i ∨ (Value.slice c.sa c.sl c.sc).ownBlock = some i) w w' := by
  obtain ⟨s, u, v, ev⟩ := cellsC1_form blk ch
  have hsmall : c.sl ≤ 1000000 := by omega
  have HS : Hid (c.sl = since.length) := hsl
  clear hsl
  obtain ⟨i0, hi, hz0, hz1, hz2⟩ := info_parts infoRen
  have hlt := Box.lt hB
  have hne : ∀ m, c.mn = some m → m ≠ p := fun m e => by
    have := hnm
    rw [e] at this
    exact tag_ne this.tag (Box.tag hB) (by decide)
  have hdo : ∀ W, Box W p 88 c.arr → NmAt W c.mn blk l → Calls Tryz.prog 84 #[.pointer (some ⟨p, 7, none⟩), .agg #[.string s, .string u, .pointer v]] W fun e w' => e = .returned (.tuple #[]) ∧ ∃ m, (c.mn = some m ∨ (c.mn = none ∧ W.heap.size ≤ m)) ∧ NmAt w' (some m) blk (changedN l ch) ∧ Box w' p 88 (c.arr.setIfInBounds 7 (.map (some m))) ∧ Chg (fun i => c.mn = some i ∨ (c.mn = none ∧ i = p)) W w' := by
    intro W h1 h2
    have := do_any W p 7 88 c.arr c.mn blk l ch h1 rfl hne h2 hN hok hlen
    rw [ev] at this
    exact this
  have hB0 : Box (w.alloc (.cells #[.string s, .string u, .pointer v] 101)).drew p 88 c.arr := Box.alloc hB _
  have hn0 : NmAt (w.alloc (.cells #[.string s, .string u, .pointer v] 101)).drew c.mn blk l := hnm.kept (fun m e => Below.heap_alloc _ _ _ (by have := hnm; rw [e] at this; exact tag_lt this.tag))
  rw [ev]
  go_enter Tryz.func40, Tryz.ntmps40
  go_wp2_with fail
  go_region_with (go_at_call 84; refine (hdo _ hB0 hn0).mono ?_; rintro e w2 ⟨rfl, m, hm, hn2, hb2, hc2⟩)
  all_goals
    have hx2 : Box w2 w.heap.size 101 #[.string s, .string u, .pointer v] := (Box.new w _ _).kept (hc2.block w.heap.size (by simp) (by
      rintro (e | ⟨_, e⟩)
      · have := hnm
        rw [e] at this
        exact absurd (tag_lt this.tag) (by omega)
      · omega))
    have d0 := hx2.cell 0
    have d1 := hx2.cell 1
    have d2 := hx2.cell 2
    simp at d0 d1 d2
    have hb3 : FsB w2 p { c with mn := some m } := hb2
    obtain ⟨q0, q1, q2, q3, q4, q5, q6, q7, q8, q9⟩ := hb3.cells
    have f9 := Box.soft hb3 9
    have hr2 : w2.ownsRow 0 101 3 (.slice c.sa c.sl c.sc) c.sl (cellsC blk since) := row_same hrow (fun b e => (hc2.block b (by have := tag_lt (row_tag hrow e); simp; omega) (by
      rintro (e1 | ⟨_, e1⟩)
      · have := hnm
        rw [e1] at this
        exact tag_ne this.tag (row_tag hrow e) (by decide) rfl
      · exact tag_ne (Box.tag hB) (row_tag hrow e) (by decide) e1.symm)).trans (Below.heap_alloc _ _ _ (tag_lt (row_tag hrow e))))
    have hpn : ∀ b, (Value.slice c.sa c.sl c.sc).ownBlock = some b → p ≠ b := fun b e => tag_ne (Box.tag hB) (row_tag hrow e) (by decide)
    have hp2 : p < w2.heap.size := Box.lt hb3
    have hone : ∀ y ∈ [Value.string s, .string u, .pointer v], y.oneCell' = true := by
      intro y hy
      simp at hy
      rcases hy with rfl | rfl | rfl <;> rfl
    have hrA : (w2.drew.alloc (.cells #[.string s, .string u, .pointer v] 101)).ownsRow 0 101 3 (.slice c.sa c.sl c.sc) c.sl (cellsC blk since) := row_same hr2 (fun b e => Below.heap_alloc w2.drew _ b (tag_lt (row_tag hr2 e)))
    have hnews := World.news_of_block (w := w2.drew.alloc (.cells #[.string s, .string u, .pointer v] 101)) (heap_alloc_new w2.drew _)
    have hbA : Box (w2.drew.alloc (.cells #[.string s, .string u, .pointer v] 101)) p 88 ({ c with mn := some m } : FsC).arr := Box.alloc (w := w2.drew) hb3 _
    go_wp2_with fail
    go_region_law (refine step_append_lies _ rfl (.tmp 13) (.tmp 15) 86 rfl 0 101 i0 _ 3 40 Tryz.underlying86 hi hz0 hz1 hz2 rfl (by decide) (.slice c.sa c.sl c.sc) c.sl (cellsC blk since) (by simp [Act.eval]) hrA ⟨w2.heap.size, 0, none⟩ 1 1 [.string s, .string u, .pointer v] (by simp [Act.eval]) rfl hnews hone (by omega) (by unfold maxLen; omega) (by omega) (Nat.zero_le _) (w2.heap.size + 1) (by simp) ?_; intro g cap w3 hr3 hg3 hl3 hg3lt; have hb4 := hbA.kept (hg3.block p (by simp; omega) (fun e => hpn p e.symm rfl)); have q94 := hb4.cell 9; have f94 := hb4.soft 9; simp [FsC.arr] at q94)
  all_goals
    have hsz2 : w2.heap.size + 1 = (w2.drew.alloc (.cells #[.string s, .string u, .pointer v] 101)).heap.size := by simp
    have hmm : m < w2.heap.size := tag_lt hn2.tag
    have hmp : m ≠ p := tag_ne hn2.tag (Box.tag hb3) (by decide)
    have hms : ∀ b, (Value.slice c.sa c.sl c.sc).ownBlock = some b → m ≠ b := fun b e => tag_ne hn2.tag (row_tag hr2 e) (by decide)
    have hsz3 := hg3.size
    have hgp : g ≠ p := by
      rcases hl3 with e | e
      · exact (hpn g e).symm
      · omega
    have hcA : Chg (fun i => i = p ∨ c.mn = some i ∨ (Value.slice c.sa c.sl c.sc).ownBlock = some i) w w2 := Chg.andThen ((Chg.refl _ w).alloc _).drew hc2 (fun i _ e => e.elim (fun e => .inr (.inl e)) (fun e => .inl e.2))
    have hs12 := hc2.size
    go_wp2
    go_returns
    refine ⟨rfl, m, g, cap, ?_, ?_, ?_, ?_, ?_, ?_⟩
    · exact hm.imp id (fun h => ⟨h.1, by have := h.2; simp at this; omega⟩)
    · exact hn2.kept (fun m' e => by
        cases e
        exact (Below.heap_setCell _ _ _ _ hmp).trans ((hg3.block m (by simp; omega) (fun e => hms m e.symm rfl)).trans (Below.heap_alloc w2.drew _ m hmm)))
    · have e : cellsC blk (since ++ [ch]) = cellsC blk since ++ [.string s, .string u, .pointer v] := by rw [cellsC_append, cellsC, cellsC, ev]; rfl
      rw [e]
      exact row_same hr3 (fun b e => Below.heap_setCell _ _ _ _ (by cases e; exact hgp))
    · rcases hl3 with e | e
      · exact .inl e
      · right
        simp at hs12
        omega
    · exact hb4.set 9 _
    · refine Chg.set ?_ (fun _ => .inl rfl) _ _
      exact Chg.andThen (hcA.drew.alloc _) (Chg.grown hg3) (fun i _ e => .inr (.inr e))
end Go.Proofs.YtmlfbihlbiikeaaGreatDoor
