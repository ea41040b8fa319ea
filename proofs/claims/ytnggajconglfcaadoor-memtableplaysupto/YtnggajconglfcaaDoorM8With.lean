/- The document's own table: With. -/
import Derived.Test.YtnggajconglfcaaDoorM8Ref
import Derived.Deep.RegionHeld3
import Derived.BigQuiet
namespace Go.Proofs.YtnggajconglfcaaDoor
open Go.RowKit
set_option linter.unusedVariables false
set_option linter.unusedSimpArgs false
def kvArr (x : KV) : Array Value := #[.string x.1.user, .int .u64 (x.1.seq : Int), .int .i64 x.1.kind, .string x.2]
/-- Where With stands when it has seen so many. -/
structure Wth (w wr : World) (x : KV) (l : List KV) (k : Nat) (dn : Bool) (no : Nat) (ao : Option Addr) (co : Nat) (O : List KV) : Prop where
  own : OwnR wr (w.heap.size + 1) ao no co O
  base : Below w.heap.size w wr
  box : Box wr w.heap.size TKV (kvArr x)
  yes : dn = true → O = insKV x (l.take k) ∧ ∃ y ∈ l.take k, kb x.1 y.1 = true
  no : dn = false → O = l.take k ∧ ∀ y ∈ l.take k, kb x.1 y.1 = false
theorem Wth.below {w wr W : World} {x : KV} {l : List KV} {k : Nat} {dn : Bool} {no : Nat} {ao : Option Addr} {co : Nat} {O : List KV} (h : Wth w wr x l k dn no ao co O) (hb : Below wr.heap.size wr W) : Wth w W x l k dn no ao co O :=
  ⟨h.own.below hb, h.base.trans (hb.mono h.base.size), h.box.kept (hb.block _ h.box.lt), h.yes, h.no⟩
theorem Wth.len {w wr : World} {x : KV} {l : List KV} {k : Nat} {dn : Bool} {no : Nat} {ao : Option Addr} {co : Nat} {O : List KV} (h : Wth w wr x l k dn no ao co O) (hk : k ≤ l.length) : no = if dn then k + 1 else k := by
  rw [← h.own.size]
  cases dn with
  | true =>
    rw [(h.yes rfl).1, insKV_len, List.length_take]
    simp
    omega
  | false =>
    rw [(h.no rfl).1, List.length_take]
    simp
    omega
set_option maxRecDepth 100000 in
set_option maxHeartbeats 2000000 in
theorem with_at {w : World} {a : Option Addr} {n c : Nat} {l : List KV} (h : KsAt w a n c l) (x : KV) (hx : x.1.Ok) (hok : ∀ e ∈ l, e.1.Ok) (hn : n ≤ 1000) : Calls Tryd.prog 27 #[.slice a n c, .agg #[.string x.1.user, .int .u64 (x.1.seq : Int), .int .i64 x.1.kind, .string x.2]] w fun e w' => ∃ a' c', e = .returned (.slice a' (n + 1) c') ∧ OwnR w' w.heap.size a' (n + 1) c' (insKV x l) ∧ Below w.heap.size w w' := by
  have HS : Hid (KsAt w a n c l ∧ l.length = n ∧ x.1.Ok ∧ ∀ e ∈ l, e.1.Ok) := ⟨h, h.size, hx, hok⟩
  have hm := h.max
  have hl := h.le
  unfold maxLen at hm
  have hb0 : Below w.heap.size w (w.alloc (.cells (kvArr x) TKV)) := (Below.refl _ _).alloc (Nat.le_refl _) _
  have HB0 : Hid (Wth w (w.alloc (.cells (kvArr x) TKV)) x l 0 false 0 none 0 []) := ⟨OwnR.nil _ _, hb0, Box.new w TKV _, fun h => absurd h (by decide), fun _ => ⟨rfl, by simp⟩⟩
  clear h hx hok hb0
  go_enter Tryd.func27, Tryd.ntmps27
  go_wp2_with fail
  go_loopw [5, 6, 7] (fun o d i wr => ∃ (k no co : Nat) (ao : Option Addr) (dn : Bool) (O : List KV), k ≤ n ∧ no ≤ k + 1 ∧ o = .slice ao no co ∧ d = .bool dn ∧ i = .int .i64 (k : Int) ∧ Hid (Wth w wr x l k dn no ao co O)) (fun _ _ i _ => n - (intOf i).toNat)
  case atStart => exact ⟨0, 0, 0, none, false, [], Nat.zero_le _, by omega, rfl, rfl, rfl, HB0.out⟩
  case round =>
    obtain ⟨k, no, co, ao, dn, O, hk, hno, rfl, rfl, rfl, HI⟩ := hrel
    by_cases hkn : k < n
    · have hkl : k < l.length := by rw [HS.out.2.1]; exact hkn
      obtain ⟨b, off, hab, hc⟩ := (HS.out.1.below HI.out.base).cells4 (by omega)
      obtain ⟨c0, c1, c2, c3⟩ := hc k hkl
      have hidx := fun W => idxKV W (a := a) (b := b) (off := off) (n := n) (c := c) hab hkn
      have HT : Hid (l.take (k + 1) = l.take k ++ [l[k]]) := List.take_succ_eq_append_getElem hkl
      have HOk : Hid (x.1.Ok ∧ l[k].1.Ok) := ⟨HS.out.2.2.1, HS.out.2.2.2 _ (List.getElem_mem hkl)⟩
      have HCell : Hid (∀ W : World, Below w.heap.size w W → W.cell? ⟨b, off + k * 4, none⟩ = some (.string l[k].1.user) ∧ W.cell? ⟨b, off + k * 4 + 1, none⟩ = some (.int .u64 (l[k].1.seq : Int)) ∧ W.cell? ⟨b, off + k * 4 + 2, none⟩ = some (.int .i64 l[k].1.kind) ∧ W.cell? ⟨b, off + k * 4 + 3, none⟩ = some (.string l[k].2)) := fun W hW => by
        obtain ⟨b', off', hb', hc'⟩ := (HS.out.1.below hW).cells4 (by omega)
        rw [hab] at hb'
        simp only [Option.some.injEq, Addr.mk.injEq] at hb'
        obtain ⟨rfl, rfl, _⟩ := hb'
        exact hc' k hkl
      generalize l[k] = e at c0 c1 c2 c3 HT HCell HOk
      clear hc hab
      have hsz : w.heap.size + 1 ≤ wr.heap.size := HI.out.box.lt
      cases dn with
      | true =>
        go_wp2_with fail
        go_quiet (fail)
        have HI2 : Hid (Wth w (wr.drewN nq) x l k true no ao co O) := HI.out.below (Below.drewM (Below.refl _ _) _)
        go_wp2_with (first | (at_builtin; refine wpList_pushK (wr.drewN nq) rfl _ _ rfl (w.heap.size + 1) _ _ _ O rfl HI2.out.own e rfl (by omega) hsz ?_))
        intro a4 c4 w4 ho4 hb4 hg4
        have HE : Hid (Wth w w4 x l (k + 1) true (no + 1) a4 c4 (O ++ [e])) := by
          obtain ⟨q1, q2⟩ := HI2.out.yes rfl
          refine ⟨ho4, HI2.out.base.trans (hb4.mono (by omega)), HI2.out.box.kept (hb4.block _ (by omega)), fun _ => ⟨?_, ?_⟩, fun h => absurd h (by decide)⟩
          · rw [HT.out, insKV_in q2, q1]
          · rw [HT.out]
            obtain ⟨y, hy, hyk⟩ := q2
            exact ⟨y, List.mem_append_left _ hy, hyk⟩
        clear ho4 hb4 hg4
        go_wp2
        go_roundw
        case rel => exact ⟨k + 1, no + 1, c4, a4, true, O ++ [e], by omega, by omega, rfl, rfl, by go_num, HE.out⟩
        case measure => simp only [intOf]; omega
      | false =>
        have HCM : Hid (∀ W : World, Calls Tryd.prog 21 #[.agg #[.string x.1.user, .int .u64 (x.1.seq : Int), .int .i64 x.1.kind], .agg #[.string e.1.user, .int .u64 (e.1.seq : Int), .int .i64 e.1.kind]] W fun r w' => r = .returned (.int .i64 (x.1.cmp e.1)) ∧ Below W.heap.size W w') := fun W => rcompare_any _ _ _ _ _ _ W
        have HKB : Hid (x.1.cmp e.1 < 0 ↔ kb x.1 e.1 = true) := cmp_kb HOk.out.1 HOk.out.2
        generalize x.1.cmp e.1 = cv at HCM HKB
        have HI2 : Hid (Wth w wr.drew x l k false no ao co O) := HI.out.below (Below.refl _ _).drew
        have y0 : wr.drew.cell? ⟨w.heap.size, 0, none⟩ = some (.string x.1.user) := HI2.out.box.cell 0
        have y1 : wr.drew.cell? ⟨w.heap.size, 1, none⟩ = some (.int .u64 (x.1.seq : Int)) := HI2.out.box.cell 1
        have y2 : wr.drew.cell? ⟨w.heap.size, 2, none⟩ = some (.int .i64 x.1.kind) := HI2.out.box.cell 2
        obtain ⟨z0, z1, z2, _⟩ := HCell.out _ HI2.out.base
        clear c0 c1 c2 c3
        go_wp2_with fail
        go_region_held3 (fun W => W.cell? ⟨w.heap.size, 0, none⟩ = some (.string x.1.user) ∧ W.cell? ⟨w.heap.size, 1, none⟩ = some (.int .u64 (x.1.seq : Int)) ∧ W.cell? ⟨w.heap.size, 2, none⟩ = some (.int .i64 x.1.kind) ∧ W.cell? ⟨b, off + k * 4, none⟩ = some (.string e.1.user) ∧ W.cell? ⟨b, off + k * 4 + 1, none⟩ = some (.int .u64 (e.1.seq : Int)) ∧ W.cell? ⟨b, off + k * 4 + 2, none⟩ = some (.int .i64 e.1.kind)) (first | exact ⟨y0, y1, y2, z0, z1, z2⟩ | go_keep)
          (first
           | (go_at_call 21; refine (HCM.out _).mono ?_; rintro _ vx ⟨rfl, hbx⟩
              have HI2 : Hid (Wth w vx x l k false no ao co O) := HI2.out.below hbx
              have y0 : vx.cell? ⟨w.heap.size, 0, none⟩ = some (.string x.1.user) := HI2.out.box.cell 0
              have y1 : vx.cell? ⟨w.heap.size, 1, none⟩ = some (.int .u64 (x.1.seq : Int)) := HI2.out.box.cell 1
              have y2 : vx.cell? ⟨w.heap.size, 2, none⟩ = some (.int .i64 x.1.kind) := HI2.out.box.cell 2
              obtain ⟨z0, z1, z2, z3⟩ := HCell.out _ HI2.out.base
              clear hbx))
        have y3 : vx.cell? ⟨w.heap.size, 3, none⟩ = some (.string x.2) := HI2.out.box.cell 3
        have hsx : w.heap.size + 1 ≤ vx.heap.size := HI2.out.box.lt
        by_cases hcv : cv < 0
        · go_wp2_with (first | (at_builtin; refine wpList_pushK vx rfl _ _ rfl (w.heap.size + 1) _ _ _ O rfl HI2.out.own x rfl (by omega) hsx ?_))
          intro a4 c4 w4 ho4 hb4 hg4
          have HQ : Hid (OwnR w4 (w.heap.size + 1) a4 (no + 1) c4 (O ++ [x]) ∧ Below w.heap.size w w4 ∧ Box w4 w.heap.size TKV (kvArr x)) := ⟨ho4, HI2.out.base.trans (hb4.mono (by omega)), HI2.out.box.kept (hb4.block _ (by omega))⟩
          obtain ⟨z0, z1, z2, z3⟩ := HCell.out _ HQ.out.2.1
          have hs4 : w.heap.size + 1 ≤ w4.heap.size := HQ.out.2.2.lt
          clear ho4 hb4 hg4
          go_wp2_with (first | (at_builtin; refine wpList_pushK w4 rfl _ _ rfl (w.heap.size + 1) _ _ _ (O ++ [x]) rfl HQ.out.1 e rfl (by omega) hs4 ?_))
          intro a5 c5 w5 ho5 hb5 hg5
          have HE : Hid (Wth w w5 x l (k + 1) true (no + 1 + 1) a5 c5 (O ++ [x] ++ [e])) := by
            obtain ⟨q1, q2⟩ := HI2.out.no rfl
            refine ⟨by simpa using ho5, HQ.out.2.1.trans (hb5.mono (by omega)), HQ.out.2.2.kept (hb5.block _ (by omega)), fun _ => ⟨?_, ?_⟩, fun h => absurd h (by decide)⟩
            · rw [HT.out, insKV_turn q2 (HKB.out.1 hcv), q1]
            · rw [HT.out]
              exact ⟨e, by simp, HKB.out.1 hcv⟩
          clear ho5 hb5 hg5
          go_wp2
          go_roundw
          case rel => exact ⟨k + 1, no + 1 + 1, c5, a5, true, O ++ [x] ++ [e], by omega, by have := HI.out.len (by omega); simp at this; omega, rfl, rfl, by go_num, HE.out⟩
          case measure => simp only [intOf]; omega
        · go_wp2_with (first | (at_builtin; refine wpList_pushK vx rfl _ _ rfl (w.heap.size + 1) _ _ _ O rfl HI2.out.own e rfl (by omega) hsx ?_))
          intro a4 c4 w4 ho4 hb4 hg4
          have HE : Hid (Wth w w4 x l (k + 1) false (no + 1) a4 c4 (O ++ [e])) := by
            obtain ⟨q1, q2⟩ := HI2.out.no rfl
            refine ⟨ho4, HI2.out.base.trans (hb4.mono (by omega)), HI2.out.box.kept (hb4.block _ (by omega)), fun h => absurd h (by decide), fun _ => ⟨by rw [HT.out, q1], fun y hy => ?_⟩⟩
            rw [HT.out] at hy
            rcases List.mem_append.1 hy with hy | hy
            · exact q2 y hy
            · rw [List.mem_singleton.1 hy]
              cases hkb : kb x.1 e.1 with
              | false => rfl
              | true => exact absurd (HKB.out.2 hkb) (by omega)
          clear ho4 hb4 hg4
          go_wp2
          go_roundw
          case rel => exact ⟨k + 1, no + 1, c4, a4, false, O ++ [e], by omega, by omega, rfl, rfl, by go_num, HE.out⟩
          case measure => simp only [intOf]; omega
    · obtain rfl : k = n := by omega
      have HTk : Hid (l.take k = l) := List.take_of_length_le (by have := HS.out.2.1; omega)
      have HLn : Hid (no = if dn then k + 1 else k) := HI.out.len (by rw [HS.out.2.1]; exact Nat.le_refl _)
      cases dn with
      | true =>
        have hne : no = k + 1 := HLn.out
        clear HLn
        subst hne
        go_wp2
        go_ret
        obtain ⟨q1, q2⟩ := HI.out.yes (by trivial)
        rw [HTk.out] at q1
        exact ⟨ao, co, ret1 rfl, by rw [← q1]; exact HI.out.own.mono (by omega), HI.out.base⟩
      | false =>
        have hne : no = k := HLn.out
        clear HLn
        subst hne
        clear hno hk
        have hsx : w.heap.size + 1 ≤ wr.heap.size := HI.out.box.lt
        have y0 : wr.cell? ⟨w.heap.size, 0, none⟩ = some (.string x.1.user) := HI.out.box.cell 0
        have y1 : wr.cell? ⟨w.heap.size, 1, none⟩ = some (.int .u64 (x.1.seq : Int)) := HI.out.box.cell 1
        have y2 : wr.cell? ⟨w.heap.size, 2, none⟩ = some (.int .i64 x.1.kind) := HI.out.box.cell 2
        have y3 : wr.cell? ⟨w.heap.size, 3, none⟩ = some (.string x.2) := HI.out.box.cell 3
        go_wp2_with (first | (at_builtin; refine wpList_pushK wr rfl _ _ rfl (w.heap.size + 1) _ _ _ O rfl HI.out.own x rfl (by omega) hsx ?_))
        intro a4 c4 w4 ho4 hb4 hg4
        have HE : Hid (OwnR w4 w.heap.size a4 (no + 1) c4 (insKV x l) ∧ Below w.heap.size w w4) := by
          obtain ⟨q1, q2⟩ := HI.out.no (by trivial)
          rw [HTk.out] at q1 q2
          refine ⟨?_, HI.out.base.trans (hb4.mono (by omega))⟩
          rw [insKV_out q2, ← q1]
          exact ho4.mono (by omega)
        clear ho4 hb4 hg4
        go_wp2
        go_ret
        exact ⟨a4, c4, ret1 rfl, HE.out⟩
end Go.Proofs.YtnggajconglfcaaDoor
