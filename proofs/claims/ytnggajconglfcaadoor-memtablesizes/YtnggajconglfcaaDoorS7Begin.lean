/- The contracts of beginAt and Begin. -/
import Derived.Test.YtnggajconglfcaaDoorS7Beg2
import Derived.Deep.AppendLies
import Derived.Test.YtnggajconglfcaaDoorPdPass
import Derived.Laws.OwnMore
import Derived.Deep.RegionLaw
import Derived.Carry
namespace Go.Proofs.YtnggajconglfcaaDoor
open Go.RowKit
set_option linter.unusedVariables false
set_option maxRecDepth 100000 in
theorem begin_call (w : World) (pb po : Nat) (key : ByteArray) (h : Nat) (hh : h ≤ 8) : Calls Tryd.prog 60 #[.pointer (some ⟨pb, po, none⟩), .string key, .int .i64 (h : Int)] w fun e w' => e = .returned (at_ (w.heap.size + 1)) ∧ Box w' w.heap.size TN (nodeArr key (fun _ => .pointer none)) ∧ Box w' (w.heap.size + 1) TO (OC.arr ⟨at_ w.heap.size, h, 7, ⟨pb, po, none⟩, .pointer none, fun _ => .pointer none, nextV (w.heap.size + 1) 0⟩) ∧ Below w.heap.size w w' ∧ w'.heap.size = w.heap.size + 2 := by
  have hmf := mk_func'
  go_enter Tryd.func60, Tryd.ntmps60
  go_wp2
  go_returns
  refine ⟨rfl, (Box.new w TN _).alloc _, ?_, ((Below.refl _ _).alloc (Nat.le_refl _) _).alloc (by simp) _, by simp⟩
  have hb := Box.new (w.alloc (.cells #[.string key, .pointer none, .pointer none, .pointer none, .pointer none, .pointer none, .pointer none, .pointer none, .pointer none] TN)) TO (OC.arr ⟨at_ w.heap.size, h, 7, ⟨pb, po, none⟩, .pointer none, fun _ => .pointer none, nextV (w.heap.size + 1) 0⟩)
  rw [show (w.alloc (.cells #[.string key, .pointer none, .pointer none, .pointer none, .pointer none, .pointer none, .pointer none, .pointer none, .pointer none] TN)).heap.size = w.heap.size + 1 by simp] at hb
  exact hb
section
variable {w : World} {p : Nat} {S : PS} {g : SG} {key : ByteArray}
set_option maxRecDepth 100000 in
theorem begin_nil (n : Int) : Calls Tryd.prog 46 #[.pointer none, .string key, .int .i64 n] w fun e w' => e = .returned (.tuple #[.int .i64 0, .int .i64 1]) ∧ w' = w := by
  go_enter Tryd.func46, Tryd.ntmps46
  go_wp2
  go_returns
  exact ⟨rfl, rfl⟩
set_option maxRecDepth 100000 in
theorem begin_high (n : Int) (hn : n < 1 ∨ 8 < n) : Calls Tryd.prog 46 #[at_ p, .string key, .int .i64 n] w fun e w' => e = .returned (.tuple #[.int .i64 0, .int .i64 70]) ∧ w' = w := by
  rcases hn with hn | hn
  · go_enter Tryd.func46, Tryd.ntmps46
    go_wp2
    go_returns
    exact ⟨rfl, rfl⟩
  · have h0 : ¬ n < 1 := by omega
    go_enter Tryd.func46, Tryd.ntmps46
    go_wp2
    go_returns
    exact ⟨rfl, rfl⟩
theorem lawS : Maps.Keyed Tryd.prog 9 := Maps.string_keyed Tryd.underlying9
theorem zeroUnit (w : World) : (zeroValue 112).run Tryd.prog w = .ok (.agg #[]) w := by kernel_rfl
theorem SkAt.look (h : SkAt w p S g) (hs : key.size ≤ 9223372036854775807) : ∃ b : Bool, (b = true ↔ key ∈ S.keys) ∧ (Instr.lookup 91 (.map (some g.m)) (.string key) true).run Tryd.prog w = .ok (.tuple #[.agg #[], .bool b]) w := by
  obtain ⟨D, hD, hk⟩ := h.map
  have hkey := WideMaps.keyOf_string_mk (s := key) Tryd.underlying9 (by unfold maxLen; omega)
  obtain ⟨v, ps, hrun, hv⟩ := World.ownsMap.look_ok hD lawS Tryd.underlying91 (zeroUnit w) unitElem_mk hkey
  obtain ⟨rfl, _⟩ := unitElem_inv hv
  exact ⟨_, hk key, hrun⟩
theorem SkAt.c10 (h : SkAt w p S g) : w.cell? ⟨p, 10, none⟩ = some (.map (some g.m)) := by
  rw [h.head.cell]
  rfl
set_option maxRecDepth 100000 in
theorem begin_same (h : SkAt w p S g) (hs : key.size ≤ 9223372036854775807) (n : Int) (hn : 1 ≤ n ∧ n ≤ 8) (hk : key ∈ S.keys) : Calls Tryd.prog 46 #[at_ p, .string key, .int .i64 n] w fun e w' => e = .returned (.tuple #[.int .i64 0, .int .i64 71]) ∧ SkAt w' p S g ∧ Below w.heap.size w w' := by
  obtain ⟨b, hb, hl⟩ := h.look hs
  obtain rfl : b = true := hb.2 hk
  have c10 := h.c10
  have HS : Hid (SkAt w p S g) := h
  clear h hb hk
  obtain ⟨h1, h2⟩ := hn
  go_enter Tryd.func46, Tryd.ntmps46
  go_wp2
  go_returns
  exact ⟨rfl, HS.out.below ((Below.refl _ _).alloc (Nat.le_refl _) _), (Below.refl _ _).alloc (Nat.le_refl _) _⟩
theorem SkAt.c0 (h : SkAt w p S g) : w.cell? ⟨p, 0, none⟩ = some (.int .i64 (S.room : Int)) := by
  rw [h.head.cell]
  rfl
theorem SkAt.c11' (h : SkAt w p S g) : w.cell? ⟨p, 11, none⟩ = some (.slice g.a S.ops.length g.c) := by
  rw [h.head.cell]
  rfl
set_option maxRecDepth 100000 in
theorem begin_full (h : SkAt w p S g) (hs : key.size ≤ 9223372036854775807) (n : Int) (hn : 1 ≤ n ∧ n ≤ 8) (hk : key ∉ S.keys) (hf : ¬ S.ops.length < S.room) : Calls Tryd.prog 46 #[at_ p, .string key, .int .i64 n] w fun e w' => e = .returned (.tuple #[.int .i64 0, .int .i64 72]) ∧ SkAt w' p S g ∧ Below w.heap.size w w' := by
  obtain ⟨b, hb, hl⟩ := h.look hs
  obtain rfl : b = false := by cases b; rfl; exact absurd (hb.1 rfl) hk
  have c10 := h.c10
  have c0 := h.c0
  have c11 := h.c11'
  have hplt := h.head.lt
  have HS : Hid (SkAt w p S g) := h
  have hr1 : (S.room : Int) ≤ (S.ops.length : Int) := by omega
  clear h hb hk hf
  obtain ⟨h1, h2⟩ := hn
  go_enter Tryd.func46, Tryd.ntmps46
  go_wp2
  go_returns
  exact ⟨rfl, HS.out.below ((Below.refl _ _).alloc (Nat.le_refl _) _), (Below.refl _ _).alloc (Nat.le_refl _) _⟩
theorem infoP : (Tryd.prog.info? TP).map (fun i => (i.zero, i.size, i.bytes)) = some (some (.pointer none), 1, 8) := by kernel_rfl
set_option maxRecDepth 100000 in
/-- A call of a Go function with three arguments, as one step of a region that draws its order. -/
theorem step_calls3 {ops : Array Oper} {o : Oper} {a : Act} {w : World} {K : Act → World → Prop} {Q : Exit → Act → World → Prop} {E : Prop} (hgd : o.guard = none) {f : FuncId} {fn : Func} (hf : Tryd.prog.funcs[f]? = some fn) (hname : (fn.name == "runtime.NumGoroutine") = false) (hb : fn.body.isSome = true) {x y z : Operand} {t u v : TypeId}
    (ho : o.op = .call { callee := .value (.func f), args := #[x, y, z], argTypes := #[t, u, v] }) {va vb vc : Value} (hx : a.eval x = va) (hy : a.eval y = vb) (hz : a.eval z = vc) {R : Value → World → Prop} (hc : Calls Tryd.prog f #[va, vb, vc] w fun e w' => ∃ v, e = .returned v ∧ R v w')
    (hK : ∀ v w', R v w' → K (a.put o.dst v) w') : if Region.wanted o (yielded ops a.tmps) = true then Oper.wp Tryd.prog o a w K Q else E := by
  have hw : Region.wanted o (yielded ops a.tmps) = true := by simp [Region.wanted, hgd]
  rw [if_pos hw]
  unfold Oper.wp
  obtain ⟨dst, op, ty, pos, after, guard⟩ := o
  simp only at ho
  subst ho
  rw [execOp_call_go]
  have hargs : (#[] ++ #[x, y, z].map a.eval ++ #[] : Array Value) = #[va, vb, vc] := by simp [hx, hy, hz]
  rw [hargs]
  obtain ⟨c, hc'⟩ := Option.isSome_iff_exists.1 hb
  have hname' : fn.name ≠ "runtime.NumGoroutine" := by simpa using hname
  have hrun : (callFunc f #[va, vb, vc]).run Tryd.prog w = .ok (.enter f #[va, vb, vc]) w := by
    simp [callFunc, hf, hname', hc']
  rw [hrun, Oper.upon_enter]
  refine hc.mono ?_
  rintro e w' ⟨v, rfl, hr⟩
  exact hK v w' hr
set_option maxRecDepth 100000 in
set_option maxHeartbeats 4000000 in
theorem begin_new {h : Nat} (hs : SkAt w p S g) (hsz : key.size ≤ 9223372036854775807) (hh : 1 ≤ h ∧ h ≤ 8) (hk : key ∉ S.keys) (hf : S.ops.length < S.room) : Calls Tryd.prog 46 #[at_ p, .string key, .int .i64 (h : Int)] w fun e w' => e = .returned (.tuple #[.int .i64 (S.ops.length : Int), .int .i64 0]) ∧ ∃ g', SkAt w' p (S.begin key h) g' ∧ Chg (Foot p g) w w' ∧ (∀ k, Foot p g' k → Foot p g k ∨ w.heap.size ≤ k) := by
  obtain ⟨b, hb, hl⟩ := hs.look hsz
  obtain rfl : b = false := by cases b; rfl; exact absurd (hb.1 rfl) hk
  have c10 := hs.c10
  have c0 := hs.c0
  have c11 := hs.c11'
  have hplt := hs.head.lt
  have hinv := hs.inv.begin (h := h) hk hsz hh hf
  have hroom := hs.inv.room
  obtain ⟨D, hD, hkD⟩ := hs.map
  have hkey := WideMaps.keyOf_string_mk (s := key) Tryd.underlying9 (by unfold maxLen; omega)
  obtain ⟨w1, hup, hown, hg1⟩ := World.ownsMap.update (hD.alloc (.cells #[] 112)) lawS Tryd.underlying91 (by unfold maxLen; omega) hkey unitElem_mk
  have hm1 : ∃ D : DataW Unit, w1.ownsMap Tryd.prog 9 unitElem g.m (S.ops.length + 1) D ∧ ∀ s : ByteArray, Maps.has D (.string s.data.toList) = true ↔ s ∈ S.keys ++ [key] := by
    refine ⟨_, hown, fun s => ?_⟩
    by_cases e : s = key
    · subst e
      rw [Maps.has_put_same hD.isMap (by simp [WideAt.IsKeyLit])]
      simp
    · rw [Maps.has_put_other (fun e' => e ?_), hkD s]
      · simp [e]
      · have e2 := Lit.string.inj e'
        cases s; cases key
        simp only [ByteArray.mk.injEq]
        exact Array.ext' e2
  have hp1 : w1.heap[p]? = w.heap[p]? := (hg1.block p (by simp; omega) (fun e => tag_ne hs.head.tag hs.mapTag (by decide) (Option.some.inj e))).trans (Below.heap_alloc _ _ _ hplt)
  have hb1 : Box w1 p TL _ := hs.head.kept hp1
  have d11 := hb1.cell 11
  simp [listArr] at d11
  have hrow1 : w1.ownsRow 0 TP 1 (.slice g.a S.ops.length g.c) S.ops.length (g.ob.map at_) := row_same hs.row fun b e => (hg1.block b (by have := tag_lt (hs.rowTag e); simp; omega) (fun e' => tag_ne (hs.rowTag e) hs.mapTag (by decide) (Option.some.inj e'))).trans (Below.heap_alloc _ _ _ (tag_lt (hs.rowTag e)))
  have HALL : Hid (∀ {w2 w4 : World} {r c : Nat}, Box w2 w1.heap.size TN (nodeArr key (fun _ => .pointer none)) → Box w2 (w1.heap.size + 1) TO (OC.arr ⟨at_ w1.heap.size, h, 7, ⟨p, 1, none⟩, .pointer none, fun _ => .pointer none, nextV (w1.heap.size + 1) 0⟩) → Below w1.heap.size w1 w2 → w4.ownsRow 0 TP 1 (.slice (some ⟨r, 0, none⟩) (S.ops.length + 1) c) (S.ops.length + 1) (g.ob.map at_ ++ [at_ (w1.heap.size + 1)]) → (w2.alloc (.cells #[at_ (w1.heap.size + 1)] TP)).grownBy w4 (Value.slice g.a S.ops.length g.c).ownBlock → ((Value.slice g.a S.ops.length g.c).ownBlock = some r ∨ w2.heap.size ≤ r) →
    ∃ g', SkAt (w4.setCell ⟨p, 11, none⟩ (.slice (some ⟨r, 0, none⟩) (S.ops.length + 1) c)) p (S.begin key h) g' ∧ Chg (Foot p g) w (w4.setCell ⟨p, 11, none⟩ (.slice (some ⟨r, 0, none⟩) (S.ops.length + 1) c)) ∧ (∀ k, Foot p g' k → Foot p g k ∨ w.heap.size ≤ k)) := fun a1 a2 a3 a4 a5 a6 => ⟨_, hs.begunAll hinv hm1 hg1 a1 a2 a3 a4 a5 a6⟩
  have HROW : Hid (w1.ownsRow 0 TP 1 (.slice g.a S.ops.length g.c) S.ops.length (g.ob.map at_)) := hrow1
  have HP1 : Hid (Box w1 p TL (listArr S.room (fun l => lnk g (nxt (S.lev l) 0)) g.m g.a S.ops.length g.c)) := hb1
  have HCB : Hid (Calls Tryd.prog 60 #[.pointer (some ⟨p, 1, none⟩), .string key, .int .i64 (h : Int)] w1.drew fun e w' => ∃ v, e = .returned v ∧ (v = at_ (w1.heap.size + 1) ∧ Box w' w1.heap.size TN (nodeArr key (fun _ => .pointer none)) ∧ Box w' (w1.heap.size + 1) TO (OC.arr ⟨at_ w1.heap.size, h, 7, ⟨p, 1, none⟩, .pointer none, fun _ => .pointer none, nextV (w1.heap.size + 1) 0⟩) ∧ Below w1.heap.size w1 w' ∧ w'.heap.size = w1.heap.size + 2)) := (begin_call w1.drew p 1 key h hh.2).mono fun e w' ⟨a1, a2, a3, a4, a5⟩ => ⟨_, a1, rfl, a2, a3, (Below.refl _ _).drew.trans a4, a5⟩
  have hplt1 : p < w1.heap.size := hb1.lt
  obtain ⟨j0, hj0, hz0, hz1, hz2⟩ := info_parts infoP
  have hr1 : (S.ops.length : Int) < (S.room : Int) := by omega
  clear hb hk hkD hD hown hm1 hg1 hb1 hrow1 hp1 hs hinv hkey
  obtain ⟨h1, h2⟩ := hh
  go_enter Tryd.func46, Tryd.ntmps46
  go_wp2_with fail
  go_region_law (first
    | (refine step_calls3 rfl Tryd.func60 (by kernel_rfl) (by kernel_rfl) rfl (va := .pointer (some ⟨p, 1, none⟩)) (vb := .string key) (vc := .int .i64 (h : Int)) (by simp [Act.eval, Act.put]) (by simp [Act.eval, Act.put]) (by simp [Act.eval, Act.put]) HCB.out ?_
       rintro v w2 ⟨rfl, hbn, hbo, hbl, hsz2⟩
       have HX : Hid (Box w2 w1.heap.size TN (nodeArr key (fun _ => .pointer none)) ∧ Box w2 (w1.heap.size + 1) TO (OC.arr ⟨at_ w1.heap.size, h, 7, ⟨p, 1, none⟩, .pointer none, fun _ => .pointer none, nextV (w1.heap.size + 1) 0⟩) ∧ Below w1.heap.size w1 w2) := ⟨hbn, hbo, hbl⟩
       have HP2 : Hid (Box w2 p TL (listArr S.room (fun l => lnk g (nxt (S.lev l) 0)) g.m g.a S.ops.length g.c)) := HP1.out.kept (hbl.block _ HP1.out.lt)
       have HR2 : Hid ((w2.alloc (.cells #[at_ (w1.heap.size + 1)] TP)).ownsRow 0 TP 1 (.slice g.a S.ops.length g.c) S.ops.length (g.ob.map at_)) := row_below (row_below HROW.out hbl) ((Below.refl _ _).alloc (Nat.le_refl _) _)
       have HNW : Hid (∀ j u, [at_ (w1.heap.size + 1)][j]? = some u → (w2.alloc (.cells #[at_ (w1.heap.size + 1)] TP)).cell? ((⟨w2.heap.size, 0, none⟩ : Addr).add j) = some u) := World.news_of_block (cs := #[at_ (w1.heap.size + 1)]) (Box.new w2 TP #[at_ (w1.heap.size + 1)])
       have d11 := HP2.out.cell 11
       simp [listArr] at d11
       have hplt2 := HP2.out.lt
       clear hbn hbo hbl hsz2)
    | (refine step_append_lies _ rfl (.tmp 50) (.tmp 57) 92 rfl 0 TP j0 _ 1 8 Tryd.underlying92 hj0 hz0 hz1 hz2 rfl (by decide) _ _ _ (by simp [Act.eval]) HR2.out ⟨w2.heap.size, 0, none⟩ 1 1 [at_ (w1.heap.size + 1)] (by simp [Act.eval]) rfl HNW.out (by intro u hu; rw [List.mem_singleton.1 hu]; rfl) (by omega) (by unfold maxLen; omega) (by omega) (Nat.zero_le _) _ rfl ?_
       intro r4 c4 w4 hr4 hg4 hl4 hlt4
       have HFIN : Hid (∃ g', SkAt (w4.setCell ⟨p, 11, none⟩ (.slice (some ⟨r4, 0, none⟩) (S.ops.length + 1) c4)) p (S.begin key h) g' ∧ Chg (Foot p g) w (w4.setCell ⟨p, 11, none⟩ (.slice (some ⟨r4, 0, none⟩) (S.ops.length + 1) c4)) ∧ (∀ k, Foot p g' k → Foot p g k ∨ w.heap.size ≤ k)) := HALL.out HX.out.1 HX.out.2.1 HX.out.2.2 hr4 hg4 (hl4.imp id (fun e => by rw [e]; simp))
       have hp4 : w4.heap[p]? = (w2.alloc (.cells #[at_ (w1.heap.size + 1)] TP)).heap[p]? := hg4.block _ (HP2.out.alloc _).lt (fun e => tag_ne (HP2.out.alloc _).tag (row_tag HR2.out e.symm) (by decide) rfl)
       have HBQ := (HP2.out.alloc (.cells #[at_ (w1.heap.size + 1)] TP)).kept hp4
       have d11 := HBQ.cell 11
       simp [listArr] at d11
       have f11 := HBQ.soft 11
       clear hr4 hg4 hl4 hlt4 hp4 HBQ))
  all_goals
    go_wp2
    go_returns
    exact ⟨rfl, HFIN.out⟩
end
end Go.Proofs.YtnggajconglfcaaDoor
