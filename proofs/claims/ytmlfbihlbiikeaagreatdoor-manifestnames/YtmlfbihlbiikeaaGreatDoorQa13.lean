/- A state's edits and their bytes, plainly: what they tell is the state; how many bytes they are. -/
import Derived.Test.YtmlfbihlbiikeaaGreatDoorQa12
import Derived.Test.YtmlfbihlbiikeaaGreatDoorQa07
import Derived.Shelf.Spec.SlicesInsert
import Derived.Lib.AppendZerosOnto
import Derived.Laws.CopyRow
import Derived.Lib.Overlaps
import Derived.BigQuiet
namespace Go.Proofs.YtmlfbihlbiikeaaGreatDoor
set_option linter.unusedVariables false
set_option linter.unusedSimpArgs false
def PSt.numE (s : PSt) : PE := ⟨s.log, s.next, s.last, [], []⟩
def layE (l : List PF) : PE := ⟨0, 0, 0, [], l⟩
def PSt.eds (s : PSt) : List PE := s.numE :: (chG 100 s.v.all).map layE
def PSt.bytes (s : PSt) : List UInt8 := manOf s.eds
structure PSt.Like (s t : PSt) : Prop where
  num : s.num = t.num
  log : s.log = t.log
  next : s.next = t.next
  last : s.last = t.last
  v : ∀ n, n < 4 → s.v n = t.v n
theorem PSt.Like.refl (s : PSt) : s.Like s := ⟨rfl, rfl, rfl, rfl, fun _ _ => rfl⟩
structure PSt.Ok (s : PSt) : Prop where
  v : VOk s.v
  log : s.log ≤ 1099511627776
  next : s.next ≤ 1099511627776
  last : s.last ≤ 72057594037927935
theorem numE_err (s : PSt) : s.numE.err = 0 ↔ s.log ≤ 1099511627776 ∧ s.next ≤ 1099511627776 ∧ s.last ≤ 72057594037927935 := by
  constructor
  · intro h
    obtain ⟨_, _, a, b, c, _⟩ := PE.err_zero h
    exact ⟨a, b, c⟩
  · rintro ⟨a, b, c⟩
    exact err_mk14 (by simp [PSt.numE]) (by simp [PSt.numE]) a b c (by simp [PSt.numE]) (by simp [PSt.numE])
theorem layE_err {l : List PF} (h : l.length ≤ 100) (he : ∀ f ∈ l, f.err = 0) : (layE l).err = 0 := err_mk14 (by simp [layE]) h (by simp [layE]) (by simp [layE]) (by simp [layE]) (by simp [layE]) he
theorem VOk.errs {v : PV} (h : VOk v) : ∀ f ∈ v.all, f.err = 0 := fun f hf => by
  obtain ⟨n, hn, hf⟩ := mem_all.1 hf
  exact (h.level hn hf).1
theorem PSt.Ok.errs {s : PSt} (h : s.Ok) : ∀ x ∈ s.eds, x.err = 0 := fun x hx => by
  rcases List.mem_cons.1 hx with rfl | hx
  · exact (numE_err s).2 ⟨h.log, h.next, h.last⟩
  · obtain ⟨c, hc, rfl⟩ := List.mem_map.1 hx
    obtain ⟨_, a, b⟩ := chG_mem (iv := 100) (by omega) s.v.all c hc
    exact layE_err a (fun f hf => h.v.errs f (b f hf))
theorem stepS_num (n : Nat) (s : PSt) (h : s.Ok) : stepS (PSt.zero n) s.numE = some ⟨n, noV, s.log, s.next, s.last⟩ := by
  have he : s.numE.err = 0 := (numE_err s).2 ⟨h.log, h.next, h.last⟩
  have ha : applyV noV s.numE = (0, noV) := by
    rw [apply_mk VOk.none he (show delsV noV s.numE.dels = some noV from rfl)]
    rfl
  unfold stepS
  rw [show (PSt.zero n).v = noV from rfl, ha, if_pos rfl]
  have z : ∀ k : Nat, (if 0 < k then k else 0) = k := fun k => by split <;> omega
  show some (⟨n, noV, if 0 < s.log then s.log else 0, if 0 < s.next then s.next else 0, if 0 < s.last then s.last else 0⟩ : PSt) = _
  rw [z, z, z]
theorem steps_nums : ∀ (l : List PE) (s t : PSt), stepsS s l = some t → (∀ x ∈ l, x.log = 0 ∧ x.next = 0 ∧ x.last = 0) → t.num = s.num ∧ t.log = s.log ∧ t.next = s.next ∧ t.last = s.last
  | [], s, t, h, _ => by
    obtain rfl := Option.some.inj h
    exact ⟨rfl, rfl, rfl, rfl⟩
  | x :: l, s, t, h, hz => by
    have h' : (stepS s x).bind (fun u => stepsS u l) = some t := h
    cases hs : stepS s x with
    | none => rw [hs] at h'; cases h'
    | some u =>
      rw [hs] at h'
      obtain ⟨a, b, c, d⟩ := steps_nums l u t h' (fun y hy => hz y (by simp [hy]))
      obtain ⟨y, _, rfl⟩ := stepS_some hs
      obtain ⟨z1, z2, z3⟩ := hz x (by simp)
      refine ⟨a, ?_, ?_, ?_⟩
      · rw [b]
        show (if 0 < x.log then x.log else s.log) = s.log
        rw [z1, if_neg (by omega)]
      · rw [c]
        show (if 0 < x.next then x.next else s.next) = s.next
        rw [z2, if_neg (by omega)]
      · rw [d]
        show (if 0 < x.last then x.last else s.last) = s.last
        rw [z3, if_neg (by omega)]
theorem flat_lay (l : List (List PF)) : (l.map layE).flatMap PE.adds = l.flatten := by
  induction l with
  | nil => rfl
  | cons a l ih =>
    rw [List.map_cons, List.flatMap_cons, ih, List.flatten_cons]
    rfl
theorem steps_state {s : PSt} (h : s.Ok) (n : Nat) : ∃ t, stepsS (PSt.zero n) s.eds = some t ∧ VOk t.v ∧ (⟨n, s.v, s.log, s.next, s.last⟩ : PSt).Like t := by
  have hl : ∀ x ∈ (chG 100 s.v.all).map layE, x.err = 0 ∧ x.dels = [] := fun x hx => by
    refine ⟨h.errs x (List.mem_cons_of_mem _ hx), ?_⟩
    obtain ⟨c, hc, rfl⟩ := List.mem_map.1 hx
    rfl
  have hp : ((chG 100 s.v.all).map layE).flatMap PE.adds = s.v.all := by rw [flat_lay, chG_flat (by omega)]
  have hz : ∀ x ∈ (chG 100 s.v.all).map layE, x.log = 0 ∧ x.next = 0 ∧ x.last = 0 := fun x hx => by
    obtain ⟨c, hc, rfl⟩ := List.mem_map.1 hx
    exact ⟨rfl, rfl, rfl⟩
  obtain ⟨t, t1, t2, t3, t4⟩ := lays_same h.v _ n hl (by rw [hp])
  have key : ∀ (l : List PE) (a b t : PSt), a.v = b.v → stepsS a l = some t → ∃ u, stepsS b l = some u ∧ u.v = t.v := fun l => by
    induction l with
    | nil =>
      intro a b t hv ht
      obtain rfl := Option.some.inj ht
      exact ⟨b, rfl, hv.symm⟩
    | cons x l ih =>
      intro a b t hv ht
      have ht' : (stepS a x).bind (fun u => stepsS u l) = some t := ht
      cases hs : stepS a x with
      | none => rw [hs] at ht'; cases ht'
      | some u =>
        rw [hs] at ht'
        obtain ⟨y, hy, rfl⟩ := stepS_some hs
        have hs2 : stepS b x = some (b.turn x y) := by
          unfold stepS
          rw [← hv, hy, if_pos rfl]
        obtain ⟨u, hu, hv2⟩ := ih (a.turn x y) (b.turn x y) t rfl ht'
        refine ⟨u, ?_, hv2⟩
        show (stepS b x).bind (fun u => stepsS u l) = some u
        rw [hs2]
        exact hu
  obtain ⟨u, hu, hv⟩ := key _ (PSt.zero n) ⟨n, noV, s.log, s.next, s.last⟩ t rfl t1
  obtain ⟨a, b, c, d⟩ := steps_nums _ _ _ hu hz
  refine ⟨u, ?_, by rw [hv]; exact t2, a.symm, b.symm, c.symm, d.symm, fun k hk => by rw [hv]; exact (t4 k hk).symm⟩
  show (stepS (PSt.zero n) s.numE).bind (fun u => stepsS u _) = some u
  rw [stepS_num n s h]
  exact hu
def Four (v : PV) : Prop := ∀ n, 4 ≤ n → v n = []
theorem four_no : Four noV := fun _ _ => rfl
theorem four_eq {v w : PV} (h : Four v) (k : Four w) (e : ∀ n, n < 4 → v n = w n) : v = w := by
  funext n
  by_cases hn : n < 4
  · exact e n hn
  · rw [h n (by omega), k n (by omega)]
theorem four_upd {v : PV} (h : Four v) {n : Nat} (hn : n < 4) (l : List PF) : Four (v.upd n l) := fun m hm => by rw [PV.upd_other v l (by omega)]; exact h m hm
theorem four_dels : ∀ {l : List PG} {v u : PV}, Four v → (∀ d ∈ l, d.err = 0) → delsV v l = some u → Four u
  | [], v, u, h, _, e => by
    obtain rfl := Option.some.inj (show some v = some u from e)
    exact h
  | d :: l, v, u, h, hd, e => by
    have e' : (delV v d).bind (fun x => delsV x l) = some u := e
    cases hx : delV v d with
    | none => rw [hx] at e'; cases e'
    | some x =>
      rw [hx] at e'
      refine four_dels (l := l) (v := x) ?_ (fun y hy => hd y (by simp [hy])) e'
      unfold delV at hx
      split at hx
      · obtain rfl := Option.some.inj hx
        exact four_upd h (lev_nat' (hd d (by simp))).1 _
      · cases hx
theorem four_adds : ∀ {l : List PF} {v : PV}, Four v → (∀ f ∈ l, f.err = 0) → Four (addsV v l).2
  | [], v, h, _ => h
  | f :: l, v, h, hf => by
    unfold addsV
    split
    · exact four_no
    · exact four_adds (four_upd h (lev_nat (hf f (by simp))).1 _) (fun g hg => hf g (by simp [hg]))
theorem four_apply {v w : PV} {x : PE} (h : Four v) (e : applyV v x = (0, w)) : Four w := by
  obtain ⟨_, he, u, hu, ha⟩ := apply_zero e
  obtain ⟨_, _, _, _, _, h1, h2⟩ := PE.err_zero he
  have := four_adds (four_dels h h1 hu) h2
  rw [ha] at this
  exact this
theorem four_steps : ∀ (l : List PE) (s t : PSt), Four s.v → stepsS s l = some t → Four t.v
  | [], s, t, h, e => by
    obtain rfl := Option.some.inj (show some s = some t from e)
    exact h
  | x :: l, s, t, h, e => by
    have e' : (stepS s x).bind (fun u => stepsS u l) = some t := e
    cases hs : stepS s x with
    | none => rw [hs] at e'; cases e'
    | some u =>
      rw [hs] at e'
      obtain ⟨y, hy, rfl⟩ := stepS_some hs
      exact four_steps l _ t (four_apply h hy) e'
theorem told_just {s : PSt} (h : s.Ok) (h4 : Four s.v) : stepsS (PSt.zero s.num) s.eds = some s := by
  obtain ⟨t, h1, h2, h3⟩ := steps_state h s.num
  have h5 := four_steps _ _ _ four_no h1
  have e : s.v = t.v := four_eq h4 h5 h3.v
  have : t = s := by
    obtain ⟨n, v, a, b, c⟩ := s
    obtain ⟨n2, v2, a2, b2, c2⟩ := t
    obtain rfl : n = n2 := h3.num
    obtain rfl : v = v2 := e
    obtain rfl : a = a2 := h3.log
    obtain rfl : b = b2 := h3.next
    obtain rfl : c = c2 := h3.last
    rfl
  rw [← this]
  rw [this] at h1 ⊢
  exact h1
def told (s : PSt) (l : List PE) : Option PSt := stepsS s l
theorem told_adds {s : PSt} (h : s.Ok) (h4 : Four s.v) (l : List PE) : stepsS (PSt.zero s.num) (s.eds ++ l) = stepsS s l := by
  rw [stepsS_append, told_just h h4]
  rfl
theorem all_grow {v w : PV} {x : PE} (h : applyV v x = (0, w)) : w.all.length ≤ v.all.length + x.adds.length := by
  obtain ⟨hw, hg⟩ := apply_ok h
  have hv := (apply_zero h).1
  have hnd : (w.all.map PF.num).Nodup := hw.one
  have hnd2 : w.all.Nodup := by
    have := List.pairwise_map.1 hnd
    exact this.imp (fun h e => h (congrArg PF.num e))
  have hsub : w.all ⊆ x.adds ++ v.all := fun f hf => by
    rcases (hg f).1 hf with h | h
    · exact List.mem_append_left _ h
    · exact List.mem_append_right _ h.1
  have := hnd2.length_le_of_subset hsub
  rw [List.length_append] at this
  omega
end Go.Proofs.YtmlfbihlbiikeaaGreatDoor
namespace Go.Proofs.YtmlfbihlbiikeaaGreatDoor
open Go.RowKit
set_option linter.unusedVariables false
set_option linter.unusedSimpArgs false
theorem setRow_boxF {w : World} {g : Nat} {cur new : Array Value} {t : TypeId} (h : Box w g t cur) : Box (w.setRow g new) g t new := by
  have h' : w.heap[g]? = some (.cells cur t (0, 0)) := h
  have hlt := h.lt
  show (w.setRow g new).heap[g]? = some (.cells new t (0, 0))
  simp [World.setRow, Array.getElem?_modify, h']
theorem setRow_chgF (w : World) (g : Nat) (new : Array Value) : Chg (fun k => k = g) w (w.setRow g new) := by
  refine ⟨rfl, rfl, rfl, by simp [World.setRow], fun k hk hn => ?_⟩
  simp only [World.setRow, Array.getElem?_modify]
  rw [if_neg (fun e => hn e.symm)]
theorem flat_take {α : Type} {f : α → List Value} {sz : Nat} (hf : ∀ x, (f x).length = sz) : ∀ (l : List α) (i : Nat), (l.flatMap f).take (i * sz) = (l.take i).flatMap f
  | [], i => by simp
  | x :: r, 0 => by simp
  | x :: r, i + 1 => by
    rw [List.flatMap_cons, List.take_succ_cons, List.flatMap_cons, ← flat_take hf r i, List.take_append, hf, Nat.succ_mul]
    rw [List.take_of_length_le (by rw [hf]; omega), show i * sz + sz - sz = i * sz by omega]
theorem flat_drop {α : Type} {f : α → List Value} {sz : Nat} (hf : ∀ x, (f x).length = sz) : ∀ (l : List α) (i : Nat), (l.flatMap f).drop (i * sz) = (l.drop i).flatMap f
  | [], i => by simp
  | x :: r, 0 => by simp
  | x :: r, i + 1 => by
    rw [List.flatMap_cons, List.drop_succ_cons, ← flat_drop hf r i, List.drop_append, hf, Nat.succ_mul]
    rw [List.drop_of_length_le (by rw [hf]; omega), show i * sz + sz - sz = i * sz by omega, List.nil_append]
theorem szF (W : World) : (sizeOf TF).run Tryz.prog W = .ok 9 W := by kernel_rfl
set_option maxRecDepth 100000 in
theorem copy_f {w : World} {g o r rc m mc k : Nat} {arr : Array Value} {a : Addr} {cs : List Value} (hd : Box w g TF arr) (hk : Nat.min m r = k) (hl : cs.length = k * 9) (hcs : ∀ j v, cs[j]? = some v → w.cell? (a.add j) = some v) (hfit : o + cs.length ≤ arr.size) (h1 : ∀ v ∈ cs, v.oneCell' = true) :
    ∃ W2 arr2, (∀ ty, (Builtin.copy_ #[41, 41] ty #[.slice (some ⟨g, o, none⟩) r rc, .slice (some a) m mc]).run Tryz.prog w = .ok (goInt k) W2) ∧ Box W2 g TF arr2 ∧ arr2.toList = arr.toList.take o ++ cs ++ arr.toList.drop (o + cs.length) ∧ Chg (fun k => k = g) w W2 := by
  refine ⟨w.setRow g (arr.toList.take o ++ cs ++ arr.toList.drop (o + cs.length)).toArray, (arr.toList.take o ++ cs ++ arr.toList.drop (o + cs.length)).toArray, fun ty => ?_, setRow_boxF hd, rfl, setRow_chgF w g _⟩
  have h2 := run_firstCells_some (P := Tryz.prog) w 9 k a m mc cs hl hcs
  have h3 := run_storeCells_at Tryz.prog g o TF cs 0 arr w hd (by simpa using hfit) h1
  simp [Builtin.copy_, run_underlying Tryz.underlying41, Builtin.lenOf, szF, hk, h2, h3]
theorem slLoF (g n c lo : Nat) (h : lo ≤ n) (hn : n ≤ c) (hc : lo < c) (W : World) : (Instr.slice 41 (.slice (some ⟨g, 0, none⟩) n c) (some (.int .i64 (lo : Int))) none none).run Tryz.prog W = .ok (.slice (some ⟨g, lo * 9, none⟩) (n - lo) (c - lo)) W := by
  have h2 : ¬ (c = lo) := by omega
  have h3 : lo ≤ c := by omega
  simp [Instr.slice, run_underlying Tryz.underlying41, Instr.sliceBounds, Instr.sliceBound, asIntOf, h, h2, h3, hn, szF, Addr.add_lit, go_sem]
theorem slAnyF (a : Option Addr) (n c : Nat) (hn : n ≤ c) (W : World) : ∃ v, (Instr.slice 41 (.slice a n c) (some (.int .i64 (n : Int))) none none).run Tryz.prog W = .ok v W := by
  simp [Instr.slice, run_underlying Tryz.underlying41, Instr.sliceBounds, Instr.sliceBound, asIntOf, hn, szF, go_sem]
theorem slHiF (g n c hi : Nat) (h : hi ≤ c) (hc : 0 < c) (W : World) : (Instr.slice 41 (.slice (some ⟨g, 0, none⟩) n c) none (some (.int .i64 (hi : Int))) none).run Tryz.prog W = .ok (.slice (some ⟨g, 0, none⟩) hi c) W := by
  have h2 : ¬ (c = 0) := by omega
  simp [Instr.slice, run_underlying Tryz.underlying41, Instr.sliceBounds, Instr.sliceBound, asIntOf, h, h2, szF, Addr.add_lit, go_sem]
def insAt (l : List PF) (i : Nat) (f : PF) : List PF := l.take i ++ f :: l.drop i
theorem insAt_len (l : List PF) (i : Nat) (f : PF) (h : i ≤ l.length) : (insAt l i f).length = l.length + 1 := by
  simp [insAt]
  omega
section
variable {w : World} {B : Nat} {a : Option Addr} {n c i vb : Nat} {l : List PF} {f : PF}
set_option maxRecDepth 100000 in
set_option maxHeartbeats 2000000 in
theorem insert_last (h : OwnF w B a n c l) (hv : Box w vb TF (fA f)) (hb : B ≤ w.heap.size) (hn : n < 65536) :
    Calls Tryz.prog 116 #[.slice a n c, .int .i64 (n : Int), .slice (some ⟨vb, 0, none⟩) 1 1] w fun e w' => ∃ a' c', e = .returned (.slice a' (n + 1) c') ∧ OwnF w' B a' (n + 1) c' (insAt l n f) ∧ Chg (fun k => blkOf a = some k) w w' := by
  have hls := h.size
  have hva : FlAt w (some ⟨vb, 0, none⟩) 1 1 [f] := by
    refine ⟨rfl, by simp [fc], Nat.le_refl _, by unfold maxLen; omega, by simp, fun _ => ⟨vb, 0, rfl, fun j hj => ?_⟩⟩
    rw [Nat.zero_add, hv.cell, ← Array.getElem?_toList]
    simp [fA, fc]
  have HH : Hid (OwnF w B a n c l ∧ FlAt w (some ⟨vb, 0, none⟩) 1 1 [f] ∧ insAt l n f = l ++ [f]) := ⟨h, hva, by unfold insAt; rw [← hls, List.take_length, List.drop_length]⟩
  have hr := h.fs.row.le
  have hmx := h.fs.row.max
  unfold maxLen at hmx
  obtain ⟨sv, hsl⟩ := slAnyF a n c hr w
  clear h hv hls hva
  go_enter Tryz.func116, Tryz.ntmps116
  go_wp2_with (at_builtin; refine wpList_appFl w rfl _ _ rfl B a n c l rfl HH.out.1 (some ⟨vb, 0, none⟩) 1 1 [f] rfl HH.out.2.1 (by omega) hb ?_; intro a2 c2 w2 ho2 hb2 hg2)
  have H2 : Hid (OwnF w2 B a2 (n + 1) c2 (insAt l n f) ∧ Chg (fun k => blkOf a = some k) w w2) := by
    rw [HH.out.2.2]
    exact ⟨ho2, Chg.grown hg2⟩
  clear ho2 hb2 hg2
  go_wp2
  go_ret
  exact ⟨a2, c2, ret1 rfl, H2.out⟩
theorem OwnF.box {g : Nat} (h : OwnF w B (some ⟨g, 0, none⟩) n c l) : ∃ cur, Box w g TF cur ∧ cur.size = c * 9 ∧ cur.toList.take (n * 9) = l.flatMap fc ∧ B ≤ g ∧ n ≤ c ∧ c ≤ maxLen := by
  rcases h.row.2 with ⟨hv, _⟩ | ⟨g', c', cur, hv, hB, hg, hn, hc, hz, ht⟩
  · cases hv
  · have eg : g' = g ∧ c' = c := by simp at hv; exact ⟨hv.1.symm, hv.2.symm⟩
    obtain ⟨rfl, rfl⟩ := eg
    exact ⟨cur, hg, hz, ht, hB, hn, hc⟩
theorem OwnF.ofBox {g : Nat} {cur : Array Value} (hb : Box w g TF cur) (hz : cur.size = c * 9) (ht : cur.toList.take (n * 9) = l.flatMap fc) (hB : B ≤ g) (hn : n ≤ c) (hc : c ≤ maxLen) (hl : l.length = n) : OwnF w B (some ⟨g, 0, none⟩) n c l :=
  ⟨hl, by rw [flat_len fc_len, hl], .inr ⟨g, c, cur, rfl, hB, hb, hn, hc, hz, ht⟩⟩
theorem row_cellsF {W : World} {a : Nat} {arr : Array Value} (hb : Box W a TF arr) (o m : Nat) : ∀ j v, ((arr.toList.take m).drop o)[j]? = some v → W.cell? ((⟨a, o, none⟩ : Addr).add j) = some v := fun j v hj => by
  rw [Addr.add_lit, hb.cell, ← Array.getElem?_toList]
  rw [List.getElem?_drop, List.getElem?_take] at hj
  split at hj
  · exact hj
  · cases hj
theorem Box.shapeF {W : World} {a : Nat} {t : TypeId} {arr : Array Value} (h : Box W a t arr) : W.shape? a = some (t, arr.size) := by
  have h' : W.heap[a]? = some (.cells arr t (0, 0)) := h
  simp [World.shape?, h']
theorem fA_cells {W : World} (hv : Box W vb TF (fA f)) : ∀ j u, (fc f)[j]? = some u → W.cell? ((⟨vb, 0, none⟩ : Addr).add j) = some u := fun j u hu => by
  rw [Addr.add_lit, Nat.zero_add, hv.cell, ← Array.getElem?_toList]
  exact hu
theorem fc_one1 (f : PF) : ∀ u ∈ fc f, u.oneCell' = true := by
  have := fc_one [f]
  simpa using this
set_option maxRecDepth 100000 in
theorem over_f {W : World} {g : Nat} {cur : Array Value} (hb : Box W g TF cur) (hv : Box W vb TF (fA f)) (hne : g ≠ vb) (hz : cur.size ≠ 0) (o la ca : Nat) : (callFunc 168 #[.slice (some ⟨vb, 0, none⟩) 1 1, .slice (some ⟨g, o, none⟩) la ca]).run Tryz.prog W = .ok (.value (.bool false)) W := by
  rw [run_callFunc_extern Tryz.func168 (by kernel_rfl) (by kernel_rfl) (by kernel_rfl) (e := Extern.SlicesOverlaps.overlaps #[41, 41] #[4]) (by kernel_rfl),
    Lib.run_overlaps_apart W 41 4 TF Tryz.underlying41 9 szF ⟨vb, 0, none⟩ ⟨g, o, none⟩ 1 1 la ca (fun e => hne e.symm) TF TF (fA f).size cur.size hv.shapeF hb.shapeF hz (hv.soft 0) (hv.soft _)]
  rfl
theorem ins_cells {L : List Value} {R : List Value} (hl : l.length = n) (hi : i ≤ n) (hL : L.take (n * 9) = l.flatMap fc) : (L.take (i * 9) ++ fc f ++ (l.drop i).flatMap fc ++ R).take ((n + 1) * 9) = (insAt l i f).flatMap fc := by
  have h1 : L.take (i * 9) = (l.take i).flatMap fc := by
    rw [← flat_take fc_len l i, ← hL, List.take_take, show min (i * 9) (n * 9) = i * 9 by omega]
  have h2 : (insAt l i f).flatMap fc = L.take (i * 9) ++ fc f ++ (l.drop i).flatMap fc := by
    unfold insAt
    rw [List.flatMap_append, List.flatMap_cons, h1, List.append_assoc]
  rw [← h2]
  have h3 : ((insAt l i f).flatMap fc).length = (n + 1) * 9 := by rw [flat_len fc_len, insAt_len l i f (by omega), hl]
  rw [← h3, List.take_left]
set_option maxRecDepth 100000 in
set_option maxHeartbeats 4000000 in
theorem insert_room {g : Nat} (h : OwnF w B (some ⟨g, 0, none⟩) n c l) (hi : i < n) (hc : n + 1 ≤ c) (hv : Box w vb TF (fA f)) (hne : g ≠ vb) (hn : n < 65536) :
    Calls Tryz.prog 116 #[.slice (some ⟨g, 0, none⟩) n c, .int .i64 (i : Int), .slice (some ⟨vb, 0, none⟩) 1 1] w fun e w' => ∃ a' c', e = .returned (.slice a' (n + 1) c') ∧ OwnF w' B a' (n + 1) c' (insAt l i f) ∧ Chg (fun k => blkOf (some ⟨g, 0, none⟩) = some k) w w' := by
  have hls := h.size
  obtain ⟨cur, hb, hz, ht, hB, hnc, hcm⟩ := h.box
  have hcl : cur.toList.length = c * 9 := by simpa using hz
  have hs1 := slLoF g n c i (by omega) hnc (by omega)
  have hs4 := slHiF g n c (n + 1) hc (by omega)
  have hs5 := slLoF g (n + 1) c (i + 1) (by omega) hc (by omega)
  have hs6 := slLoF g (n + 1) c i (by omega) hc (by omega)
  have hov := fun (la ca : Nat) => over_f hb hv hne (by omega) ((i + 1) * 9) la ca
  have hD : ((cur.toList.take (n * 9)).drop (i * 9)) = (l.drop i).flatMap fc := by rw [ht, flat_drop fc_len]
  have hDl : ((l.drop i).flatMap fc).length = (n - i) * 9 := by rw [flat_len fc_len, List.length_drop, hls]
  have hbd : Box w.drew g TF cur := hb
  obtain ⟨w2, arr2, hcp1, hb2, hl2, hc2⟩ := copy_f (o := (i + 1) * 9) (r := n + 1 - (i + 1)) (rc := c - (i + 1)) (m := n + 1 - i) (mc := c - i) (k := n - i) (a := ⟨g, i * 9, none⟩) hbd (by simp only [Nat.min_def]; split <;> omega) hDl (by rw [← hD]; exact row_cellsF hbd (i * 9) (n * 9)) (by rw [hDl]; omega) (fc_one _)
  have hv2 : Box w2 vb TF (fA f) := Box.kept (w := w.drew) hv (hc2.block _ hv.lt (fun e => hne e.symm))
  have ha2 : arr2.size = c * 9 := by
    rw [← Array.length_toList, hl2]
    simp only [List.length_append, List.length_take, List.length_drop, hDl, hcl]
    omega
  obtain ⟨w3, arr3, hcp2, hb3, hl3, hc3⟩ := copy_f (o := i * 9) (r := n + 1 - i) (rc := c - i) (m := 1) (mc := 1) (k := 1) (a := ⟨vb, 0, none⟩) (cs := fc f) hb2 (by simp only [Nat.min_def]; split <;> omega) rfl (fA_cells hv2) (by rw [fc_len, ha2]; omega) (fc_one1 f)
  have HR : Hid (OwnF w3 B (some ⟨g, 0, none⟩) (n + 1) c (insAt l i f) ∧ Chg (fun k => blkOf (some ⟨g, 0, none⟩) = some k) w w3) := by
    refine ⟨OwnF.ofBox hb3 ?_ ?_ hB hc hcm (by rw [insAt_len l i f (by omega), hls]), ?_⟩
    · rw [← Array.length_toList, hl3]
      simp only [List.length_append, List.length_take, List.length_drop, fc_len, Array.length_toList, ha2]
      omega
    · have e1 : arr2.toList.take (i * 9) = cur.toList.take (i * 9) := by
        rw [hl2, List.append_assoc, List.take_append_of_le_length (by rw [List.length_take]; omega), List.take_take, show min (i * 9) ((i + 1) * 9) = i * 9 by omega]
      have e2 : ∃ R, arr2.toList.drop (i * 9 + (fc f).length) = (l.drop i).flatMap fc ++ R := by
        have e0 : (cur.toList.take ((i + 1) * 9)).length = i * 9 + (fc f).length := by rw [List.length_take, hcl, fc_len]; omega
        exact ⟨_, by rw [hl2, List.append_assoc, ← e0, List.drop_left]⟩
      obtain ⟨R, e3⟩ := e2
      rw [hl3, e1, e3, ← List.append_assoc]
      exact ins_cells hls (by omega) ht
    · have e1 : Chg (fun k => k = g) w w.drew := (Chg.refl _ _).drew
      exact ((e1.andThen hc2 fun _ _ h => h).andThen hc3 fun _ _ h => h).wide (fun k _ e => by rw [e]; rfl)
  rw [show ((n + 1 : Nat) : Int) = (n : Int) + 1 by omega] at hs4
  rw [show ((i + 1 : Nat) : Int) = (i : Int) + 1 by omega] at hs5
  have hq2 : ((i : Int) == (n : Int)) = false := beq_eq_false_iff_ne.2 (by omega)
  have hq3 : decide ((c : Int) < (n : Int) + 1) = false := decide_eq_false (by omega)
  have hcm2 := hcm
  unfold maxLen at hcm2
  have hgk : goInt (n - i) = goInt (n - i) := rfl
  clear h hb hz ht hB hcm hcl hD hDl hbd hb2 hl2 hc2 hv2 ha2 hb3 hl3 hc3 hls hv hgk hne
  go_enter Tryz.func116, Tryz.ntmps116
  go_wp2_with (simp only [hov])
  have hwi : IntKind.i64.wrap ((i : Int) + 1) = (i : Int) + 1 := by rw [IntKind.wrap_i64]; omega
  go_region_law (refine step_copy_runI rfl _ _ 41 41 rfl _ _ (by simp [Act.eval, Act.put]) (by simp [Act.eval, Act.put]) (hcp1 _) ?_)
  go_wp2_with (at_builtin; refine wpList_copy_runI _ rfl _ _ 41 41 rfl _ _ rfl rfl (hcp2 _) ?_)
  go_ret
  exact ⟨_, _, ret1 rfl, HR.out⟩
set_option maxRecDepth 100000 in
theorem zeros_f {g : Nat} {cur : Array Value} (hb : Box w g TF cur) (hs : cur.size = c * 9) (hin : i ≤ c) {k : Nat} (hk : 0 < k) (hgr : c < i + k) (hN : i + k ≤ 70000) :
    ∃ c' w' arr, (∀ ty, (Builtin.append_ #[41, 3] ty #[.slice (some ⟨g, 0, none⟩) i c, .int .i64 (k : Int)]).run Tryz.prog w = .ok (.slice (some ⟨w.heap.size, 0, none⟩) (i + k) c') w') ∧ Box w' w.heap.size TF arr ∧ arr.size = c' * 9 ∧ arr.toList.take (i * 9) = cur.toList.take (i * 9) ∧ i + k ≤ c' ∧ c' ≤ maxLen ∧ Below w.heap.size w w' := by
  obtain ⟨i0, hi0, hz0, hz1, hz2⟩ := info_parts infoF
  have hcl : cur.toList.length = c * 9 := by simpa using hs
  have hl : (cur.toList.take (i * 9)).length = i * 9 := by rw [List.length_take]; omega
  have hold : (Builtin.firstCells i0.size i (.slice (some ⟨g, 0, none⟩) i c)).run Tryz.prog w.drew = .ok (cur.toList.take (i * 9)).toArray w.drew := run_firstCells_some w.drew _ i ⟨g, 0, none⟩ i c _ (by rw [hz1]; omega) (fun j v hj => by
        have hbd : Box w.drew g TF cur := hb
        rw [Addr.add_lit, Nat.zero_add, hbd.cell, ← Array.getElem?_toList]
        rw [List.getElem?_take] at hj
        split at hj
        · exact hj
        · cases hj)
  have hrun := fun ty => Lib.run_append_grow_zeros (P := Tryz.prog) w 41 3 ty TF i0 _ .i64 .i64 Tryz.underlying41 Tryz.underlying3 hi0 hz0 (some ⟨g, 0, none⟩) i c (cur.toList.take (i * 9)) hold k hk (by omega) hgr (by omega) (by rw [hz2]; omega) (growslice_fits hgr (by rw [hz2]; omega))
  have hge := grownCap_ge w (i + k) c TF
  refine ⟨_, _, _, hrun, Box.new w.drew TF _, ?_, ?_, hge, grownCap_le_maxLen w _ _ _ (by unfold maxLen; omega), (Below.refl _ _).drew.alloc (Nat.le_refl _) _⟩
  · simp only [Array.size_append, List.size_toArray, hl, size_zeroCells]
    rw [show (Value.agg #[.int .i64 0, .int .u64 0, .int .i64 0, .string ⟨#[]⟩, .int .u64 0, .int .i64 0, .string ⟨#[]⟩, .int .u64 0, .int .i64 0]).cells.size = 9 from rfl]
    omega
  · simp only [Array.toList_append, List.append_assoc]
    rw [List.take_append_of_le_length (by rw [hl]; exact Nat.le_refl _), List.take_of_length_le (by rw [hl]; exact Nat.le_refl _)]
set_option maxRecDepth 100000 in
set_option maxHeartbeats 4000000 in
theorem insert_grow {g : Nat} (h : OwnF w B (some ⟨g, 0, none⟩) n n l) (hi : i < n) (hv : Box w vb TF (fA f)) (hB0 : B ≤ w.heap.size) (hn : n < 65536) :
    Calls Tryz.prog 116 #[.slice (some ⟨g, 0, none⟩) n n, .int .i64 (i : Int), .slice (some ⟨vb, 0, none⟩) 1 1] w fun e w' => ∃ a' c', e = .returned (.slice a' (n + 1) c') ∧ OwnF w' B a' (n + 1) c' (insAt l i f) ∧ Chg (fun k => blkOf (some ⟨g, 0, none⟩) = some k) w w' := by
  have hls := h.size
  obtain ⟨cur, hb, hz, ht, hB, hnc, hcm⟩ := h.box
  have hcl : cur.toList.length = n * 9 := by simpa using hz
  have hs1 := slLoF g n n i (by omega) hnc (by omega)
  have hs2 := slHiF g n n i (by omega) (by omega)
  obtain ⟨c', w1, arr, hap, hbx, hsz, htk, hle, hmx, hbl⟩ := zeros_f hb hz (i := i) (k := n + 1 - i) (by omega) (by omega) (by omega) (by omega)
  have hvl := hv.lt
  have hgl := hb.lt
  have hv1 : Box w1 vb TF (fA f) := hv.kept (hbl.block _ hvl)
  have hb1g : Box w1 g TF cur := hb.kept (hbl.block _ hgl)
  have hD : ((cur.toList.take (n * 9)).drop (i * 9)) = (l.drop i).flatMap fc := by rw [ht, flat_drop fc_len]
  have hDl : ((l.drop i).flatMap fc).length = (n - i) * 9 := by rw [flat_len fc_len, List.length_drop, hls]
  obtain ⟨w2, arr2, hcp1, hb2, hl2, hc2⟩ := copy_f (o := i * 9) (r := n + 1 - i) (rc := c' - i) (m := 1) (mc := 1) (k := 1) (a := ⟨vb, 0, none⟩) (cs := fc f) hbx (by simp only [Nat.min_def]; split <;> omega) rfl (fA_cells hv1) (by rw [fc_len, hsz]; omega) (fc_one1 f)
  have hb2g : Box w2.drew g TF cur := Box.kept (w := w1) hb1g (hc2.block _ hb1g.lt (by omega))
  have hb2d : Box w2.drew w.heap.size TF arr2 := hb2
  have harl : arr.toList.length = c' * 9 := by simpa using hsz
  have hasz : arr2.size = c' * 9 := by
    rw [← Array.length_toList, hl2]
    simp only [List.length_append, List.length_take, List.length_drop, fc_len, harl]
    omega
  obtain ⟨w3, arr3, hcp2, hb3, hl3, hc3⟩ := copy_f (o := (i + 1) * 9) (r := n + 1 - (i + 1)) (rc := c' - (i + 1)) (m := n - i) (mc := n - i) (k := n - i) (a := ⟨g, i * 9, none⟩) hb2d (by simp only [Nat.min_def]; split <;> omega) hDl (by rw [← hD]; exact row_cellsF hb2g (i * 9) (n * 9)) (by rw [hDl, hasz]; omega) (fc_one _)
  have HR : Hid (OwnF w3 B (some ⟨w.heap.size, 0, none⟩) (n + 1) c' (insAt l i f) ∧ Chg (fun k => blkOf (some ⟨g, 0, none⟩) = some k) w w3) := by
    refine ⟨OwnF.ofBox hb3 ?_ ?_ hB0 (by omega) hmx (by rw [insAt_len l i f (by omega), hls]), ?_⟩
    · rw [← Array.length_toList, hl3]
      simp only [List.length_append, List.length_take, List.length_drop, hDl, Array.length_toList, hasz]
      omega
    · have e1 : arr2.toList.take ((i + 1) * 9) = arr.toList.take (i * 9) ++ fc f := by
        have e0 : (arr.toList.take (i * 9) ++ fc f).length = (i + 1) * 9 := by rw [List.length_append, List.length_take, harl, fc_len]; omega
        rw [hl2, ← e0, List.take_left]
      rw [hl3, e1, htk]
      exact ins_cells hls (by omega) ht
    · have hB3 : Below w.heap.size w w3 := by
        have e2 : Below w.heap.size w w2 := hbl.trans (hc2.below (fun k hk => by omega) hbl.size)
        have e3 : Below w.heap.size w w2.drew := e2.drew
        exact e3.trans (hc3.below (fun k hk => by omega) e3.size)
      exact Chg.of hB3
  have hsA := slLoF w.heap.size (n + 1) c' i (by omega) (by omega) (by omega)
  have hsB := slLoF w.heap.size (n + 1) c' (i + 1) (by omega) (by omega) (by omega)
  rw [show ((i + 1 : Nat) : Int) = (i : Int) + 1 by omega] at hsB
  rw [show i + (n + 1 - i) = n + 1 by omega, show ((n + 1 - i : Nat) : Int) = (n : Int) + 1 - (i : Int) by omega] at hap
  have hq2 : ((i : Int) == (n : Int)) = false := beq_eq_false_iff_ne.2 (by omega)
  have hmx2 := hmx
  unfold maxLen at hmx2
  clear h hb hz ht hB hcm hcl hbx hsz htk hmx hbl hvl hgl hv1 hb1g hD hDl hb2 hl2 hc2 hb2g hb2d harl hasz hb3 hl3 hc3 hls hv hB0
  go_enter Tryz.func116, Tryz.ntmps116
  go_wp2_with (at_builtin; first | refine Lib.wpList_append_run _ rfl _ _ 41 3 rfl _ _ rfl rfl _ _ (hap _) ?_ | refine wpList_copy_runI _ rfl _ _ 41 41 rfl _ _ rfl rfl (hcp1 _) ?_)
  have hwi : IntKind.i64.wrap ((i : Int) + 1) = (i : Int) + 1 := by rw [IntKind.wrap_i64]; omega
  go_region_law (refine step_copy_runI rfl _ _ 41 41 rfl _ _ (by simp [Act.eval, Act.put]) (by simp [Act.eval, Act.put]) (hcp2 _) ?_)
  go_wp2
  go_ret
  exact ⟨_, _, ret1 rfl, HR.out⟩
theorem insert_any (h : OwnF w B a n c l) (hi : i ≤ n) (hv : Box w vb TF (fA f)) (hne : ∀ g, blkOf a = some g → g ≠ vb) (hB : B ≤ w.heap.size) (hn : n < 65536) :
    Calls Tryz.prog 116 #[.slice a n c, .int .i64 (i : Int), .slice (some ⟨vb, 0, none⟩) 1 1] w fun e w' => ∃ a' c', e = .returned (.slice a' (n + 1) c') ∧ OwnF w' B a' (n + 1) c' (insAt l i f) ∧ Chg (fun k => blkOf a = some k) w w' := by
  by_cases e : i = n
  · subst e
    exact insert_last h hv hB hn
  · obtain ⟨h1, h2, h3, h4⟩ := row_addr h.row
    obtain ⟨g, rfl⟩ := h4 (by omega)
    by_cases e2 : c = n
    · subst e2
      exact insert_grow h (by omega) hv hB hn
    · exact insert_room h (by omega) (by omega) hv (hne g rfl) hn
end
end Go.Proofs.YtmlfbihlbiikeaaGreatDoor
