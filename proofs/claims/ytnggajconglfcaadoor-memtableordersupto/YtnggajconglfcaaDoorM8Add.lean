/- The contract of the table's Add. -/
import Derived.Test.YtnggajconglfcaaDoorM8Chk
import Derived.Deep.DeepCutAuto
namespace Go.Proofs.YtnggajconglfcaaDoor
open Go.RowKit
set_option linter.unusedVariables false
set_option linter.unusedSimpArgs false
/-- What put does, as long as there are fewer texts than N. -/
def PutSpec (N : Nat) : Prop := ∀ (w : World) (ls : List LG) (la : Option Addr) (lc p : Nat) (v1 v2 v3 : Value) (t : ByteArray) (hh : Nat), ShAt w ls la lc → Box w p TT #[.slice la ls.length lc, v1, v2, v3] → t ∉ texts ls → t.size ≤ 9223372036854775807 → Glob w → 1 ≤ hh → hh ≤ 8 → (texts ls).length < N →
  Calls Tryd.prog 23 #[at_ p, .string t, .int .i64 (hh : Int)] w fun e w' => e = .returned (.tuple #[]) ∧ ∃ ls' la' lc', PutIn w w' p v1 v2 v3 ls ls' la la' lc' t
theorem put_small : PutSpec 1000 := fun w ls la lc p v1 v2 v3 t hh h hb hnt hz hg h1 h2 hN => by
  by_cases h0 : 0 < ls.length
  · have hf := flat_len (la := la) (lc := lc) h.each
    refine put_lay h hb h0 (by omega) hnt hz ⟨h1, h2⟩ fun l hl => ?_
    have hli := h.each l hl
    have e := hli.at'.inv.lk_len hli.all
    have e2 : l.t.length ≤ (texts ls).length := by
      obtain ⟨i, hi, rfl⟩ := List.mem_iff_getElem.1 hl
      rw [texts_split hi]
      simp
      omega
    have e3 : l.t.length = l.S.ops.length := e
    omega
  · have e : ls = [] := List.length_eq_zero_iff.1 (by omega)
    subst e
    exact put_none h hb hz hg _
set_option maxRecDepth 100000 in
theorem map_eql_nil (w : World) : (binOp .eql 56 (.map none) (.map none)).run Tryd.prog w = .ok (.bool true) w := by
  have h : ∀ d : Nat, (Op.equalIn (d + 1) 56 (.map none) (.map none)).run Tryd.prog w = .ok true w := fun d => by
    simp [Op.equalIn, run_underlying Tryd.underlying56]
  simp only [binOp]
  simp [Op.equal, Op.maxDepth, h 9999]
set_option maxRecDepth 100000 in
theorem map_eql_some (w : World) (b : Nat) : (binOp .eql 56 (.map (some b)) (.map none)).run Tryd.prog w = .ok (.bool false) w := by
  have h : ∀ d : Nat, (Op.equalIn (d + 1) 56 (.map (some b)) (.map none)).run Tryd.prog w = .ok false w := fun d => by
    simp [Op.equalIn, run_underlying Tryd.underlying56]
  simp only [binOp]
  simp [Op.equal, Op.maxDepth, h 9999]
theorem map_eql (w : World) (m : Option Nat) : (binOp .eql 56 (.map m) (.map none)).run Tryd.prog w = .ok (.bool m.isNone) w := by
  cases m with
  | none => exact map_eql_nil w
  | some b => exact map_eql_some w b
section
variable {w0 w w' : World} {p : Nat} {T : PT} {G : TG}
/-- What Add leaves. -/
structure Added (w w' : World) (p : Nat) (T T' : PT) (G G' : TG) : Prop where
  at' : TbAt w' p T' G'
  chg : Chg (TFoot p G) w w'
  foot : ∀ k, TFoot p G' k → TFoot p G k ∨ w.heap.size ≤ k
theorem TbAt.mapMade (h : TbAt w p T G) (hm : G.m = none) : TbAt ((w.setCell ⟨p, 1, none⟩ (.map (some w.heap.size))).alloc (.map #[] 0)) p T { G with m := some w.heap.size } := by
  have hk : T.kvs = [] := by
    have := h.map
    rw [hm] at this
    exact this
  have hnp := h.sh.not_p h.box
  refine ⟨h.inv, ((h.box.set 1 _).alloc _).eq rfl, h.sh.kept fun k hf => ?_, ?_, fun b e hf => ?_, h.texts⟩
  · have hlt := h.sh.lt hf
    rw [Below.heap_alloc _ _ _ (by simpa using hlt), Below.heap_setCell _ _ _ _ (fun e => hnp (by have e' : k = p := e; rw [← e']; exact hf))]
  · have := MpAt.made (w.setCell ⟨p, 1, none⟩ (.map (some w.heap.size)))
    rw [show (w.setCell ⟨p, 1, none⟩ (.map (some w.heap.size))).heap.size = w.heap.size by simp] at this
    rw [hk]
    exact this
  · have hlt := h.sh.lt hf
    have e' : w.heap.size = b := Option.some.inj e
    omega
/-- Where Add stands when the map has one more. -/
structure Mid (w0 w W : World) (p : Nat) (T : PT) (G : TG) (b : Nat) (k : IK) (l : List KV) : Prop where
  sh : ShAt W G.ls G.la G.lc
  box : Box W p TT (tbArr { G with m := some b } T)
  map : MpAt W b l
  key : Box W w.heap.size TK #[.string k.user, .int .u64 (k.seq : Int), .int .i64 k.kind]
  chg : Chg (TFoot p G) w W
  base : Below w0.heap.size w0 W
theorem Mid.below {W W' : World} {b : Nat} {k : IK} {l : List KV} (h : Mid w0 w W p T G b k l) (hb : Below W.heap.size W W') : Mid w0 w W' p T G b k l :=
  ⟨h.sh.below hb, h.box.kept (hb.block _ h.box.lt), h.map.kept (hb.block _ (tag_lt h.map.tag)), h.key.kept (hb.block _ h.key.lt), h.chg.andThen (Chg.of (R := fun _ => False) hb) (fun _ _ h => h.elim), h.base.trans (hb.mono h.base.size)⟩
theorem Mid.cells {W : World} {b : Nat} {k : IK} {l : List KV} (h : Mid w0 w W p T G b k l) : W.cell? ⟨w.heap.size, 0, none⟩ = some (.string k.user) ∧ W.cell? ⟨w.heap.size, 1, none⟩ = some (.int .u64 (k.seq : Int)) ∧ W.cell? ⟨w.heap.size, 2, none⟩ = some (.int .i64 k.kind) ∧ W.cell? ⟨p, 1, none⟩ = some (.map (some b)) ∧ (Builtin.len_ #[56] 3 #[.map (some b)]).run Tryd.prog W = .ok (.int .i64 (l.length : Int)) W :=
  ⟨h.key.cell 0, h.key.cell 1, h.key.cell 2, h.box.cell 1, MOpt.len (m := some b) h.map _⟩
/-- Where Add stands when the text is in its list. -/
structure Mid2 (w W : World) (p : Nat) (T : PT) (G : TG) (b : Nat) (k : IK) (l : List KV) (ls' : List LG) (la' : Option Addr) (lc' : Nat) : Prop where
  sh : ShAt W ls' la' lc'
  box : Box W p TT (tbArr ⟨ls', la', lc', some b⟩ T)
  map : MpAt W b l
  key : Box W w.heap.size TK #[.string k.user, .int .u64 (k.seq : Int), .int .i64 k.kind]
  chg : Chg (TFoot p G) w W
  mem : ∀ x, x ∈ texts ls' ↔ x = k.txt ∨ x ∈ texts G.ls
  foot : ∀ x, ShFoot ls' la' x → ShFoot G.ls G.la x ∨ (w.heap.size ≤ x ∧ x ≠ b)
theorem Mid.put {W W' : World} {b : Nat} {k : IK} {l : List KV} (h : Mid w0 w W p T G b k l) {ls' : List LG} {la' : Option Addr} {lc' : Nat} (hp : PutIn W W' p (.map (some b)) (.int .i64 (T.size : Int)) (.bool T.frozen) G.ls ls' G.la la' lc' k.txt) (hap : ∀ x, ShFoot G.ls G.la x → x ≠ b) (hbp : p ≠ b) (hlow : ∀ x, ShFoot G.ls G.la x → x < w.heap.size) (hpl : p < w.heap.size) : Mid2 w W' p T G b k l ls' la' lc' := by
  have hn : ∀ x, x < W.heap.size → x ≠ p → ¬ ShFoot G.ls G.la x → W'.heap[x]? = W.heap[x]? := fun x h1 h2 h3 => hp.chg.block x h1 (by rintro (e | e); exact h2 e; exact h3 e)
  have hb := tag_lt h.map.tag
  refine ⟨hp.sh, hp.box, h.map.kept (hn b hb (Ne.symm hbp) fun e => hap b e rfl), h.key.kept (hn _ h.key.lt (by omega) fun e => by have := hlow _ e; omega), h.chg.andThen hp.chg (fun x _ hx => ?_), hp.mem, fun x hx => ?_⟩
  · rcases hx with rfl | hx
    · exact .inl rfl
    · exact .inr (.inl hx)
  · rcases hp.foot x hx with h1 | h1
    · exact .inl h1
    · have := h.chg.size
      exact .inr ⟨by omega, by omega⟩
theorem Mid2.cells {W : World} {b : Nat} {k : IK} {l : List KV} {ls' : List LG} {la' : Option Addr} {lc' : Nat} (h : Mid2 w W p T G b k l ls' la' lc') : W.cell? ⟨w.heap.size, 0, none⟩ = some (.string k.user) ∧ W.cell? ⟨w.heap.size, 1, none⟩ = some (.int .u64 (k.seq : Int)) ∧ W.cell? ⟨w.heap.size, 2, none⟩ = some (.int .i64 k.kind) ∧ W.cell? ⟨p, 1, none⟩ = some (.map (some b)) ∧ (Builtin.len_ #[56] 3 #[.map (some b)]).run Tryd.prog W = .ok (.int .i64 (l.length : Int)) W :=
  ⟨h.key.cell 0, h.key.cell 1, h.key.cell 2, h.box.cell 1, MOpt.len (m := some b) h.map _⟩
theorem Mid2.ended {W : World} {b : Nat} {k : IK} {v : ByteArray} {ls' : List LG} {la' : Option Addr} {lc' : Nat} (h : Mid2 w W p T G b k (insKV (k, v) T.kvs) ls' la' lc') (hA : TbAt w p T G) (hf : T.frozen = false) (hok : EOk (k, v)) (hnew : ¬ ∃ u, (k, u) ∈ T.kvs) (hap : ∀ x, ShFoot G.ls G.la x → x ≠ b) (hbp : p ≠ b) (htx : Go.Proofs.YtnggajconglfcaaDoor.texts G.ls = T.kvs.map (·.1.txt)) (hz : G.m = some b ∨ w.heap.size ≤ b) :
    Added w (W.setCell ⟨p, 2, none⟩ (.int .i64 ((T.size : Int) + ((k.user.size : Int) + (v.size : Int) + 16)))).drew p T { T with kvs := insKV (k, v) T.kvs } G ⟨ls', la', lc', some b⟩ := by
  have hkk := (IK.ok_of hok.key).1
  have hinv : ({ T with kvs := insKV (k, v) T.kvs } : PT).Inv := by
    refine ⟨fun e hm => ?_, insKV_sorted hkk (fun x hx => hA.inv.okk hx) (fun x hx e => hnew ⟨x.2, by rw [← show x.1 = k from e]; exact hx⟩) hA.inv.sorted⟩
    rcases mem_insKV.1 hm with rfl | hm
    · exact hok
    · exact hA.inv.ok e hm
  have hnp := h.sh.not_p h.box
  have hkeep : ∀ x, x ≠ p → (W.setCell ⟨p, 2, none⟩ (.int .i64 ((T.size : Int) + ((k.user.size : Int) + (v.size : Int) + 16)))).drew.heap[x]? = W.heap[x]? := fun x hx => Below.heap_setCell _ _ _ _ hx
  have hsz : ((T.size : Int) + ((k.user.size : Int) + (v.size : Int) + 16)) = ((({ T with kvs := insKV (k, v) T.kvs } : PT).size : Nat) : Int) := by
    have e1 : ({ T with kvs := insKV (k, v) T.kvs } : PT).size = lsize T.kvs + esize (k, v) := insKV_size
    have e2 : T.size = lsize T.kvs := rfl
    have e3 : esize (k, v) = k.user.size + v.size + 16 := rfl
    rw [e1, e2, e3]
    omega
  refine ⟨⟨hinv, ?_, h.sh.kept fun x hx => hkeep x (fun e => hnp (e ▸ hx)), ?_, fun x e hx => ?_, ?_⟩, ?_, fun x hx => ?_⟩
  · have hb := (h.box.set 2 (.int .i64 ((T.size : Int) + ((k.user.size : Int) + (v.size : Int) + 16))))
    rw [hsz] at hb ⊢
    exact hb.eq rfl
  · exact h.map.kept (hkeep b (Ne.symm hbp))
  · have e' : b = x := Option.some.inj e
    rcases h.foot x hx with h1 | h1
    · exact hap x h1 e'.symm
    · exact h1.2 e'.symm
  · refine sorted_same h.sh.sorted ?_ fun x => ?_
    · refine List.pairwise_map.2 (hinv.sorted.imp_of_mem fun {a c} ha hc hac => ?_)
      rw [kl_txt (hinv.okk ha) (hinv.okk hc)]
      exact hac
    · rw [h.mem, htx, List.mem_map, List.mem_map]
      constructor
      · rintro (rfl | ⟨e, he, rfl⟩)
        · exact ⟨(k, v), mem_insKV.2 (.inl rfl), rfl⟩
        · exact ⟨e, mem_insKV.2 (.inr he), rfl⟩
      · rintro ⟨e, he, rfl⟩
        rcases mem_insKV.1 he with rfl | he
        · exact .inl rfl
        · exact .inr ⟨e, he, rfl⟩
  · exact (Chg.set (R := TFoot p G) h.chg (fun _ => .inl rfl) 2 _).drew
  · rcases hx with rfl | hx | hx
    · exact .inl (.inl rfl)
    · rcases h.foot x hx with h1 | h1
      · exact .inl (.inr (.inl h1))
      · exact .inr h1.1
    · have e' : b = x := Option.some.inj hx
      subst e'
      rcases hz with h1 | h1
      · exact .inl (.inr (.inr h1))
      · exact .inr h1
theorem PT.add_no {T : PT} {k : IK} {v : ByteArray} (h : ¬ T.err k v = 0) : T.add k v = T := by unfold PT.add; rw [if_neg h]
theorem PT.add_yes {T : PT} {k : IK} {v : ByteArray} (h : T.err k v = 0) : T.add k v = { T with kvs := insKV (k, v) T.kvs } := by unfold PT.add; rw [if_pos h]
set_option maxRecDepth 100000 in
set_option maxHeartbeats 1000000 in
theorem add_refused (h : TbAt w p T G) (k : IK) (v : ByteArray) (hk : k.user.size ≤ 9223372036854775807) (hv : v.size ≤ 9223372036854775807) (he : ¬ T.err k v = 0) : Calls Tryd.prog 11 #[at_ p, k.v, .string v] w fun e w' => e = .returned (.int .i64 ((T.err k v : Nat) : Int)) ∧ ∃ G', Added w w' p T (T.add k v) G G' := by
  have hb1 : Below w.heap.size w (w.alloc (.cells #[.string k.user, .int .u64 (k.seq : Int), .int .i64 k.kind] TK)) := (Below.refl _ _).alloc (Nat.le_refl _) _
  have HC := check_at (h.below hb1) k v hk hv
  have HA : Hid (TbAt w p T G) := h
  have HE : Hid (T.add k v = T) := PT.add_no he
  have hq : (((T.err k v : Nat) : Int) != 0) = true := by simp; omega
  generalize T.err k v = E at HC hq
  unfold IK.v at HC ⊢
  clear h he
  go_enter Tryd.func11, Tryd.ntmps11
  go_wp2_with fail
  refine HC.mono ?_
  rintro _ w1 ⟨rfl, hb2⟩
  have HB : Hid (Below w.heap.size w w1) := hb1.trans (hb2.mono hb1.size)
  clear hb2 HC
  go_wp2
  go_ret
  rw [HE.out]
  exact ⟨ret1 rfl, G, HA.out.below HB.out, Chg.of HB.out, fun k hk => .inl hk⟩
set_option maxRecDepth 100000 in
set_option maxHeartbeats 1000000 in
theorem add_done {N : Nat} (hP : PutSpec N) (h : TbAt w p T G) (k : IK) (v : ByteArray) (hN : T.kvs.length < N) (hNN : N ≤ 70368744177664) (he : T.err k v = 0) (hg : Glob w0) (hw0 : Below w0.heap.size w0 w) (hm : ∀ k, TFoot p G k → w0.heap.size ≤ k) : Calls Tryd.prog 11 #[at_ p, k.v, .string v] w fun e w' => e = .returned (.int .i64 0) ∧ ∃ G', Added w w' p T (T.add k v) G G' := by
  obtain ⟨hf, hok, hnew⟩ := PT.err_zero he
  have hkk : k.Ok := (IK.ok_of hok.key).1
  have hku : k.user.size ≤ 64 := (IK.ok_of hok.key).2
  have hvs : v.size ≤ 1000 := hok.val
  have hb1 : Below w.heap.size w (w.alloc (.cells #[.string k.user, .int .u64 (k.seq : Int), .int .i64 k.kind] TK)) := (Below.refl _ _).alloc (Nat.le_refl _) _
  have HC := check_at (h.below hb1) k v (by omega) (by omega)
  rw [he] at HC
  have HA : Hid (TbAt w p T G ∧ Glob w0 ∧ Below w0.heap.size w0 w ∧ (∀ k, TFoot p G k → w0.heap.size ≤ k) ∧ T.kvs.length < N ∧ N ≤ 70368744177664 ∧ PutSpec N) := ⟨h, hg, hw0, hm, hN, hNN, hP⟩
  have HK : Hid (T.frozen = false ∧ EOk (k, v) ∧ (¬ ∃ u, (k, u) ∈ T.kvs) ∧ T.err k v = 0) := ⟨hf, hok, hnew, he⟩
  clear h hg hw0 hm hN hNN hP hf hok hnew he
  unfold IK.v at HC ⊢
  go_enter Tryd.func11, Tryd.ntmps11
  go_wp2_with fail
  refine HC.mono ?_
  rintro _ w1 ⟨rfl, hb2⟩
  have hB : Below w.heap.size w w1 := hb1.trans (hb2.mono hb1.size)
  have A1 := HA.out.1.below hB
  have bx : Box w1 w.heap.size TK #[.string k.user, .int .u64 (k.seq : Int), .int .i64 k.kind] := (Box.new w TK #[.string k.user, .int .u64 (k.seq : Int), .int .i64 k.kind]).kept (hb2.block _ (by simp))
  have cm : w1.cell? ⟨p, 1, none⟩ = some (.map G.m) := A1.box.cell 1
  have fm := A1.box.soft 1
  have HQ : Hid (Below w.heap.size w w1 ∧ TbAt w1 p T G ∧ Box w1 w.heap.size TK #[.string k.user, .int .u64 (k.seq : Int), .int .i64 k.kind]) := ⟨hB, A1, bx⟩
  have hpl := A1.box.lt
  clear HC hb2 hB A1 bx hb1
  have hmq := fun W => map_eql W G.m
  go_upto_if 21 with fail
  go_cut [21] (fun s wz => ∃ c : Bool, s = .bool c ∧ Hid (∃ b, TbAt wz p T { G with m := some b } ∧ Chg (TFoot p G) w wz ∧ (G.m = some b ∨ w.heap.size ≤ b) ∧ Box wz w.heap.size TK #[.string k.user, .int .u64 (k.seq : Int), .int .i64 k.kind]))
  case first =>
    cases hm : G.m with
    | none =>
      rw [hm] at cm
      have hmk : ∀ w : World, (Instr.makeMap 56 none).run Tryd.prog w = .ok (.map (some w.heap.size)) (w.alloc (.map #[] 0)) := fun w => by kernel_rfl
      have HM : Hid (G.m = none) := hm
      clear hm
      go_wp2_with fail
      go_meet
      obtain ⟨q1, q2, q3⟩ := HQ.out
      have hkp : w.heap.size ≠ p := fun e => by
        have := HA.out.1.box.lt
        omega
      refine ⟨true, rfl, w1.heap.size, q2.mapMade HM.out, ?_, .inr q1.size, ((q3.other hkp 1 _).alloc _)⟩
      exact Chg.alloc (Chg.set (R := TFoot p G) (Chg.of q1) (fun _ => .inl rfl) 1 _) _
    | some b =>
      rw [hm] at cm
      have HM : Hid (G.m = some b) := hm
      clear hm
      go_wp2_with fail
      go_meet
      refine ⟨false, rfl, b, ?_, Chg.of HQ.out.1, .inl HM.out, HQ.out.2.2⟩
      have e : ({ G with m := some b } : TG) = G := by rw [← HM.out]
      rw [e]
      exact HQ.out.2.1
  case rest =>
    obtain ⟨c, rfl, HZ⟩ := hcut
    clear HQ cm fm hmq hpl
    obtain ⟨b, A2, z2, z3, z4⟩ := HZ.out
    obtain ⟨g1, g2, g3, g4, g5, g6, g7⟩ := HA.out
    obtain ⟨k1, k2, k3, k4⟩ := HK.out
    have hwf := IK.wf_of k2.key
    have hM2 : MpAt wc.drew b T.kvs := MpAt.kept (show MpAt wc b T.kvs from A2.map) rfl
    obtain ⟨w3, hup, hm3, ht3⟩ := hM2.store (v := v) hwf (fun e he => IK.wf_of (A2.inv.ok e he).key) k3 (by unfold maxLen; omega)
    have hc3 : Chg (fun x => some b = some x) wc.drew w3 := Chg.grown ht3.grown
    have hbp : p ≠ b := fun e => by
      have h1 := A2.box.tag
      have h2 : tag wc b = some 1000 := MpAt.tag (show MpAt wc b T.kvs from A2.map)
      rw [e, h2] at h1
      exact absurd (Option.some.inj h1) (by decide)
    have hbk : w.heap.size ≠ b := fun e => by
      have h1 := z4.tag
      have h2 : tag wc b = some 1000 := MpAt.tag (show MpAt wc b T.kvs from A2.map)
      rw [e, h2] at h1
      exact absurd (Option.some.inj h1) (by decide)
    have hMid : Mid w0 w w3 p T G b k (insKV (k, v) T.kvs) := by
      have hkeep : ∀ x, x ≠ b → x < wc.heap.size → w3.heap[x]? = wc.heap[x]? := fun x hx hlt => hc3.block x hlt (fun e => hx (Option.some.inj e).symm)
      have hchg : Chg (TFoot p G) w w3 := by
        refine Chg.andThen z2.drew hc3 fun x hx e => ?_
        have e' : b = x := Option.some.inj e
        rcases z3 with h | h
        · exact .inr (.inr (by rw [← e']; exact h))
        · omega
      refine ⟨A2.sh.kept fun x hx => hkeep x (fun e => A2.mapart b rfl (e ▸ hx)) (A2.sh.lt hx), A2.box.kept (hkeep p hbp A2.box.lt), hm3, z4.kept (hkeep _ hbk z4.lt), hchg, ?_⟩
      exact g3.trans (hchg.below g4 g3.size)
    have HMd : Hid (Mid w0 w w3 p T G b k (insKV (k, v) T.kvs)) := hMid
    have d0 : wc.drew.cell? ⟨w.heap.size, 0, none⟩ = some (.string k.user) := z4.cell 0
    have d1 : wc.drew.cell? ⟨w.heap.size, 1, none⟩ = some (.int .u64 (k.seq : Int)) := z4.cell 1
    have d2 : wc.drew.cell? ⟨w.heap.size, 2, none⟩ = some (.int .i64 k.kind) := z4.cell 2
    have d3 : wc.drew.cell? ⟨p, 1, none⟩ = some (.map (some b)) := A2.box.cell 1
    obtain ⟨x0, x1, x2, x3, x4⟩ := hMid.cells
    unfold IK.v at hup
    have HAP : Hid (∀ x, ShFoot G.ls G.la x → x ≠ b) := fun x hx e => A2.mapart b rfl (e ▸ hx)
    have HTX : Hid (texts G.ls = T.kvs.map (·.1.txt)) := A2.texts
    clear hMid hc3 ht3 hm3 hM2 A2 z2 z4 g1 g2 g3 g4 g5 g6 g7 k1 k2 k3 k4 hwf
    go_wp2_with fail
    go_region_held3 (fun w' => w'.cell? ⟨w.heap.size, 0, none⟩ = some (.string k.user) ∧ w'.cell? ⟨w.heap.size, 1, none⟩ = some (.int .u64 (k.seq : Int)) ∧ w'.cell? ⟨w.heap.size, 2, none⟩ = some (.int .i64 k.kind) ∧ w'.cell? ⟨p, 1, none⟩ = some (.map (some b))) (first | exact ⟨d0, d1, d2, d3⟩ | exact ⟨x0, x1, x2, x3⟩ | go_keep) (first | fail)
    go_wp2_with fail
    have HMd : Hid (Mid w0 w w3.drew p T G b k (insKV (k, v) T.kvs)) := HMd.out.below (Below.refl _ _).drew
    have HT : Hid (∀ W : World, Glob W → Calls Tryd.prog 24 #[.agg #[.string k.user, .int .u64 (k.seq : Int), .int .i64 k.kind]] W fun e w' => e = .returned (.string k.txt) ∧ Below W.heap.size W w') := fun W hW => textOf_at k hkk (by omega) hW
    have hlen : (insKV (k, v) T.kvs).length = T.kvs.length + 1 := insKV_len
    have HH : Hid (∀ W : World, Glob W → Calls Tryd.prog 25 #[.int .i64 (((insKV (k, v) T.kvs).length : Nat) : Int)] W fun e w' => ∃ h : Nat, 1 ≤ h ∧ h ≤ 8 ∧ e = .returned (.int .i64 (h : Int)) ∧ w' = W) := fun W hW => heightOf_at _ (by omega) (by have := HA.out.2.2.2.2; omega) hW
    have HNT : Hid (k.txt ∉ texts G.ls ∧ k.txt.size ≤ 9223372036854775807 ∧ (texts G.ls).length < N) := by
      obtain ⟨g1, g2, g3, g4, g5, g6, g7⟩ := HA.out
      obtain ⟨k1, k2, k3, k4⟩ := HK.out
      unfold Hid
      rw [HTX.out]
      refine ⟨fun hm => ?_, ?_, by simpa using g5⟩
      · obtain ⟨e, he, ht⟩ := List.mem_map.1 hm
        have := txt_inj (g1.inv.okk he) hkk ht
        exact k3 ⟨e.2, by rw [← this]; exact he⟩
      · rw [txt_size]
        have h1 := mark_len k.user.data.toList
        have h2 : k.user.data.toList.length = k.user.size := by rw [Array.length_toList]; rfl
        omega
    have HPT : Hid (∀ (W : World) (hh : Nat), Mid w0 w W p T G b k (insKV (k, v) T.kvs) → 1 ≤ hh → hh ≤ 8 → Calls Tryd.prog 23 #[at_ p, .string k.txt, .int .i64 (hh : Int)] W fun e w' => e = .returned (.tuple #[]) ∧ ∃ ls' la' lc', Mid2 w w' p T G b k (insKV (k, v) T.kvs) ls' la' lc') := fun W hh hW h1 h2 => by
      obtain ⟨g1, g2, g3, g4, g5, g6, g7⟩ := HA.out
      refine (g7 W G.ls G.la G.lc p _ _ _ k.txt hh hW.sh hW.box HNT.out.1 HNT.out.2.1 (g2.of_below0 hW.base) h1 h2 HNT.out.2.2).mono ?_
      rintro _ w' ⟨rfl, ls', la', lc', hp⟩
      exact ⟨rfl, ls', la', lc', hW.put hp HAP.out hbp (fun x hx => g1.sh.lt hx) g1.box.lt⟩
    have HG0 : Hid (Glob w0) := HA.out.2.1
    generalize hn9 : (insKV (k, v) T.kvs).length = n9 at HH x4 hlen
    have HN9 : Hid ((insKV (k, v) T.kvs).length = n9) := hn9
    clear hn9 x0 x1 x2 x3 x4 d0 d1 d2 d3 hup hlen
    obtain ⟨c0, c1, c2, c3, c4⟩ := HMd.out.cells
    rw [HN9.out] at c4
    go_region_held3 (fun w' => w'.cell? ⟨w.heap.size, 0, none⟩ = some (.string k.user) ∧ w'.cell? ⟨w.heap.size, 1, none⟩ = some (.int .u64 (k.seq : Int)) ∧ w'.cell? ⟨w.heap.size, 2, none⟩ = some (.int .i64 k.kind) ∧ w'.cell? ⟨p, 1, none⟩ = some (.map (some b)) ∧ (Builtin.len_ #[56] 3 #[.map (some b)]).run Tryd.prog w' = .ok (.int .i64 (n9 : Int)) w') (first | exact ⟨c0, c1, c2, c3, c4⟩ | go_keep)
      (first
       | (go_at_call 24; refine (HT.out _ (HG0.out.of_below0 HMd.out.base)).mono ?_; rintro _ vx ⟨rfl, hbx⟩
          have HMd : Hid (Mid w0 w vx p T G b k (insKV (k, v) T.kvs)) := HMd.out.below hbx
          obtain ⟨c0, c1, c2, c3, c4⟩ := HMd.out.cells
          rw [HN9.out] at c4
          clear hbx)
       | (go_at_call 23; refine (HPT.out _ hh HMd.out hh1 hh2).mono ?_; rintro _ vz ⟨rfl, ls', la', lc', hm2⟩
          have HM2 : Hid (Mid2 w vz p T G b k (insKV (k, v) T.kvs) ls' la' lc') := hm2
          obtain ⟨c0, c1, c2, c3, c4⟩ := HM2.out.cells
          rw [HN9.out] at c4
          clear hm2)
       | (go_at_call 25; refine (HH.out _ (HG0.out.of_below0 HMd.out.base)).mono ?_; rintro _ vy ⟨hh, hh1, hh2, rfl, hvy⟩
          have HMd : Hid (Mid w0 w vy p T G b k (insKV (k, v) T.kvs)) := by rw [hvy]; exact HMd.out
          obtain ⟨c0, c1, c2, c3, c4⟩ := HMd.out.cells
          rw [HN9.out] at c4
          clear hvy))
    have s2 : vz.cell? ⟨p, 2, none⟩ = some (.int .i64 (T.size : Int)) := HM2.out.box.cell 2
    have sf := HM2.out.box.soft 2
    have hsz : T.size ≤ 75998243711877120 := by
      obtain ⟨g1, g2, g3, g4, g5, g6, g7⟩ := HA.out
      have := lsize_le g1.inv.ok
      show lsize T.kvs ≤ _
      omega
    have hpl := HM2.out.box.lt
    have HW : Hid (T.err k v = 0) := HK.out.2.2.2
    clear c1 c2 c3 c4 HMd HPT HH HT
    go_wp2_with fail
    go_region
    go_wp2
    go_ret
    rw [PT.add_yes HW.out]
    exact ⟨ret1 rfl, ⟨ls', la', lc', some b⟩, HM2.out.ended HA.out.1 HK.out.1 HK.out.2.1 HK.out.2.2.1 HAP.out hbp HTX.out z3⟩
end
end Go.Proofs.YtnggajconglfcaaDoor
