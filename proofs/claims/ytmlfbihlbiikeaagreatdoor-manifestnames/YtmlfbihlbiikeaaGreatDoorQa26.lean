/- The contract of manifest's laidWhole; rows of steps. -/
import Derived.Test.YtmlfbihlbiikeaaGreatDoorQa22
import Derived.Test.YtmlfbihlbiikeaaGreatDoorQa11
import Derived.Test.YtmlfbihlbiikeaaGreatDoorQa25
import Derived.Maps.AppendAt
import Derived.Test.YtmlfbihlbiikeaaGreatDoorQa23
import Derived.Test.YtmlfbihlbiikeaaGreatDoorQa41
namespace Go.Proofs.YtmlfbihlbiikeaaGreatDoor
set_option maxRecDepth 100000
open Go.RowKit
set_option linter.unusedVariables false
set_option linter.unusedSimpArgs false
abbrev TStp : TypeId := 168
theorem infoSt : (Tryz.prog.info? TStp).map (fun i => (i.zero, i.size, i.bytes)) = some (some .nilFunc, 1, 8) := by kernel_rfl
def wholeV (bf bn bb bt : Nat) : List Value := [.func (.func 97) #[] #[at_ bf, at_ bt], .func (.func 99) #[] #[at_ bf, at_ bt], .func (.func 100) #[] #[at_ bf, at_ bt, at_ bb], .func (.func 101) #[] #[at_ bf, at_ bt], .func (.func 102) #[] #[at_ bf, at_ bt, at_ bn]]
structure WholeAt (W : World) (B p : Nat) (name : ByteArray) (a : Option Addr) (n c : Nat) (bf bn bb bt : Nat) : Prop where
  f : Box W bf TFsP #[at_ p]
  nm : Box W bn TStr #[.string name]
  b : Box W bb 29 #[.slice a n c]
  t : Box W bt TStr #[.string (strOf tmpB)]
  gf : B ≤ bf
  gn : B ≤ bn
  gb : B ≤ bb
  gt : B ≤ bt
theorem WholeAt.kept {W W' : World} {B p : Nat} {name : ByteArray} {a : Option Addr} {n c bf bn bb bt : Nat} (h : WholeAt W B p name a n c bf bn bb bt) (hk : ∀ (k : Nat) (t : TypeId), tag W k = some t → t ≠ TStp → W'.heap[k]? = W.heap[k]?) : WholeAt W' B p name a n c bf bn bb bt :=
  ⟨h.f.kept (hk _ _ h.f.tag (by decide)), h.nm.kept (hk _ _ h.nm.tag (by decide)), h.b.kept (hk _ _ h.b.tag (by decide)), h.t.kept (hk _ _ h.t.tag (by decide)), h.gf, h.gn, h.gb, h.gt⟩
theorem WholeAt.below {W W' : World} {B p : Nat} {name : ByteArray} {a : Option Addr} {n c bf bn bb bt : Nat} (h : WholeAt W B p name a n c bf bn bb bt) (hb : Below W.heap.size W W') : WholeAt W' B p name a n c bf bn bb bt := h.kept fun k t hk _ => hb.block k (tag_lt hk)
theorem WholeAt.less {W : World} {B B' p : Nat} {name : ByteArray} {a : Option Addr} {n c bf bn bb bt : Nat} (h : WholeAt W B p name a n c bf bn bb bt) (hB : B' ≤ B) : WholeAt W B' p name a n c bf bn bb bt := ⟨h.f, h.nm, h.b, h.t, Nat.le_trans hB h.gf, Nat.le_trans hB h.gn, Nat.le_trans hB h.gb, Nat.le_trans hB h.gt⟩
theorem ask_one (S : PFs) : S.ask.1.asked = S.asked + 1 := by
  unfold PFs.ask
  split
  · rfl
  · split
    · split <;> rfl
    · rfl
theorem asks_create (n : List UInt8) (S : PFs) : (S.create n).1.asked ≤ S.asked + 1 := by
  have := ask_one S
  unfold PFs.create
  split
  · omega
  · split
    · show S.ask.1.asked ≤ _; omega
    · split
      · show S.ask.1.asked ≤ _; omega
      · show S.ask.1.asked ≤ _; omega
theorem asks_append (n b : List UInt8) (S : PFs) : (S.append n b).1.asked ≤ S.asked + 1 := by
  have := ask_one S
  unfold PFs.append
  split
  · omega
  · split
    · show S.ask.1.asked ≤ _; omega
    · split
      · show S.ask.1.asked ≤ _; omega
      · show S.ask.1.asked ≤ _; omega
theorem asks_sync (n : List UInt8) (S : PFs) : (S.sync n).1.asked ≤ S.asked + 1 := by
  have := ask_one S
  unfold PFs.sync
  split
  · omega
  · split
    · show S.ask.1.asked ≤ _; omega
    · show S.ask.1.asked ≤ _; omega
theorem asks_rename (a b : List UInt8) (S : PFs) : (S.rename a b).1.asked ≤ S.asked + 1 := by
  have := ask_one S
  unfold PFs.rename
  split
  · omega
  · split
    · show S.ask.1.asked ≤ _; omega
    · split
      · show S.ask.1.asked ≤ _; omega
      · show S.ask.1.asked ≤ _; omega
theorem asks_removed (n : List UInt8) (S : PFs) : (removedF n S).1.asked ≤ S.asked + 1 := by
  have := ask_one S
  unfold removedF
  split
  · unfold PFs.remove
    split
    · omega
    · split
      · show S.ask.1.asked ≤ _; omega
      · show S.ask.1.asked ≤ _; omega
  · split
    · show S.asked ≤ _; omega
    · show S.asked ≤ _; omega
theorem asks_syncDir (S : PFs) : S.syncDir.1.asked ≤ S.asked + 1 := by
  have := ask_one S
  unfold PFs.syncDir
  split
  · omega
  · show S.ask.1.asked ≤ _; omega
theorem asks_W (m B : List UInt8) : ∀ f ∈ stepsW m B, ∀ S, (f S).1.asked ≤ S.asked + 1 := by
  intro f hf S
  simp only [stepsW, List.mem_cons, List.not_mem_nil, or_false] at hf
  rcases hf with rfl | rfl | rfl | rfl | rfl | rfl | rfl | rfl | rfl | rfl | rfl | rfl
  · exact asks_create _ S
  · exact asks_removed _ S
  · exact asks_create _ S
  · exact asks_append _ _ S
  · exact asks_sync _ S
  · exact asks_rename _ _ S
  · exact asks_removed _ S
  · exact asks_create _ S
  · exact asks_append _ _ S
  · exact asks_sync _ S
  · exact asks_rename _ _ S
  · exact asks_syncDir S
def wholeF (name b : List UInt8) : List FStep := [removedF tmpB, fun S => S.create tmpB, fun S => S.append tmpB b, fun S => S.sync tmpB, fun S => S.rename tmpB name]
theorem WholeAt.does {J : Face} (H : FsOk J) {W : World} {B p : Nat} {name : ByteArray} {a : Option Addr} {n c bf bn bb bt : Nat} (h : WholeAt W B p name a n c bf bn bb bt) {i : Nat} {C : Nat → Prop} (hC : ∀ k, B ≤ k → k < W.heap.size → C k) {bs : List UInt8} (ho : BsAt W a n c bs) (hB : 0 < n → ∀ ad, a = some ad → B ≤ ad.block) (hl : n ≤ 140737488355328) :
    ∀ j (hj : j < 5), ∃ v, (wholeV bf bn bb bt)[j]? = some v ∧ Does J i p C W v ((wholeF name.data.toList bs)[j]'(by simpa [wholeF] using hj)) := by
  have cf := hC bf h.gf h.f.lt
  have cn := hC bn h.gn h.nm.lt
  have cb := hC bb h.gb h.b.lt
  have ct := hC bt h.gt h.t.lt
  intro j hj
  have h5 : j = 0 ∨ j = 1 ∨ j = 2 ∨ j = 3 ∨ j = 4 := by omega
  rcases h5 with rfl | rfl | rfl | rfl | rfl
  · exact ⟨_, rfl, laid1_does H (name := strOf tmpB) cf ct h.f h.t⟩
  · exact ⟨_, rfl, laid2_does H (name := strOf tmpB) cf ct h.f h.t⟩
  · exact ⟨_, rfl, laid3_does H (name := strOf tmpB) cf ct cb h.f h.t h.b ho (fun hp ad e => hC _ (hB hp ad e) (by obtain ⟨b, off, ha, hc⟩ := ho.here hp; rw [e] at ha; obtain rfl := Option.some.inj ha; exact World.block_lt_of_cell? W _ (hc 0 hp))) hl⟩
  · exact ⟨_, rfl, laid4_does H (name := strOf tmpB) cf ct h.f h.t⟩
  · exact ⟨_, rfl, laid5_does H (name := strOf tmpB) cf ct cn h.f h.t h.nm⟩
def WholeR (w : World) (p : Nat) (name : ByteArray) (a : Option Addr) (n c : Nat) (e : Ending) (w' : World) : Prop :=
  ∃ bf bn bb bt g, e = .returned (.slice (some ⟨g, 0, none⟩) 5 5) ∧ Below w.heap.size w w' ∧ WholeAt w' w.heap.size p name a n c bf bn bb bt ∧ Box w' g TStp (wholeV bf bn bb bt).toArray
set_option maxHeartbeats 1000000 in
theorem laidWhole_any (p : Nat) (name : ByteArray) (a : Option Addr) (n c : Nat) (w : World) (hg : Gl w) : Calls Tryz.prog 55 #[at_ p, .string name, .slice a n c] w (WholeR w p name a n c) := by
  obtain ⟨W1, eW1, H1⟩ : ∃ W1, Hid (W1 = ((w.alloc (.cells #[at_ p] TFsP)).alloc (.cells #[.string name] TStr)).alloc (.cells #[.slice a n c] 29)) ∧ Hid (Below w.heap.size w W1 ∧ Box W1 w.heap.size TFsP #[at_ p] ∧ Box W1 (w.heap.size + 1) TStr #[.string name] ∧ Box W1 (w.heap.size + 2) 29 #[.slice a n c] ∧ Gl W1) := by
    have hb : Below w.heap.size w (((w.alloc (.cells #[at_ p] TFsP)).alloc (.cells #[.string name] TStr)).alloc (.cells #[.slice a n c] 29)) := (((Below.refl _ _).alloc (Nat.le_refl _) _).alloc (by simp) _).alloc (by simp; omega) _
    refine ⟨_, rfl, hb, ((Box.new _ _ _).alloc _).alloc _, ?_, ?_, hg.later hb⟩
    · have := (Box.new (w.alloc (.cells #[at_ p] TFsP)) TStr #[.string name]).alloc (.cells #[.slice a n c] 29)
      simpa using this
    · have := Box.new ((w.alloc (.cells #[at_ p] TFsP)).alloc (.cells #[.string name] TStr)) 29 #[.slice a n c]
      simpa using this
  have HN := name_any 5 ⟨by decide, by decide⟩ 0 (by omega) W1 H1.out.2.2.2.2
  rw [show nameP 5 0 = tmpB from rfl] at HN
  have HT : Hid (strOf tmpB = strOf tmpB) := rfl
  generalize hT : strOf tmpB = st at HN
  have HST : Hid (strOf tmpB = st) := hT
  clear hT HT hg
  go_enter Tryz.func55, Tryz.ntmps55
  go_wp2_with fail
  rw [← eW1.out]
  refine HN.mono ?_
  rintro _ w2 ⟨rfl, hb2⟩
  have H2 : Hid (Below w.heap.size w w2 ∧ Box w2 w.heap.size TFsP #[at_ p] ∧ Box w2 (w.heap.size + 1) TStr #[.string name] ∧ Box w2 (w.heap.size + 2) 29 #[.slice a n c]) := ⟨H1.out.1.trans (hb2.mono H1.out.1.size), H1.out.2.1.kept (hb2.block _ H1.out.2.1.lt), H1.out.2.2.1.kept (hb2.block _ H1.out.2.2.1.lt), H1.out.2.2.2.1.kept (hb2.block _ H1.out.2.2.2.1.lt)⟩
  clear hb2 eW1 H1 HN
  go_wp2
  go_ret
  have hb3 : ∀ o : Obj, Below w2.heap.size w2 ((w2.alloc (.cells #[.string st] TStr)).alloc o) := fun o => ((Below.refl _ _).alloc (Nat.le_refl _) _).alloc (by simp) _
  have hs := H2.out.1.size
  refine ⟨w.heap.size, w.heap.size + 1, w.heap.size + 2, w2.heap.size, w2.heap.size + 1, rfl, H2.out.1.trans ((hb3 _).mono hs), ?_, ?_⟩
  · have hst := HST.out
    subst hst
    exact ⟨H2.out.2.1.kept ((hb3 _).block _ H2.out.2.1.lt), H2.out.2.2.1.kept ((hb3 _).block _ H2.out.2.2.1.lt), H2.out.2.2.2.kept ((hb3 _).block _ H2.out.2.2.2.lt), (Box.new w2 TStr #[.string (strOf tmpB)]).alloc _, Nat.le_refl _, by omega, by omega, hs⟩
  · have := Box.new (w2.alloc (.cells #[.string st] TStr)) TStp (wholeV w.heap.size (w.heap.size + 1) (w.heap.size + 2) w2.heap.size).toArray
    rw [World.size_alloc] at this
    exact this
abbrev OwnP (w : World) (B : Nat) (a : Option Addr) (n c : Nat) (vs : List Value) : Prop := w.ownsRow B TStp 1 (.slice a n c) n vs
theorem OwnP.one {w : World} {B g : Nat} {vs : List Value} (h : Box w g TStp vs.toArray) (hB : B ≤ g) (hl : vs.length ≤ 100) : OwnP w B (some ⟨g, 0, none⟩) vs.length vs.length vs :=
  ⟨by simp, .inr ⟨g, _, _, rfl, hB, h, Nat.le_refl _, by unfold maxLen; omega, by simp, by simp⟩⟩
theorem wholeV_one (bf bn bb bt : Nat) : ∀ u ∈ wholeV bf bn bb bt, u.oneCell' = true := by
  intro u hu
  simp [wholeV] at hu
  rcases hu with rfl | rfl | rfl | rfl | rfl <;> rfl
theorem wpList_appP (w : World) {ops : Array Oper} {rest : List Oper} {o : Oper} {a : Act} {Q : Exit → Act → World → Prop} (hgd : o.guard = none) (s x : Operand)
    (ho : o.op = .call { callee := .builtin .append, args := #[s, x], argTypes := #[122, 122] })
    (B : Nat) (a1 : Option Addr) (n1 c1 : Nat) (vs : List Value) (hs : a.eval s = .slice a1 n1 c1) (hown : OwnP w B a1 n1 c1 vs)
    (g n2 : Nat) (us : List Value) (hx : a.eval x = .slice (some ⟨g, 0, none⟩) n2 n2) (hsrc : Box w g TStp us.toArray) (hn2 : us.length = n2) (h1 : ∀ u ∈ us, u.oneCell' = true) (hn1 : n1 + n2 ≤ 100) (hB : B ≤ w.heap.size)
    (h : ∀ a' c' w', OwnP w' B a' (n1 + n2) c' (vs ++ us) → Below B w w' → w.grownBy w' (blkOf a1) → wpList Tryz.prog ops Q rest (a.put o.dst (.slice a' (n1 + n2) c')) w') :
    wpList Tryz.prog ops Q (o :: rest) a w := by
  refine wpList_appV w hgd s x _ TStp ho Tryz.underlying122 _ 1 8 infoSt rfl (by decide) B a1 n1 c1 vs hs hown (some ⟨g, 0, none⟩) n2 n2 us hx (fun e => by cases e) (by omega) (fun ad e j u hu => ?_) h1 (by unfold maxLen; omega) (by omega) hB h
  cases e
  rw [Addr.add_lit]
  show w.cell? ⟨g, 0 + j, none⟩ = some u
  rw [Nat.zero_add, hsrc.cell, ← Array.getElem?_toList]
  exact hu
theorem step_appP {ops : Array Oper} {o : Oper} {a : Act} {w : World} {K : Act → World → Prop} {Q : Exit → Act → World → Prop} {E : Prop} (hgd : o.guard = none) (s x : Operand)
    (ho : o.op = .call { callee := .builtin .append, args := #[s, x], argTypes := #[122, 122] })
    (B : Nat) (a1 : Option Addr) (n1 c1 : Nat) (vs : List Value) (hs : a.eval s = .slice a1 n1 c1) (hown : OwnP w B a1 n1 c1 vs)
    (g n2 : Nat) (us : List Value) (hx : a.eval x = .slice (some ⟨g, 0, none⟩) n2 n2) (hsrc : Box w g TStp us.toArray) (hn2 : us.length = n2) (h1 : ∀ u ∈ us, u.oneCell' = true) (hn1 : n1 + n2 ≤ 100) (h0 : 0 < n2) (hB : B ≤ w.heap.size)
    (h : ∀ a' c' w', OwnP w' B a' (n1 + n2) c' (vs ++ us) → Below B w w' → w.grownBy w' (blkOf a1) → K (a.put o.dst (.slice a' (n1 + n2) c')) w') :
    if Region.wanted o (yielded ops a.tmps) = true then Oper.wp Tryz.prog o a w K Q else E := by
  have hw : Region.wanted o (yielded ops a.tmps) = true := by simp [Region.wanted, hgd]
  rw [if_pos hw]
  obtain ⟨i, hi, hz0, hz1, hz2⟩ := info_parts infoSt
  have hlt : ∀ k, (Value.slice a1 n1 c1).ownBlock = some k → B ≤ k := fun k hk => (hown.lt k hk).1
  have hcell : ∀ j u, us[j]? = some u → w.cell? ((⟨g, 0, none⟩ : Addr).add j) = some u := by
    intro j u hu
    rw [Addr.add_lit]
    show w.cell? ⟨g, 0 + j, none⟩ = some u
    rw [Nat.zero_add, hsrc.cell, ← Array.getElem?_toList]
    exact hu
  obtain ⟨v', w', hr, h2, h3, h4, h5⟩ := run_append_own_at (P := Tryz.prog) w B 122 o.type TStp i .nilFunc 1 8 Tryz.underlying122 hi hz0 hz1 hz2 rfl (by decide) _ n1 _ hown ⟨g, 0, none⟩ n2 n2 us (by omega) hcell h1 (by unfold maxLen; omega) (by omega) hB
  unfold Oper.wp execOp
  simp only [ho, resolve, invoke, builtin, Sem.run_bind, Sem.run_pure, Result.andThen_ok, List.map_toArray, List.map_cons, List.map_nil, hs, hx, hr]
  rcases h2.2 with ⟨rfl, hz⟩ | ⟨g', c', cur, rfl, _⟩
  · omega
  · exact h _ _ w' h2 ((Below.refl B w).grown h3 hB hlt) (by rw [← own_blk a1 n1 c1]; exact h3)
end Go.Proofs.YtmlfbihlbiikeaaGreatDoor
namespace Go.Proofs.YtmlfbihlbiikeaaGreatDoor
set_option maxRecDepth 100000
open Go.RowKit Go.Shelf
attribute [local go_sem] Oper.semAt_some
set_option linter.unusedVariables false
set_option linter.unusedSimpArgs false
abbrev FlX (a : Option Addr) (n c : Nat) (l : List PF) := { x : Option Addr × List PF // (∀ V : World, FlAt V a n c l → FlAt V x.1 x.2.length x.2.length x.2) ∧ x.2.length ≤ 100 }
def FlX.vals {a : Option Addr} {n c : Nat} {l : List PF} (x : FlX a n c l) : Array Value := #[.slice x.1.1 x.1.2.length x.1.2.length]
def FlX.ls {a : Option Addr} {n c : Nat} {l0 : List PF} (l : List (FlX a n c l0)) : List (List PF) := l.map fun x => x.1.2
theorem fls_snoc {a : Option Addr} {n c : Nat} {l0 : List PF} (l : List (FlX a n c l0)) (x : FlX a n c l0) : FlX.ls (l ++ [x]) = FlX.ls l ++ [x.1.2] := by simp [FlX.ls]
structure Kp15 (n₀ Bs : Nat) (W W' : World) : Prop where
  below : Below n₀ W W'
  box : W'.heap[Bs]? = W.heap[Bs]?
  box1 : W'.heap[Bs + 1]? = W.heap[Bs + 1]?
theorem Kp15.trans {n₀ Bs : Nat} {A B C : World} (h : Kp15 n₀ Bs A B) (k : Kp15 n₀ Bs B C) : Kp15 n₀ Bs A C := ⟨h.below.trans k.below, k.box.trans h.box, k.box1.trans h.box1⟩
theorem Kp15.put {n₀ Bs : Nat} {w : World} (hn : n₀ ≤ w.heap.size) (hB : Bs + 1 < w.heap.size) (W : World) (l : Nat) (o o' : Obj) (hl : w.heap.size ≤ l) (h : W.heap[l]? = some o) (h1 : o.isCells = false) (h2 : o.isWalk = false) : Kp15 n₀ Bs W (W.putObj l o') :=
  ⟨belowK_b hn W l o o' hl h h1 h2, World.putObj_heap_other (by omega), World.putObj_heap_other (by omega)⟩
set_option maxRecDepth 100000 in
set_option maxHeartbeats 4000000 in
theorem fchunk1_in (f : Nat) (hf : 1 ≤ f) (w : World) (a : Option Addr) (n c iv : Nat) (l : List PF) (h : FlAt w a n c l) (hn : n ≤ 60000) (hi1 : 1 ≤ iv) (hi100 : iv ≤ 100) (lb Bs N0 : Nat) (J Jx : List (FlX a n c l) → World → Prop) (W : World)
    (hJ : AbidesFrom W.heap.size J)
    (hY : ∀ pre x W1, J pre W1 → pre.length < (chG iv l).length → YieldAt Fence.wide (f - 1) Tryz.prog lb (FlX.vals x) W1 fun e W' =>
      (e = .returned (.bool true) ∧ J (pre ++ [x]) W' ∧ Kp15 N0 Bs W1 W') ∨ (e = .returned (.bool false) ∧ Jx (pre ++ [x]) W'))
    (hB0 : Boxed W Bs 41 (.slice a n c)) (hB1 : Boxed W (Bs + 1) 3 (.int .i64 (iv : Int))) (h0 : J [] W) :
    CallsIn Fence.wide f Tryz.prog 158 #[.func (.yield lb) #[] #[], .pointer (some ⟨Bs, 0, none⟩), .pointer (some ⟨Bs + 1, 0, none⟩)] W fun e W' => (∃ v, e = .returned v) ∧
      ((∃ xs, FlX.ls xs = chG iv l ∧ J xs W') ∨ (∃ pre, (∃ t, FlX.ls pre ++ t = chG iv l) ∧ Jx pre W')) := by
  have HK : Hid (FlAt w a n c l ∧ l.length = n) := ⟨h, h.size⟩
  have hle := h.row.le
  have hmix : Tryz.prog.follows Departure.mixedOrders = true := by kernel_rfl
  clear h
  refine callsIn_of_wp Tryz.func158 rfl trivial ?_ rfl
  simp only [Tryz.ntmps158, List.size_toArray, List.length_cons, List.length_nil, Nat.reduceAdd, Nat.reduceSub, Array.replicate_succ, Array.replicate_zero, List.push_toArray, List.append_toArray, List.nil_append, List.cons_append]
  gi_wp2
  gi_loopw [4] (fun x wr => ∃ (p k : Nat) (pre : List (FlX a n c l)), p ≤ n + 100 ∧ x = .int .i64 (p : Int) ∧ Hid (p = k * iv ∧ k ≤ (chG iv l).length) ∧ Hid (FlX.ls pre = (chG iv l).take k) ∧ Hid (pre.length = k) ∧ Hid (J pre wr) ∧ Hid (Boxed wr Bs 41 (.slice a n c)) ∧ Hid (Boxed wr (Bs + 1) 3 (.int .i64 (iv : Int)))) (fun x _ => n + 100 - (intOf x).toNat)
  case atStart => exact ⟨0, 0, [], by omega, rfl, ⟨by omega, Nat.zero_le _⟩, rfl, rfl, h0, hB0, hB1⟩
  case round =>
    obtain ⟨p, k, pre, hp, rfl, HP, HPR, HLN, HJ, HX0, HX1⟩ := hrel
    have hx0 := HX0.out.cell
    have hx1 := HX1.out.cell
    by_cases hlt : p < n
    · obtain ⟨e1, e2⟩ := chG_at hi1 l k
      have hkc : k < (chG iv l).length := e1.1 (by rw [← HP.out.1, HK.out.2]; exact hlt)
      have hch := e2 hkc
      rw [← HP.out.1] at hch
      obtain ⟨z, hz⟩ : ∃ z, min iv (n - p) = z := ⟨_, rfl⟩
      have hzl : ((l.drop p).take iv).length = z := by rw [List.length_take, List.length_drop, HK.out.2]; exact hz
      have hz0 : 0 < z ∧ z ≤ iv ∧ p + z ≤ n := by omega
      have htk : (l.drop p).take z = (l.drop p).take iv := by
        rw [← hzl, List.length_take]
        simp
      obtain ⟨p1, q1⟩ := fl_from HK.out.1 p hlt
      obtain ⟨p2, q2, r2⟩ := fl_mid HK.out.1 p z hz0.1 hz0.2.2 ((p : Int) + (z : Int)) (by omega)
      have hks2 : (∀ V : World, FlAt V a n c l → FlAt V p2 ((l.drop p).take iv).length ((l.drop p).take iv).length ((l.drop p).take iv)) ∧ ((l.drop p).take iv).length ≤ 100 := by
        refine ⟨fun V hV => ?_, by rw [hzl]; omega⟩
        rw [hzl, ← htk]
        exact r2 _ _ hV
      have HTK : Hid ((chG iv l).take (k + 1) = (chG iv l).take k ++ [(l.drop p).take iv]) := by
        show (chG iv l).take (k + 1) = _
        rw [List.take_succ_eq_append_getElem hkc, hch]
      have HKC : Hid (k < (chG iv l).length ∧ (k + 1) * iv = p + iv) := ⟨hkc, by rw [Nat.add_mul, Nat.one_mul, HP.out.1]⟩
      have HZL : Hid (((l.drop p).take iv).length = z) := hzl
      obtain ⟨x, HXE⟩ : ∃ x : FlX a n c l, Hid (x = ⟨(p2, (l.drop p).take iv), hks2⟩) := ⟨_, rfl⟩
      obtain ⟨fn, tmps, assign, body, hy, hR⟩ := hY pre x wr.drew (hJ pre _ _ none HJ.out (grown_none (Below.refl _ _).drew) (fun r e => by cases e)) (by rw [HLN.out]; exact hkc)
      have hval : FlX.vals x = #[.slice p2 z z] := by
        rw [HXE.out]
        simp only [FlX.vals, hzl]
      rw [hval] at hy
      have HX2 : Hid (x.1.2 = (l.drop p).take iv) := by rw [HXE.out]; rfl
      clear hks2 hzl htk r2 e1 e2 hch hkc hval HXE
      have hif : (if n - p < iv then ((n - p : Nat) : Int) else (iv : Int)) = (z : Int) := by split <;> omega
      have hif2 : min (iv : Int) ((n - p : Nat) : Int) = (z : Int) := by split at hif <;> omega
      obtain ⟨hz1, hz2, hz3⟩ := hz0
      gi_wp2
      gi_region_with_o (fail)
      all_goals
        try simp only [hif, hif2]
        gi_wp2
        refine hR.mono ?_
        rintro e W3 (⟨rfl, hJ3, hk3⟩ | ⟨rfl, hJx3⟩)
        · have H3 : Hid (J (pre ++ [x]) W3 ∧ Boxed W3 Bs 41 (.slice a n c) ∧ Boxed W3 (Bs + 1) 3 (.int .i64 (iv : Int))) := ⟨hJ3, hk3.box.trans HX0.out, hk3.box1.trans HX1.out⟩
          have hy1 := H3.out.2.2.cell
          clear hJ3 hk3
          gi_wp2
          refine ⟨⟨p + iv, k + 1, pre ++ [x], by omega, by go_num, ⟨by rw [HKC.out.2], by have := HKC.out.1; omega⟩, ?_, ?_, H3.out.1, H3.out.2.1, H3.out.2.2⟩, ?_⟩
          · show FlX.ls (pre ++ [x]) = _
            rw [fls_snoc, HPR.out, HTK.out, HX2.out]
          · show (pre ++ [x]).length = k + 1
            simp [HLN.out]
          · simp [intOf]
            omega
        · gi_wp2
          refine bodyPost_ret (results_none rfl _ _ _) rfl ?_
          refine ⟨⟨_, rfl⟩, .inr ⟨_, ⟨(chG iv l).drop (k + 1), ?_⟩, hJx3⟩⟩
          rw [fls_snoc, HPR.out, HX2.out, ← HTK.out, List.take_append_drop]
    · gi_wp2
      go_end0
      refine ⟨⟨_, rfl⟩, .inl ⟨pre, ?_, HJ.out⟩⟩
      rw [HPR.out, List.take_of_length_le]
      obtain ⟨h1, h2⟩ := HP.out
      by_cases hk : k < (chG iv l).length
      · have := (chG_at hi1 l k).1.2 hk
        rw [HK.out.2] at this
        omega
      · omega
theorem fchunk_stops (f : Nat) (hf : 1 ≤ f) (w : World) (a : Option Addr) (n c iv : Nat) (l : List PF) (h : FlAt w a n c l) (hn : n ≤ 60000) (hi1 : 1 ≤ iv) (hi100 : iv ≤ 100) (Bs N0 : Nat) (w0 : World) (hB0 : Boxed w0 Bs 41 (.slice a n c)) (hB1 : Boxed w0 (Bs + 1) 3 (.int .i64 (iv : Int))) :
    SeqStopsK Fence.wide f Tryz.prog 158 #[.pointer (some ⟨Bs, 0, none⟩), .pointer (some ⟨Bs + 1, 0, none⟩)] (FlX.vals (a := a) (n := n) (c := c) (l := l)) (Kp15 N0 Bs) (fun xs => FlX.ls xs = chG iv l) (fun pre => ∃ t, FlX.ls pre ++ t = chG iv l) (chG iv l).length w0 :=
  fun lb J Jx W hW hJ _ hY h0 => fchunk1_in f hf w a n c iv l h hn hi1 hi100 lb Bs N0 J Jx W hJ hY ((hW.block _ hB0.lt).trans hB0) ((hW.block _ hB1.lt).trans hB1) h0
set_option maxRecDepth 100000 in
theorem fchunk_any (a : Option Addr) (n c iv : Nat) (hi1 : 1 ≤ iv) (w : World) : Calls Tryz.prog 104 #[.slice a n c, .int .i64 (iv : Int)] w fun e w' =>
    e = .returned (.func (.func 158) #[] #[.pointer (some ⟨w.heap.size, 0, none⟩), .pointer (some ⟨w.heap.size + 1, 0, none⟩)]) ∧ w' = (w.alloc (.cells #[.slice a n c] 41)).alloc (.cells #[.int .i64 (iv : Int)] 3) := by
  have hmf : ∀ (fn : Fn) (first cap : Array Value) (w : World), (Instr.makeFunc fn first cap).run Tryz.prog w = .ok (.func fn first cap) w := fun _ _ _ _ => rfl
  have hd : ¬ ((iv : Int) < 1) := by omega
  go_enter Tryz.func104, Tryz.ntmps104
  go_wp2
  go_ret
  exact ⟨ret1 rfl, rfl⟩
end Go.Proofs.YtmlfbihlbiikeaaGreatDoor
namespace Go.Proofs.YtmlfbihlbiikeaaGreatDoor
open Go.RowKit
set_option linter.unusedVariables false
set_option linter.unusedSimpArgs false
structure E5 (W : World) (b o : Nat) (x : PE) (s : SE) : Prop where
  c0 : W.cell? ⟨b, o, none⟩ = some (.int .u64 (x.log : Int))
  c1 : W.cell? ⟨b, o + 1, none⟩ = some (.int .u64 (x.next : Int))
  c2 : W.cell? ⟨b, o + 2, none⟩ = some (.int .u64 (x.last : Int))
  c3 : W.cell? ⟨b, o + 3, none⟩ = some (.slice s.a x.dels.length s.c)
  c4 : W.cell? ⟨b, o + 4, none⟩ = some (.slice s.a' x.adds.length s.c')
theorem EsAt.at {w : World} {a : Option Addr} {n c : Nat} {l : List (PE × SE)} (h : EsAt w a n c l) {k : Nat} (hk : k < l.length) : ∃ b o : Nat, (∀ W : World, (Instr.indexAt 52 (.slice a n c) (.int .i64 (k : Int))).run Tryz.prog W = .ok (.pointer (some ⟨b, o, none⟩)) W) ∧ b < w.heap.size ∧ (∀ W : World, Below w.heap.size w W → E5 W b o l[k].1 l[k].2) := by
  have hs := h.size
  obtain ⟨b, off, rfl, hc⟩ := h.row.here (by omega)
  have e0 := hc (k * 5 + 0) (by omega)
  have e1 := hc (k * 5 + 1) (by omega)
  have e2 := hc (k * 5 + 2) (by omega)
  have e3 := hc (k * 5 + 3) (by omega)
  have e4 := hc (k * 5 + 4) (by omega)
  rw [flat_get ec_len l k _ hk (by omega)] at e0 e1 e2 e3 e4
  simp only [Nat.add_zero, ← Nat.add_assoc] at e0 e1 e2 e3 e4
  have hlt : b < w.heap.size := World.block_lt_of_cell? w _ e0
  refine ⟨b, off + k * 5, fun W => ?_, hlt, fun W hW => ⟨by rw [hW.cell hlt]; exact e0, by rw [hW.cell hlt]; exact e1, by rw [hW.cell hlt]; exact e2, by rw [hW.cell hlt]; exact e3, by rw [hW.cell hlt]; exact e4⟩⟩
  have h1 : (0 : Int) ≤ (k : Int) ∧ (k : Int) < (n : Int) := by omega
  have hsz : (sizeOf (Tryz.prog.elem 52)).run Tryz.prog W = .ok 5 W := by kernel_rfl
  rw [run_indexAt_slice (P := Tryz.prog) (h := (by kernel_rfl : Tryz.prog.underlying 52 = some (.slice (Tryz.prog.elem 52)))), if_pos h1, hsz]
  simp [Result.andThen, Addr.add_lit]
end Go.Proofs.YtmlfbihlbiikeaaGreatDoor
