/- The contract of the shelf's part: two lists in the place of one. -/
import Derived.Test.YtnggajconglfcaaDoorM8Rep
import Derived.Test.YtnggajconglfcaaDoorM8Add
import Derived.Deep.RegionWith
namespace Go.Proofs.YtnggajconglfcaaDoor
open Go.RowKit
set_option linter.unusedVariables false
set_option linter.unusedSimpArgs false
section
variable {w W : World} {ls : List LG} {la la' : Option Addr} {lc lc' i p : Nat} {A B : LG} {v1 v2 v3 : Value}
/-- The lists with two in the place of one. -/
def parted (ls : List LG) (i : Nat) (A B : LG) : List LG := ls.take i ++ A :: B :: ls.drop (i + 1)
theorem parted_len (hi : i < ls.length) : (parted ls i A B).length = ls.length + 1 := by
  simp [parted]
  omega
theorem parted_mem {l : LG} (h : l ∈ parted ls i A B) : l = A ∨ l = B ∨ l ∈ ls := by
  unfold parted at h
  rcases List.mem_append.1 h with h | h
  · exact .inr (.inr (List.mem_of_mem_take h))
  · rcases List.mem_cons.1 h with h | h
    · exact .inl h
    · rcases List.mem_cons.1 h with h | h
      · exact .inr (.inl h)
      · exact .inr (.inr (List.mem_of_mem_drop h))
theorem parted_texts (hi : i < ls.length) (htx : ls[i].t = A.t ++ B.t) : texts (parted ls i A B) = texts ls := by
  rw [texts_split hi, htx]
  unfold parted texts
  rw [List.flatMap_append, List.flatMap_cons, List.flatMap_cons, List.append_assoc]
theorem parted_map (hi : i < ls.length) : (parted ls i A B).map (fun l => at_ l.p) = (ls.map fun l => at_ l.p).take i ++ [at_ A.p, at_ B.p] ++ (ls.map fun l => at_ l.p).drop (i + 1) := by
  simp [parted]
theorem ShAt.parted (h : ShAt w ls la lc) (hi : i < ls.length) (hA : LiOk W A) (hB : LiOk W B) (hAm : ∀ k, A.foot k → w.heap.size ≤ k) (hBm : ∀ k, B.foot k → w.heap.size ≤ k) (hAB : Apart A B) (htx : ls[i].t = A.t ++ B.t)
    (hrow : W.ownsRow 0 TLp 1 (.slice la' (ls.length + 1) lc') (ls.length + 1) ((parted ls i A B).map fun l => at_ l.p)) (hkeep : ∀ l ∈ ls, ∀ k, l.foot k → W.heap[k]? = w.heap[k]?) : ShAt W (Go.Proofs.YtnggajconglfcaaDoor.parted ls i A B) la' lc' := by
  have hlow : ∀ l ∈ ls, ∀ k, l.foot k → k < w.heap.size := fun l hl k hk => (h.each l hl).at'.lt hk
  refine ⟨by rw [parted_len hi]; exact hrow, fun l hl => ?_, ?_, by rw [parted_texts hi htx]; exact h.sorted⟩
  · rcases parted_mem hl with rfl | rfl | hl
    · exact hA
    · exact hB
    · exact (h.each l hl).kept (hkeep l hl)
  · have hap := h.apart
    rw [show ls = ls.take i ++ ls[i] :: ls.drop (i + 1) by rw [← List.drop_eq_getElem_cons hi, List.take_append_drop]] at hap
    obtain ⟨a1, a2, a3⟩ := List.pairwise_append.1 hap
    have a4 := (List.pairwise_cons.1 a2).2
    refine List.pairwise_append.2 ⟨a1, List.pairwise_cons.2 ⟨fun y hy k hk hk2 => ?_, List.pairwise_cons.2 ⟨fun y hy k hk hk2 => ?_, a4⟩⟩, fun x hx y hy k hk hk2 => ?_⟩
    · rcases List.mem_cons.1 hy with rfl | hy
      · exact hAB k hk hk2
      · have h1 := hAm k hk
        have h2 := hlow y (List.mem_of_mem_drop hy) k hk2
        omega
    · have h1 := hBm k hk
      have h2 := hlow y (List.mem_of_mem_drop hy) k hk2
      omega
    · have h2 := hlow x (List.mem_of_mem_take hx) k hk
      rcases List.mem_cons.1 hy with rfl | hy
      · have h1 := hAm k hk2
        omega
      · rcases List.mem_cons.1 hy with rfl | hy
        · have h1 := hBm k hk2
          omega
        · exact a3 x hx y (List.mem_cons_of_mem _ hy) k hk hk2
/-- What part leaves. -/
structure PartIn (w w' : World) (p : Nat) (v1 v2 v3 : Value) (ls : List LG) (i : Nat) (A B : LG) (la la' : Option Addr) (lc' : Nat) : Prop where
  sh : ShAt w' (parted ls i A B) la' lc'
  box : Box w' p TT #[.slice la' (parted ls i A B).length lc', v1, v2, v3]
  same : texts (parted ls i A B) = texts ls
  roomA : A.S.ops.length < 1000
  roomB : B.S.ops.length < 1000
  chg : Chg (fun k => k = p ∨ ShFoot ls la k) w w'
  foot : ∀ k, ShFoot (parted ls i A B) la' k → ShFoot ls la k ∨ w.heap.size ≤ k
theorem StAt.upTo {a : Option Addr} {n c k : Nat} {l : List ByteArray} (h : StAt w a n c l) (hk : k ≤ n) : StAt w a k c (l.take k) := by
  have hs := h.size
  refine ⟨by simp; omega, Nat.le_trans hk h.le, h.max, fun hp => ?_⟩
  obtain ⟨b, off, ha, hc⟩ := h.here (by omega)
  refine ⟨b, off, ha, fun j hj => ?_⟩
  rw [hc j (by omega)]
  simp [List.getD, hj]
theorem StAt.upFrom {b off n c k : Nat} {l : List ByteArray} (h : StAt w (some ⟨b, off, none⟩) n c l) (hk : k ≤ n) : StAt w (some ⟨b, off + k, none⟩) (n - k) (c - k) (l.drop k) := by
  have hs := h.size
  have hle := h.le
  have hm := h.max
  refine ⟨by simp; omega, by omega, by omega, fun hp => ?_⟩
  obtain ⟨b', off', ha, hc⟩ := h.here (by omega)
  simp only [Option.some.injEq, Addr.mk.injEq] at ha
  obtain ⟨rfl, rfl, _⟩ := ha
  refine ⟨b, off + k, rfl, fun j hj => ?_⟩
  rw [Nat.add_assoc, hc (k + j) (by omega)]
  simp [List.getD]
theorem Listed.ok {w' : World} {l : LG} {L : List ByteArray} (h : Listed w w' l L) (hL : 0 < L.length) : LiOk w' l ∧ l.S.ops.length = L.length := by
  have e : l.S.ops.length = L.length := by
    have := congrArg List.length h.keys
    simp [PS.keys] at this
    exact this
  exact ⟨⟨h.at', h.all, h.room, by omega⟩, e⟩
set_option maxRecDepth 100000 in
theorem slS1 (b c : Nat) (hc : 1000 ≤ c) (W : World) : (Instr.slice 71 (.slice (some ⟨b, 0, none⟩) 1000 c) none (some (.int .i64 500)) none).run Tryd.prog W = .ok (.slice (some ⟨b, 0, none⟩) 500 c) W := by
  have h2 : ¬ (c = 0) := by omega
  have h3 : 500 ≤ c := by omega
  have h4 : ¬ ((c : Int) < 500) := by omega
  simp [Instr.slice, run_underlying Tryd.underlying71, Instr.sliceBounds, Instr.sliceBound, asIntOf, h2, h3, h4, sizeStr, Addr.add_lit, go_sem]
set_option maxRecDepth 100000 in
theorem slS2 (b c : Nat) (hc : 1000 ≤ c) (W : World) : (Instr.slice 71 (.slice (some ⟨b, 0, none⟩) 1000 c) (some (.int .i64 500)) none none).run Tryd.prog W = .ok (.slice (some ⟨b, 500, none⟩) 500 (c - 500)) W := by
  have h2 : ¬ (c = 500) := by omega
  have h3 : 500 ≤ c := by omega
  have hsz : (sizeOf 9).run Tryd.prog W = .ok 1 W := by kernel_rfl
  simp [Instr.slice, run_underlying Tryd.underlying71, Instr.sliceBounds, Instr.sliceBound, asIntOf, h2, h3, hsz, Addr.add_lit, go_sem]
theorem part_box {g g' c' : Nat} {vy vz : World} {cur : Array Value} {o : Obj} {L : List Value} (hb : Box w p TT #[.slice (some ⟨g, 0, none⟩) ls.length lc, v1, v2, v3]) (hcb : Box w g TLp cur) (By : Below w.heap.size w vy) (hR : Repl (vy.alloc o) vz g ls.length g' c' L) : Box vz p TT #[.slice (some ⟨g, 0, none⟩) ls.length lc, v1, v2, v3] := by
  have Bb : Below w.heap.size w (vy.alloc o) := By.alloc By.size _
  have hgp : g ≠ p := tag_ne hcb.tag hb.tag (by decide)
  exact (hb.kept (Bb.block p hb.lt)).kept (hR.chg.block p (Nat.lt_of_lt_of_le hb.lt Bb.size) (Ne.symm hgp))
theorem part_end {g g' c' : Nat} {w1 W0 vx vy vz : World} {L : List ByteArray} {cur : Array Value} (h : ShAt w ls (some ⟨g, 0, none⟩) lc) (hb : Box w p TT #[.slice (some ⟨g, 0, none⟩) ls.length lc, v1, v2, v3]) (hi : i < ls.length) (hcb : Box w g TLp cur) (hct : cur.toList.take ls.length = ls.map fun l => at_ l.p) (hb1 : Below w.heap.size w w1) (hW0 : Below w1.heap.size w1 W0) (hA : Listed W0 vx A (L.take 500)) (hB : Listed vx vy B (L.drop 500)) (hL : ls[i].t = L) (hso : L.Pairwise (fun a b => kl a b = true)) (hLl : L.length = 1000)
    (hR : Repl (vy.alloc (.cells #[at_ A.p, at_ B.p] TLp)) vz g ls.length g' c' (cur.toList.take i ++ [at_ A.p, at_ B.p] ++ (cur.toList.take ls.length).drop (i + 1))) : PartIn w (vz.setCell ⟨p, 0, none⟩ (.slice (some ⟨g', 0, none⟩) (ls.length + 1) c')) p v1 v2 v3 ls i A B (some ⟨g, 0, none⟩) (some ⟨g', 0, none⟩) c' := by
  have B0 : Below w.heap.size w W0 := hb1.trans (hW0.mono hb1.size)
  have Bx : Below w.heap.size w vx := B0.trans (hA.base.mono B0.size)
  have By : Below w.heap.size w vy := Bx.trans (hB.base.mono Bx.size)
  have Bb : Below w.heap.size w (vy.alloc (.cells #[at_ A.p, at_ B.p] TLp)) := By.alloc By.size _
  have s0 := B0.size
  have sx := hA.base.size
  have sy := hB.base.size
  have sb : (vy.alloc (.cells #[at_ A.p, at_ B.p] TLp)).heap.size = vy.heap.size + 1 := by simp
  have hpl := hb.lt
  have hgl := hcb.lt
  have hgp : g ≠ p := tag_ne hcb.tag hb.tag (by decide)
  have hgp' : g' ≠ p := by
    rcases hR.mine with e | e
    · rw [e]; exact hgp
    · omega
  have hkeep : ∀ k, k ≠ p → k ≠ g → k < vy.heap.size → (vz.setCell ⟨p, 0, none⟩ (.slice (some ⟨g', 0, none⟩) (ls.length + 1) c')).heap[k]? = vy.heap[k]? := fun k h1 h2 h3 => by
    rw [Below.heap_setCell _ _ _ _ h1, hR.chg.block k (by omega) h2, Below.heap_alloc _ _ _ h3]
  have oA := hA.ok (by rw [List.length_take]; omega)
  have oB := hB.ok (by rw [List.length_drop]; omega)
  have fA : ∀ k, A.foot k → W0.heap.size ≤ k ∧ k < vx.heap.size := fun k hk => ⟨hA.mine k hk, oA.1.at'.lt hk⟩
  have fB : ∀ k, B.foot k → vx.heap.size ≤ k ∧ k < vy.heap.size := fun k hk => ⟨hB.mine k hk, oB.1.at'.lt hk⟩
  have htx : ls[i].t = A.t ++ B.t := by
    rw [hA.t (hso.sublist (List.take_sublist _ _)), hB.t (hso.sublist (List.drop_sublist _ _)), List.take_append_drop]
    exact hL
  have lA : LiOk (vz.setCell ⟨p, 0, none⟩ (.slice (some ⟨g', 0, none⟩) (ls.length + 1) c')) A := oA.1.kept fun k hk => by
    have := fA k hk
    rw [hkeep k (by omega) (by omega) (by omega), hB.base.block k this.2]
  have lB : LiOk (vz.setCell ⟨p, 0, none⟩ (.slice (some ⟨g', 0, none⟩) (ls.length + 1) c')) B := oB.1.kept fun k hk => by
    have := fB k hk
    rw [hkeep k (by omega) (by omega) (by omega)]
  obtain ⟨cur', hc1, hc2, hc3⟩ := hR.here
  have hsh := h.parted hi lA lB (fun k hk => by have := fA k hk; omega) (fun k hk => by have := fB k hk; omega) (fun k hk hk2 => by have := fA k hk; have := fB k hk2; omega) htx (la' := some ⟨g', 0, none⟩) (lc' := c')
    ⟨by rw [List.length_map, parted_len hi, Nat.mul_one], .inr ⟨g', c', cur', rfl, Nat.zero_le _, hc1.other hgp' _ _, hR.le, hR.max, by omega, by rw [Nat.mul_one, hc3, parted_map hi, ← hct, List.take_take, show min i ls.length = i by omega]⟩⟩
    (fun l hl k hk => by
      have hkl := (h.each l hl).at'.lt hk
      have hkg : k ≠ g := fun e => h.row_not (h.each l hl) (k := g) rfl (e ▸ hk)
      have hkp : k ≠ p := fun e => h.not_p hb (.inr ⟨l, hl, e ▸ hk⟩)
      rw [hkeep k hkp hkg (by omega), By.block k hkl])
  refine ⟨hsh, ?_, parted_texts hi htx, by rw [oA.2, List.length_take]; omega, by rw [oB.2, List.length_drop]; omega, ?_, fun k hk => ?_⟩
  · have bz : Box vz p TT #[.slice (some ⟨g, 0, none⟩) ls.length lc, v1, v2, v3] := (hb.kept (Bb.block p hpl)).kept (hR.chg.block p (by omega) (Ne.symm hgp))
    rw [parted_len hi]
    exact (bz.set 0 _).eq rfl
  · exact Chg.set (R := fun k => k = p ∨ ShFoot ls (some ⟨g, 0, none⟩) k) ((Chg.of Bb).andThen hR.chg fun k _ e => .inr (.inl (by rw [e]; rfl))) (fun _ => .inl rfl) 0 _
  · rcases hk with hk | ⟨l, hl, hk⟩
    · have e : g' = k := Option.some.inj hk
      rcases hR.mine with e2 | e2
      · exact .inl (.inl (by rw [← e, e2]; rfl))
      · exact .inr (by omega)
    · rcases parted_mem hl with rfl | rfl | hl
      · have := fA k hk
        exact .inr (by omega)
      · have := fB k hk
        exact .inr (by omega)
      · exact .inl (.inr ⟨l, hl, hk⟩)
set_option maxRecDepth 100000 in
set_option maxHeartbeats 4000000 in
theorem part_at (h : ShAt w ls la lc) (hb : Box w p TT #[.slice la ls.length lc, v1, v2, v3]) (hi : i < ls.length) (hf : ls[i].S.ops.length = 1000) (hn : ls.length + 1 ≤ 17592186044416) (hg : Glob w) :
    Calls Tryd.prog 36 #[at_ p, .int .i64 (i : Int)] w fun e w' => e = .returned (.tuple #[]) ∧ ∃ A B la' lc', PartIn w w' p v1 v2 v3 ls i A B la la' lc' := by
  have hli := h.each _ (List.getElem_mem hi)
  have hlen : (ls[i].S.lev 0).length = 1000 := by rw [hli.at'.inv.lev_len hli.all, hf]
  have HKy := keys_at hli.at' (l := 0) (by decide)
  rw [hlen] at HKy
  have hso : ls[i].t.Pairwise (fun a b => kl a b = true) := hli.at'.inv.lk_sorted
  have hzz : ∀ b ∈ ls[i].t, b.size ≤ 9223372036854775807 := fun b hb => by
    have hm := (hli.at'.inv.lk_mem hli.all b).1 hb
    obtain ⟨j, hj, e⟩ := PS.mem_keys.1 hm
    rw [← e]
    exact hli.at'.inv.long j hj
  have htl : ls[i].t.length = 1000 := by
    have := hli.at'.inv.lk_len hli.all
    rw [hf] at this
    exact this
  rw [show ls[i].S.lk 0 = ls[i].t from rfl] at HKy
  have HT : Hid (ls[i].t.Pairwise (fun a b => kl a b = true) ∧ (∀ b ∈ ls[i].t, b.size ≤ 9223372036854775807) ∧ ls[i].t.length = 1000) := ⟨hso, hzz, htl⟩
  have HA : Hid (ShAt w ls la lc ∧ Box w p TT #[.slice la ls.length lc, v1, v2, v3] ∧ Glob w) := ⟨h, hb, hg⟩
  obtain ⟨g, hla, hcell⟩ := h.cell hi
  subst hla
  have hrow : ∃ cur, Box w g TLp cur ∧ ls.length ≤ lc ∧ lc ≤ maxLen ∧ cur.size = lc ∧ cur.toList.take ls.length = ls.map fun l => at_ l.p := by
    rcases h.row.2 with ⟨hv, _⟩ | ⟨g', c', cur, hv, _, h2, h3, h4, h5, h6⟩
    · simp at hv
    · simp only [Value.slice.injEq, Option.some.injEq, Addr.mk.injEq, true_and, and_true] at hv
      obtain ⟨rfl, rfl⟩ := hv
      exact ⟨cur, h2, h3, h4, by omega, by rw [Nat.mul_one] at h6; exact h6⟩
  obtain ⟨cur, hcur, hnl, hlm, hcs, hct⟩ := hrow
  have HC : Hid (Box w g TLp cur ∧ lc ≤ maxLen ∧ cur.size = lc ∧ cur.toList.take ls.length = ls.map fun l => at_ l.p) := ⟨hcur, hlm, hcs, hct⟩
  have HI : Hid (i < ls.length) := hi
  have hp : w.cell? ⟨p, 0, none⟩ = some (.slice (some ⟨g, 0, none⟩) ls.length lc) := hb.cell 0
  have hidx := fun W => idxList W (a := some ⟨g, 0, none⟩) (b := g) (off := 0) (n := ls.length) (c := lc) rfl hi
  simp only [Nat.zero_add] at hidx
  have hpl := hb.lt
  unfold maxLen at hlm
  generalize ls[i].p = pi at HKy hcell
  generalize hLL : ls[i].t = L at HKy HT
  have HLL : Hid (ls[i].t = L) := hLL
  clear h hb hg hli hlen hso hzz htl hcur hcs hct hf hLL
  go_enter Tryd.func36, Tryd.ntmps36
  go_wp2_with fail
  refine HKy.mono ?_
  rintro _ w1 ⟨ka, kc, rfl, ho, hb1⟩
  have hst := ho.st
  obtain ⟨kb, koff, hka, _⟩ := hst.here (by decide)
  have hk0 : koff = 0 := by
    obtain ⟨_, _, _, h4⟩ := row_addr ho.row
    obtain ⟨g2, e2⟩ := h4 (by decide)
    rw [hka] at e2
    simp only [Option.some.injEq, Addr.mk.injEq] at e2
    exact e2.2.1
  subst hka hk0
  have hkc := hst.le
  have hkm := hst.max
  unfold maxLen at hkm
  have hl1 := slS1 kb kc hkc
  have hl2 := slS2 kb kc hkc
  have HB1 : Hid (Below w.heap.size w w1 ∧ StAt w1 (some ⟨kb, 0, none⟩) 1000 kc L) := ⟨hb1, hst⟩
  clear HKy ho hst
  have HL1 : Hid (∀ W, Below w1.heap.size w1 W → Calls Tryd.prog 33 #[.slice (some ⟨kb, 0, none⟩) 500 kc] W fun e w' => ∃ l : LG, e = .returned (at_ l.p) ∧ Listed W w' l (L.take 500)) := fun W hW => listOf_at ((HB1.out.2.below hW).upTo (by decide)) (HT.out.1.sublist (List.take_sublist _ _)) (by decide) (fun b hb => HT.out.2.1 b (List.mem_of_mem_take hb)) (HA.out.2.2.of_below0 (HB1.out.1.trans (hW.mono HB1.out.1.size)))
  have HL2 : Hid (∀ W, Below w1.heap.size w1 W → Calls Tryd.prog 33 #[.slice (some ⟨kb, 500, none⟩) 500 (kc - 500)] W fun e w' => ∃ l : LG, e = .returned (at_ l.p) ∧ Listed W w' l (L.drop 500)) := fun W hW => by
    have := (HB1.out.2.below hW).upFrom (k := 500) (by decide)
    rw [Nat.zero_add] at this
    exact listOf_at this (HT.out.1.sublist (List.drop_sublist _ _)) (by decide) (fun b hb => HT.out.2.1 b (List.mem_of_mem_drop hb)) (HA.out.2.2.of_below0 (HB1.out.1.trans (hW.mono HB1.out.1.size)))
  have HB0 : Hid (Below w1.heap.size w1 w1.drew) := (Below.refl _ _).drew
  have g0 : w1.drew.cell? ⟨p, 0, none⟩ = some (.slice (some ⟨g, 0, none⟩) ls.length lc) := by
    show w1.cell? _ = _
    rw [hb1.cell hpl]
    exact hp
  clear hb1 hcell hp
  have HP : Hid (w.cell? ⟨p, 0, none⟩ = some (.slice (some ⟨g, 0, none⟩) ls.length lc) ∧ p < w.heap.size ∧ ls.length + 1 ≤ 17592186044416 ∧ ls.length ≤ lc) := ⟨HA.out.2.1.cell 0, hpl, hn, hnl⟩
  have HRp : Hid (∀ (W : World) (a b : Nat), Below w1.heap.size w1 W → Calls Tryd.prog 48 #[.slice (some ⟨g, 0, none⟩) ls.length lc, .int .i64 (i : Int), .int .i64 ((i : Int) + 1), .slice (some ⟨W.heap.size, 0, none⟩) 2 2] (W.alloc (.cells #[at_ a, at_ b] TLp)) fun e w' => ∃ g' c', e = .returned (.slice (some ⟨g', 0, none⟩) (ls.length + 1) c') ∧ Repl (W.alloc (.cells #[at_ a, at_ b] TLp)) w' g ls.length g' c' (cur.toList.take i ++ [at_ a, at_ b] ++ (cur.toList.take ls.length).drop (i + 1))) := fun W a b hW => by
    have hbW : Below w.heap.size w W := HB1.out.1.trans (hW.mono HB1.out.1.size)
    have hgl := HC.out.1.lt
    have := hbW.size
    refine replace_at ((HC.out.1.kept (hbW.block _ hgl)).alloc _) HC.out.2.2.1 HI.out HP.out.2.2.2 HC.out.2.1 (Box.new W TLp _) (by omega) (fun v hv => ?_) HP.out.2.2.1
    rw [HC.out.2.2.2] at hv
    obtain ⟨l, _, rfl⟩ := List.mem_map.1 hv
    rfl
  have hwi : IntKind.i64.wrap ((i : Int) + 1) = (i : Int) + 1 := by rw [IntKind.wrap_i64]; omega
  clear hn hnl hidx
  go_wp2_with fail
  go_region_with (first
    | (go_at_call 33; refine (HL2.out _ HX1.out.2).mono ?_; rintro _ vy ⟨B, rfl, hB⟩
       have HX2 : Hid (Listed vx vy B (L.drop 500) ∧ Below w1.heap.size w1 vy) := ⟨hB, HX1.out.2.trans (hB.base.mono HX1.out.2.size)⟩
       have g0 : vy.cell? ⟨p, 0, none⟩ = some (.slice (some ⟨g, 0, none⟩) ls.length lc) := by rw [(HB1.out.1.trans (HX2.out.2.mono HB1.out.1.size)).cell HP.out.2.1]; exact HP.out.1
       have g1 : (vy.alloc (.cells #[at_ A.p, at_ B.p] TLp)).cell? ⟨p, 0, none⟩ = some (.slice (some ⟨g, 0, none⟩) ls.length lc) := by rw [((HB1.out.1.trans (HX2.out.2.mono HB1.out.1.size)).alloc (HB1.out.1.trans (HX2.out.2.mono HB1.out.1.size)).size _).cell HP.out.2.1]; exact HP.out.1
       clear hB)
    | (go_at_call 33; refine (HL1.out _ HB0.out).mono ?_; rintro _ vx ⟨A, rfl, hA⟩
       have HX1 : Hid (Listed w1.drew vx A (L.take 500) ∧ Below w1.heap.size w1 vx) := ⟨hA, HB0.out.trans (hA.base.mono HB0.out.size)⟩
       have g0 : vx.cell? ⟨p, 0, none⟩ = some (.slice (some ⟨g, 0, none⟩) ls.length lc) := by rw [(HB1.out.1.trans (HX1.out.2.mono HB1.out.1.size)).cell HP.out.2.1]; exact HP.out.1
       clear hA)
    | (go_at_call 48; refine (HRp.out vy A.p B.p HX2.out.2).mono ?_; rintro _ vz ⟨g', c', rfl, hR⟩
       have HX3 : Hid (Repl (vy.alloc (.cells #[at_ A.p, at_ B.p] TLp)) vz g ls.length g' c' (cur.toList.take i ++ [at_ A.p, at_ B.p] ++ (cur.toList.take ls.length).drop (i + 1))) := hR
       have bz : Box vz p TT #[.slice (some ⟨g, 0, none⟩) ls.length lc, v1, v2, v3] := part_box HA.out.2.1 HC.out.1 (HB1.out.1.trans (HX2.out.2.mono HB1.out.1.size)) hR
       have g0 : vz.cell? ⟨p, 0, none⟩ = some (.slice (some ⟨g, 0, none⟩) ls.length lc) := bz.cell 0
       have gf := bz.soft 0
       clear hR bz))
  all_goals go_wp2
  all_goals go_returns
  all_goals exact ⟨rfl, A, B, _, _, part_end HA.out.1 HA.out.2.1 HI.out HC.out.1 HC.out.2.2.2 HB1.out.1 HB0.out HX1.out.1 HX2.out.1 HLL.out HT.out.1 HT.out.2.2 HX3.out⟩
end
end Go.Proofs.YtnggajconglfcaaDoor
