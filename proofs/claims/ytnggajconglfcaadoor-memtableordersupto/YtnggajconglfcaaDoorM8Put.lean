/- The contract of the shelf's put, where no list is full. -/
import Derived.Test.YtnggajconglfcaaDoorM8List
import Derived.Test.YtnggajconglfcaaDoorM8Seek
namespace Go.Proofs.YtnggajconglfcaaDoor
open Go.RowKit
set_option linter.unusedVariables false
set_option linter.unusedSimpArgs false
abbrev TT : TypeId := 58
/-- What put leaves. -/
structure PutIn (w w' : World) (p : Nat) (v1 v2 v3 : Value) (ls ls' : List LG) (la la' : Option Addr) (lc' : Nat) (t : ByteArray) : Prop where
  sh : ShAt w' ls' la' lc'
  box : Box w' p TT #[.slice la' ls'.length lc', v1, v2, v3]
  mem : ∀ x, x ∈ texts ls' ↔ x = t ∨ x ∈ texts ls
  chg : Chg (fun k => k = p ∨ ShFoot ls la k) w w'
  foot : ∀ k, ShFoot ls' la' k → ShFoot ls la k ∨ w.heap.size ≤ k
section
variable {w w' : World} {ls : List LG} {la : Option Addr} {lc : Nat} {t : ByteArray} {r p : Nat} {v1 v2 v3 : Value}
theorem LiOk.tags {l : LG} (h : LiOk w l) {k : Nat} (hk : l.foot k) : ∃ t, tag w k = some t ∧ skTag t := h.at'.tags hk
theorem ShAt.tags (h : ShAt w ls la lc) {k : Nat} (hk : ShFoot ls la k) : ∃ t, tag w k = some t ∧ (skTag t ∨ t = TLp) := by
  rcases hk with hk | ⟨l, hl, hk⟩
  · exact ⟨_, row_tag h.row (by rw [own_blk]; exact hk), .inr rfl⟩
  · obtain ⟨t, h1, h2⟩ := (h.each l hl).tags hk
    exact ⟨t, h1, .inl h2⟩
theorem not_skTag_TT : ¬ (skTag TT ∨ TT = TLp) := by
  rintro ((h | h | h | h | h) | h) <;> exact absurd h (by decide)
theorem not_skTag_TLp : ¬ skTag TLp := by
  rintro (h | h | h | h | h) <;> exact absurd h (by decide)
theorem ShAt.not_p (h : ShAt w ls la lc) {arr : Array Value} (hb : Box w p TT arr) : ¬ ShFoot ls la p := fun hk => by
  obtain ⟨t, h1, h2⟩ := h.tags hk
  rw [hb.tag] at h1
  rw [← Option.some.inj h1] at h2
  exact not_skTag_TT h2
theorem ShAt.row_not (h : ShAt w ls la lc) {l : LG} (hl : LiOk w l) {k : Nat} (hk : blkOf la = some k) : ¬ l.foot k := fun hf => by
  obtain ⟨t, h1, h2⟩ := hl.tags hf
  rw [row_tag h.row (by rw [own_blk]; exact hk)] at h1
  rw [← Option.some.inj h1] at h2
  exact not_skTag_TLp h2
/-- Where a text belongs: all ahead is less, all behind is greater. -/
theorem ShAt.around (h : ShAt w ls la lc) (hp : Place ls t r) (hn : 0 < ls.length) (hnt : t ∉ texts ls) : (∀ b ∈ texts (ls.take (min r (ls.length - 1))), kl b t = true) ∧ ∀ b ∈ texts (ls.drop (min r (ls.length - 1) + 1)), kl t b = true := by
  have hle := hp.le
  constructor
  · intro b hb
    refine h.ahead hp b ?_
    obtain ⟨l, hl, hb⟩ := mem_texts.1 hb
    exact mem_texts.2 ⟨l, List.take_subset_take_left ls (by omega) hl, hb⟩
  · intro b hb
    by_cases hr : r < ls.length
    · rw [show min r (ls.length - 1) = r by omega] at hb
      have h1 := hp.hi r hr (Nat.le_refl _)
      have hlr := h.each _ (List.getElem_mem hr)
      have h2 : kl ls[r].last b = true := by
        have hs := h.sorted
        rw [texts_split hr] at hs
        exact (List.pairwise_append.1 (List.pairwise_append.1 hs).2.1).2.2 _ hlr.last_mem b hb
      have h3 : kl t ls[r].last = true := by
        cases hk : kl t ls[r].last with
        | true => rfl
        | false => exact absurd (mem_texts.2 ⟨ls[r], List.getElem_mem hr, by rw [kl_total hk h1]; exact hlr.last_mem⟩) hnt
      exact kl_trans h3 h2
    · rw [List.drop_eq_nil_of_le (by omega)] at hb
      simp [texts] at hb
/-- One list with one more text. -/
theorem ShAt.turned (h : ShAt w ls la lc) {i : Nat} (hi : i < ls.length) {S' : PS} {g' : SG} (hl : LaidIn w w' ls[i].p ls[i].S S' ls[i].g g' t) (h1 : ∀ b ∈ texts (ls.take i), kl b t = true) (h2 : ∀ b ∈ texts (ls.drop (i + 1)), kl t b = true) :
    ShAt w' (ls.set i ⟨ls[i].p, S', g'⟩) la lc ∧ (∀ x, x ∈ texts (ls.set i ⟨ls[i].p, S', g'⟩) ↔ x = t ∨ x ∈ texts ls) ∧ (∀ k, ShFoot (ls.set i ⟨ls[i].p, S', g'⟩) la k → ShFoot ls la k ∨ w.heap.size ≤ k) := by
  have hli := h.each _ (List.getElem_mem hi)
  have hlk : ∀ x, x ∈ S'.lk 0 ↔ x = t ∨ x ∈ ls[i].t := fun x => by
    show _ ↔ _ ∨ x ∈ ls[i].S.lk 0
    rw [hl.at'.inv.lk_mem hl.all, hli.at'.inv.lk_mem hli.all, hl.keys]
    simp
    exact Or.comm
  have hi' : i < (ls.set i ⟨ls[i].p, S', g'⟩).length := by simpa using hi
  have e1 := texts_split hi'
  have e2 := texts_split hi
  rw [List.getElem_set_self, List.take_set_of_le (Nat.le_refl _), List.drop_set_of_lt (by omega)] at e1
  have hs := h.sorted
  rw [e2] at hs
  obtain ⟨s1, s2, s3⟩ := List.pairwise_append.1 hs
  obtain ⟨s4, s5, s6⟩ := List.pairwise_append.1 s2
  have hother : ∀ j (hj : j < ls.length), j ≠ i → Apart ls[j] ls[i] := fun j hj hji => by
    rcases Nat.lt_or_ge j i with hlt | hge
    · exact List.pairwise_iff_getElem.1 h.apart j i hj hi hlt
    · intro k hk hk2
      exact List.pairwise_iff_getElem.1 h.apart i j hi hj (by omega) k hk2 hk
  refine ⟨⟨?_, fun l hl' => ?_, ?_, ?_⟩, fun x => ?_, fun k hk => ?_⟩
  · have hr : w'.ownsRow 0 TLp 1 (.slice la ls.length lc) ls.length (ls.map fun l => at_ l.p) := row_same h.row fun b e => hl.chg.block b (tag_lt (row_tag h.row e)) (h.row_not hli (by rw [← own_blk la ls.length lc]; exact e))
    have em : (ls.set i ⟨ls[i].p, S', g'⟩).map (fun l => at_ l.p) = ls.map fun l => at_ l.p := by
      rw [List.map_set]
      apply List.ext_getElem
      · simp
      · intro j h1 h2
        by_cases hji : i = j
        · subst hji
          simp
        · simp [hji]
    rw [List.length_set, em]
    exact hr
  · obtain ⟨j, hj, rfl⟩ := List.mem_iff_getElem.1 hl'
    by_cases hji : i = j
    · subst hji
      rw [List.getElem_set_self]
      refine ⟨hl.at', hl.all, by rw [hl.room]; exact hli.room, ?_⟩
      have := congrArg List.length hl.keys
      simp [PS.keys] at this
      show 0 < S'.ops.length
      omega
    · rw [List.getElem_set_ne hji]
      have hj' : j < ls.length := by simpa using hj
      refine (h.each _ (List.getElem_mem hj')).kept fun k hk => hl.chg.block k ((h.each _ (List.getElem_mem hj')).at'.lt hk) (hother j hj' (Ne.symm hji) k hk)
  · rw [List.pairwise_iff_getElem]
    intro a b ha hb hab
    have ha' : a < ls.length := by simpa using ha
    have hb' : b < ls.length := by simpa using hb
    by_cases hia : i = a
    · subst hia
      rw [List.getElem_set_self, List.getElem_set_ne (by omega)]
      intro k hk hk2
      rcases hl.foot k hk with h5 | h5
      · exact List.pairwise_iff_getElem.1 h.apart i b hi hb' hab k h5 hk2
      · have := (h.each _ (List.getElem_mem hb')).at'.lt hk2
        omega
    · rw [List.getElem_set_ne hia]
      by_cases hib : i = b
      · subst hib
        rw [List.getElem_set_self]
        intro k hk hk2
        rcases hl.foot k hk2 with h5 | h5
        · exact List.pairwise_iff_getElem.1 h.apart a i ha' hi hab k hk h5
        · have := (h.each _ (List.getElem_mem ha')).at'.lt hk
          omega
      · rw [List.getElem_set_ne hib]
        exact List.pairwise_iff_getElem.1 h.apart a b ha' hb' hab
  · rw [e1]
    refine List.pairwise_append.2 ⟨s1, List.pairwise_append.2 ⟨hl.at'.inv.lk_sorted, s5, fun a ha b hb => ?_⟩, fun a ha b hb => ?_⟩
    · rcases (hlk a).1 ha with rfl | ha
      · exact h2 b hb
      · exact s6 a ha b hb
    · rcases List.mem_append.1 hb with hb | hb
      · rcases (hlk b).1 hb with rfl | hb
        · exact h1 a ha
        · exact s3 a ha b (List.mem_append_left _ hb)
      · exact s3 a ha b (List.mem_append_right _ hb)
  · rw [e1, e2]
    simp only [List.mem_append]
    have : x ∈ (⟨ls[i].p, S', g'⟩ : LG).t ↔ x = t ∨ x ∈ ls[i].t := hlk x
    rw [this]
    constructor
    · rintro (h | (h | h) | h)
      · exact .inr (.inl h)
      · exact .inl h
      · exact .inr (.inr (.inl h))
      · exact .inr (.inr (.inr h))
    · rintro (h | h | h | h)
      · exact .inr (.inl (.inl h))
      · exact .inl h
      · exact .inr (.inl (.inr h))
      · exact .inr (.inr h)
  · rcases hk with hk | ⟨l, hl', hk⟩
    · exact .inl (.inl hk)
    · obtain ⟨j, hj, rfl⟩ := List.mem_iff_getElem.1 hl'
      by_cases hji : i = j
      · subst hji
        rw [List.getElem_set_self] at hk
        rcases hl.foot k hk with h5 | h5
        · exact .inl (.inr ⟨ls[i], List.getElem_mem hi, h5⟩)
        · exact .inr h5
      · rw [List.getElem_set_ne hji] at hk
        exact .inl (.inr ⟨_, List.getElem_mem (by simpa using hj), hk⟩)
set_option maxRecDepth 100000 in
theorem idxList (w : World) {a : Option Addr} {b off n c i : Nat} (ha : a = some ⟨b, off, none⟩) (hi : i < n) : (Instr.indexAt 53 (.slice a n c) (.int .i64 (i : Int))).run Tryd.prog w = .ok (.pointer (some ⟨b, off + i, none⟩)) w := by
  subst ha
  have h1 : (0 : Int) ≤ (i : Int) ∧ (i : Int) < (n : Int) := by omega
  have hsz : (sizeOf (Tryd.prog.elem 53)).run Tryd.prog w = .ok 1 w := by kernel_rfl
  rw [run_indexAt_slice (P := Tryd.prog) (h := Tryd.underlying53), if_pos h1, hsz]
  simp [Result.andThen, Addr.add_lit]
set_option maxRecDepth 100000 in
set_option maxHeartbeats 1000000 in
theorem put_lay (h : ShAt w ls la lc) (hb : Box w p TT #[.slice la ls.length lc, v1, v2, v3]) (hn0 : 0 < ls.length) (hn : ls.length < 4611686018427387904) (hnt : t ∉ texts ls) (hz : t.size ≤ 9223372036854775807) {hh : Nat} (hh1 : 1 ≤ hh ∧ hh ≤ 8) (hfit : ∀ l ∈ ls, l.S.ops.length < 1000) :
    Calls Tryd.prog 23 #[at_ p, .string t, .int .i64 (hh : Int)] w fun e w' => e = .returned (.tuple #[]) ∧ ∃ ls' la' lc', PutIn w w' p v1 v2 v3 ls ls' la la' lc' t := by
  have hp : w.cell? ⟨p, 0, none⟩ = some (.slice la ls.length lc) := hb.cell 0
  have HP := placeFor_at h t hp hn hn0
  have HS : Hid (ShAt w ls la lc) := h
  have HB : Hid (Box w p TT #[.slice la ls.length lc, v1, v2, v3]) := hb
  have HF : Hid (∀ l ∈ ls, l.S.ops.length < 1000) := hfit
  have HT : Hid (t ∉ texts ls) := hnt
  have hll := h.len_le
  unfold maxLen at hll
  have hne : ((ls.length : Int) == 0) = false := beq_eq_false_iff_ne.2 (by omega)
  clear h hb hfit hnt
  go_enter Tryd.func23, Tryd.ntmps23
  go_wp2_with fail
  refine HP.mono ?_
  rintro _ w1 ⟨r, rfl, hr, hb1⟩
  have S1 := HS.out.below hb1
  have hi : min r (ls.length - 1) < ls.length := by omega
  have har := HS.out.around hr hn0 HT.out
  generalize hii : min r (ls.length - 1) = i at hi har
  obtain ⟨b, hla, hc⟩ := S1.cell hi
  have hli := S1.each _ (List.getElem_mem hi)
  have hnk : t ∉ ls[i].S.keys := fun hm => HT.out (mem_texts.2 ⟨ls[i], List.getElem_mem hi, (hli.at'.inv.lk_mem hli.all t).2 hm⟩)
  have HL := lay_new (h := hh) hli.at' hli.all hz hh1 hnk (by rw [hli.room]; exact HF.out _ (List.getElem_mem hi))
  have hidx := fun W => idxList W (a := la) (b := b) (off := 0) (n := ls.length) (c := lc) hla hi
  simp only [Nat.zero_add] at hidx
  have hp1 : w1.cell? ⟨p, 0, none⟩ = some (.slice la ls.length lc) := by rw [hb1.cell HB.out.lt]; exact hp
  have HX : Hid (Below w.heap.size w w1 ∧ ShAt w1 ls la lc ∧ (∀ b ∈ texts (ls.take i), kl b t = true) ∧ ∀ b ∈ texts (ls.drop (i + 1)), kl t b = true) := ⟨hb1, S1, har⟩
  have HI : Hid (i < ls.length) := hi
  clear HP hr hb1 S1 har hli hnk
  generalize hpi : ls[i].p = pi at hc HL
  have HPI : Hid (ls[i].p = pi) := hpi
  clear hpi hii hla
  go_wp2_with fail
  refine HL.mono ?_
  rintro _ w2 ⟨rfl, S2, g2, hl2⟩
  have HE : Hid (∃ ls' la' lc', PutIn w w2 p v1 v2 v3 ls ls' la la' lc' t) := by
    obtain ⟨x1, x2, x3, x4⟩ := HX.out
    rw [← HPI.out] at hl2
    obtain ⟨y1, y2, y3⟩ := x2.turned HI.out hl2 x3 x4
    refine ⟨_, la, lc, y1, ?_, y2, ?_, fun k hk => ?_⟩
    · have hbx : Box w1 p TT #[.slice la ls.length lc, v1, v2, v3] := HB.out.kept (x1.block p HB.out.lt)
      have hnp : ¬ Foot ls[i].p ls[i].g p := fun hc => x2.not_p hbx (.inr ⟨ls[i], List.getElem_mem HI.out, hc⟩)
      rw [List.length_set]
      exact hbx.kept (hl2.chg.block p hbx.lt hnp)
    · exact (Chg.of x1).andThen hl2.chg fun k _ hk => .inr (.inr ⟨ls[i], List.getElem_mem HI.out, hk⟩)
    · rcases y3 k hk with h | h
      · exact .inl h
      · exact .inr (Nat.le_trans x1.size h)
  clear hl2 HL
  go_wp2
  go_returns
  exact ⟨rfl, HE.out⟩
end
end Go.Proofs.YtnggajconglfcaaDoor
