/- Texts in order, in lists one behind the other: plainly and in memory. -/
import Derived.Test.YtnggajconglfcaaDoorM8LayFn
import Derived.Test.YtnggajconglfcaaDoorM8Search
import Derived.Test.YtnggajconglfcaaDoorS7SeekB
namespace Go.Proofs.YtnggajconglfcaaDoor
open Go.RowKit
set_option linter.unusedVariables false
set_option linter.unusedSimpArgs false
section
variable {S : PS}
theorem PS.Inv.lk_sorted (h : S.Inv) : (S.lk 0).Pairwise (fun a b => kl a b = true) := List.pairwise_map.2 (h.sorted 0 (by decide))
theorem PS.Inv.lev_all (h : S.Inv) (ha : S.all) (i : Nat) : i ∈ S.lev 0 ↔ i < S.ops.length := by
  rw [h.mem 0 (by decide) i]
  constructor
  · exact fun h => h.1
  · intro hi
    refine ⟨hi, ?_⟩
    unfold PO.upto
    rw [if_pos (PS.done_yes (ha i hi))]
    have := (h.ok i hi).high
    omega
theorem PS.Inv.lk_mem (h : S.Inv) (ha : S.all) (b : ByteArray) : b ∈ S.lk 0 ↔ b ∈ S.keys := by
  rw [PS.mem_keys]
  unfold PS.lk
  rw [List.mem_map]
  constructor
  · rintro ⟨i, hi, e⟩
    exact ⟨i, (h.lev_all ha i).1 hi, e⟩
  · rintro ⟨i, hi, e⟩
    exact ⟨i, (h.lev_all ha i).2 hi, e⟩
theorem PS.Inv.lev_len (h : S.Inv) (ha : S.all) : (S.lev 0).length = S.ops.length := by
  apply Nat.le_antisymm
  · exact nodup_count _ _ (h.nodup (by decide)) fun x hx => (h.lev_all ha x).1 hx
  · have := List.Nodup.length_le_of_subset (l₁ := List.range S.ops.length) (l₂ := S.lev 0) List.nodup_range (fun x hx => (h.lev_all ha x).2 (List.mem_range.1 hx))
    simpa using this
theorem PS.Inv.lk_len (h : S.Inv) (ha : S.all) : (S.lk 0).length = S.ops.length := by
  unfold PS.lk
  rw [List.length_map, h.lev_len ha]
end
/-- A list and where it lies. -/
structure LG where
  p : Nat
  S : PS
  g : SG
def LG.t (l : LG) : List ByteArray := l.S.lk 0
def texts (ls : List LG) : List ByteArray := ls.flatMap LG.t
structure LiOk (w : World) (l : LG) : Prop where
  at' : SkAt w l.p l.S l.g
  all : l.S.all
  room : l.S.room = 1000
  pos : 0 < l.S.ops.length
def LG.foot (l : LG) (k : Nat) : Prop := Foot l.p l.g k
def Apart (x y : LG) : Prop := ∀ k, x.foot k → ¬ y.foot k
abbrev TLp : TypeId := 69
structure ShAt (w : World) (ls : List LG) (la : Option Addr) (lc : Nat) : Prop where
  row : w.ownsRow 0 TLp 1 (.slice la ls.length lc) ls.length (ls.map fun l => at_ l.p)
  each : ∀ l ∈ ls, LiOk w l
  apart : ls.Pairwise Apart
  sorted : (texts ls).Pairwise (fun a b => kl a b = true)
def ShFoot (ls : List LG) (la : Option Addr) (k : Nat) : Prop := blkOf la = some k ∨ ∃ l ∈ ls, l.foot k
section
variable {w w' : World} {ls : List LG} {la : Option Addr} {lc : Nat}
theorem LiOk.kept {l : LG} (h : LiOk w l) (hk : ∀ k, l.foot k → w'.heap[k]? = w.heap[k]?) : LiOk w' l := ⟨h.at'.keep hk, h.all, h.room, h.pos⟩
theorem ShAt.kept (h : ShAt w ls la lc) (hk : ∀ k, ShFoot ls la k → w'.heap[k]? = w.heap[k]?) : ShAt w' ls la lc :=
  ⟨row_same h.row fun b e => hk _ (.inl (by rw [← own_blk la ls.length lc]; exact e)), fun l hl => (h.each l hl).kept fun k hf => hk k (.inr ⟨l, hl, hf⟩), h.apart, h.sorted⟩
theorem ShAt.lt (h : ShAt w ls la lc) {k : Nat} (hk : ShFoot ls la k) : k < w.heap.size := by
  rcases hk with hk | ⟨l, hl, hk⟩
  · exact tag_lt (row_tag h.row (by rw [own_blk]; exact hk))
  · exact (h.each l hl).at'.lt hk
theorem ShAt.below (h : ShAt w ls la lc) (hb : Below w.heap.size w w') : ShAt w' ls la lc := h.kept fun k hk => hb.block k (h.lt hk)
/-- The last text of a list. -/
def LG.last (l : LG) : ByteArray := keyBefore l.S (l.S.lev 0).length
theorem LiOk.t_ne {l : LG} (h : LiOk w l) : l.t ≠ [] := by
  intro e
  have := h.at'.inv.lk_len h.all
  have e' : l.S.lk 0 = [] := e
  rw [e'] at this
  have h2 := h.pos
  simp at this
  omega
theorem LiOk.last_eq {l : LG} (h : LiOk w l) : l.t = l.t.dropLast ++ [l.last] := by
  have hne := h.t_ne
  have hl := h.at'.inv.lk_len h.all
  have h2 := h.pos
  have hla : l.last = l.t.getLast hne := by
    unfold LG.last keyBefore
    rw [if_neg (by rw [h.at'.inv.lev_len h.all]; omega)]
    unfold keyAt
    have e : l.S.lk 0 = l.t := rfl
    rw [e]
    have e3 : (l.S.lev 0).length = l.t.length := by rw [← e]; simp [PS.lk]
    rw [e3, List.getLast_eq_getElem]
    have hpos := List.length_pos_iff.2 hne
    simp [List.getD, show l.t.length - 1 < l.t.length by omega]
  rw [hla]
  exact (List.dropLast_concat_getLast hne).symm
theorem LiOk.last_mem {l : LG} (h : LiOk w l) : l.last ∈ l.t := by
  rw [h.last_eq]
  simp
theorem LiOk.le_last {l : LG} (h : LiOk w l) {b : ByteArray} (hb : b ∈ l.t) : b = l.last ∨ kl b l.last = true := by
  have hs : l.t.Pairwise (fun a b => kl a b = true) := h.at'.inv.lk_sorted
  rw [h.last_eq] at hs hb
  rcases List.mem_append.1 hb with hb | hb
  · exact .inr ((List.pairwise_append.1 hs).2.2 b hb _ (by simp))
  · exact .inl (List.mem_singleton.1 hb)
theorem texts_split {i : Nat} (hi : i < ls.length) : texts ls = texts (ls.take i) ++ (ls[i].t ++ texts (ls.drop (i + 1))) := by
  have e : ls = ls.take i ++ ls[i] :: ls.drop (i + 1) := by
    rw [← List.drop_eq_getElem_cons hi, List.take_append_drop]
  conv => lhs; rw [e]
  unfold texts
  rw [List.flatMap_append, List.flatMap_cons]
theorem mem_texts {b : ByteArray} : b ∈ texts ls ↔ ∃ l ∈ ls, b ∈ l.t := by simp [texts]
/-- Lists ahead end ahead. -/
theorem ShAt.last_lt (h : ShAt w ls la lc) {i j : Nat} (hi : i < j) (hj : j < ls.length) {b : ByteArray} (hb : b ∈ ls[j].t) : kl (ls[i]'(by omega)).last b = true := by
  have hs := h.sorted
  rw [texts_split hj] at hs
  refine (List.pairwise_append.1 hs).2.2 _ (mem_texts.2 ⟨ls[i], ?_, (h.each _ (List.getElem_mem (by omega))).last_mem⟩) b (List.mem_append_left _ hb)
  rw [List.mem_iff_getElem]
  exact ⟨i, by simp; omega, by simp⟩
/-- Which list a text belongs into. -/
structure Place (ls : List LG) (t : ByteArray) (r : Nat) : Prop where
  le : r ≤ ls.length
  lo : ∀ i (h : i < ls.length), i < r → kl ls[i].last t = true
  hi : ∀ i (h : i < ls.length), r ≤ i → kl ls[i].last t = false
theorem ShAt.cell (h : ShAt w ls la lc) {i : Nat} (hi : i < ls.length) : ∃ b, la = some ⟨b, 0, none⟩ ∧ w.cell? ⟨b, i, none⟩ = some (at_ ls[i].p) := by
  obtain ⟨h1, h2, h3, h4⟩ := row_addr h.row
  obtain ⟨b, hb⟩ := h4 (by omega)
  refine ⟨b, hb, ?_⟩
  have hr := h.row
  rw [hb] at hr
  have := hr.cellAt i (by omega)
  rw [this]
  simp [hi]
theorem ShAt.len_le (h : ShAt w ls la lc) : ls.length ≤ lc ∧ lc ≤ maxLen := by
  obtain ⟨h1, h2, h3, h4⟩ := row_addr h.row
  exact ⟨h1, h2⟩
set_option maxRecDepth 100000 in
set_option maxHeartbeats 400000 in
theorem place1_at (h : ShAt w ls la lc) {p bs bt : Nat} {t : ByteArray} (hs : w.cell? ⟨bs, 0, none⟩ = some (at_ p)) (hp : w.cell? ⟨p, 0, none⟩ = some (.slice la ls.length lc)) (ht : w.cell? ⟨bt, 0, none⟩ = some (.string t)) {i : Nat} (hi : i < ls.length) :
    Calls Tryd.prog 56 #[.int .i64 (i : Int), at_ bs, at_ bt] w fun e w' => e = .returned (.bool (!kl ls[i].last t)) ∧ Below w.heap.size w w' := by
  obtain ⟨b, hla, hc⟩ := h.cell hi
  have hle := h.len_le
  have HL := last_at (h.each _ (List.getElem_mem hi)).at'
  rw [show keyBefore ls[i].S (ls[i].S.lev 0).length = ls[i].last from rfl] at HL
  generalize ls[i].last = X at HL ⊢
  generalize ls[i].p = pi at HL hc
  generalize decide (0 < (ls[i].S.lev 0).length) = d at HL
  rw [hla] at hp
  have hlt := World.block_lt_of_cell? w _ ht
  unfold maxLen at hle
  clear h
  have hiz : (i : Int) < (ls.length : Int) := by omega
  generalize ls.length = n at *
  go_enter Tryd.func56, Tryd.ntmps56
  go_wp2_with fail
  refine HL.mono ?_
  rintro _ w1 ⟨rfl, hb⟩
  have ht1 : w1.cell? ⟨bt, 0, none⟩ = some (.string t) := by rw [hb.cell hlt]; exact ht
  have HB : Hid (Below w.heap.size w w1) := hb
  have hge : (binOp .geq 9 (.string X) (.string t)).run Tryd.prog w1 = .ok (.bool (!kl X t)) w1 := by simp [binOp, Op.stringOp, kl]
  clear hb HL
  go_wp2
  go_ret
  exact ⟨ret1 rfl, HB.out⟩
set_option maxRecDepth 100000 in
set_option maxHeartbeats 400000 in
theorem placeOf_at (h : ShAt w ls la lc) {p : Nat} {t : ByteArray} (hp : w.cell? ⟨p, 0, none⟩ = some (.slice la ls.length lc)) (hn : ls.length < 4611686018427387904) :
    Calls Tryd.prog 41 #[at_ p, .string t] w fun e w' => ∃ r : Nat, e = .returned (.int .i64 (r : Int)) ∧ Place ls t r ∧ Below w.heap.size w w' := by
  have hb2 : Below w.heap.size w ((w.alloc (.cells #[at_ p] 74)).alloc (.cells #[.string t] 9)) := ((Below.refl _ _).alloc (Nat.le_refl _) _).alloc (by simp) _
  have c1 : ((w.alloc (.cells #[at_ p] 74)).alloc (.cells #[.string t] 9)).cell? ⟨w.heap.size, 0, none⟩ = some (at_ p) := ((Box.new w 74 #[at_ p]).alloc _).cell 0
  have c2 : ((w.alloc (.cells #[at_ p] 74)).alloc (.cells #[.string t] 9)).cell? ⟨w.heap.size + 1, 0, none⟩ = some (.string t) := by
    have := (Box.new (w.alloc (.cells #[at_ p] 74)) 9 #[.string t]).cell 0
    rw [show (w.alloc (.cells #[at_ p] 74)).heap.size = w.heap.size + 1 by simp] at this
    exact this
  have hpl : p < w.heap.size := World.block_lt_of_cell? w _ hp
  have c3 : ((w.alloc (.cells #[at_ p] 74)).alloc (.cells #[.string t] 9)).cell? ⟨p, 0, none⟩ = some (.slice la ls.length lc) := by rw [hb2.cell hpl]; exact hp
  have HS := search_at ls.length hn (fun i => !kl (ls.getD i ⟨0, PS.new 0, ⟨[], [], 0, none, 0⟩⟩).last t) (at_ w.heap.size) (at_ (w.heap.size + 1)) ((w.alloc (.cells #[at_ p] 74)).alloc (.cells #[.string t] 9))
    (fun W hW i hi => by
      have hh := (h.below hb2).below hW
      have d1 : W.cell? ⟨w.heap.size, 0, none⟩ = some (at_ p) := by rw [hW.cell (by simp; omega)]; exact c1
      have d2 : W.cell? ⟨w.heap.size + 1, 0, none⟩ = some (.string t) := by rw [hW.cell (by simp)]; exact c2
      have d3 : W.cell? ⟨p, 0, none⟩ = some (.slice la ls.length lc) := by rw [hW.cell (by simp; omega)]; exact c3
      have := place1_at hh d1 d3 d2 hi
      simpa [List.getD, hi] using this)
    (fun a b hab hb ha => by
      by_cases e : a = b
      · rw [← e]; exact ha
      · have hlt := h.last_lt (show a < b by omega) hb (h.each _ (List.getElem_mem hb)).last_mem
        simp [List.getD, hb, show a < ls.length by omega] at ha ⊢
        cases hk : kl ls[b].last t with
        | false => rfl
        | true =>
          have := kl_trans hlt hk
          rw [ha] at this
          cases this)
  have hmf : ∀ (fn : Fn) (first cap : Array Value) (w : World), (Instr.makeFunc fn first cap).run Tryd.prog w = .ok (.func fn first cap) w := fun _ _ _ _ => rfl
  have HB : Hid (Below w.heap.size w ((w.alloc (.cells #[at_ p] 74)).alloc (.cells #[.string t] 9))) := hb2
  clear c1 c2 c3 hb2
  have hll := h.len_le
  unfold maxLen at hll
  clear h
  go_enter Tryd.func41, Tryd.ntmps41
  go_wp2_with fail
  refine HS.mono ?_
  rintro _ w1 ⟨r, rfl, hr, h1, h2, hb⟩
  have HX : Hid (Place ls t r ∧ Below w.heap.size w w1) := by
    refine ⟨⟨hr, fun i hi hir => ?_, fun i hi hir => ?_⟩, HB.out.trans (hb.mono HB.out.size)⟩
    · have := h1 i hir
      simpa [List.getD, hi] using this
    · have := h2 i hir hi
      simpa [List.getD, hi] using this
  clear HS h1 h2 hb
  go_wp2
  go_ret
  exact ⟨r, ret1 rfl, HX.out⟩
end
end Go.Proofs.YtnggajconglfcaaDoor
