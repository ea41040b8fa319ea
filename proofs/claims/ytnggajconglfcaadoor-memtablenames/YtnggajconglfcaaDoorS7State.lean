/- A list of keys in levels with its operations, plainly: what a step does, what holds between two steps, and how many steps are left. -/
import Derived.Test.YtnggajconglfcaaDoorS7Plain
namespace Go.Proofs.YtnggajconglfcaaDoor
structure PO where
  key : ByteArray
  height : Nat
  ph : Nat
  level : Nat
  pos : Nat
  seen : Option Nat
  ahead : Nat → Nat
def po0 : PO := ⟨⟨#[]⟩, 0, 3, 0, 0, none, fun _ => 0⟩
structure PS where
  room : Nat
  ops : List PO
  lev : Nat → List Nat
def PS.op (S : PS) (i : Nat) : PO := S.ops.getD i po0
def PS.key (S : PS) (i : Nat) : ByteArray := (S.op i).key
def PO.upto (o : PO) : Nat := if o.ph = 3 then o.height else if o.ph = 0 then 0 else o.level
def PS.OkAt (S : PS) (k : ByteArray) (l a : Nat) : Prop := a = 0 ∨ ∃ j, a = j + 1 ∧ j ∈ S.lev l ∧ kl (S.key j) k = true
structure PS.OpOk (S : PS) (o : PO) : Prop where
  ph : o.ph ≤ 3
  high : 1 ≤ o.height ∧ o.height ≤ 8
  low : o.ph ≠ 3 → o.level < 8 ∧ (o.ph ≠ 0 → o.level < o.height)
  pos : o.ph ≠ 3 → S.OkAt o.key o.level o.pos
  ahead : o.ph ≠ 3 → ∀ l, o.level < l → l < 8 → S.OkAt o.key l (o.ahead l)
  seen : o.ph = 1 → ∀ j, o.seen = some j → j ∈ S.lev o.level ∧ kl o.key (S.key j) = true
  sight : ∀ j, o.seen = some j → j < S.ops.length
structure PS.Inv (S : PS) : Prop where
  room : S.room ≤ 1000
  size : S.ops.length ≤ S.room
  uniq : ∀ i j, i < S.ops.length → j < S.ops.length → S.key i = S.key j → i = j
  long : ∀ i, i < S.ops.length → (S.key i).size ≤ 9223372036854775807
  sorted : ∀ l, l < 8 → (S.lev l).Pairwise (fun x y => kl (S.key x) (S.key y) = true)
  mem : ∀ l, l < 8 → ∀ i, i ∈ S.lev l ↔ i < S.ops.length ∧ l < (S.op i).upto
  ok : ∀ i, i < S.ops.length → S.OpOk (S.op i)
def PS.put (S : PS) (i : Nat) (o : PO) (lev : Nat → List Nat) : PS := { S with ops := S.ops.set i o, lev := lev }
section
variable {S : PS} {i : Nat} {o : PO} {lev : Nat → List Nat}
theorem PS.put_len : (S.put i o lev).ops.length = S.ops.length := by simp [PS.put]
theorem PS.put_op (hi : i < S.ops.length) : (S.put i o lev).op i = o := by simp [PS.put, PS.op, List.getD, hi]
theorem PS.put_other {j : Nat} (h : j ≠ i) : (S.put i o lev).op j = S.op j := by
  simp [PS.put, PS.op, List.getD, Ne.symm h]
theorem PS.put_key (hk : o.key = S.key i) (j : Nat) : (S.put i o lev).key j = S.key j := by
  by_cases h : j = i
  · subst h
    by_cases hi : j < S.ops.length
    · unfold PS.key
      rw [PS.put_op hi]
      exact hk
    · simp [PS.put, PS.key, PS.op, List.getD, hi]
  · unfold PS.key
    rw [PS.put_other h]
theorem PS.OkAt.more {S S' : PS} {k : ByteArray} {l a : Nat} (h : S.OkAt k l a) (hk : ∀ j, S'.key j = S.key j) (hs : ∀ x, x ∈ S.lev l → x ∈ S'.lev l) : S'.OkAt k l a := by
  rcases h with h | ⟨j, h1, h2, h3⟩
  · exact .inl h
  · exact .inr ⟨j, h1, hs j h2, by rw [hk]; exact h3⟩
theorem PS.OpOk.more {S S' : PS} {o : PO} (h : S.OpOk o) (hn : S'.ops.length = S.ops.length) (hk : ∀ j, S'.key j = S.key j) (hs : ∀ l x, x ∈ S.lev l → x ∈ S'.lev l) : S'.OpOk o :=
  ⟨h.ph, h.high, h.low, fun h0 => (h.pos h0).more hk (hs _), fun h0 l h1 h2 => (h.ahead h0 l h1 h2).more hk (hs _), fun h1 j hj => by rw [hk]; exact ⟨hs _ _ (h.seen h1 j hj).1, (h.seen h1 j hj).2⟩, fun j hj => by rw [hn]; exact h.sight j hj⟩
theorem PS.Inv.turn (h : S.Inv) (hi : i < S.ops.length) (hk : o.key = S.key i) (hsub : ∀ l x, x ∈ S.lev l → x ∈ lev l)
    (hsort : ∀ l, l < 8 → (lev l).Pairwise (fun x y => kl (S.key x) (S.key y) = true)) (hmem : ∀ l, l < 8 → ∀ j, j ∈ lev l ↔ (j = i ∧ l < o.upto) ∨ (j ≠ i ∧ j ∈ S.lev l)) (hok : (S.put i o lev).OpOk o) : (S.put i o lev).Inv where
  room := h.room
  size := by rw [PS.put_len]; exact h.size
  uniq := fun a b ha hb e => by
    rw [PS.put_len] at ha hb
    rw [PS.put_key hk, PS.put_key hk] at e
    exact h.uniq a b ha hb e
  long := fun a ha => by
    rw [PS.put_len] at ha
    rw [PS.put_key hk]
    exact h.long a ha
  sorted := fun l hl => (hsort l hl).imp fun {x y} hxy => by rw [PS.put_key hk, PS.put_key hk]; exact hxy
  mem := fun l hl j => by
    rw [PS.put_len]
    show j ∈ lev l ↔ _
    rw [hmem l hl j]
    by_cases hj : j = i
    · subst hj
      rw [PS.put_op hi]
      simp [hi]
    · rw [PS.put_other hj]
      simp only [hj, false_and, false_or, ne_eq, not_false_eq_true, true_and]
      exact h.mem l hl j
  ok := fun j hj => by
    rw [PS.put_len] at hj
    by_cases e : j = i
    · subst e
      rw [PS.put_op hi]
      exact hok
    · rw [PS.put_other e]
      exact (h.ok j hj).more PS.put_len (PS.put_key hk) hsub
theorem PS.Inv.turn0 (h : S.Inv) (hi : i < S.ops.length) (hk : o.key = S.key i) (hu : o.upto = (S.op i).upto) (hok : S.OpOk o) : (S.put i o S.lev).Inv :=
  h.turn hi hk (fun _ _ hx => hx) h.sorted (fun l hl j => by
    by_cases hj : j = i
    · subst hj
      rw [h.mem l hl j, hu]
      simp [hi]
    · simp [hj]) (hok.more PS.put_len (PS.put_key hk) fun _ _ hx => hx)
end
def PS.nx (S : PS) (i : Nat) : Option Nat := nxt (S.lev (S.op i).level) (S.op i).pos
def PS.goes (S : PS) (i : Nat) : Bool := match S.nx i with
  | none => false
  | some j => kl (S.key j) (S.key i)
def upd (f : Nat → Nat) (l a : Nat) : Nat → Nat := fun x => if x = l then a else f x
def PS.went (S : PS) (i : Nat) : PO := { S.op i with seen := S.nx i, pos := match S.nx i with | some j => j + 1 | none => 0 }
def PS.down (S : PS) (i : Nat) : PO := { S.op i with seen := S.nx i, ahead := upd (S.op i).ahead (S.op i).level (S.op i).pos, level := (S.op i).level - 1 }
def PS.low (S : PS) (i : Nat) : PO := { S.op i with seen := S.nx i, ahead := upd (S.op i).ahead (S.op i).level (S.op i).pos, ph := 1 }
def PS.saw (S : PS) (i : Nat) : PO := { S.op i with seen := S.nx i, ph := 1 }
def PS.missed (S : PS) (i : Nat) : PO := { S.op i with ph := 2 }
def PS.climbs (S : PS) (i : Nat) : PO := { S.op i with level := (S.op i).level + 1, pos := (S.op i).ahead ((S.op i).level + 1), ph := 2 }
def PS.ended (S : PS) (i : Nat) : PO := { S.op i with ph := 3 }
def PS.more (S : PS) (i : Nat) : Nat → List Nat := fun l => if l = (S.op i).level then ins i (S.lev l) (S.op i).pos else S.lev l
def PS.step (S : PS) (i : Nat) : PS :=
  if (S.op i).ph = 0 then
    if S.goes i then S.put i (S.went i) S.lev
    else if (S.op i).level = 0 then S.put i (S.low i) S.lev
    else S.put i (S.down i) S.lev
  else if (S.op i).ph = 1 then
    if S.nx i = (S.op i).seen then
      if (S.op i).level + 1 = (S.op i).height then S.put i (S.ended i) (S.more i) else S.put i (S.climbs i) (S.more i)
    else S.put i (S.missed i) S.lev
  else if (S.op i).ph = 2 then
    if S.goes i then S.put i (S.went i) S.lev else S.put i (S.saw i) S.lev
  else S
section
variable {S : PS} {i : Nat}
theorem PS.Inv.nodup (h : S.Inv) {l : Nat} (hl : l < 8) : (S.lev l).Nodup := (h.sorted l hl).imp fun {x y} hxy e => by
  subst e
  rw [kl_irr] at hxy
  cases hxy
theorem PS.Inv.lt (h : S.Inv) {l : Nat} (hl : l < 8) {j : Nat} (hj : j ∈ S.lev l) : j < S.ops.length := ((h.mem l hl j).1 hj).1
theorem PS.OkAt.inL {S : PS} {k : ByteArray} {l a : Nat} (h : S.OkAt k l a) : InL (S.lev l) a := by
  rcases h with h | ⟨j, h1, h2, _⟩
  · exact .inl h
  · exact .inr ⟨j, h1, h2⟩
theorem PS.Inv.nxLt (h : S.Inv) (hi : i < S.ops.length) (hp : (S.op i).ph ≠ 3) {j : Nat} (hj : S.nx i = some j) : j < S.ops.length := h.lt ((h.ok i hi).low hp).1 (nxt_mem hj)
theorem PS.goes_some (h : S.goes i = true) : ∃ j, S.nx i = some j ∧ kl (S.key j) (S.key i) = true := by
  unfold PS.goes at h
  split at h
  · cases h
  · rename_i j hj
    exact ⟨j, hj, h⟩
theorem PS.Inv.nxGe (h : S.Inv) (hi : i < S.ops.length) (hp : (S.op i).ph ≠ 3) (hg : S.goes i = false) {j : Nat} (hj : S.nx i = some j) (hji : j ≠ i) : kl (S.key i) (S.key j) = true := by
  unfold PS.goes at hg
  rw [hj] at hg
  cases hk : kl (S.key i) (S.key j) with
  | true => rfl
  | false => exact absurd (h.uniq _ _ (h.nxLt hi hp hj) hi (kl_total hg hk)) hji
theorem PS.Inv.notIn (h : S.Inv) (hi : i < S.ops.length) (hp : (S.op i).ph ≠ 3) : i ∉ S.lev (S.op i).level := fun hc => by
  have h1 := (h.mem _ ((h.ok i hi).low hp).1 i).1 hc
  have h2 := h1.2
  unfold PO.upto at h2
  rw [if_neg hp] at h2
  split at h2 <;> omega
theorem PS.Inv.went (h : S.Inv) (hi : i < S.ops.length) (hp : (S.op i).ph = 0 ∨ (S.op i).ph = 2) (hg : S.goes i = true) : (S.put i (S.went i) S.lev).Inv := by
  obtain ⟨j, hj, hk⟩ := PS.goes_some hg
  have ok := h.ok i hi
  have h3 : (S.op i).ph ≠ 3 := by omega
  refine h.turn0 hi rfl rfl ⟨ok.ph, ok.high, ok.low, fun _ => ?_, ok.ahead, fun e => ?_, fun j' hj' => ?_⟩
  · refine .inr ⟨j, ?_, nxt_mem hj, hk⟩
    simp [PS.went, hj]
  · simp only [PS.went] at e
    omega
  · exact h.nxLt hi h3 hj'
theorem PS.OkAt.upd {S : PS} {o : PO} {k : ByteArray} (h : o.ph ≠ 3 → ∀ l, o.level < l → l < 8 → S.OkAt k l (o.ahead l)) (h3 : o.ph ≠ 3) (hpos : S.OkAt k o.level o.pos) {l : Nat} (hl : o.level ≤ l) (h8 : l < 8) : S.OkAt k l (upd o.ahead o.level o.pos l) := by
  unfold Go.Proofs.YtnggajconglfcaaDoor.upd
  split
  · rename_i e
    subst e
    exact hpos
  · exact h h3 l (by omega) h8
theorem PS.Inv.down (h : S.Inv) (hi : i < S.ops.length) (hp : (S.op i).ph = 0) : (S.put i (S.down i) S.lev).Inv := by
  have ok := h.ok i hi
  have h3 : (S.op i).ph ≠ 3 := by omega
  have h8 := (ok.low h3).1
  refine h.turn0 hi rfl ?_ ⟨ok.ph, ok.high, fun _ => ⟨by simp only [PS.down]; omega, fun e => absurd hp e⟩, fun _ => ?_, fun _ l h1 h2 => ?_, fun e => ?_, fun j' hj' => h.nxLt hi h3 hj'⟩
  · simp [PO.upto, PS.down, hp]
  · rcases ok.pos h3 with e | ⟨j, e, hm, hk⟩
    · exact .inl e
    · refine .inr ⟨j, e, ?_, hk⟩
      show j ∈ S.lev ((S.op i).level - 1)
      have := (h.mem _ h8 j).1 hm
      exact (h.mem _ (by omega) j).2 ⟨this.1, by omega⟩
  · simp only [PS.down] at h1 ⊢
    exact PS.OkAt.upd ok.ahead h3 (ok.pos h3) (by omega) h2
  · simp only [PS.down] at e
    omega
theorem PS.Inv.fresh (h : S.Inv) (hi : i < S.ops.length) (h3 : (S.op i).ph ≠ 3) (hg : S.goes i = false) : ∀ j, S.nx i = some j → j ∈ S.lev (S.op i).level ∧ kl (S.key i) (S.key j) = true := fun j hj =>
  ⟨nxt_mem hj, h.nxGe hi h3 hg hj (fun e => h.notIn hi h3 (by have := nxt_mem hj; rw [e] at this; exact this))⟩
theorem PS.Inv.lowest (h : S.Inv) (hi : i < S.ops.length) (hp : (S.op i).ph = 0) (hl : (S.op i).level = 0) (hg : S.goes i = false) : (S.put i (S.low i) S.lev).Inv := by
  have ok := h.ok i hi
  have h3 : (S.op i).ph ≠ 3 := by omega
  refine h.turn0 hi rfl ?_ ⟨by simp [PS.low], ok.high, fun _ => ⟨(ok.low h3).1, fun _ => by simp only [PS.low]; have := ok.high; omega⟩, fun _ => ok.pos h3, fun _ l h1 h2 => ?_, fun _ => h.fresh hi h3 hg, fun j' hj' => h.nxLt hi h3 hj'⟩
  · simp [PO.upto, PS.low, hp, hl]
  · simp only [PS.low] at h1 ⊢
    exact PS.OkAt.upd ok.ahead h3 (ok.pos h3) (by omega) h2
theorem PS.Inv.saw (h : S.Inv) (hi : i < S.ops.length) (hp : (S.op i).ph = 2) (hg : S.goes i = false) : (S.put i (S.saw i) S.lev).Inv := by
  have ok := h.ok i hi
  have h3 : (S.op i).ph ≠ 3 := by omega
  refine h.turn0 hi rfl ?_ ⟨by simp [PS.saw], ok.high, fun _ => ⟨(ok.low h3).1, fun _ => (ok.low h3).2 (by omega)⟩, fun _ => ok.pos h3, fun _ => ok.ahead h3, fun _ => h.fresh hi h3 hg, fun j' hj' => h.nxLt hi h3 hj'⟩
  simp [PO.upto, PS.saw, hp]
theorem PS.Inv.missed (h : S.Inv) (hi : i < S.ops.length) (hp : (S.op i).ph = 1) : (S.put i (S.missed i) S.lev).Inv := by
  have ok := h.ok i hi
  have h3 : (S.op i).ph ≠ 3 := by omega
  refine h.turn0 hi rfl ?_ ⟨by simp [PS.missed], ok.high, fun _ => ⟨(ok.low h3).1, fun _ => (ok.low h3).2 (by omega)⟩, fun _ => ok.pos h3, fun _ => ok.ahead h3, fun e => by simp [PS.missed] at e, ok.sight⟩
  simp [PO.upto, PS.missed, hp]
end
theorem ins_sorted {r : Nat → Nat → Prop} (tr : ∀ x y z, r x y → r y z → r x z) {i : Nat} : ∀ {l : List Nat} {a : Nat}, l.Pairwise r → InL l a → (∀ j, a = j + 1 → r j i) → (∀ j, nxt l a = some j → r i j) → (ins i l a).Pairwise r
  | [], a, _, _, _, _ => by simp [ins]
  | y :: s, a, hs, ha, h1, h2 => by
    have hs' := List.pairwise_cons.1 hs
    unfold ins
    split
    · rename_i h0
      subst h0
      have := h2 y (by simp [nxt])
      refine List.pairwise_cons.2 ⟨fun x hx => ?_, hs⟩
      rcases List.mem_cons.1 hx with rfl | hx
      · exact this
      · exact tr _ _ _ this (hs'.1 x hx)
    · rename_i h0
      split
      · rename_i e
        subst e
        have yi := h1 y rfl
        simp only [nxt, if_neg (Nat.succ_ne_zero y), if_pos] at h2
        refine List.pairwise_cons.2 ⟨fun x hx => ?_, List.pairwise_cons.2 ⟨fun x hx => ?_, hs'.2⟩⟩
        · rcases List.mem_cons.1 hx with rfl | hx
          · exact yi
          · exact hs'.1 x hx
        · cases s with
          | nil => cases hx
          | cons z t =>
            have iz := h2 z rfl
            rcases List.mem_cons.1 hx with rfl | hx
            · exact iz
            · exact tr _ _ _ iz ((List.pairwise_cons.1 hs'.2).1 x hx)
      · rename_i e
        have hr : InL s a := by
          rcases ha with rfl | ⟨j, rfl, hj⟩
          · exact absurd rfl h0
          · rcases List.mem_cons.1 hj with rfl | hj
            · exact absurd rfl e
            · exact .inr ⟨j, rfl, hj⟩
        simp only [nxt, if_neg h0, if_neg e] at h2
        refine List.pairwise_cons.2 ⟨fun x hx => ?_, ins_sorted tr hs'.2 hr h1 h2⟩
        rcases mem_ins.1 hx with rfl | hx
        · obtain ⟨j, rfl, hj⟩ : ∃ j, a = j + 1 ∧ j ∈ s := by
            rcases hr with rfl | hr
            · exact absurd rfl h0
            · exact hr
          exact tr _ _ _ (hs'.1 j hj) (h1 j rfl)
        · exact hs'.1 x hx
section
variable {S : PS} {i : Nat}
theorem PS.mem_more {l j : Nat} : j ∈ S.more i l ↔ (l = (S.op i).level ∧ j = i) ∨ j ∈ S.lev l := by
  unfold PS.more
  split
  · rename_i e
    rw [mem_ins]
    simp [e]
  · rename_i e
    simp [e]
theorem PS.Inv.laid (h : S.Inv) (hi : i < S.ops.length) (hp : (S.op i).ph = 1) (hn : S.nx i = (S.op i).seen) {o : PO} (hk : o.key = S.key i) (hu : o.upto = (S.op i).level + 1) (hok : S.OpOk o) : (S.put i o (S.more i)).Inv := by
  have ok := h.ok i hi
  have h3 : (S.op i).ph ≠ 3 := by omega
  have h8 := (ok.low h3).1
  have hsub : ∀ l x, x ∈ S.lev l → x ∈ S.more i l := fun l x hx => PS.mem_more.2 (.inr hx)
  have hup : (S.op i).upto = (S.op i).level := by simp [PO.upto, hp]
  refine h.turn hi hk hsub (fun l hl => ?_) (fun l hl j => ?_) (hok.more PS.put_len (PS.put_key hk) hsub)
  · unfold PS.more
    split
    · rename_i e
      subst e
      refine ins_sorted (r := fun x y => kl (S.key x) (S.key y) = true) (fun x y z => kl_trans) (h.sorted _ hl) (ok.pos h3).inL (fun j hj => ?_) (fun j hj => ?_)
      · rcases ok.pos h3 with e | ⟨j', e, _, hk'⟩
        · omega
        · obtain rfl : j = j' := by omega
          exact hk'
      · exact (ok.seen hp j (by rw [← hn]; exact hj)).2
    · exact h.sorted l hl
  · rw [PS.mem_more]
    by_cases hj : j = i
    · subst hj
      rw [h.mem l hl j, hup, hu]
      simp [hi]
      omega
    · simp [hj]
theorem PS.Inv.ended (h : S.Inv) (hi : i < S.ops.length) (hp : (S.op i).ph = 1) (hn : S.nx i = (S.op i).seen) (hl : (S.op i).level + 1 = (S.op i).height) : (S.put i (S.ended i) (S.more i)).Inv := by
  have ok := h.ok i hi
  refine h.laid hi hp hn rfl (by simp [PO.upto, PS.ended, hl]) ⟨by simp [PS.ended], ok.high, fun e => absurd rfl e, fun e => absurd rfl e, fun e => absurd rfl e, fun e => by simp [PS.ended] at e, ok.sight⟩
theorem PS.Inv.climbs (h : S.Inv) (hi : i < S.ops.length) (hp : (S.op i).ph = 1) (hn : S.nx i = (S.op i).seen) (hl : (S.op i).level + 1 ≠ (S.op i).height) : (S.put i (S.climbs i) (S.more i)).Inv := by
  have ok := h.ok i hi
  have h3 : (S.op i).ph ≠ 3 := by omega
  have h8 := ok.low h3
  have hh := h8.2 (by omega)
  have h9 := ok.high
  refine h.laid hi hp hn rfl (by simp [PO.upto, PS.climbs]) ⟨by simp [PS.climbs], ok.high, fun _ => ⟨?_, fun _ => ?_⟩, fun _ => ?_, fun _ l h1 h2 => ?_, fun e => by simp [PS.climbs] at e, ok.sight⟩
  · simp only [PS.climbs]; omega
  · simp only [PS.climbs]; omega
  · exact ok.ahead h3 _ (by simp only [PS.climbs]; omega) (by simp only [PS.climbs]; omega)
  · simp only [PS.climbs] at h1
    exact ok.ahead h3 l (by omega) h2
theorem PS.Inv.step (h : S.Inv) (hi : i < S.ops.length) : (S.step i).Inv := by
  unfold PS.step
  split
  · rename_i h0
    split
    · rename_i hg; exact h.went hi (.inl h0) hg
    · rename_i hg
      have hg' : S.goes i = false := by simpa using hg
      split
      · rename_i hl; exact h.lowest hi h0 hl hg'
      · exact h.down hi h0
  · split
    · rename_i h1
      split
      · rename_i hn
        split
        · rename_i hl; exact h.ended hi h1 hn hl
        · rename_i hl; exact h.climbs hi h1 hn hl
      · exact h.missed hi h1
    · split
      · rename_i h2
        split
        · rename_i hg; exact h.went hi (.inr h2) hg
        · rename_i hg; exact h.saw hi h2 (by simpa using hg)
      · exact h
end
end Go.Proofs.YtnggajconglfcaaDoor
