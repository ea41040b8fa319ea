/- What is known of one user, of one list; what is seen of it. -/
import Derived.Test.YtjoamhcehpjepabQa06
namespace Go.Proofs.Ytjoamhcehpjepab
open Go.RowKit
set_option linter.unusedVariables false
set_option linter.unusedSimpArgs false
def told17 : Option KV → ByteArray × Nat
  | none => (⟨#[]⟩, 0)
  | some e => if e.1.kind = 0 then (⟨#[]⟩, 1) else (e.2, 2)
theorem sees_in {s : Nat} {l : List KV} (hs : SortU l) {u x : ByteArray} (h : (u, x) ∈ seenL s l) : told17 (lget17 l u s) = (x, 2) := by
  obtain ⟨e, h1, h2, h3⟩ := (mem_seen hs u x).1 h
  rw [h1]
  show (if e.1.kind = 0 then _ else _) = _
  rw [if_neg (by omega), h3]
theorem sees_iff {s : Nat} {l : List KV} (hs : SortU l) (hk : ∀ e ∈ l, e.1.kind = 0 ∨ e.1.kind = 1) (u : ByteArray) : (told17 (lget17 l u s)).2 = 2 ↔ ∃ x, (u, x) ∈ seenL s l := by
  constructor
  · intro h
    cases hg : lget17 l u s with
    | none => rw [hg] at h; cases h
    | some e =>
      rw [hg] at h
      obtain ⟨_, _, hm⟩ := lget_user hg
      rcases hk e hm with hk0 | hk1
      · have h' : (if e.1.kind = 0 then ((⟨#[]⟩ : ByteArray), 1) else (e.2, 2)).2 = 2 := h
        rw [if_pos hk0] at h'
        cases h'
      · exact ⟨e.2, (mem_seen hs u e.2).2 ⟨e, hg, hk1, rfl⟩⟩
  · rintro ⟨x, hx⟩
    rw [sees_in hs hx]
theorem told17_two (o : Option KV) : (told17 o).2 = 2 ∨ (told17 o).2 ≠ 2 := by omega
theorem seek_not (I : List It17) (u : ByteArray) (h : seek7 I u < I.length) : ¬ uc (I[seek7 I u]).1 u < 0 := by
  have h1 : I.drop (seek7 I u) = I.dropWhile fun e => decide (uc e.1 u < 0) := by
    have := List.takeWhile_append_dropWhile (p := fun e => decide (uc e.1 u < 0)) (l := I)
    have h9 : ∀ n, n = (I.takeWhile fun e => decide (uc e.1 u < 0)).length → I.drop n = I.dropWhile fun e => decide (uc e.1 u < 0) := fun n hn => by
      conv => lhs; rw [← this]
      rw [hn, List.drop_left]
    exact h9 _ rfl
  have h2 : (I.dropWhile fun e => decide (uc e.1 u < 0)).head? = some (I[seek7 I u]) := by
    rw [← h1, List.head?_drop, List.getElem?_eq_getElem h]
  have h3 := List.head?_dropWhile_not (fun e => decide (uc e.1 u < 0)) I
  rw [h2] at h3
  simpa using h3
/-- Of keys that rise, what is sought is there just where it is the one. -/
theorem seek_there {I : List It17} (hI : I.Pairwise fun a b => uc a.1 b.1 < 0) (u : ByteArray) : (∃ x, (u, x) ∈ I) ↔ ∃ h : seek7 I u < I.length, (I[seek7 I u]).1 = u := by
  have hle : seek7 I u ≤ I.length := (List.takeWhile_prefix _).length_le
  have hlt : ∀ j (hj : j < I.length), j < seek7 I u → uc I[j].1 u < 0 := fun j hj h => by
    have h1 : (I.takeWhile fun e => decide (uc e.1 u < 0))[j]'h = I[j] := (List.takeWhile_prefix (l := I) fun e => decide (uc e.1 u < 0)).getElem h
    have h2 := List.all_takeWhile (p := fun e => decide (uc e.1 u < 0)) (l := I)
    rw [List.all_eq_true] at h2
    have := h2 _ (List.getElem_mem h)
    rw [h1] at this
    simpa using this
  constructor
  · rintro ⟨x, hx⟩
    obtain ⟨k, hk, he⟩ := List.getElem_of_mem hx
    have h0 : uc I[k].1 u = 0 := by rw [he]; exact uc_self u
    have hkge : seek7 I u ≤ k := Nat.le_of_not_lt fun h => by have := hlt k hk h; omega
    refine ⟨by omega, ?_⟩
    by_cases e : seek7 I u = k
    · have : I[seek7 I u]'(by omega) = I[k] := by congr 1
      rw [this, he]
    · have h1 := List.pairwise_iff_getElem.1 hI (seek7 I u) k (by omega) hk (by omega)
      have hst := seek_not I u (by omega)
      rw [he] at h1
      exact absurd h1 hst
  · rintro ⟨h, he⟩
    refine ⟨(I[seek7 I u]).2, ?_⟩
    have hm : I[seek7 I u] ∈ I := List.getElem_mem h
    generalize I[seek7 I u] = y at he hm ⊢
    obtain ⟨y1, y2⟩ := y
    dsimp only at he ⊢
    rw [← he]
    exact hm
end Go.Proofs.Ytjoamhcehpjepab
/- The document's own With. -/
namespace Go.Proofs.Ytjoamhcehpjepab
open Go.RowKit
set_option linter.unusedVariables false
set_option linter.unusedSimpArgs false
def kb17 (a b : IK) : Bool := decide (a.cmp b < 0)
def ins17 (e : KV) : List KV → List KV
  | [] => [e]
  | x :: r => if kb17 e.1 x.1 then e :: x :: r else x :: ins17 e r
theorem mem_ins17 {e y : KV} : ∀ {l : List KV}, y ∈ ins17 e l ↔ y = e ∨ y ∈ l
  | [] => by simp [ins17]
  | x :: r => by
    unfold ins17
    split
    · simp
    · rw [List.mem_cons, mem_ins17, List.mem_cons]
      constructor
      · rintro (h | h | h)
        · exact .inr (.inl h)
        · exact .inl h
        · exact .inr (.inr h)
      · rintro (h | h | h)
        · exact .inr (.inl h)
        · exact .inl h
        · exact .inr (.inr h)
theorem ins17_len {e : KV} : ∀ {l : List KV}, (ins17 e l).length = l.length + 1
  | [] => rfl
  | x :: r => by
    unfold ins17
    split
    · rfl
    · simp [ins17_len]
theorem ins17_in {x z : KV} : ∀ {r : List KV}, (∃ y ∈ r, kb17 x.1 y.1 = true) → ins17 x (r ++ [z]) = ins17 x r ++ [z]
  | [], h => by obtain ⟨y, hy, _⟩ := h; simp at hy
  | y :: r, h => by
    rw [List.cons_append]
    unfold ins17
    split
    · rfl
    · rename_i hn
      rw [ins17_in]
      · rfl
      · obtain ⟨t, ht, hk⟩ := h
        rcases List.mem_cons.1 ht with rfl | ht
        · exact absurd hk hn
        · exact ⟨t, ht, hk⟩
theorem ins17_out {x : KV} : ∀ {r : List KV}, (∀ y ∈ r, kb17 x.1 y.1 = false) → ins17 x r = r ++ [x]
  | [], _ => rfl
  | y :: r, h => by
    unfold ins17
    rw [if_neg (by rw [h y (by simp)]; decide), ins17_out fun t ht => h t (List.mem_cons_of_mem _ ht)]
    rfl
theorem ins17_turn {x z : KV} {r : List KV} (h : ∀ y ∈ r, kb17 x.1 y.1 = false) (hz : kb17 x.1 z.1 = true) : ins17 x (r ++ [z]) = r ++ [x] ++ [z] := by
  induction r with
  | nil =>
    show ins17 x [z] = _
    unfold ins17
    rw [if_pos hz]
    rfl
  | cons y r ih =>
    rw [List.cons_append]
    unfold ins17
    rw [if_neg (by rw [h y (by simp)]; decide), ih fun t ht => h t (List.mem_cons_of_mem _ ht)]
    rfl
theorem wpList_push8 (W : World) {ops : Array Oper} {rest : List Oper} {o : Oper} {a : Act} {Q : Exit → Act → World → Prop} (hgd : o.guard = none) (s x : Operand)
    (ho : o.op = .call { callee := .builtin .append, args := #[s, x], argTypes := #[30, 30] })
    (B : Nat) (a1 : Option Addr) (n1 c1 : Nat) (l : List KV) (hs : a.eval s = .slice a1 n1 c1) (hown : OwnK W B a1 n1 c1 l) (e : KV)
    (hx : a.eval x = .slice (some ⟨W.heap.size, 0, none⟩) 1 1) (hn : n1 ≤ 1000000) (hB : B ≤ W.heap.size)
    (h : ∀ a' c' w', OwnK w' B a' (n1 + 1) c' (l ++ [e]) → Below B W w' → (W.alloc (.cells #[.string e.1.user, .int .u64 (e.1.seq : Int), .int .i64 e.1.kind, .string e.2] TKV)).grownBy w' (blkOf a1) → wpList Try.prog ops Q rest (a.put o.dst (.slice a' (n1 + 1) c')) w') :
    wpList Try.prog ops Q (o :: rest) a (W.alloc (.cells #[.string e.1.user, .int .u64 (e.1.seq : Int), .int .i64 e.1.kind, .string e.2] TKV)) := wpList_pushK W hgd s x ho B a1 n1 c1 l hs hown e #[.string e.1.user, .int .u64 (e.1.seq : Int), .int .i64 e.1.kind, .string e.2] rfl hx (by omega) hB h
def kvArr (x : KV) : Array Value := #[.string x.1.user, .int .u64 (x.1.seq : Int), .int .i64 x.1.kind, .string x.2]
/-- Where With stands when it has seen so many. -/
structure Wth (w wr : World) (x : KV) (l : List KV) (k : Nat) (dn : Bool) (no : Nat) (ao : Option Addr) (co : Nat) (O : List KV) : Prop where
  own : OwnK wr (w.heap.size + 1) ao no co O
  base : Below w.heap.size w wr
  box : Box wr w.heap.size TKV (kvArr x)
  yes : dn = true → O = ins17 x (l.take k) ∧ ∃ y ∈ l.take k, kb17 x.1 y.1 = true
  no : dn = false → O = l.take k ∧ ∀ y ∈ l.take k, kb17 x.1 y.1 = false
theorem Wth.below {w wr W : World} {x : KV} {l : List KV} {k : Nat} {dn : Bool} {no : Nat} {ao : Option Addr} {co : Nat} {O : List KV} (h : Wth w wr x l k dn no ao co O) (hb : Below wr.heap.size wr W) : Wth w W x l k dn no ao co O :=
  ⟨h.own.below hb, h.base.trans (hb.mono h.base.size), h.box.kept (hb.block _ h.box.lt), h.yes, h.no⟩
theorem Wth.len {w wr : World} {x : KV} {l : List KV} {k : Nat} {dn : Bool} {no : Nat} {ao : Option Addr} {co : Nat} {O : List KV} (h : Wth w wr x l k dn no ao co O) (hk : k ≤ l.length) : no = if dn then k + 1 else k := by
  rw [← h.own.size]
  cases dn with
  | true =>
    rw [(h.yes rfl).1, ins17_len, List.length_take]
    simp
    omega
  | false =>
    rw [(h.no rfl).1, List.length_take]
    simp
    omega
end Go.Proofs.Ytjoamhcehpjepab
/- What stays as it is seen, plainly: lists in one, what is above left out. -/
namespace Go.Proofs.Ytjoamhcehpjepab
open Go.RowKit
set_option linter.unusedVariables false
set_option linter.unusedSimpArgs false
theorem ik_zero {a b : IK} (h : a.cmp b = 0) : a = b := by
  unfold IK.cmp at h
  obtain ⟨h1, h2, h3⟩ := (kcmp_zero _ _ _ _ _ _).1 h
  obtain ⟨u, q, k⟩ := a
  obtain ⟨v, r, m⟩ := b
  dsimp only at h1 h2 h3
  have e1 : u = v := ba_ext17 (by simpa [ByteArray.toList_eq] using h1)
  have e2 : q = r := by omega
  rw [e1, e2, h3]
theorem ins17_perm (e : KV) : ∀ l : List KV, (ins17 e l).Perm (e :: l)
  | [] => List.Perm.refl _
  | x :: r => by
    unfold ins17
    split
    · exact List.Perm.refl _
    · exact ((ins17_perm e r).cons x).trans (List.Perm.swap e x r)
theorem ins17_rise {e : KV} : ∀ {l : List KV}, RiseK l → (∀ y ∈ l, y.1 ≠ e.1) → RiseK (ins17 e l)
  | [], _, _ => List.pairwise_singleton _ _
  | x :: r, h, hn => by
    obtain ⟨h1, h2⟩ := List.pairwise_cons.1 h
    unfold ins17
    by_cases hk : e.1.cmp x.1 < 0
    · rw [if_pos (by unfold kb17; simpa using hk)]
      refine List.Pairwise.cons (fun y hy => ?_) h
      rcases List.mem_cons.1 hy with rfl | hy
      · exact hk
      · exact IK.cmp_trans hk (h1 y hy)
    · rw [if_neg (by unfold kb17; simpa using hk)]
      refine List.Pairwise.cons (fun y hy => ?_) (ins17_rise h2 fun y hy => hn y (by simp [hy]))
      rcases mem_ins17.1 hy with rfl | hy
      · have h3 : y.1.cmp x.1 ≠ 0 := fun h => hn x (by simp) (ik_zero h).symm
        have h4 : x.1.cmp y.1 = -y.1.cmp x.1 := IK.cmp_turn _ _
        omega
      · exact h1 y hy
/-- One list, and those of another one in their places. -/
def joinK (a b : List KV) : Nat → List KV
  | 0 => a
  | k + 1 => match b[k]? with
    | none => joinK a b k
    | some e => ins17 e (joinK a b k)
theorem joinK_succ {a b : List KV} {k : Nat} {e : KV} (h : b[k]? = some e) : joinK a b (k + 1) = ins17 e (joinK a b k) := by
  show (match b[k]? with | none => _ | some e => _) = _
  rw [h]
theorem joinK_len (a b : List KV) : ∀ k, k ≤ b.length → (joinK a b k).length = a.length + k
  | 0, _ => rfl
  | k + 1, h => by
    rw [joinK_succ (List.getElem?_eq_getElem (by omega)), ins17_len, joinK_len a b k (by omega)]
    omega
theorem joinK_perm (a b : List KV) : ∀ k, k ≤ b.length → (joinK a b k).Perm (a ++ b.take k)
  | 0, _ => by simp [joinK]
  | k + 1, h => by
    have hk : k < b.length := by omega
    rw [joinK_succ (List.getElem?_eq_getElem hk), List.take_succ_eq_append_getElem hk]
    refine (ins17_perm _ _).trans (((joinK_perm a b k (by omega)).cons _).trans ?_)
    rw [← List.append_assoc]
    exact (List.perm_append_singleton _ _).symm
theorem joinK_rise {a b : List KV} (ha : RiseK a) : ∀ k, k ≤ b.length → (∀ j (hj : j < b.length), j < k → ∀ y ∈ joinK a b j, y.1 ≠ b[j].1) → RiseK (joinK a b k)
  | 0, _, _ => ha
  | k + 1, h, hn => by
    have hk : k < b.length := by omega
    rw [joinK_succ (List.getElem?_eq_getElem hk)]
    exact ins17_rise (joinK_rise ha k (by omega) fun j hj hjk => hn j hj (by omega)) (hn k hk (by omega))
theorem all_join {a b : List KV} (ha : RiseK a) (hb : RiseK b) (hn : ∀ j (hj : j < b.length), ∀ y ∈ joinK a b j, y.1 ≠ b[j].1) : RiseK (joinK a b b.length) ∧ allL [a, b] = joinK a b b.length := by
  have hr := joinK_rise ha b.length (Nat.le_refl _) fun j hj _ => hn j hj
  refine ⟨hr, all_parts (fun m hm => ?_) hr ?_⟩
  · simp only [List.mem_cons, List.not_mem_nil, or_false] at hm
    rcases hm with rfl | rfl
    · exact ha
    · exact hb
  · have := (joinK_perm a b b.length (Nat.le_refl _)).symm
    rw [List.take_length] at this
    simpa using this
def lowK (s : Nat) (l : List KV) : List KV := l.filter fun e => decide (e.1.seq ≤ s)
theorem lowK_succ (s : Nat) (l : List KV) {i : Nat} (hi : i < l.length) : lowK s (l.take (i + 1)) = lowK s (l.take i) ++ if l[i].1.seq ≤ s then [l[i]] else [] := by
  unfold lowK
  rw [List.take_succ_eq_append_getElem hi, List.filter_append]
  congr 1
  by_cases h : l[i].1.seq ≤ s
  · rw [if_pos h]; simp [h]
  · rw [if_neg h]; simp [h]
theorem lowK_len (s : Nat) (l : List KV) : (lowK s l).length ≤ l.length := List.length_filter_le _ _
theorem lget_low (s : Nat) (u : ByteArray) : ∀ l : List KV, lget17 (lowK s l) u s = lget17 l u s
  | [] => rfl
  | e :: l => by
    have ih := lget_low s u l
    unfold lowK lget17 at *
    by_cases h : e.1.seq ≤ s
    · rw [List.filter_cons_of_pos (by simpa using h)]
      by_cases hu : e.1.user = u
      · rw [List.find?_cons_of_pos (by simp [hu, h]), List.find?_cons_of_pos (by simp [hu, h])]
      · rw [List.find?_cons_of_neg (by simp [hu]), List.find?_cons_of_neg (by simp [hu]), ih]
    · rw [List.filter_cons_of_neg (by simpa using h), List.find?_cons_of_neg (by simp [h]), ih]
theorem low_rise {s : Nat} {l : List KV} (h : RiseK l) : RiseK (lowK s l) := h.sublist List.filter_sublist
theorem seen_low {s : Nat} {l : List KV} (h : RiseK l) : seenL s (lowK s l) = seenL s l := by
  have h1 := rise_sortU (low_rise (s := s) h)
  have h2 := rise_sortU h
  refine rise_ext17 (rise_seen h1) (rise_seen h2) fun ⟨u, x⟩ => ?_
  rw [mem_seen h1, mem_seen h2, lget_low]
end Go.Proofs.Ytjoamhcehpjepab
/- One more entry above all numbers, plainly. -/
namespace Go.Proofs.Ytjoamhcehpjepab
open Go.RowKit
set_option linter.unusedVariables false
set_option linter.unusedSimpArgs false
theorem len_cons (l : List KV) (L : List (List KV)) (i : Nat) : lenL (l :: L) (i + 1) = lenL L i := by simp [lenL, List.getD]
theorem ent_cons (l : List KV) (L : List (List KV)) (i j : Nat) : entL (l :: L) (i + 1, j) = entL L (i, j) := by simp [entL, List.getD]
theorem find_filter {α β : Type} (f : α → β) (P : β → Bool) (g : α → Bool) : ∀ l : List α, (∀ x ∈ l, g x = false → P (f x) = false) → (l.map f).find? P = ((l.filter g).map f).find? P
  | [], _ => rfl
  | x :: l, h => by
    have ih := find_filter f P g l fun y hy => h y (by simp [hy])
    cases hg : g x with
    | true =>
      rw [List.filter_cons_of_pos hg, List.map_cons, List.map_cons]
      cases hp : P (f x) with
      | true => rw [List.find?_cons_of_pos hp, List.find?_cons_of_pos hp]
      | false => rw [List.find?_cons_of_neg (by simp [hp]), List.find?_cons_of_neg (by simp [hp]), ih]
    | false =>
      rw [List.filter_cons_of_neg (by simp [hg]), List.map_cons, List.find?_cons_of_neg (by simp [h x (by simp) hg]), ih]
/-- The places of a list more, but for its own. -/
theorem places_cons {l : List KV} {L : List (List KV)} (hl : RiseK l) (hL : RiseL L) : ((allP (l :: L)).filter fun p => decide (0 < p.1)).map (fun p => (p.1 - 1, p.2)) = allP L := by
  have hr : RiseL (l :: L) := fun m hm => by
    rcases List.mem_cons.1 hm with rfl | hm
    · exact hl
    · exact hL m hm
  refine row_ext16 (R := aheadL L) ?_ (all_rises hL) (fun p _ q _ h => ahead_not h) fun q => ?_
  · rw [List.pairwise_map]
    refine ((all_rises hr).filter _).imp_of_mem fun {p q} hp hq h => ?_
    have h1 : 0 < p.1 := by simpa using (List.mem_filter.1 hp).2
    have h2 : 0 < q.1 := by simpa using (List.mem_filter.1 hq).2
    obtain ⟨i, j⟩ := p
    obtain ⟨k, m⟩ := q
    dsimp only at h1 h2
    obtain ⟨i, rfl⟩ : ∃ x, i = x + 1 := ⟨i - 1, by omega⟩
    obtain ⟨k, rfl⟩ : ∃ x, k = x + 1 := ⟨k - 1, by omega⟩
    unfold aheadL cmpL at h ⊢
    rw [ent_cons, ent_cons] at h
    simp only [Nat.add_sub_cancel]
    rcases h with h | ⟨h, h'⟩
    · exact .inl h
    · exact .inr ⟨h, by dsimp only at h'; omega⟩
  · rw [List.mem_map, mem_allP]
    constructor
    · rintro ⟨p, hp, rfl⟩
      obtain ⟨h1, h2⟩ := List.mem_filter.1 hp
      have hv := mem_allP.1 h1
      obtain ⟨i, j⟩ := p
      have h3 : 0 < i := by simpa using h2
      obtain ⟨i, rfl⟩ : ∃ x, i = x + 1 := ⟨i - 1, by omega⟩
      have hv' : j < lenL (l :: L) (i + 1) := hv
      rw [len_cons] at hv'
      exact hv'
    · intro hv
      obtain ⟨i, j⟩ := q
      have hv' : j < lenL L i := hv
      refine ⟨(i + 1, j), List.mem_filter.2 ⟨mem_allP.2 (show j < lenL (l :: L) (i + 1) by rw [len_cons]; exact hv'), by simp⟩, by simp⟩
theorem riseL_cons {l : List KV} {L : List (List KV)} (hl : RiseK l) (hL : RiseL L) : RiseL (l :: L) := fun m hm => by
  rcases List.mem_cons.1 hm with rfl | hm
  · exact hl
  · exact hL m hm
/-- Of another user the same is known. -/
theorem lget_other {E : KV} {L : List (List KV)} (hL : RiseL L) {u : ByteArray} (hu : u ≠ E.1.user) (s : Nat) : lget17 (allL ([E] :: L)) u s = lget17 (allL L) u s := by
  have hp := places_cons (List.pairwise_singleton _ E : RiseK [E]) hL
  unfold lget17 allL
  rw [find_filter (entL ([E] :: L)) _ (fun p => decide (0 < p.1)), ← hp, List.map_map]
  · congr 1
    refine List.map_congr_left fun p hq => ?_
    have h2 : 0 < p.1 := by simpa using (List.mem_filter.1 hq).2
    obtain ⟨i, j⟩ := p
    obtain ⟨i, rfl⟩ : ∃ x, i = x + 1 := ⟨i - 1, by omega⟩
    show entL ([E] :: L) (i + 1, j) = entL L (i + 1 - 1, j)
    rw [ent_cons, Nat.add_sub_cancel]
  · intro p hq hg
    obtain ⟨i, j⟩ := p
    have hi : i = 0 := by simpa using hg
    subst hi
    have hv : j < lenL ([E] :: L) 0 := mem_allP.1 hq
    have hj : j = 0 := by simp [lenL, List.getD] at hv; omega
    subst hj
    have he : entL ([E] :: L) (0, 0) = E := by simp [entL, List.getD]
    rw [he]
    simp only [decide_eq_false_iff_not]
    exact fun h => hu h.1.symm
/-- Of its own user it is what is known. -/
theorem lget_own {E : KV} {L : List (List KV)} (hL : RiseL L) (hno : ∀ l ∈ L, ∀ e ∈ l, e.1.seq ≠ E.1.seq) : lget17 (allL ([E] :: L)) E.1.user E.1.seq = some E := by
  have hr := riseL_cons (List.pairwise_singleton _ E : RiseK [E]) hL
  have hmem : ∀ x, x ∈ allL ([E] :: L) ↔ x = E ∨ ∃ l ∈ L, x ∈ l := fun x => by
    rw [(perm_flat ([E] :: L)).mem_iff]
    simp
  have hE : E ∈ allL ([E] :: L) := (hmem E).2 (.inl rfl)
  cases hg : lget17 (allL ([E] :: L)) E.1.user E.1.seq with
  | none =>
    have := List.find?_eq_none.1 hg E hE
    simp at this
  | some x =>
    obtain ⟨hxu, hxs, hxm⟩ := lget_user hg
    rcases (hmem x).1 hxm with rfl | ⟨l, hl, hx⟩
    · rfl
    · exfalso
      have hne := hno l hl x hx
      -- x stands ahead of E, or behind it
      obtain ⟨hP, xs, ys, hab, has⟩ := List.find?_eq_some_iff_append.1 hg
      have hEn : E ∉ xs := fun h => by
        have := has E h
        simp at this
      have hsort := all_le hr
      rw [hab] at hsort hE
      have hEb : E ∈ ys := by
        rcases List.mem_append.1 hE with h | h
        · exact absurd h hEn
        · rcases List.mem_cons.1 h with h | h
          · exact absurd (by rw [h]) hne
          · exact h
      have h1 := (List.pairwise_cons.1 (List.pairwise_append.1 hsort).2.1).1 E hEb
      have h2 := (kcmp_num x.1.user.toList E.1.user.toList (x.1.seq : Int) (E.1.seq : Int) x.1.kind E.1.kind (by rw [hxu]; exact scmp_self _)).1.1 h1
      omega
theorem fall_less {E : KV} {L : List (List KV)} (hL : RiseL L) (hno : ∀ l ∈ L, ∀ e ∈ l, e.1.seq ≠ E.1.seq) (hk : E.1.kind = 0) : seenL E.1.seq (allL ([E] :: L)) = (seenL E.1.seq (allL L)).filter fun x => decide (x.1 ≠ E.1.user) := by
  have hr := riseL_cons (List.pairwise_singleton _ E : RiseK [E]) hL
  refine rise_ext17 (rise_seen (all_sortU hr)) ((rise_seen (all_sortU hL)).filter _) fun ⟨u, x⟩ => ?_
  rw [List.mem_filter, mem_seen (all_sortU hr), mem_seen (all_sortU hL)]
  by_cases hu : u = E.1.user
  · subst hu
    rw [lget_own hL hno]
    constructor
    · rintro ⟨e, he, hk1, _⟩
      obtain rfl := Option.some.inj he
      omega
    · rintro ⟨_, h⟩
      simp at h
  · rw [lget_other hL hu]
    simp [hu]
theorem fall_more {E : KV} {L : List (List KV)} (hL : RiseL L) (hno : ∀ l ∈ L, ∀ e ∈ l, e.1.seq ≠ E.1.seq) (hk : E.1.kind = 1) : (seenL E.1.seq (allL ([E] :: L))).filter (fun x => decide (x.1 ≠ E.1.user)) = (seenL E.1.seq (allL L)).filter (fun x => decide (x.1 ≠ E.1.user)) ∧ (seenL E.1.seq (allL ([E] :: L))).filter (fun x => decide (x.1 = E.1.user)) = [(E.1.user, E.2)] := by
  have hr := riseL_cons (List.pairwise_singleton _ E : RiseK [E]) hL
  have h1 := rise_seen (s := E.1.seq) (all_sortU hr)
  have h2 := rise_seen (s := E.1.seq) (all_sortU hL)
  refine ⟨rise_ext17 (h1.filter _) (h2.filter _) fun ⟨u, x⟩ => ?_, rise_ext17 (h1.filter _) (List.pairwise_singleton _ _) fun ⟨u, x⟩ => ?_⟩
  · rw [List.mem_filter, List.mem_filter, mem_seen (all_sortU hr), mem_seen (all_sortU hL)]
    by_cases hu : u = E.1.user
    · simp [hu]
    · rw [lget_other hL hu]
  · rw [List.mem_filter, mem_seen (all_sortU hr)]
    by_cases hu : u = E.1.user
    · subst hu
      rw [lget_own hL hno]
      simp [hk]
      exact ⟨fun h => h.symm, fun h => h.symm⟩
    · simp [hu]
end Go.Proofs.Ytjoamhcehpjepab
