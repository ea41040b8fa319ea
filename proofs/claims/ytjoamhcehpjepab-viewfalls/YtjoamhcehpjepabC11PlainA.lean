/- How many bytes two texts begin with alike; texts held against one another, plainly. -/
import Derived.WalkKit
import Derived.Test.YtjoamhcehpjepabQa00
namespace Go.Proofs.Ytjoamhcehpjepab
/-- How many bytes both texts begin with. -/
def lcp : List UInt8 → List UInt8 → Nat
  | x :: xs, y :: ys => if x = y then lcp xs ys + 1 else 0
  | _, _ => 0
theorem lcp_le : ∀ (a b : List UInt8), lcp a b ≤ a.length ∧ lcp a b ≤ b.length
  | [], b => by simp [lcp]
  | _ :: _, [] => by simp [lcp]
  | x :: xs, y :: ys => by
    unfold lcp
    have := lcp_le xs ys
    split <;> simp <;> omega
theorem lcp_nil (a b : List UInt8) (h : a = [] ∨ b = []) : lcp a b = 0 := by
  rcases h with rfl | rfl
  · cases b <;> rfl
  · cases a <;> rfl
theorem dropB (l : List UInt8) (k : Nat) (h : k < l.length) : l.drop k = l.getD k 0 :: l.drop (k + 1) := by
  rw [List.drop_eq_getElem_cons h]
  simp [List.getD, h]
theorem lcp_same (a b : List UInt8) (k : Nat) (h1 : k < a.length) (h2 : k < b.length) (h : (a.getD k 0).toNat = (b.getD k 0).toNat) : lcp (a.drop k) (b.drop k) = 1 + lcp (a.drop (k + 1)) (b.drop (k + 1)) := by
  rw [dropB a k h1, dropB b k h2, lcp, if_pos (UInt8.toNat_inj.1 h)]
  omega
theorem lcp_other (a b : List UInt8) (k : Nat) (h1 : k < a.length) (h2 : k < b.length) (h : (a.getD k 0).toNat ≠ (b.getD k 0).toNat) : lcp (a.drop k) (b.drop k) = 0 := by
  rw [dropB a k h1, dropB b k h2, lcp, if_neg (fun e => h (by rw [e]))]
theorem lcp_end (a b : List UInt8) (k : Nat) (h : a.length ≤ k ∨ b.length ≤ k) : lcp (a.drop k) (b.drop k) = 0 := by
  refine lcp_nil _ _ ?_
  rcases h with h | h
  · exact .inl (List.drop_eq_nil_of_le h)
  · exact .inr (List.drop_eq_nil_of_le h)

theorem less_prefix : ∀ (p x y : List UInt8), Op.bytesLess (p ++ x) (p ++ y) = Op.bytesLess x y
  | [], _, _ => rfl
  | c :: p, x, y => by
    rw [List.cons_append, List.cons_append, Op.bytesLess, less_prefix p x y]
    simp
theorem less_self : ∀ x : List UInt8, Op.bytesLess x x = false := by
  intro x
  have := less_prefix x [] []
  rw [List.append_nil] at this
  rw [this]
  rfl
theorem lcp_take : ∀ (a b : List UInt8), a.take (lcp a b) = b.take (lcp a b)
  | [], b => by cases b <;> simp [lcp]
  | _ :: _, [] => by simp [lcp]
  | x :: xs, y :: ys => by
    unfold lcp
    by_cases h : x = y
    · rw [if_pos h, List.take_succ_cons, List.take_succ_cons, lcp_take xs ys, h]
    · rw [if_neg h]
      rfl
end Go.Proofs.Ytjoamhcehpjepab
/- Keys stand in one line: what holds of the plain function that compares them. -/
namespace Go.Proofs.Ytjoamhcehpjepab

theorem less_trans : ∀ (x y z : List UInt8), Op.bytesLess x y = true → Op.bytesLess y z = true → Op.bytesLess x z = true
  | _, [], _, h, _ => by simp [Op.bytesLess] at h
  | _, _ :: _, [], _, h => by simp [Op.bytesLess] at h
  | [], _ :: _, _ :: _, _, _ => by simp [Op.bytesLess]
  | a :: x, b :: y, c :: z, h1, h2 => by
    simp only [Op.bytesLess, Bool.or_eq_true, Bool.and_eq_true, decide_eq_true_eq, beq_iff_eq, UInt8.lt_iff_toNat_lt] at h1 h2 ⊢
    rcases h1 with h1 | ⟨rfl, h1⟩
    · rcases h2 with h2 | ⟨rfl, h2⟩
      · exact .inl (by omega)
      · exact .inl h1
    · rcases h2 with h2 | ⟨rfl, h2⟩
      · exact .inl h2
      · exact .inr ⟨rfl, less_trans x y z h1 h2⟩
theorem less_tri : ∀ (x y : List UInt8), Op.bytesLess x y = false → x = y ∨ Op.bytesLess y x = true
  | [], [], _ => .inl rfl
  | [], _ :: _, h => by simp [Op.bytesLess] at h
  | _ :: _, [], _ => .inr (by simp [Op.bytesLess])
  | a :: x, b :: y, h => by
    simp only [Op.bytesLess, Bool.or_eq_false_iff, Bool.and_eq_false_iff, decide_eq_false_iff_not, beq_eq_false_iff_ne, UInt8.lt_iff_toNat_lt] at h
    obtain ⟨h1, h2⟩ := h
    by_cases hab : a = b
    · subst hab
      rcases less_tri x y (by simpa using h2) with rfl | h3
      · exact .inl rfl
      · exact .inr (by simp [Op.bytesLess, h3])
    · refine .inr ?_
      have : a.toNat ≠ b.toNat := fun e => hab (UInt8.toNat_inj.1 e)
      simp only [Op.bytesLess, Bool.or_eq_true, decide_eq_true_eq, UInt8.lt_iff_toNat_lt]
      exact .inl (by omega)
theorem less_asymm (x y : List UInt8) (h : Op.bytesLess x y = true) : Op.bytesLess y x = false := by
  by_cases h2 : Op.bytesLess y x = true
  · have := less_trans x y x h h2
    rw [less_self] at this
    cases this
  · simpa using h2
theorem scmp_spec (x y : List UInt8) : (scmp x y = -1 ∧ Op.bytesLess x y = true) ∨ (scmp x y = 0 ∧ x = y) ∨ (scmp x y = 1 ∧ Op.bytesLess y x = true) := by
  unfold scmp
  by_cases h : Op.bytesLess x y = true
  · rw [if_pos h]
    exact .inl ⟨rfl, h⟩
  · rw [if_neg h]
    by_cases h2 : x = y
    · rw [if_pos (by simpa using h2)]
      exact .inr (.inl ⟨rfl, h2⟩)
    · rw [if_neg (by simpa using h2)]
      exact .inr (.inr ⟨rfl, (less_tri x y (by simpa using h)).resolve_left h2⟩)
theorem scmp_of_less {x y : List UInt8} (h : Op.bytesLess x y = true) : scmp x y = -1 := by unfold scmp; rw [if_pos h]
theorem scmp_of_more {x y : List UInt8} (h : Op.bytesLess y x = true) : scmp x y = 1 := by
  unfold scmp
  have h2 := less_asymm y x h
  rw [if_neg (by rw [h2]; decide), if_neg (by intro e; have hxy : x = y := (by simpa using e); subst hxy; rw [h2] at h; cases h)]
theorem scmp_self (x : List UInt8) : scmp x x = 0 := by
  unfold scmp
  rw [if_neg (by rw [less_self]; decide), if_pos (by simp)]
theorem scmp_turn (x y : List UInt8) : scmp y x = -scmp x y := by
  rcases scmp_spec x y with ⟨e, h⟩ | ⟨e, rfl⟩ | ⟨e, h⟩
  · rw [e, scmp_of_more h]; rfl
  · rw [e]; rfl
  · rw [e, scmp_of_less h]
theorem scmp_row (x y z : List UInt8) : (scmp x y = 0 → scmp x z = scmp y z) ∧ (scmp y z = 0 → scmp x z = scmp x y) ∧ (scmp x y = -1 → scmp y z = -1 → scmp x z = -1) ∧ (scmp x y = 1 → scmp y z = 1 → scmp x z = 1) := by
  refine ⟨?_, ?_, ?_, ?_⟩
  · intro h
    rcases scmp_spec x y with ⟨e, _⟩ | ⟨_, rfl⟩ | ⟨e, _⟩
    · omega
    · rfl
    · omega
  · intro h
    rcases scmp_spec y z with ⟨e, _⟩ | ⟨_, rfl⟩ | ⟨e, _⟩
    · omega
    · rfl
    · omega
  · intro h1 h2
    rcases scmp_spec x y with ⟨_, l1⟩ | ⟨e, _⟩ | ⟨e, _⟩
    · rcases scmp_spec y z with ⟨_, l2⟩ | ⟨e, _⟩ | ⟨e, _⟩
      · exact scmp_of_less (less_trans x y z l1 l2)
      · omega
      · omega
    · omega
    · omega
  · intro h1 h2
    rcases scmp_spec x y with ⟨e, _⟩ | ⟨e, _⟩ | ⟨_, l1⟩
    · omega
    · omega
    · rcases scmp_spec y z with ⟨e, _⟩ | ⟨e, _⟩ | ⟨_, l2⟩
      · omega
      · omega
      · exact scmp_of_more (less_trans z y x l2 l1)
theorem icmp_spec (x y : Int) : (icmp x y = -1 ∧ x < y) ∨ (icmp x y = 0 ∧ x = y) ∨ (icmp x y = 1 ∧ y < x) := by
  unfold icmp
  split
  · exact .inl ⟨rfl, by assumption⟩
  · split
    · exact .inr (.inr ⟨rfl, by assumption⟩)
    · exact .inr (.inl ⟨rfl, by omega⟩)
theorem kcmp_spec (s t : List UInt8) (q r k l : Int) : (scmp s t ≠ 0 ∧ kcmp s t q r k l = scmp s t) ∨ (scmp s t = 0 ∧ r ≠ q ∧ kcmp s t q r k l = icmp r q) ∨ (scmp s t = 0 ∧ r = q ∧ kcmp s t q r k l = icmp l k) := by
  unfold kcmp
  by_cases h : scmp s t = 0
  · rw [if_neg (by simp [h])]
    by_cases h2 : icmp r q = 0
    · rw [if_neg (by simp [h2])]
      have := icmp_spec r q
      exact .inr (.inr ⟨h, by omega, rfl⟩)
    · rw [if_pos (by simp [h2])]
      have := icmp_spec r q
      exact .inr (.inl ⟨h, by omega, rfl⟩)
  · rw [if_pos (by simpa using h)]
    exact .inl ⟨h, rfl⟩
theorem kcmp_self (s : List UInt8) (q k : Int) : kcmp s s q q k k = 0 := by
  have := icmp_spec k k
  have e := scmp_self s
  rcases kcmp_spec s s q q k k with ⟨h, _⟩ | ⟨_, h, _⟩ | ⟨_, _, h⟩
  · omega
  · omega
  · omega
theorem kcmp_turn (s t : List UInt8) (q r k l : Int) : kcmp t s r q l k = -kcmp s t q r k l := by
  have e := scmp_turn s t
  have i1 := icmp_spec r q
  have i2 := icmp_spec q r
  have i3 := icmp_spec l k
  have i4 := icmp_spec k l
  rcases kcmp_spec s t q r k l with ⟨h1, h2⟩ | ⟨h1, h2, h3⟩ | ⟨h1, h2, h3⟩ <;> rcases kcmp_spec t s r q l k with ⟨g1, g2⟩ | ⟨g1, g2, g3⟩ | ⟨g1, g2, g3⟩ <;> omega
theorem kcmp_bound (s t : List UInt8) (q r k l : Int) : kcmp s t q r k l = -1 ∨ kcmp s t q r k l = 0 ∨ kcmp s t q r k l = 1 := by
  have e := scmp_spec s t
  have i1 := icmp_spec r q
  have i3 := icmp_spec l k
  rcases kcmp_spec s t q r k l with ⟨h1, h2⟩ | ⟨h1, h2, h3⟩ | ⟨h1, h2, h3⟩ <;> omega
theorem kcmp_zero (s t : List UInt8) (q r k l : Int) : kcmp s t q r k l = 0 ↔ s = t ∧ q = r ∧ k = l := by
  constructor
  · intro h
    have i1 := icmp_spec r q
    have i3 := icmp_spec l k
    rcases kcmp_spec s t q r k l with ⟨h1, h2⟩ | ⟨h1, h2, h3⟩ | ⟨h1, h2, h3⟩
    · omega
    · omega
    · rcases scmp_spec s t with ⟨e, _⟩ | ⟨_, e⟩ | ⟨e, _⟩
      · omega
      · exact ⟨e, by omega, by omega⟩
      · omega
  · rintro ⟨rfl, rfl, rfl⟩
    exact kcmp_self _ _ _
theorem kcmp_num (s t : List UInt8) (q r k l : Int) (h : scmp s t = 0) : (kcmp s t q r k l ≤ 0 ↔ r < q ∨ (r = q ∧ l ≤ k)) ∧ (kcmp s t q r k l < 0 ↔ r < q ∨ (r = q ∧ l < k)) := by
  have i1 := icmp_spec r q
  have i3 := icmp_spec l k
  rcases kcmp_spec s t q r k l with ⟨h1, h2⟩ | ⟨h1, h2, h3⟩ | ⟨h1, h2, h3⟩ <;> omega
theorem kcmp_text (s t : List UInt8) (q r k l : Int) (h : scmp s t ≠ 0) : kcmp s t q r k l = scmp s t := by
  rcases kcmp_spec s t q r k l with ⟨h1, h2⟩ | ⟨h1, h2, h3⟩ | ⟨h1, h2, h3⟩ <;> omega
theorem kcmp_row (s t u : List UInt8) (q r p k l m : Int) : (kcmp s t q r k l ≤ 0 → kcmp t u r p l m ≤ 0 → kcmp s u q p k m ≤ 0) ∧ (kcmp s t q r k l ≤ 0 → kcmp t u r p l m < 0 → kcmp s u q p k m < 0) := by
  obtain ⟨e1, e2, e3, e4⟩ := scmp_row s t u
  have b1 : scmp s t = -1 ∨ scmp s t = 0 ∨ scmp s t = 1 := by rcases scmp_spec s t with ⟨e, _⟩ | ⟨e, _⟩ | ⟨e, _⟩ <;> omega
  have b2 : scmp t u = -1 ∨ scmp t u = 0 ∨ scmp t u = 1 := by rcases scmp_spec t u with ⟨e, _⟩ | ⟨e, _⟩ | ⟨e, _⟩ <;> omega
  rcases b1 with b1 | b1 | b1
  · have k1 := kcmp_text s t q r k l (by omega)
    rcases b2 with b2 | b2 | b2
    · have k3 := kcmp_text s u q p k m (by omega)
      omega
    · have k3 := kcmp_text s u q p k m (by omega)
      omega
    · have k2 := kcmp_text t u r p l m (by omega)
      omega
  · rcases b2 with b2 | b2 | b2
    · have k3 := kcmp_text s u q p k m (by omega)
      omega
    · have n1 := kcmp_num s t q r k l b1
      have n2 := kcmp_num t u r p l m b2
      have n3 := kcmp_num s u q p k m (by omega)
      omega
    · have k2 := kcmp_text t u r p l m (by omega)
      omega
  · have k1 := kcmp_text s t q r k l (by omega)
    omega
end Go.Proofs.Ytjoamhcehpjepab
/- Entries that share beginnings, plainly: how they are laid and how they are read; no program is spoken of here. -/
namespace Go.Proofs.Ytjoamhcehpjepab
set_option linter.unusedVariables false
set_option linter.unusedSimpArgs false
structure IK where
  user : ByteArray
  seq : Nat
  kind : Int
def IK.v (k : IK) : Value := .agg #[.string k.user, .int .u64 (k.seq : Int), .int .i64 k.kind]
def IK.err (k : IK) : Nat := chk k.user.size k.seq k.kind
def IK.enc (k : IK) : List UInt8 := keyEnc k.user.data.toList k.seq k.kind
def IK.cmp (a b : IK) : Int := kcmp a.user.toList b.user.toList (a.seq : Int) (b.seq : Int) a.kind b.kind
theorem IK.cmp_trans {a b c : IK} (h : a.cmp b < 0) (k : b.cmp c < 0) : a.cmp c < 0 := (kcmp_row _ _ _ _ _ _ _ _ _).2 (Int.le_of_lt h) k
theorem IK.cmp_self (a : IK) : a.cmp a = 0 := kcmp_self _ _ _
theorem IK.cmp_turn (a b : IK) : b.cmp a = -a.cmp b := kcmp_turn _ _ _ _ _ _
abbrev KV := IK × ByteArray
/-- What is wrong with entries behind one. -/
def chkGo : Option IK → List KV → Nat
  | _, [] => 0
  | p, e :: l => if e.1.err ≠ 0 then e.1.err else if 1000 < e.2.size then 31 else if (p.any fun q => decide (0 ≤ q.cmp e.1)) = true then 110 else chkGo (some e.1) l
def chkL (l : List KV) : Nat := chkGo none l
/-- An entry that may be laid. -/
def EOk (e : KV) : Prop := e.1.err = 0 ∧ e.2.size ≤ 1000
def Rises (l : List KV) : Prop := l.Pairwise fun a b => a.1.cmp b.1 < 0
theorem chkGo_zero : ∀ {p : Option IK} {l : List KV}, chkGo p l = 0 ↔ (∀ e ∈ l, EOk e) ∧ Rises l ∧ ∀ q, p = some q → ∀ e ∈ l, q.cmp e.1 < 0
  | p, [] => by simp [chkGo, Rises]
  | p, e :: l => by
    have ih := chkGo_zero (p := some e.1) (l := l)
    unfold chkGo
    by_cases h1 : e.1.err ≠ 0
    · rw [if_pos h1]
      exact ⟨fun h => absurd h h1, fun h => absurd (h.1 e (by simp)).1 h1⟩
    · rw [if_neg h1]
      have h1 : e.1.err = 0 := by omega
      by_cases h2 : 1000 < e.2.size
      · rw [if_pos h2]
        exact ⟨fun h => by omega, fun h => by have := (h.1 e (by simp)).2; omega⟩
      · rw [if_neg h2]
        by_cases h3 : (p.any fun q => decide (0 ≤ q.cmp e.1)) = true
        · rw [if_pos h3]
          refine ⟨fun h => by omega, fun h => ?_⟩
          cases p with
          | none => simp at h3
          | some q =>
            simp at h3
            have := h.2.2 q rfl e (by simp)
            omega
        · rw [if_neg h3, ih]
          have hpe : ∀ q, p = some q → q.cmp e.1 < 0 := by
            rintro q rfl
            simp at h3
            omega
          constructor
          · rintro ⟨a, b, c⟩
            refine ⟨?_, ?_, ?_⟩
            · intro x hx
              rcases List.mem_cons.1 hx with rfl | hx
              · exact ⟨h1, by omega⟩
              · exact a x hx
            · exact List.Pairwise.cons (fun x hx => c e.1 rfl x hx) b
            · intro q hq x hx
              rcases List.mem_cons.1 hx with rfl | hx
              · exact hpe q hq
              · exact IK.cmp_trans (hpe q hq) (c e.1 rfl x hx)
          · rintro ⟨a, b, c⟩
            refine ⟨fun x hx => a x (by simp [hx]), (List.pairwise_cons.1 b).2, ?_⟩
            rintro q hq x hx
            obtain rfl := Option.some.inj hq
            exact (List.pairwise_cons.1 b).1 x hx
theorem chkL_zero {l : List KV} : chkL l = 0 ↔ (∀ e ∈ l, EOk e) ∧ Rises l := by
  unfold chkL
  rw [chkGo_zero]
  simp
/-- An entry's bytes behind a key. -/
def ent (ah key v : List UInt8) : List UInt8 := uvEnc (lcp ah key) ++ (uvEnc (key.length - lcp ah key) ++ (uvEnc v.length ++ (key.drop (lcp ah key) ++ v)))
def entE (ah : List UInt8) (e : KV) : List UInt8 := ent ah e.1.enc e.2.data.toList
/-- Entries' bytes from a mark on. -/
def strB : List UInt8 → List KV → List UInt8
  | _, [] => []
  | ah, e :: l => entE ah e ++ strB e.1.enc l
def decKey (bs : List UInt8) : IK := ⟨strOf (keyUser bs), keySeq bs, (keyKind bs : Int)⟩
/-- The entry that bytes begin with, its key's bytes, and what is behind it. -/
def takeB (b ah : List UInt8) : Option (KV × List UInt8 × List UInt8) :=
  match uvRead b with
  | (n, k, 0) =>
    match uvRead (b.drop k) with
    | (m, i, 0) =>
      match uvRead ((b.drop k).drop i) with
      | (v, j, 0) =>
        if n ≤ ah.length ∧ m ≤ (((b.drop k).drop i).drop j).length ∧ v ≤ (((b.drop k).drop i).drop j).length - m ∧ keyOk (ah.take n ++ (((b.drop k).drop i).drop j).take m) = true then
          some ((decKey (ah.take n ++ (((b.drop k).drop i).drop j).take m), strOf (((((b.drop k).drop i).drop j).drop m).take v)), ah.take n ++ (((b.drop k).drop i).drop j).take m, ((((b.drop k).drop i).drop j).drop m).drop v)
        else none
      | _ => none
    | _ => none
  | _ => none
section
variable {b ah : List UInt8} {n k m i v j er : Nat}
theorem takeB_1 (h : uvRead b = (n, k, er)) (he : er ≠ 0) : takeB b ah = none := by
  unfold takeB
  rw [h]
  match er, he with
  | e + 1, _ => rfl
theorem takeB_2 (h : uvRead b = (n, k, 0)) (h2 : uvRead (b.drop k) = (m, i, er)) (he : er ≠ 0) : takeB b ah = none := by
  unfold takeB
  rw [h]
  simp only
  rw [h2]
  match er, he with
  | e + 1, _ => rfl
theorem takeB_3 (h : uvRead b = (n, k, 0)) (h2 : uvRead (b.drop k) = (m, i, 0)) (h3 : uvRead ((b.drop k).drop i) = (v, j, er)) (he : er ≠ 0) : takeB b ah = none := by
  unfold takeB
  rw [h]
  simp only
  rw [h2]
  simp only
  rw [h3]
  match er, he with
  | e + 1, _ => rfl
theorem takeB_4 (h : uvRead b = (n, k, 0)) (h2 : uvRead (b.drop k) = (m, i, 0)) (h3 : uvRead ((b.drop k).drop i) = (v, j, 0)) {r : List UInt8} (hr : ((b.drop k).drop i).drop j = r) : takeB b ah = if n ≤ ah.length ∧ m ≤ r.length ∧ v ≤ r.length - m ∧ keyOk (ah.take n ++ r.take m) = true then some ((decKey (ah.take n ++ r.take m), strOf ((r.drop m).take v)), ah.take n ++ r.take m, (r.drop m).drop v) else none := by
  subst hr
  unfold takeB
  rw [h]
  simp only
  rw [h2]
  simp only
  rw [h3]
  rfl
end
theorem ba_len (s : ByteArray) : s.data.toList.length = s.size := by rw [Array.length_toList]; rfl
theorem str_len (l : List UInt8) : (strOf l).size = l.length := by
  show l.toArray.size = l.length
  simp
theorem ba_eta (s : ByteArray) : strOf s.data.toList = s := by simp [strOf]
theorem IK.err_len {k : IK} (h : k.err = 0) : chk k.user.data.toList.length k.seq k.kind = 0 := by
  rw [ba_len]
  exact h
theorem decKey_enc {k : IK} (h : k.err = 0) : decKey k.enc = k := by
  obtain ⟨h1, h2, h3, _⟩ := key_back _ _ _ (IK.err_len h)
  unfold decKey IK.enc
  rw [h1, h2, h3, ba_eta]
theorem keyOk_enc {k : IK} (h : k.err = 0) : keyOk k.enc = true := by
  obtain ⟨_, _, _, h4⟩ := key_back _ _ _ (IK.err_len h)
  unfold keyErr at h4
  unfold IK.enc
  split at h4
  · assumption
  · omega
theorem enc_len {k : IK} (h : k.err = 0) : k.enc.length = k.user.size + 8 := by
  unfold IK.enc
  rw [keyEnc_yes (IK.err_len h), List.length_append, fxEnc_length, ba_len]
theorem err_le {k : IK} (h : k.err = 0) : k.user.size ≤ 64 := (chk_zero h).1
theorem decKey_ok {bs : List UInt8} (h : keyOk bs = true) : (decKey bs).err = 0 ∧ (decKey bs).enc = bs := by
  obtain ⟨h1, h2⟩ := key_laid bs h
  have := str_len (keyUser bs)
  refine ⟨?_, ?_⟩
  · unfold IK.err decKey
    simp only [this]
    exact h1
  · unfold IK.enc decKey
    simpa [strOf] using h2
theorem lcp_join (ah key : List UInt8) : ah.take (lcp ah key) ++ key.drop (lcp ah key) = key := by
  rw [lcp_take, List.take_append_drop]
theorem ent_len (ah key v : List UInt8) : 3 ≤ (ent ah key v).length ∧ (ent ah key v).length ≤ 30 + key.length + v.length := by
  have h1 := uvEnc_length (lcp ah key)
  have h2 := uvEnc_length (key.length - lcp ah key)
  have h3 := uvEnc_length v.length
  unfold ent
  simp only [List.length_append, List.length_drop]
  omega
/-- An entry that was laid is read, behind the key that it was laid behind; one that was laid behind none, behind whatever key. -/
theorem take_ent {e : KV} (he : EOk e) {ah la : List UInt8} (hl : ah = la ∨ ah = []) (hah : ah.length < 18446744073709551616) (more : List UInt8) : takeB (entE ah e ++ more) la = some (e, e.1.enc, more) := by
  have hlen := enc_len he.1
  have hus := err_le he.1
  have hle := lcp_le ah e.1.enc
  have hv := he.2
  have hvl := ba_len e.2
  unfold entE ent
  simp only [List.append_assoc]
  have hd : ∀ (x y : List UInt8), (x ++ y).drop x.length = y := fun x y => by simp
  have h1 := uvRead_enc (lcp ah e.1.enc) (by omega) (uvEnc (e.1.enc.length - lcp ah e.1.enc) ++ (uvEnc e.2.data.toList.length ++ (e.1.enc.drop (lcp ah e.1.enc) ++ (e.2.data.toList ++ more))))
  have h2 := uvRead_enc (e.1.enc.length - lcp ah e.1.enc) (by omega) (uvEnc e.2.data.toList.length ++ (e.1.enc.drop (lcp ah e.1.enc) ++ (e.2.data.toList ++ more)))
  have h3 := uvRead_enc e.2.data.toList.length (by omega) (e.1.enc.drop (lcp ah e.1.enc) ++ (e.2.data.toList ++ more))
  rw [takeB_4 h1 (by rw [hd]; exact h2) (by rw [hd, hd]; exact h3) (by rw [hd, hd, hd])]
  have ht : (e.1.enc.drop (lcp ah e.1.enc) ++ (e.2.data.toList ++ more)).take (e.1.enc.length - lcp ah e.1.enc) = e.1.enc.drop (lcp ah e.1.enc) := by
    rw [List.take_left']
    simp
  have hdr : (e.1.enc.drop (lcp ah e.1.enc) ++ (e.2.data.toList ++ more)).drop (e.1.enc.length - lcp ah e.1.enc) = e.2.data.toList ++ more := by
    rw [List.drop_left']
    simp
  have hk : la.take (lcp ah e.1.enc) ++ e.1.enc.drop (lcp ah e.1.enc) = e.1.enc := by
    rcases hl with rfl | rfl
    · exact lcp_join _ _
    · simp [lcp_nil]
  rw [ht, hdr, hk, if_pos]
  · rw [decKey_enc he.1, List.take_left' rfl, List.drop_left' rfl, ba_eta]
  · refine ⟨?_, ?_, ?_, keyOk_enc he.1⟩
    · rcases hl with rfl | rfl
      · exact hle.1
      · simp [lcp_nil]
    · simp
    · simp
/-- What is read is an entry whose key may be, and what is behind it is shorter. -/
theorem takeB_some {b ah : List UInt8} {e : KV} {key rest : List UInt8} (h : takeB b ah = some (e, key, rest)) : e.1.err = 0 ∧ e.1.enc = key ∧ rest.length + 3 ≤ b.length ∧ e.2.size ≤ b.length ∧ key.length ≤ 72 := by
  rcases h1 : uvRead b with ⟨n, k, er⟩
  by_cases e1 : er ≠ 0
  · rw [takeB_1 h1 e1] at h; cases h
  obtain rfl : er = 0 := by omega
  clear e1
  rcases h2 : uvRead (b.drop k) with ⟨m, i, er⟩
  by_cases e1 : er ≠ 0
  · rw [takeB_2 h1 h2 e1] at h; cases h
  obtain rfl : er = 0 := by omega
  clear e1
  rcases h3 : uvRead ((b.drop k).drop i) with ⟨v, j, er⟩
  by_cases e1 : er ≠ 0
  · rw [takeB_3 h1 h2 h3 e1] at h; cases h
  obtain rfl : er = 0 := by omega
  clear e1
  rw [takeB_4 h1 h2 h3 rfl] at h
  by_cases hc : n ≤ ah.length ∧ m ≤ (((b.drop k).drop i).drop j).length ∧ v ≤ (((b.drop k).drop i).drop j).length - m ∧ keyOk (ah.take n ++ (((b.drop k).drop i).drop j).take m) = true
  case neg => rw [if_neg hc] at h; cases h
  rw [if_pos hc] at h
  obtain ⟨c1, c2, c3, c4⟩ := hc
  simp only [Option.some.injEq, Prod.mk.injEq] at h
  obtain ⟨rfl, rfl, rfl⟩ := h
  have hk := decKey_ok c4
  have u1 := uvRead_ok b
  have u2 := uvRead_ok (b.drop k)
  have u3 := uvRead_ok ((b.drop k).drop i)
  rw [h1] at u1
  rw [h2] at u2
  rw [h3] at u3
  simp at u1 u2 u3
  have c5 := (keyOk_iff.1 c4).2.1
  refine ⟨hk.1, hk.2, ?_, ?_, c5⟩
  · simp at c2 c3 ⊢
    omega
  · show (strOf _).size ≤ _
    rw [str_len]
    simp at c2 c3 ⊢
    omega
end Go.Proofs.Ytjoamhcehpjepab
/- A block's bytes, plainly: entries in stretches, the places of marks; what is laid, and what is read of it. -/
namespace Go.Proofs.Ytjoamhcehpjepab
set_option linter.unusedVariables false
set_option linter.unusedSimpArgs false
/-- All entries of bytes, at most so many. -/
def entsF : Nat → List UInt8 → List UInt8 → Option (List KV)
  | 0, _, b => if b = [] then some [] else none
  | f + 1, ah, b => if b = [] then some [] else match takeB b ah with
    | some (e, key, rest) => (entsF f key rest).map (e :: ·)
    | none => none
theorem entsF_nil (f : Nat) (ah : List UInt8) : entsF f ah [] = some [] := by cases f <;> simp [entsF]
theorem entsF_full {ah b : List UInt8} (h : b ≠ []) : entsF 0 ah b = none := by simp [entsF, h]
theorem entsF_no {f : Nat} {ah b : List UInt8} (h : b ≠ []) (h2 : takeB b ah = none) : entsF f ah b = none := by cases f <;> simp [entsF, h, h2]
theorem entsF_yes {f : Nat} {ah b : List UInt8} {e : KV} {key rest : List UInt8} (h : b ≠ []) (h2 : takeB b ah = some (e, key, rest)) : entsF (f + 1) ah b = (entsF f key rest).map (e :: ·) := by simp [entsF, h, h2]
theorem enc_small {e : KV} (h : EOk e) : e.1.enc.length ≤ 72 := by
  rw [enc_len h.1]
  have := err_le h.1
  omega
theorem entE_ne (ah : List UInt8) (e : KV) (more : List UInt8) : entE ah e ++ more ≠ [] := by
  intro h
  have h1 := (ent_len ah e.1.enc e.2.data.toList).1
  have h2 := congrArg List.length h
  unfold entE at h2
  rw [List.length_append, List.length_nil] at h2
  omega
/-- Entries that were laid are read. -/
theorem ents_str : ∀ (l : List KV) (ah : List UInt8) (f : Nat), (∀ e ∈ l, EOk e) → l.length ≤ f → ah.length ≤ 72 → entsF f ah (strB ah l) = some l
  | [], ah, f, _, _, _ => entsF_nil f ah
  | e :: l, ah, 0, _, hf, _ => by simp at hf
  | e :: l, ah, f + 1, he, hf, ha => by
    have h0 : EOk e := he e (by simp)
    unfold strB
    rw [entsF_yes (entE_ne ah e _) (take_ent h0 (.inl rfl) (by omega) _), ents_str l _ f (fun x hx => he x (by simp [hx])) (by simpa using hf) (enc_small h0)]
    rfl
/-- Entries in stretches of so many. -/
def chunksF : Nat → Nat → List KV → List (List KV)
  | 0, _, _ => []
  | f + 1, iv, l => if l = [] then [] else l.take iv :: chunksF f iv (l.drop iv)
def chunks (iv : Nat) (l : List KV) : List (List KV) := chunksF l.length iv l
theorem chunksF_more (iv : Nat) (hi : 1 ≤ iv) : ∀ (f g : Nat) (l : List KV), l.length ≤ f → l.length ≤ g → chunksF f iv l = chunksF g iv l
  | 0, 0, l, _, _ => rfl
  | 0, g + 1, l, hf, _ => by
    obtain rfl := List.eq_nil_of_length_eq_zero (by omega : l.length = 0)
    simp [chunksF]
  | f + 1, 0, l, _, hg => by
    obtain rfl := List.eq_nil_of_length_eq_zero (by omega : l.length = 0)
    simp [chunksF]
  | f + 1, g + 1, l, hf, hg => by
    unfold chunksF
    split
    · rfl
    · rename_i h
      have : 0 < l.length := List.length_pos_iff.2 h
      rw [chunksF_more iv hi f g (l.drop iv) (by simp; omega) (by simp; omega)]
theorem chunks_nil (iv : Nat) : chunks iv [] = [] := rfl
theorem chunks_cons {iv : Nat} (hi : 1 ≤ iv) {l : List KV} (h : l ≠ []) : chunks iv l = l.take iv :: chunks iv (l.drop iv) := by
  have h0 : 0 < l.length := List.length_pos_iff.2 h
  unfold chunks
  obtain ⟨f, hf⟩ : ∃ f, l.length = f + 1 := ⟨l.length - 1, by omega⟩
  rw [hf, chunksF, if_neg h, chunksF_more iv hi f (l.drop iv).length _ (by simp; omega) (Nat.le_refl _)]
theorem chunks_ind {iv : Nat} (hi : 1 ≤ iv) {P : List KV → Prop} (h0 : P []) (h1 : ∀ l, l ≠ [] → P (l.drop iv) → P l) : ∀ l, P l := by
  have : ∀ n (l : List KV), l.length ≤ n → P l := by
    intro n
    induction n with
    | zero =>
      intro l hl
      obtain rfl := List.eq_nil_of_length_eq_zero (by omega : l.length = 0)
      exact h0
    | succ n ih =>
      intro l hl
      by_cases h : l = []
      · subst h; exact h0
      · have : 0 < l.length := List.length_pos_iff.2 h
        exact h1 l h (ih _ (by simp; omega))
  exact fun l => this l.length l (Nat.le_refl _)
theorem chunks_flat {iv : Nat} (hi : 1 ≤ iv) (l : List KV) : (chunks iv l).flatten = l := by
  refine chunks_ind hi (P := fun l => (chunks iv l).flatten = l) rfl (fun l h ih => ?_) l
  show (chunks iv l).flatten = l
  rw [chunks_cons hi h, List.flatten_cons, ih, List.take_append_drop]
theorem chunks_mem {iv : Nat} (hi : 1 ≤ iv) (l : List KV) : ∀ c ∈ chunks iv l, c ≠ [] ∧ c.length ≤ iv ∧ ∀ e ∈ c, e ∈ l := by
  refine chunks_ind hi (P := fun l => ∀ c ∈ chunks iv l, c ≠ [] ∧ c.length ≤ iv ∧ ∀ e ∈ c, e ∈ l) (by simp [chunks_nil]) (fun l h ih => ?_) l
  intro c hc
  rw [chunks_cons hi h] at hc
  rcases List.mem_cons.1 hc with rfl | hc
  · refine ⟨?_, by simp; omega, fun e he => List.mem_of_mem_take he⟩
    intro e
    have := congrArg List.length e
    have h0 : 0 < l.length := List.length_pos_iff.2 h
    rw [List.length_take, List.length_nil] at this
    omega
  · obtain ⟨a, b, d⟩ := ih c hc
    exact ⟨a, b, fun e he => List.mem_of_mem_drop (d e he)⟩
/-- The places of marks, from one on. -/
def placesB : Nat → List (List UInt8) → List UInt8
  | _, [] => []
  | n, s :: r => fxEnc n 4 ++ placesB (n + s.length) r
theorem placesB_len : ∀ (n : Nat) (ss : List (List UInt8)), (placesB n ss).length = 4 * ss.length
  | _, [] => rfl
  | n, s :: r => by
    unfold placesB
    rw [List.length_append, fxEnc_length, placesB_len _ r, List.length_cons]
    omega
def strs (iv : Nat) (l : List KV) : List (List UInt8) := (chunks iv l).map (strB [])
/-- A block's bytes. -/
def layP (iv : Nat) (l : List KV) : List UInt8 := (strs iv l).flatten ++ (placesB 0 (strs iv l) ++ (loByte iv :: fxEnc (strs iv l).length 4))
/-- Bytes, cut at places, from the last one on. -/
def cutsF : Nat → List UInt8 → List UInt8 → Option (List (List UInt8))
  | 0, body, _ => if body = [] then some [] else none
  | m + 1, body, pl => if leNat (pl.drop (4 * m)) ≤ body.length then (cutsF m (body.take (leNat (pl.drop (4 * m)))) (pl.take (4 * m))).map (· ++ [body.drop (leNat (pl.drop (4 * m)))]) else none
/-- The entries of stretches, each laid just so, behind an entry. -/
def cntF (iv : Nat) : Option IK → List (List UInt8) → Option (List (List KV))
  | _, [] => some []
  | ah, s :: r => match entsF iv [] s with
    | none => none
    | some l => if (l.length = iv ∨ (0 < l.length ∧ r = [])) ∧ chkGo ah l = 0 ∧ strB [] l = s then (cntF iv (l.getLast?.map (·.1)) r).map (l :: ·) else none
def rest5 (b : List UInt8) : List UInt8 := b.take (b.length - 5)
def countOf (b : List UInt8) : Nat := leNat (b.drop (b.length - 4))
def ivOf (b : List UInt8) : Nat := leNat ((b.take (b.length - 4)).drop (b.length - 5))
/-- The block that bytes are: its interval, its stretches, their entries. -/
def partP (b : List UInt8) : Option (List (List UInt8)) :=
  if 5 ≤ b.length ∧ 1 ≤ ivOf b ∧ ivOf b ≤ 16 ∧ countOf b ≤ (rest5 b).length / 4 then cutsF (countOf b) ((rest5 b).take ((rest5 b).length - countOf b * 4)) ((rest5 b).drop ((rest5 b).length - countOf b * 4)) else none
def openP (b : List UInt8) : Option (List (List UInt8) × List (List KV)) :=
  match partP b with
  | none => none
  | some ss => (cntF (ivOf b) none ss).map (ss, ·)
theorem cuts_some : ∀ (m : Nat) (body pl : List UInt8) (ss : List (List UInt8)), pl.length = 4 * m → cutsF m body pl = some ss → ss.length = m ∧ ss.flatten = body ∧ placesB 0 ss = pl
  | 0, body, pl, ss, hp, h => by
    unfold cutsF at h
    by_cases hb : body = []
    · rw [if_pos hb] at h
      obtain rfl := Option.some.inj h
      exact ⟨rfl, hb.symm, (List.eq_nil_of_length_eq_zero (by omega)).symm⟩
    · rw [if_neg hb] at h
      cases h
  | m + 1, body, pl, ss, hp, h => by
    unfold cutsF at h
    by_cases hb : leNat (pl.drop (4 * m)) ≤ body.length
    · rw [if_pos hb] at h
      obtain ⟨s0, h0, rfl⟩ := Option.map_eq_some_iff.1 h
      obtain ⟨i1, i2, i3⟩ := cuts_some m _ _ s0 (by simp; omega) h0
      refine ⟨by simp [i1], by simp [i2], ?_⟩
      have hpl : ∀ (a b : List (List UInt8)) (n : Nat), placesB n (a ++ b) = placesB n a ++ placesB (n + a.flatten.length) b := by
        intro a
        induction a with
        | nil => intro b n; simp [placesB]
        | cons x a ih =>
          intro b n
          simp only [List.cons_append, placesB, ih, List.append_assoc, List.flatten_cons, List.length_append, Nat.add_assoc]
      rw [hpl, i3, i2]
      simp only [placesB, List.append_nil, Nat.zero_add, List.length_take, Nat.min_eq_left hb]
      have hl : (pl.drop (4 * m)).length = 4 := by simp; omega
      have := fxEnc_le (pl.drop (4 * m))
      rw [hl] at this
      rw [this, List.take_append_drop]
    · rw [if_neg hb] at h
      cases h
theorem places_snoc (a : List (List UInt8)) (s : List UInt8) : ∀ n, placesB n (a ++ [s]) = placesB n a ++ fxEnc (n + a.flatten.length) 4 := by
  induction a with
  | nil => intro n; simp [placesB]
  | cons x a ih =>
    intro n
    simp only [List.cons_append, placesB, ih, List.append_assoc, List.flatten_cons, List.length_append, Nat.add_assoc]
theorem snoc_ind {α : Type} {P : List α → Prop} (h0 : P []) (h1 : ∀ l x, P l → P (l ++ [x])) : ∀ l, P l := by
  have : ∀ n (l : List α), l.length = n → P l := by
    intro n
    induction n with
    | zero => intro l hl; obtain rfl := List.eq_nil_of_length_eq_zero hl; exact h0
    | succ n ih =>
      intro l hl
      have hne : l ≠ [] := by intro e; subst e; simp at hl
      rw [← List.dropLast_concat_getLast hne]
      exact h1 _ _ (ih _ (by simp [hl]))
  exact fun l => this l.length l rfl
theorem cuts_laid : ∀ ss : List (List UInt8), ss.flatten.length < 4294967296 → cutsF ss.length ss.flatten (placesB 0 ss) = some ss := by
  refine snoc_ind (fun _ => by simp [cutsF]) (fun ss s ih h => ?_)
  rw [List.flatten_append, List.length_append] at h
  have hl := placesB_len 0 ss
  have hd : (placesB 0 ss ++ fxEnc (0 + ss.flatten.length) 4).drop (4 * ss.length) = fxEnc ss.flatten.length 4 := by
    rw [← hl, List.drop_left, Nat.zero_add]
  have ht : (placesB 0 ss ++ fxEnc (0 + ss.flatten.length) 4).take (4 * ss.length) = placesB 0 ss := by rw [← hl, List.take_left]
  have hn : leNat (fxEnc ss.flatten.length 4) = ss.flatten.length := by rw [leNat_fxEnc]; omega
  rw [List.length_append, List.length_singleton, cutsF, places_snoc, hd, ht, hn, if_pos (by simp), List.flatten_append, List.take_left, List.drop_left, ih (by omega)]
  simp
end Go.Proofs.Ytjoamhcehpjepab
/- What is laid is opened, and what is opened was laid: plainly. -/
namespace Go.Proofs.Ytjoamhcehpjepab
set_option linter.unusedVariables false
set_option linter.unusedSimpArgs false
theorem rises_append {a b : List KV} : Rises (a ++ b) ↔ Rises a ∧ Rises b ∧ ∀ x ∈ a, ∀ y ∈ b, x.1.cmp y.1 < 0 := List.pairwise_append
/-- The entries of stretches: what each is, and that all rise. -/
theorem cnt_some {iv : Nat} (hi : 1 ≤ iv) : ∀ (ss : List (List UInt8)) (ah : Option IK) (ls : List (List KV)), cntF iv ah ss = some ls → ls.map (strB []) = ss ∧ chunks iv ls.flatten = ls ∧ chkGo ah ls.flatten = 0
  | [], ah, ls, h => by
    simp [cntF] at h
    subst h
    exact ⟨rfl, rfl, rfl⟩
  | s :: r, ah, ls, h => by
    unfold cntF at h
    cases he : entsF iv [] s with
    | none => rw [he] at h; cases h
    | some l =>
      rw [he] at h
      simp only at h
      by_cases hc : (l.length = iv ∨ (0 < l.length ∧ r = [])) ∧ chkGo ah l = 0 ∧ strB [] l = s
      case neg => rw [if_neg hc] at h; cases h
      rw [if_pos hc] at h
      obtain ⟨l0, h0, rfl⟩ := Option.map_eq_some_iff.1 h
      obtain ⟨i1, i2, i3⟩ := cnt_some hi r _ l0 h0
      obtain ⟨c1, c2, c3⟩ := hc
      have hpos : 0 < l.length := by omega
      have hne : l ≠ [] := List.length_pos_iff.1 hpos
      refine ⟨by simp [i1, c3], ?_, ?_⟩
      · rw [List.flatten_cons]
        by_cases hr : l.length = iv
        · rw [chunks_cons hi (by simp [hne]), List.take_left' hr, List.drop_left' hr, i2]
        · have hr' : r = [] := by
            rcases c1 with e | ⟨_, e⟩
            · exact absurd e hr
            · exact e
          subst hr'
          simp [cntF] at h0
          subst h0
          have hle : l.length ≤ iv := by
            have hf : ∀ (f : Nat) (ah b : List UInt8) (l : List KV), entsF f ah b = some l → l.length ≤ f := by
              intro f
              induction f with
              | zero =>
                intro ah b l h
                unfold entsF at h
                split at h
                · obtain rfl := Option.some.inj h; simp
                · cases h
              | succ f ih =>
                intro ah b l h
                by_cases hb : b = []
                · subst hb; rw [entsF_nil] at h; obtain rfl := Option.some.inj h; simp
                · cases ht : takeB b ah with
                  | none => rw [entsF_no hb ht] at h; cases h
                  | some x =>
                    obtain ⟨e, key, rest⟩ := x
                    rw [entsF_yes hb ht] at h
                    obtain ⟨l1, h1, rfl⟩ := Option.map_eq_some_iff.1 h
                    have := ih _ _ _ h1
                    simp; omega
            exact hf _ _ _ _ he
          rw [chunks_cons hi (by simp [hne])]
          simp [chunks_nil, List.take_of_length_le hle, List.drop_eq_nil_of_le hle]
      · rw [List.flatten_cons]
        obtain ⟨a1, a2, a3⟩ := chkGo_zero.1 c2
        obtain ⟨b1, b2, b3⟩ := chkGo_zero.1 i3
        have hlast : l.getLast? = some (l.getLast hne) := List.getLast?_eq_some_getLast hne
        rw [hlast] at b3
        have b3 := b3 _ rfl
        have hl : ∀ x ∈ l, x = l.getLast hne ∨ x.1.cmp (l.getLast hne).1 < 0 := by
          intro x hx
          have hd := List.dropLast_concat_getLast hne
          rw [← hd] at hx a2
          rcases List.mem_append.1 hx with hx | hx
          · exact .inr ((rises_append.1 a2).2.2 x hx _ (by simp))
          · exact .inl (by simpa using hx)
        rw [chkGo_zero]
        refine ⟨?_, ?_, ?_⟩
        · intro e he
          rcases List.mem_append.1 he with he | he
          · exact a1 e he
          · exact b1 e he
        · refine rises_append.2 ⟨a2, b2, fun x hx y hy => ?_⟩
          rcases hl x hx with rfl | hx
          · exact b3 y hy
          · exact IK.cmp_trans hx (b3 y hy)
        · intro q hq e he
          rcases List.mem_append.1 he with he | he
          · exact a3 q hq e he
          · exact IK.cmp_trans (a3 q hq _ (List.getLast_mem hne)) (b3 e he)
/-- Entries that rise are read out of their stretches. -/
theorem cnt_laid {iv : Nat} (hi : 1 ≤ iv) (l : List KV) : ∀ ah, chkGo ah l = 0 → cntF iv ah (strs iv l) = some (chunks iv l) := by
  refine chunks_ind hi (P := fun l => ∀ ah, chkGo ah l = 0 → cntF iv ah (strs iv l) = some (chunks iv l)) (fun _ _ => rfl) (fun l hne ih ah h => ?_) l
  have h0 : 0 < l.length := List.length_pos_iff.2 hne
  obtain ⟨a1, a2, a3⟩ := chkGo_zero.1 h
  have htd := List.take_append_drop iv l
  have hpos : 0 < (l.take iv).length := by rw [List.length_take]; omega
  have htne : l.take iv ≠ [] := List.length_pos_iff.1 hpos
  have r2 : Rises (l.take iv ++ l.drop iv) := by rw [htd]; exact a2
  obtain ⟨r3, r4, r5⟩ := rises_append.1 r2
  have e1 : entsF iv [] (strB [] (l.take iv)) = some (l.take iv) := ents_str _ _ _ (fun e he => a1 e (List.mem_of_mem_take he)) (by rw [List.length_take]; omega) (by simp)
  have e2 : chkGo ah (l.take iv) = 0 := chkGo_zero.2 ⟨fun e he => a1 e (List.mem_of_mem_take he), r3, fun q hq e he => a3 q hq e (List.mem_of_mem_take he)⟩
  have e3 : chkGo ((l.take iv).getLast?.map (·.1)) (l.drop iv) = 0 := by
    refine chkGo_zero.2 ⟨fun e he => a1 e (List.mem_of_mem_drop he), r4, fun q hq e he => ?_⟩
    rw [List.getLast?_eq_some_getLast htne] at hq
    obtain rfl := Option.some.inj hq
    exact r5 _ (List.getLast_mem htne) e he
  unfold strs
  rw [chunks_cons hi hne, List.map_cons, cntF, e1]
  simp only
  rw [if_pos]
  · have := ih _ e3
    unfold strs at this
    rw [this]
    rfl
  · refine ⟨?_, e2, trivial⟩
    by_cases hl : iv ≤ l.length
    · exact .inl (by rw [List.length_take]; omega)
    · refine .inr ⟨hpos, ?_⟩
      rw [List.drop_eq_nil_of_le (by omega), chunks_nil]
      rfl
section
variable {iv : Nat} {ss : List (List UInt8)}
/-- A block's bytes in their parts. -/
def joinP (iv : Nat) (ss : List (List UInt8)) : List UInt8 := ss.flatten ++ (placesB 0 ss ++ (loByte iv :: fxEnc ss.length 4))
theorem layP_join (iv : Nat) (l : List KV) : layP iv l = joinP iv (strs iv l) := rfl
theorem join_len : (joinP iv ss).length = ss.flatten.length + 4 * ss.length + 5 := by
  unfold joinP
  rw [List.length_append, List.length_append, placesB_len, List.length_cons, fxEnc_length]
  omega
theorem join_count (h : ss.length < 4294967296) : countOf (joinP iv ss) = ss.length := by
  unfold countOf
  have : (joinP iv ss) = (ss.flatten ++ (placesB 0 ss ++ [loByte iv])) ++ fxEnc ss.length 4 := by simp [joinP]
  rw [this, List.length_append, fxEnc_length, Nat.add_sub_cancel, List.drop_left, leNat_fxEnc]
  omega
theorem join_iv (h : iv < 256) : ivOf (joinP iv ss) = iv := by
  unfold ivOf
  have e1 : (joinP iv ss) = (ss.flatten ++ placesB 0 ss ++ [loByte iv]) ++ fxEnc ss.length 4 := by simp [joinP]
  have hl : (joinP iv ss).length - 5 = (ss.flatten ++ placesB 0 ss).length := by
    rw [join_len, List.length_append, placesB_len]; omega
  have hl4 : (joinP iv ss).length - 4 = (ss.flatten ++ placesB 0 ss ++ [loByte iv]).length := by
    rw [join_len, List.length_append, List.length_append, placesB_len]; simp
  rw [hl, hl4]
  rw [e1, List.take_left, List.drop_left]
  simp [leNat, loByte_toNat]
  omega
theorem join_rest : rest5 (joinP iv ss) = ss.flatten ++ placesB 0 ss := by
  unfold rest5
  have e1 : (joinP iv ss) = (ss.flatten ++ placesB 0 ss) ++ (loByte iv :: fxEnc ss.length 4) := by simp [joinP]
  have hl : (joinP iv ss).length - 5 = (ss.flatten ++ placesB 0 ss).length := by
    rw [join_len, List.length_append, placesB_len]; omega
  rw [hl, e1, List.take_left]
theorem part_laid (h1 : 1 ≤ iv) (h2 : iv ≤ 16) (h3 : (joinP iv ss).length < 4294967296) : partP (joinP iv ss) = some ss := by
  have hl := join_len (iv := iv) (ss := ss)
  unfold partP
  rw [join_count (by omega), join_iv (by omega), join_rest]
  have hr : (ss.flatten ++ placesB 0 ss).length = ss.flatten.length + 4 * ss.length := by rw [List.length_append, placesB_len]
  rw [if_pos ⟨by omega, h1, h2, by omega⟩, hr, show ss.flatten.length + 4 * ss.length - ss.length * 4 = ss.flatten.length by omega, List.take_left, List.drop_left]
  exact cuts_laid ss (by omega)
/-- What is laid is opened. -/
theorem open_laid {l : List KV} (h1 : 1 ≤ iv) (h2 : iv ≤ 16) (hc : chkL l = 0) (h3 : (layP iv l).length < 4294967296) : openP (layP iv l) = some (strs iv l, chunks iv l) := by
  unfold openP
  rw [layP_join] at h3 ⊢
  rw [part_laid h1 h2 h3, join_iv (by omega)]
  simp only
  rw [cnt_laid h1 l none hc]
  rfl
theorem part_some {b : List UInt8} (h : partP b = some ss) : 5 ≤ b.length ∧ 1 ≤ ivOf b ∧ ivOf b ≤ 16 ∧ b = joinP (ivOf b) ss := by
  unfold partP at h
  by_cases hc : 5 ≤ b.length ∧ 1 ≤ ivOf b ∧ ivOf b ≤ 16 ∧ countOf b ≤ (rest5 b).length / 4
  case neg => rw [if_neg hc] at h; cases h
  rw [if_pos hc] at h
  obtain ⟨c1, c2, c3, c4⟩ := hc
  refine ⟨c1, c2, c3, ?_⟩
  obtain ⟨d1, d2, d3⟩ := cuts_some _ _ _ _ (by rw [List.length_drop]; omega) h
  unfold joinP
  rw [d1, d2, d3, ← List.append_assoc, List.take_append_drop]
  have h4 : fxEnc (countOf b) 4 = b.drop (b.length - 4) := by
    have := fxEnc_le (b.drop (b.length - 4))
    rw [List.length_drop, show b.length - (b.length - 4) = 4 by omega] at this
    exact this
  have h5 : [loByte (ivOf b)] = (b.take (b.length - 4)).drop (b.length - 5) := by
    have hl : ((b.take (b.length - 4)).drop (b.length - 5)).length = 1 := by rw [List.length_drop, List.length_take]; omega
    unfold ivOf
    generalize (b.take (b.length - 4)).drop (b.length - 5) = x at hl
    match x, hl with
    | [c], _ => simp [leNat, loByte]
  have h6 : rest5 b ++ [loByte (ivOf b)] = b.take (b.length - 4) := by
    rw [h5]
    have := List.take_append_drop (b.length - 5) (b.take (b.length - 4))
    rw [List.take_take, Nat.min_eq_left (by omega)] at this
    exact this
  rw [h4, show loByte (ivOf b) :: b.drop (b.length - 4) = [loByte (ivOf b)] ++ b.drop (b.length - 4) from rfl, ← List.append_assoc, h6, List.take_append_drop]
/-- What is opened was laid. -/
theorem open_some {b : List UInt8} {ls : List (List KV)} (h : openP b = some (ss, ls)) : 5 ≤ b.length ∧ 1 ≤ ivOf b ∧ ivOf b ≤ 16 ∧ chkL ls.flatten = 0 ∧ b = layP (ivOf b) ls.flatten ∧ ss = ls.map (strB []) ∧ chunks (ivOf b) ls.flatten = ls := by
  unfold openP at h
  cases hp : partP b with
  | none => rw [hp] at h; cases h
  | some s0 =>
    rw [hp] at h
    simp only at h
    obtain ⟨l0, h0, he⟩ := Option.map_eq_some_iff.1 h
    simp only [Prod.mk.injEq] at he
    obtain ⟨rfl, rfl⟩ := he
    obtain ⟨p1, p2, p3, p4⟩ := part_some hp
    obtain ⟨q1, q2, q3⟩ := cnt_some p2 _ _ _ h0
    refine ⟨p1, p2, p3, q3, ?_, q1.symm, q2⟩
    rw [layP_join]
    unfold strs
    rw [q2, q1]
    exact p4
end
end Go.Proofs.Ytjoamhcehpjepab
/- Which entry stands where in stretches; what is found: plainly. -/
namespace Go.Proofs.Ytjoamhcehpjepab
set_option linter.unusedVariables false
set_option linter.unusedSimpArgs false
theorem chunks_at {iv : Nat} (hi : 1 ≤ iv) (l : List KV) : ∀ j, (j * iv < l.length ↔ j < (chunks iv l).length) ∧ ∀ h : j < (chunks iv l).length, (chunks iv l)[j] = (l.drop (j * iv)).take iv := by
  refine chunks_ind hi (P := fun l => ∀ j, (j * iv < l.length ↔ j < (chunks iv l).length) ∧ ∀ h : j < (chunks iv l).length, (chunks iv l)[j] = (l.drop (j * iv)).take iv) ?_ (fun l hne ih j => ?_) l
  · intro j
    refine ⟨by simp [chunks_nil], fun h => ?_⟩
    simp [chunks_nil] at h
  · have h0 : 0 < l.length := List.length_pos_iff.2 hne
    have hcc := chunks_cons hi hne
    have hl : (chunks iv l).length = (chunks iv (l.drop iv)).length + 1 := by rw [hcc]; simp
    cases j with
    | zero =>
      refine ⟨by rw [hl]; simp; omega, fun h => ?_⟩
      simp [hcc]
    | succ j =>
      obtain ⟨i1, i2⟩ := ih j
      have hmul : (j + 1) * iv = j * iv + iv := by rw [Nat.add_mul, Nat.one_mul]
      refine ⟨?_, fun h => ?_⟩
      · rw [hl, hmul]
        rw [List.length_drop] at i1
        omega
      · have hj : j < (chunks iv (l.drop iv)).length := by omega
        have := i2 hj
        rw [List.drop_drop, show iv + j * iv = (j + 1) * iv by omega] at this
        rw [← this]
        simp [hcc]
/-- The entry at a place, out of its stretch. -/
theorem chunk_entry {iv : Nat} (hi : 1 ≤ iv) (l : List KV) {i : Nat} (h : i < l.length) : ∃ hj : i / iv < (chunks iv l).length, ∃ hm : i % iv < ((chunks iv l)[i / iv]).length, ((chunks iv l)[i / iv])[i % iv] = l[i] := by
  have hd : i / iv * iv + i % iv = i := by rw [Nat.mul_comm]; exact Nat.div_add_mod i iv
  have hm := Nat.mod_lt i (show iv > 0 by omega)
  obtain ⟨h1, h2⟩ := chunks_at hi l (i / iv)
  have hj := h1.1 (by omega)
  have he := h2 hj
  have hm2 : i % iv < ((chunks iv l)[i / iv]).length := by rw [he, List.length_take, List.length_drop]; omega
  refine ⟨hj, hm2, ?_⟩
  simp only [he, List.getElem_take, List.getElem_drop, hd]
/-- r is the first place that is not ahead. -/
structure FirstAt (l : List KV) (k : IK) (r : Nat) : Prop where
  le : r ≤ l.length
  no : ∀ i, ∀ h : i < l.length, i < r → l[i].1.cmp k < 0
  yes : ∀ i, ∀ h : i < l.length, r ≤ i → 0 ≤ l[i].1.cmp k
theorem FirstAt.uniq {l : List KV} {k : IK} {r s : Nat} (h : FirstAt l k r) (g : FirstAt l k s) : r = s := by
  rcases Nat.lt_trichotomy r s with hlt | rfl | hlt
  · have hr : r < l.length := Nat.lt_of_lt_of_le hlt g.le
    have a := h.yes r hr (Nat.le_refl _)
    have b := g.no r hr hlt
    omega
  · rfl
  · have hs : s < l.length := Nat.lt_of_lt_of_le hlt h.le
    have a := g.yes s hs (Nat.le_refl _)
    have b := h.no s hs hlt
    omega
theorem rises_lt {l : List KV} (h : Rises l) {i j : Nat} (hj : j < l.length) (hij : i < j) : (l[i]'(by omega)).1.cmp l[j].1 < 0 := (List.pairwise_iff_getElem.1 h) i j (by omega) hj hij
theorem na_mono {l : List KV} (h : Rises l) {k : IK} {i j : Nat} (hj : j < l.length) (hij : i ≤ j) (ha : 0 ≤ (l[i]'(by omega)).1.cmp k) : 0 ≤ l[j].1.cmp k := by
  rcases Nat.lt_or_eq_of_le hij with hlt | rfl
  · by_cases hc : 0 ≤ l[j].1.cmp k
    · exact hc
    · have := IK.cmp_trans (rises_lt h hj hlt) (by omega : l[j].1.cmp k < 0)
      omega
  · exact ha
theorem mul_of_le {a b c : Nat} (h : a ≤ b) : a * c ≤ b * c := Nat.mul_le_mul_right c h
/-- What is found by marks, and then among a stretch. -/
theorem find_marks {iv : Nat} (hi : 1 ≤ iv) {l : List KV} (hr : Rises l) {k : IK} {mark among : Nat} (hm0 : mark ≠ 0) (hm : mark ≤ (chunks iv l).length)
    (h1 : ∀ m, m < mark → ∀ hh : m * iv < l.length, l[m * iv].1.cmp k < 0) (h2 : ∀ m, mark ≤ m → ∀ hh : m * iv < l.length, 0 ≤ l[m * iv].1.cmp k)
    (hc : mark - 1 < (chunks iv l).length) (ha : among ≤ ((chunks iv l)[mark - 1]).length)
    (h3 : ∀ i, i < among → ∀ hh : i < ((chunks iv l)[mark - 1]).length, ((chunks iv l)[mark - 1])[i].1.cmp k < 0) (h4 : ∀ i, among ≤ i → ∀ hh : i < ((chunks iv l)[mark - 1]).length, 0 ≤ ((chunks iv l)[mark - 1])[i].1.cmp k) :
    FirstAt l k ((mark - 1) * iv + among) := by
  obtain ⟨e1, e2⟩ := chunks_at hi l (mark - 1)
  have he := e2 hc
  have hlt := e1.2 hc
  have hlen : ((chunks iv l)[mark - 1]).length = min iv (l.length - (mark - 1) * iv) := by rw [he, List.length_take, List.length_drop]
  have hget : ∀ i, ∀ hh : i < ((chunks iv l)[mark - 1]).length, ∃ hx : (mark - 1) * iv + i < l.length, ((chunks iv l)[mark - 1])[i] = l[(mark - 1) * iv + i] := by
    intro i hh
    have hx : (mark - 1) * iv + i < l.length := by rw [hlen] at hh; omega
    refine ⟨hx, ?_⟩
    simp only [he, List.getElem_take, List.getElem_drop]
  have hmk : mark * iv = (mark - 1) * iv + iv := by
    obtain ⟨m', rfl⟩ : ∃ m', mark = m' + 1 := ⟨mark - 1, by omega⟩
    rw [Nat.add_sub_cancel, Nat.add_mul, Nat.one_mul]
  refine ⟨by rw [hlen] at ha; omega, fun i h hi' => ?_, fun i h hi' => ?_⟩
  · by_cases hc1 : i < (mark - 1) * iv
    · have := h1 (mark - 1) (by omega) hlt
      exact IK.cmp_trans (rises_lt hr hlt hc1) this
    · have hh : i - (mark - 1) * iv < ((chunks iv l)[mark - 1]).length := by omega
      obtain ⟨hx, hg⟩ := hget _ hh
      have := h3 _ (by omega) hh
      rw [hg] at this
      simpa [show (mark - 1) * iv + (i - (mark - 1) * iv) = i by omega] using this
  · by_cases hc1 : i < (mark - 1) * iv + ((chunks iv l)[mark - 1]).length
    · have hh : i - (mark - 1) * iv < ((chunks iv l)[mark - 1]).length := by omega
      obtain ⟨hx, hg⟩ := hget _ hh
      have := h4 _ (by omega) hh
      rw [hg] at this
      simpa [show (mark - 1) * iv + (i - (mark - 1) * iv) = i by omega] using this
    · have hh : mark * iv < l.length := by rw [hlen] at hc1; omega
      exact na_mono hr h (by rw [hlen] at hc1; omega) (h2 mark (Nat.le_refl _) hh)
theorem find_zero {iv : Nat} {l : List KV} (hr : Rises l) {k : IK} (h2 : ∀ m, 0 ≤ m → ∀ hh : m * iv < l.length, 0 ≤ l[m * iv].1.cmp k) : FirstAt l k 0 := by
  refine ⟨Nat.zero_le _, fun i h hi => absurd hi (Nat.not_lt_zero _), fun i h _ => ?_⟩
  have h0 : 0 * iv < l.length := by omega
  have := h2 0 (Nat.le_refl _) h0
  refine na_mono hr h (Nat.zero_le _) ?_
  simpa using this
/-- A stretch's first entry is read at its mark. -/
theorem first_take {iv : Nat} (hi : 1 ≤ iv) {l : List KV} (hok : ∀ e ∈ l, EOk e) {j : Nat} (hj : j < (strs iv l).length) : ∃ hh : j * iv < l.length, ∃ rest, takeB (strs iv l)[j] [] = some (l[j * iv], l[j * iv].1.enc, rest) := by
  have hj' : j < (chunks iv l).length := by unfold strs at hj; simpa using hj
  obtain ⟨e1, e2⟩ := chunks_at hi l j
  have hlt := e1.2 hj'
  refine ⟨hlt, ?_⟩
  have hs : (strs iv l)[j] = strB [] ((l.drop (j * iv)).take iv) := by
    rw [← e2 hj']
    simp [strs]
  obtain ⟨iv', rfl⟩ : ∃ i', iv = i' + 1 := ⟨iv - 1, by omega⟩
  rw [hs, List.drop_eq_getElem_cons hlt, List.take_succ_cons, strB]
  exact ⟨_, take_ent (hok _ (List.getElem_mem hlt)) (.inl rfl) (by simp) _⟩
theorem strs_len (iv : Nat) (l : List KV) : (strs iv l).length = (chunks iv l).length := by unfold strs; simp
theorem strs_ents {iv : Nat} (hi : 1 ≤ iv) {l : List KV} (hok : ∀ e ∈ l, EOk e) {j : Nat} (hj : j < (strs iv l).length) : entsF iv [] (strs iv l)[j] = some ((chunks iv l)[j]'(by rw [← strs_len]; exact hj)) := by
  have hj' : j < (chunks iv l).length := by rw [← strs_len]; exact hj
  have hs : (strs iv l)[j] = strB [] (chunks iv l)[j] := by simp [strs]
  obtain ⟨c1, c2, c3⟩ := chunks_mem hi l _ (List.getElem_mem hj')
  rw [hs]
  exact ents_str _ _ _ (fun e he => hok e (c3 e he)) c2 (by simp)
end Go.Proofs.Ytjoamhcehpjepab
