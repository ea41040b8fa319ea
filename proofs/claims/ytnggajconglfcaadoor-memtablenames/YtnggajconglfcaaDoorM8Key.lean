/- Keys with numbers, as texts and in order; tables of them; plainly, no program is spoken of here. -/
import Derived.Test.YtnggajconglfcaaDoorM8Enc
import Derived.Test.YtnggajconglfcaaDoorChk
namespace Go.Proofs.YtnggajconglfcaaDoor
set_option linter.unusedVariables false
set_option linter.unusedSimpArgs false
structure IK where
  user : ByteArray
  seq : Nat
  kind : Int
def IK.v (k : IK) : Value := .agg #[.string k.user, .int .u64 (k.seq : Int), .int .i64 k.kind]
def IK.num (k : IK) : Nat := k.seq * 256 + k.kind.toNat
def IK.txt (k : IK) : ByteArray := ⟨(mark k.user.data.toList ++ 0 :: 0 :: cb 8 k.num).toArray⟩
/-- A key that has a text. -/
def IK.Ok (k : IK) : Prop := k.seq ≤ 72057594037927935 ∧ (k.kind = 0 ∨ k.kind = 1)
def IK.err (k : IK) : Nat := chk k.user.size k.seq k.kind
theorem IK.ok_of {k : IK} (h : k.err = 0) : k.Ok ∧ k.user.size ≤ 64 := by
  unfold IK.err chk at h
  unfold IK.Ok
  split at h
  · simp at h
  · split at h
    · simp at h
    · split at h
      · exact ⟨⟨by omega, by assumption⟩, by omega⟩
      · simp at h
theorem IK.Ok.lt {k : IK} (h : k.Ok) : k.num < 18446744073709551616 := by
  obtain ⟨h1, h2⟩ := h
  unfold IK.num
  omega
theorem ba_ext {a b : ByteArray} (h : a.data.toList = b.data.toList) : a = b := by
  cases a; cases b
  simp only [ByteArray.mk.injEq]
  exact Array.ext' h
/-- Before: users in order, of one user the greater number first. -/
def kb (a b : IK) : Bool := if a.user = b.user then decide (b.num < a.num) else Op.bytesLess a.user.data.toList b.user.data.toList
theorem kl_txt {a b : IK} (ha : a.Ok) (hb : b.Ok) : kl a.txt b.txt = kb a b := by
  unfold kl kb IK.txt
  rw [ByteArray.toList_eq, ByteArray.toList_eq, bl_mark, bl_cb 8 _ _ (by have := ha.lt; omega) (by have := hb.lt; omega)]
  by_cases h : a.user = b.user
  · rw [if_pos h, if_pos (by rw [h])]
  · rw [if_neg h, if_neg (fun e => h (ba_ext e))]
theorem IK.ext' {a b : IK} (ha : a.Ok) (hb : b.Ok) (hu : a.user = b.user) (hn : a.num = b.num) : a = b := by
  obtain ⟨u, q, k⟩ := a
  obtain ⟨u', q', k'⟩ := b
  simp only [IK.Ok, IK.num] at ha hb hu hn
  obtain ⟨h1, h2⟩ := ha
  obtain ⟨h3, h4⟩ := hb
  have e1 : q = q' := by omega
  have e2 : k = k' := by omega
  rw [hu, e1, e2]
theorem txt_inj {a b : IK} (ha : a.Ok) (hb : b.Ok) (h : a.txt = b.txt) : a = b := by
  have h1 := kl_txt ha hb
  have h2 := kl_txt hb ha
  rw [h, kl_irr] at h1
  rw [h, kl_irr] at h2
  unfold kb at h1 h2
  by_cases hu : a.user = b.user
  · rw [if_pos hu] at h1
    rw [if_pos hu.symm] at h2
    have h1' := of_decide_eq_false h1.symm
    have h2' := of_decide_eq_false h2.symm
    exact IK.ext' ha hb hu (by omega)
  · rw [if_neg hu] at h1
    rw [if_neg (Ne.symm hu)] at h2
    exact absurd (ba_ext (bl_total _ _ h1.symm h2.symm)) hu
/-- What stands in a table. -/
abbrev KV := IK × ByteArray
structure PT where
  kvs : List KV
  frozen : Bool
def PT.new : PT := ⟨[], false⟩
def esize (e : KV) : Nat := e.1.user.size + e.2.size + 16
def lsize (l : List KV) : Nat := (l.map esize).sum
def PT.size (T : PT) : Nat := lsize T.kvs
structure EOk (e : KV) : Prop where
  key : e.1.err = 0
  val : e.2.size ≤ 1000
  del : e.1.kind = 0 → e.2 = ⟨#[]⟩
structure PT.Inv (T : PT) : Prop where
  ok : ∀ e ∈ T.kvs, EOk e
  sorted : T.kvs.Pairwise (fun a b => kb a.1 b.1 = true)
def insKV (e : KV) : List KV → List KV
  | [] => [e]
  | x :: r => if kb e.1 x.1 then e :: x :: r else x :: insKV e r
theorem mem_insKV {e y : KV} : ∀ {l : List KV}, y ∈ insKV e l ↔ y = e ∨ y ∈ l
  | [] => by simp [insKV]
  | x :: r => by
    unfold insKV
    split
    · simp
    · rw [List.mem_cons, mem_insKV, List.mem_cons]
      constructor
      · rintro (h | h | h)
        · exact .inr (.inl h)
        · exact .inl h
        · exact .inr (.inr h)
      · rintro (h | h | h)
        · exact .inr (.inl h)
        · exact .inl h
        · exact .inr (.inr h)
theorem insKV_len {e : KV} : ∀ {l : List KV}, (insKV e l).length = l.length + 1
  | [] => rfl
  | x :: r => by
    unfold insKV
    split
    · rfl
    · simp [insKV_len]
theorem insKV_size {e : KV} : ∀ {l : List KV}, lsize (insKV e l) = lsize l + esize e
  | [] => by simp [insKV, lsize]
  | x :: r => by
    have ih := insKV_size (e := e) (l := r)
    unfold insKV
    split
    · simp [lsize]
      omega
    · simp [lsize] at ih ⊢
      omega
theorem kb_trans {a b c : IK} (ha : a.Ok) (hb : b.Ok) (hc : c.Ok) (h : kb a b = true) (k : kb b c = true) : kb a c = true := by
  rw [← kl_txt ha hc]
  rw [← kl_txt ha hb] at h
  rw [← kl_txt hb hc] at k
  exact kl_trans h k
theorem kb_asym {a b : IK} (ha : a.Ok) (hb : b.Ok) (h : kb a b = true) : kb b a = false := by
  rw [← kl_txt hb ha]
  rw [← kl_txt ha hb] at h
  exact kl_asym h
theorem kb_total {a b : IK} (ha : a.Ok) (hb : b.Ok) (hne : a ≠ b) (h : kb a b = false) : kb b a = true := by
  cases hk : kb b a with
  | true => rfl
  | false =>
    rw [← kl_txt ha hb] at h
    rw [← kl_txt hb ha] at hk
    exact absurd (txt_inj ha hb (kl_total h hk)) hne
theorem insKV_sorted {e : KV} (he : e.1.Ok) : ∀ {l : List KV}, (∀ x ∈ l, x.1.Ok) → (∀ x ∈ l, x.1 ≠ e.1) → l.Pairwise (fun a b => kb a.1 b.1 = true) → (insKV e l).Pairwise (fun a b => kb a.1 b.1 = true)
  | [], _, _, _ => by simp [insKV]
  | x :: r, ho, hn, hs => by
    have hs' := List.pairwise_cons.1 hs
    have hx := ho x (by simp)
    unfold insKV
    split
    · rename_i h
      refine List.pairwise_cons.2 ⟨fun y hy => ?_, hs⟩
      rcases List.mem_cons.1 hy with rfl | hy
      · exact h
      · exact kb_trans he hx (ho y (List.mem_cons_of_mem _ hy)) h (hs'.1 y hy)
    · rename_i h
      refine List.pairwise_cons.2 ⟨fun y hy => ?_, insKV_sorted he (fun z hz => ho z (List.mem_cons_of_mem _ hz)) (fun z hz => hn z (List.mem_cons_of_mem _ hz)) hs'.2⟩
      rcases mem_insKV.1 hy with rfl | hy
      · exact kb_total he hx (Ne.symm (hn x (by simp))) (by simpa using h)
      · exact hs'.1 y hy
/-- Why an entry can't be added. -/
def PT.err (T : PT) (k : IK) (v : ByteArray) : Nat := if T.frozen then 80 else if k.err ≠ 0 then k.err else if 1000 < v.size ∨ (k.kind = 0 ∧ v.size ≠ 0) then 31 else if (T.kvs.any fun e => decide (e.1.user = k.user ∧ e.1.seq = k.seq ∧ e.1.kind = k.kind)) then 81 else 0
def PT.add (T : PT) (k : IK) (v : ByteArray) : PT := if T.err k v = 0 then { T with kvs := insKV (k, v) T.kvs } else T
theorem IK.eq_iff {a b : IK} : (a.user = b.user ∧ a.seq = b.seq ∧ a.kind = b.kind) ↔ a = b := by
  cases a; cases b
  simp
theorem any_iff {l : List KV} {k : IK} : (l.any fun e => decide (e.1.user = k.user ∧ e.1.seq = k.seq ∧ e.1.kind = k.kind)) = true ↔ ∃ v, (k, v) ∈ l := by
  rw [List.any_eq_true]
  constructor
  · rintro ⟨⟨a, v⟩, h1, h2⟩
    have h2' := IK.eq_iff.1 (of_decide_eq_true h2)
    simp only at h2'
    subst h2'
    exact ⟨v, h1⟩
  · rintro ⟨v, h⟩
    exact ⟨(k, v), h, by simp⟩
theorem ba_empty {v : ByteArray} (h : v.size = 0) : v = ⟨#[]⟩ := by
  obtain ⟨a⟩ := v
  have : a.size = 0 := h
  rw [Array.eq_empty_of_size_eq_zero this]
theorem PT.err_zero {T : PT} {k : IK} {v : ByteArray} (h : T.err k v = 0) : T.frozen = false ∧ EOk (k, v) ∧ ¬ ∃ u, (k, u) ∈ T.kvs := by
  unfold PT.err at h
  split at h
  · simp at h
  · rename_i h1
    split at h
    · rename_i h2; exact absurd h h2
    · rename_i h2
      split at h
      · simp at h
      · rename_i h3
        split at h
        · simp at h
        · rename_i h4
          refine ⟨by simpa using h1, ⟨by simpa using h2, by show v.size ≤ 1000; omega, fun e => ba_empty ?_⟩, fun hc => h4 (any_iff.2 hc)⟩
          have e' : k.kind = 0 := e
          show v.size = 0
          by_cases hz : v.size = 0
          · exact hz
          · exact absurd (.inr ⟨e', hz⟩) h3
theorem PT.Inv.okk {T : PT} (h : T.Inv) {e : KV} (he : e ∈ T.kvs) : e.1.Ok := (IK.ok_of (h.ok e he).key).1
theorem PT.Inv.add {T : PT} (h : T.Inv) (k : IK) (v : ByteArray) : (T.add k v).Inv := by
  unfold PT.add
  split
  · rename_i he
    obtain ⟨h1, h2, h3⟩ := PT.err_zero he
    refine ⟨fun e hm => ?_, insKV_sorted (IK.ok_of h2.key).1 (fun x hx => h.okk hx) (fun x hx e => h3 ⟨x.2, by rw [← show x.1 = k from e]; exact hx⟩) h.sorted⟩
    rcases mem_insKV.1 hm with rfl | hm
    · exact h2
    · exact h.ok e hm
  · exact h
theorem PT.new_inv : PT.new.Inv := ⟨fun e he => absurd he (by simp [PT.new]), List.Pairwise.nil⟩
/-- What is known of a user's key at a number. -/
def lget (l : List KV) (u : ByteArray) (s : Nat) : Option KV := l.find? fun e => decide (e.1.user = u ∧ e.1.seq ≤ s)
def told : Option KV → ByteArray × Nat
  | none => (⟨#[]⟩, 0)
  | some e => if e.1.kind = 0 then (⟨#[]⟩, 1) else (e.2, 2)
/-- From where on a user's keys are sought. -/
def fromK (u : ByteArray) (s : Nat) : IK := ⟨u, min s 72057594037927935, 1⟩
theorem fromK_ok (u : ByteArray) (s : Nat) : (fromK u s).Ok := ⟨by simp [fromK]; omega, .inr rfl⟩
theorem not_before {k : IK} (hk : k.Ok) (u : ByteArray) (s : Nat) : kb k (fromK u s) = false ↔ (k.user = u ∧ k.seq ≤ s) ∨ (k.user ≠ u ∧ Op.bytesLess k.user.data.toList u.data.toList = false) := by
  unfold kb
  by_cases hu : k.user = u
  · rw [if_pos (by exact hu)]
    have e : (fromK u s).num = min s 72057594037927935 * 256 + 1 := rfl
    rw [e, decide_eq_false_iff_not]
    obtain ⟨h1, h2⟩ := hk
    unfold IK.num
    constructor
    · intro h
      exact .inl ⟨hu, by omega⟩
    · rintro (⟨_, h⟩ | ⟨h, _⟩)
      · omega
      · exact absurd hu h
  · rw [if_neg (by exact hu)]
    constructor
    · intro h
      exact .inr ⟨hu, h⟩
    · rintro (⟨h, _⟩ | ⟨_, h⟩)
      · exact absurd h hu
      · exact h
theorem kb_user {a b : IK} (h : kb a b = true) : a.user = b.user ∨ Op.bytesLess a.user.data.toList b.user.data.toList = true := by
  unfold kb at h
  split at h
  · exact .inl (by assumption)
  · exact .inr h
theorem seek_get (u : ByteArray) (s : Nat) : ∀ (l : List KV), (∀ e ∈ l, e.1.Ok) → l.Pairwise (fun a b => kb a.1 b.1 = true) →
    lget l u s = match l.find? (fun e => !kb e.1 (fromK u s)) with
      | none => none
      | some e => if e.1.user = u then some e else none
  | [], _, _ => rfl
  | x :: r, ho, hs => by
    have hs' := List.pairwise_cons.1 hs
    have hx := ho x (by simp)
    have ih := seek_get u s r (fun e he => ho e (List.mem_cons_of_mem _ he)) hs'.2
    have hb := not_before hx u s
    unfold lget at ih ⊢
    rw [List.find?_cons, List.find?_cons]
    cases hk : kb x.1 (fromK u s) with
    | true =>
      have hn : decide (x.1.user = u ∧ x.1.seq ≤ s) = false := by
        rw [decide_eq_false_iff_not]
        intro hc
        rw [hb.2 (.inl hc)] at hk
        cases hk
      rw [hn, ih]
      rfl
    | false =>
      rcases hb.1 hk with hc | ⟨h1, h2⟩
      · have hd : decide (x.1.user = u ∧ x.1.seq ≤ s) = true := decide_eq_true hc
        rw [hd]
        simp [hc.1]
      · have hn : decide (x.1.user = u ∧ x.1.seq ≤ s) = false := by simp [h1]
        rw [hn]
        simp only [Bool.not_false, if_neg h1]
        rw [List.find?_eq_none]
        intro y hy hd
        have hyu := (of_decide_eq_true hd).1
        rcases kb_user (hs'.1 y hy) with e | e
        · exact h1 (by rw [e]; exact hyu)
        · rw [hyu, h2] at e
          cases e
end Go.Proofs.YtnggajconglfcaaDoor
