/- What is asked of the document's own file systems, told by the same predicate; and what a call of the law does. -/
import Derived.Test.YtkelahekfkhcfaaFsNil
import Derived.Test.YtkelahekfkhcfaaArgs5
namespace Go.Proofs.Ytkelahekfkhcfaa
open Go.RowKit
structure RfOk (J : Face) : Prop where
  new : ∀ {w R l r} (q : Int), (-9223372036854775808 ≤ q ∧ q ≤ 9223372036854775807) → J w R l r → Calls Try.prog 11 #[.int .i64 q] w fun e w' =>
    ((0 ≤ q ∧ q ≤ 1048576) ∧ ∃ p, e = .returned (.tuple #[at_ p, .int .i64 0]) ∧ J w' R l (r ++ [(p, PFs.new q.toNat)]) ∧ Kp R w w') ∨
    (¬ (0 ≤ q ∧ q ≤ 1048576) ∧ e = .returned (.tuple #[.pointer none, .int .i64 1]) ∧ J w' R l r ∧ Kp R w w')
  create : ∀ {w R l r p S} (i : Nat) (name : ByteArray), J w R l r → r[i]? = some (p, S) → S.asked < 1000000 → Calls Try.prog 30 #[at_ p, .string name] w fun e w' =>
    e = .returned (.int .i64 ((S.create name.data.toList).2 : Nat)) ∧ J w' R l (r.set i (p, (S.create name.data.toList).1)) ∧ Kp R w w'
  append : ∀ {w R l r p S} (i : Nat) (name : ByteArray) (a : Option Addr) (len cap : Nat) (bs : List UInt8), J w R l r → r[i]? = some (p, S) → S.asked < 1000000 → BsAt w a len cap bs → len ≤ 140737488355328 → Calls Try.prog 31 #[at_ p, .string name, .slice a len cap] w fun e w' =>
    e = .returned (.int .i64 ((S.append name.data.toList bs).2 : Nat)) ∧ J w' R l (r.set i (p, (S.append name.data.toList bs).1)) ∧ Kp R w w'
  sync : ∀ {w R l r p S} (i : Nat) (name : ByteArray), J w R l r → r[i]? = some (p, S) → S.asked < 1000000 → Calls Try.prog 32 #[at_ p, .string name] w fun e w' =>
    e = .returned (.int .i64 ((S.sync name.data.toList).2 : Nat)) ∧ J w' R l (r.set i (p, (S.sync name.data.toList).1)) ∧ Kp R w w'
  rename : ∀ {w R l r p S} (i : Nat) (a b : ByteArray), J w R l r → r[i]? = some (p, S) → S.asked < 1000000 → Calls Try.prog 33 #[at_ p, .string a, .string b] w fun e w' =>
    e = .returned (.int .i64 ((S.rename a.data.toList b.data.toList).2 : Nat)) ∧ J w' R l (r.set i (p, (S.rename a.data.toList b.data.toList).1)) ∧ Kp R w w'
  remove : ∀ {w R l r p S} (i : Nat) (name : ByteArray), J w R l r → r[i]? = some (p, S) → S.asked < 1000000 → Calls Try.prog 34 #[at_ p, .string name] w fun e w' =>
    e = .returned (.int .i64 ((S.remove name.data.toList).2 : Nat)) ∧ J w' R l (r.set i (p, (S.remove name.data.toList).1)) ∧ Kp R w w'
  syncDir : ∀ {w R l r p S} (i : Nat), J w R l r → r[i]? = some (p, S) → S.asked < 1000000 → Calls Try.prog 35 #[at_ p] w fun e w' =>
    e = .returned (.int .i64 (S.syncDir.2 : Nat)) ∧ J w' R l (r.set i (p, S.syncDir.1)) ∧ Kp R w w'
  read : ∀ {w R l r p S} (i : Nat) (name : ByteArray), J w R l r → r[i]? = some (p, S) → Calls Try.prog 36 #[at_ p, .string name] w fun e w' =>
    ∃ a c, e = .returned (.tuple #[.slice a (S.read name.data.toList).1.length c, .int .i64 ((S.read name.data.toList).2 : Nat)]) ∧ BsAt w' a (S.read name.data.toList).1.length c (S.read name.data.toList).1 ∧ J w' R l r ∧ Kp R w w'
  list : ∀ {w R l r p S} (i : Nat), J w R l r → r[i]? = some (p, S) → Calls Try.prog 41 #[at_ p] w fun e w' =>
    ∃ a c, e = .returned (.tuple #[.slice a S.list.1.length c, .int .i64 (S.list.2 : Nat)]) ∧ SsAt w' a S.list.1.length c S.list.1 ∧ (∀ ad, a = some ad → w.heap.size ≤ ad.block ∧ ad.block < w'.heap.size) ∧ J w' (fun k => R k ∨ ∃ ad, a = some ad ∧ k = ad.block) l r ∧ Kp R w w'
  asked : ∀ {w R l r p S} (i : Nat), J w R l r → r[i]? = some (p, S) → w.cell? ⟨p, 9, none⟩ = some (.int .i64 (S.asked : Nat))
  fuse : ∀ {w R l r p S} (i : Nat) (n : Int), (-9223372036854775808 ≤ n ∧ n ≤ 9223372036854775807) → J w R l r → r[i]? = some (p, S) → Calls Try.prog 37 #[at_ p, .int .i64 n] w fun e w' =>
    e = .returned (.tuple #[]) ∧ J w' R l (r.set i (p, S.setFuse n)) ∧ Kp R w w'
  fail : ∀ {w R l r p S} (i : Nat) (n : Int), (-9223372036854775808 ≤ n ∧ n ≤ 9223372036854775807) → J w R l r → r[i]? = some (p, S) → Calls Try.prog 38 #[at_ p, .int .i64 n] w fun e w' =>
    e = .returned (.tuple #[]) ∧ J w' R l (r.set i (p, S.setFail n)) ∧ Kp R w w'
  damage : ∀ {w R l r p S} (i : Nat) (name : ByteArray) (n : Int) (t : UInt8), (-9223372036854775808 ≤ n ∧ n ≤ 9223372036854775807) → J w R l r → r[i]? = some (p, S) → Calls Try.prog 39 #[at_ p, .string name, .int .i64 n, .int .u8 (t.toNat : Int)] w fun e w' =>
    e = .returned (.int .i64 ((S.damage name.data.toList n t).2 : Nat)) ∧ J w' R l (r.set i (p, (S.damage name.data.toList n t).1)) ∧ Kp R w w'
  crash : ∀ {w R l r p S} (i : Nat) (a : Option Addr) (len cap : Nat) (picks : List Int), J w R l r → r[i]? = some (p, S) → IsAt w a len cap picks → (0 < len → ∀ ad, a = some ad → R ad.block) → Calls Try.prog 40 #[at_ p, .slice a len cap] w fun e w' =>
    e = .returned (.tuple #[]) ∧ J w' R l (r.set i (p, S.crash picks)) ∧ Kp R w w'
  copy : ∀ {w R l r p S} (i : Nat), J w R l r → r[i]? = some (p, S) → Calls Try.prog 15 #[at_ p] w fun e w' =>
    ∃ q, e = .returned (at_ q) ∧ J w' R l (r ++ [(q, S)]) ∧ Kp R w w'

theorem Kp.trans {R R' : Nat → Prop} {a b c : World} (h : Kp R a b) (k : Kp R' b c) (hR : ∀ k, R k → R' k) : Kp R a c :=
  ⟨k.os.trans h.os, k.tape.trans h.tape, k.output.trans h.output, Nat.le_trans h.size k.size, fun i hi hs => (k.block i (hR i hi) (Nat.lt_of_lt_of_le hs h.size)).trans (h.block i hi hs)⟩
theorem Kp.of {R : Nat → Prop} {w w' : World} (h : Below w.heap.size w w') : Kp R w w' := ⟨h.os, h.tape, h.output, h.size, fun k _ hk => h.block k hk⟩
theorem Blk.kept {R : Nat → Prop} {n : Nat} {w w' : World} {l : List Value} (h : Blk w n l) (hb : Kp R w w') (hR : R n) : Blk w' n l :=
  ⟨Nat.lt_of_lt_of_le h.lt hb.size, fun j v hv => by
    have e := hb.block n hR h.lt
    have := h.cell j v hv
    simp only [World.cell?] at this ⊢
    rw [e]
    exact this⟩
theorem BsAt.kept {R : Nat → Prop} {w w' : World} {a : Option Addr} {len cap : Nat} {bs : List UInt8} (h : BsAt w a len cap bs) (hb : Kp R w w') (hR : 0 < len → ∀ ad, a = some ad → R ad.block) : BsAt w' a len cap bs :=
  ⟨h.size, h.le, h.max, h.bare, fun hp => by
    obtain ⟨b, off, ha, hc⟩ := h.here hp
    refine ⟨b, off, ha, fun j hj => ?_⟩
    have e := hb.block b (hR hp _ ha) (World.block_lt_of_cell? w _ (hc j hj))
    have := hc j hj
    simp only [World.cell?] at this ⊢
    rw [e]
    exact this⟩
theorem IsAt.kept {R : Nat → Prop} {w w' : World} {a : Option Addr} {len cap : Nat} {l : List Int} (h : IsAt w a len cap l) (hb : Kp R w w') (hR : 0 < len → ∀ ad, a = some ad → R ad.block) : IsAt w' a len cap l :=
  ⟨h.size, h.le, h.max, h.bare, h.wf, fun hp => by
    obtain ⟨b, off, ha, hc⟩ := h.here hp
    refine ⟨b, off, ha, fun j hj => ?_⟩
    have e := hb.block b (hR hp _ ha) (World.block_lt_of_cell? w _ (hc j hj))
    have := hc j hj
    simp only [World.cell?] at this ⊢
    rw [e]
    exact this⟩
/-- A call's own memory is none of the file systems'. -/
structure CallV.In (R : Nat → Prop) (c : CallV) : Prop where
  bytes : 0 < c.bl → ∀ ad, c.ba = some ad → R ad.block
  picks : 0 < c.pl → ∀ ad, c.pa = some ad → R ad.block
theorem CallV.Ok.kept {R : Nat → Prop} {w w' : World} {c : CallV} (h : c.Ok w) (hb : Kp R w w') (hR : c.In R) : c.Ok w' := ⟨h.kindWf, h.nWf, h.bytes.kept hb hR.bytes, h.picks.kept hb hR.picks⟩
/-- What a call does. -/
def stepC (S : PFs) (c : CallV) : PFs :=
  if c.kind = 1 then (S.create c.name.data.toList).1
  else if c.kind = 2 then (S.append c.name.data.toList c.bs).1
  else if c.kind = 3 then (S.sync c.name.data.toList).1
  else if c.kind = 4 then (S.rename c.name.data.toList c.to.data.toList).1
  else if c.kind = 5 then (S.remove c.name.data.toList).1
  else if c.kind = 6 then S.syncDir.1
  else if c.kind = 8 then S.setFuse c.n
  else if c.kind = 9 then S.setFail c.n
  else if c.kind = 10 then (S.damage c.name.data.toList c.n (c.bs.getD 0 0)).1
  else if c.kind = 11 then S.crash c.ps
  else S
theorem set_same {l : Fss} {i : Nat} {x : Nat × PFs} (h : l[i]? = some x) : l.set i x = l := by
  apply List.ext_getElem?
  intro j
  by_cases hj : i = j
  · subst hj
    have hlt : i < l.length := (List.getElem?_eq_some_iff.1 h).1
    rw [List.getElem?_set_self hlt, h]
  · rw [List.getElem?_set_ne hj]
theorem ints64 {n : Int} (h : (Lit.int .i64 n).wf = true) : -9223372036854775808 ≤ n ∧ n ≤ 9223372036854775807 := by
  simp [Lit.wf, IntKind.min, IntKind.max, IntKind.bits, IntKind.signed] at h
  omega
theorem CallV.Ok.old {w : World} {c : CallV} (h : c.Ok w) : c.In (fun k => k < w.heap.size) :=
  ⟨fun hp ad e => by
    obtain ⟨b, off, ha, hc⟩ := h.bytes.here hp
    rw [ha] at e
    obtain rfl := Option.some.inj e
    exact World.block_lt_of_cell? w _ (hc 0 hp), fun hp ad e => by
    obtain ⟨b, off, ha, hc⟩ := h.picks.here hp
    rw [ha] at e
    obtain rfl := Option.some.inj e
    exact World.block_lt_of_cell? w _ (hc 0 hp)⟩
theorem ask_asked (S : PFs) : S.ask.1.asked = S.asked + 1 := by
  unfold PFs.ask
  split
  · rfl
  · split
    · split <;> rfl
    · rfl
theorem stepC_asked (S : PFs) (c : CallV) : (stepC S c).asked ≤ S.asked + 1 := by
  have ha := ask_asked S
  have h1 : ∀ n, (S.create n).1.asked ≤ S.asked + 1 := fun n => by
    unfold PFs.create
    split
    · omega
    · split
      · show S.ask.1.asked ≤ _; omega
      · split
        · show S.ask.1.asked ≤ _; omega
        · show S.ask.1.asked ≤ _; omega
  have h2 : ∀ n b, (S.append n b).1.asked ≤ S.asked + 1 := fun n b => by
    unfold PFs.append
    split
    · omega
    · split
      · show S.ask.1.asked ≤ _; omega
      · split
        · show S.ask.1.asked ≤ _; omega
        · show S.ask.1.asked ≤ _; omega
  have h3 : ∀ n, (S.sync n).1.asked ≤ S.asked + 1 := fun n => by
    unfold PFs.sync
    split
    · omega
    · split
      · show S.ask.1.asked ≤ _; omega
      · show S.ask.1.asked ≤ _; omega
  have h4 : ∀ n b, (S.rename n b).1.asked ≤ S.asked + 1 := fun n b => by
    unfold PFs.rename
    split
    · omega
    · split
      · show S.ask.1.asked ≤ _; omega
      · split
        · show S.ask.1.asked ≤ _; omega
        · show S.ask.1.asked ≤ _; omega
  have h5 : ∀ n, (S.remove n).1.asked ≤ S.asked + 1 := fun n => by
    unfold PFs.remove
    split
    · omega
    · split
      · show S.ask.1.asked ≤ _; omega
      · show S.ask.1.asked ≤ _; omega
  have h6 : S.syncDir.1.asked ≤ S.asked + 1 := by
    unfold PFs.syncDir
    split
    · omega
    · show S.ask.1.asked ≤ _; omega
  have h10 : ∀ n k t, (S.damage n k t).1.asked ≤ S.asked + 1 := fun n k t => by
    unfold PFs.damage
    split
    · show S.asked ≤ _; omega
    · split
      · show S.asked ≤ _; omega
      · show S.asked ≤ _; omega
  unfold stepC
  repeat' split
  all_goals first
    | exact h1 _ | exact h2 _ _ | exact h3 _ | exact h4 _ _ | exact h5 _ | exact h6 | exact h10 _ _ _
    | exact Nat.le_succ _
end Go.Proofs.Ytkelahekfkhcfaa
