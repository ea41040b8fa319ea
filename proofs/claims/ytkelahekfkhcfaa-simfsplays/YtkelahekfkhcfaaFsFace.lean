/- What is asked of simfs: contracts over one predicate J that tells all file systems at once; R: the blocks that are none of theirs. -/
import Derived.Test.YtkelahekfkhcfaaOwn
import Derived.Test.YtkelahekfkhcfaaPlainFs
namespace Go.Proofs.Ytkelahekfkhcfaa
open Go.RowKit

/-- Blocks in R stay as they are. -/
structure Kp (R : Nat → Prop) (w w' : World) : Prop where
  os : w'.os = w.os
  tape : w'.tape = w.tape
  output : w'.output = w.output
  size : w.heap.size ≤ w'.heap.size
  block : ∀ k, R k → k < w.heap.size → w'.heap[k]? = w.heap[k]?
/-- Blocks in R, and new ones, alone turn. -/
structure Chg (R : Nat → Prop) (w w' : World) : Prop where
  os : w'.os = w.os
  tape : w'.tape = w.tape
  output : w'.output = w.output
  size : w.heap.size ≤ w'.heap.size
  block : ∀ k, k < w.heap.size → ¬ R k → w'.heap[k]? = w.heap[k]?
theorem Chg.of {R : Nat → Prop} {w w' : World} (h : Below w.heap.size w w') : Chg R w w' := ⟨h.os, h.tape, h.output, h.size, fun k hk _ => h.block k hk⟩
theorem Kp.below {B : Nat} {R : Nat → Prop} {w w' : World} (h : Kp R w w') (hR : ∀ k, k < B → R k) (hB : B ≤ w.heap.size) : Below B w w' := ⟨h.os, h.tape, h.output, h.size, fun k hk => h.block k (hR k hk) (Nat.lt_of_lt_of_le hk hB)⟩

/-- The slice value reads as ints. -/
structure IsAt (w : World) (a : Option Addr) (len cap : Nat) (l : List Int) : Prop where
  size : l.length = len
  le : len ≤ cap
  max : cap ≤ maxLen
  bare : a = none → cap = 0
  wf : ∀ j, j < len → -9223372036854775808 ≤ l.getD j 0 ∧ l.getD j 0 ≤ 9223372036854775807
  here : 0 < len → ∃ b off, a = some ⟨b, off, none⟩ ∧ ∀ j, j < len → w.cell? ⟨b, off + j, none⟩ = some (.int .i64 (l.getD j 0))
/-- The slice value reads as texts. -/
structure SsAt (w : World) (a : Option Addr) (len cap : Nat) (l : List (List UInt8)) : Prop where
  size : l.length = len
  le : len ≤ cap
  max : cap ≤ maxLen
  bare : a = none → cap = 0
  here : 0 < len → ∃ b off, a = some ⟨b, off, none⟩ ∧ ∀ j, j < len → w.cell? ⟨b, off + j, none⟩ = some (.string (strOf (l.getD j [])))
theorem IsAt.below {B : Nat} {w w' : World} {a : Option Addr} {len cap : Nat} {l : List Int} (h : IsAt w a len cap l) (hB : w.heap.size ≤ B) (hb : Below B w w') : IsAt w' a len cap l :=
  ⟨h.size, h.le, h.max, h.bare, h.wf, fun hp => by
    obtain ⟨b, off, ha, hc⟩ := h.here hp
    refine ⟨b, off, ha, fun j hj => ?_⟩
    rw [hb.cell (Nat.lt_of_lt_of_le (World.block_lt_of_cell? w _ (hc j hj)) hB)]
    exact hc j hj⟩
theorem IsAt.old {w : World} {a : Option Addr} {len cap : Nat} {l : List Int} (h : IsAt w a len cap l) (hp : 0 < len) (ad : Addr) (e : a = some ad) : ad.block < w.heap.size := by
  obtain ⟨b, off, ha, hc⟩ := h.here hp
  rw [ha] at e
  obtain rfl := Option.some.inj e
  exact World.block_lt_of_cell? w _ (hc 0 hp)
theorem SsAt.kept {R : Nat → Prop} {w w' : World} {a : Option Addr} {len cap : Nat} {l : List (List UInt8)} (h : SsAt w a len cap l) (hb : Kp R w w') (hR : ∀ ad, a = some ad → R ad.block) : SsAt w' a len cap l :=
  ⟨h.size, h.le, h.max, h.bare, fun hp => by
    obtain ⟨b, off, ha, hc⟩ := h.here hp
    refine ⟨b, off, ha, fun j hj => ?_⟩
    have e := hb.block b (hR _ ha) (World.block_lt_of_cell? w _ (hc j hj))
    have := hc j hj
    simp only [World.cell?] at this ⊢
    rw [e]
    exact this⟩
theorem IsAt.litAt (w : World) (arr : Array Value) (e : TypeId) (fz : Nat × Nat) (l : List Int) (n g : Nat) (hg : g = w.heap.size) (h : arr.toList = l.map (Value.int .i64)) (hn : l.length = n) (hm : n ≤ maxLen) (hw : ∀ j, j < n → -9223372036854775808 ≤ l.getD j 0 ∧ l.getD j 0 ≤ 9223372036854775807) : IsAt (w.alloc (.cells arr e fz)) (some ⟨g, 0, none⟩) n n l := by
  subst hg
  refine ⟨hn, Nat.le_refl _, hm, by simp, hw, fun _ => ⟨w.heap.size, 0, rfl, fun j hj => ?_⟩⟩
  rw [cell_of_row (w.alloc (.cells arr e fz)) w.heap.size (0 + j) arr e fz (heap_alloc_new w _)]
  rw [← Array.getElem?_toList, h]
  simp [List.getD, hn, hj]

theorem OwnB.kept {R : Nat → Prop} {w w' : World} {B : Nat} {a : Option Addr} {len cap : Nat} {bs : List UInt8} (h : OwnB w B a len cap bs) (hb : Kp R w w') (hR : ∀ k, (Value.slice a len cap).ownBlock = some k → R k) : OwnB w' B a len cap bs := by
  refine ⟨h.size, h.row.1, ?_⟩
  rcases h.row.2 with hn | ⟨g, c, cur, hv, hB, hg, rest⟩
  · exact .inl hn
  · exact .inr ⟨g, c, cur, hv, hB, by rw [hb.block g (hR g (by rw [hv]; rfl)) (Array.getElem?_eq_some_iff.1 hg).1]; exact hg, rest⟩

abbrev Fss := List (Nat × PFs)
abbrev Face := World → (Nat → Prop) → Fss → Fss → Prop
abbrev at_ (p : Nat) : Value := .pointer (some ⟨p, 0, none⟩)

/-- simfs keeps its promises, told by J. -/
structure FsOk (J : Face) : Prop where
  zero : ∀ w, J w (fun k => k < w.heap.size) [] []
  turn : ∀ {w w' R l r}, J w R l r → Chg R w w' → J w' (fun k => R k ∨ (w.heap.size ≤ k ∧ k < w'.heap.size)) l r
  less : ∀ {w l r} {R R' : Nat → Prop}, J w R l r → (∀ k, R' k → R k) → J w R' l r
  new : ∀ {w R l r} (q : Int), (-9223372036854775808 ≤ q ∧ q ≤ 9223372036854775807) → J w R l r → Calls Try.prog 10 #[.int .i64 q] w fun e w' =>
    ((0 ≤ q ∧ q ≤ 1048576) ∧ ∃ p, e = .returned (.tuple #[at_ p, .int .i64 0]) ∧ J w' R (l ++ [(p, PFs.new q.toNat)]) r ∧ Kp R w w') ∨
    (¬ (0 ≤ q ∧ q ≤ 1048576) ∧ e = .returned (.tuple #[.pointer none, .int .i64 1]) ∧ J w' R l r ∧ Kp R w w')
  create : ∀ {w R l r p S} (i : Nat) (name : ByteArray), J w R l r → l[i]? = some (p, S) → S.asked < 1000000 → Calls Try.prog 16 #[at_ p, .string name] w fun e w' =>
    e = .returned (.int .i64 ((S.create name.data.toList).2 : Nat)) ∧ J w' R (l.set i (p, (S.create name.data.toList).1)) r ∧ Kp R w w'
  append : ∀ {w R l r p S} (i : Nat) (name : ByteArray) (a : Option Addr) (len cap : Nat) (bs : List UInt8), J w R l r → l[i]? = some (p, S) → S.asked < 1000000 → BsAt w a len cap bs → len ≤ 140737488355328 → Calls Try.prog 17 #[at_ p, .string name, .slice a len cap] w fun e w' =>
    e = .returned (.int .i64 ((S.append name.data.toList bs).2 : Nat)) ∧ J w' R (l.set i (p, (S.append name.data.toList bs).1)) r ∧ Kp R w w'
  sync : ∀ {w R l r p S} (i : Nat) (name : ByteArray), J w R l r → l[i]? = some (p, S) → S.asked < 1000000 → Calls Try.prog 18 #[at_ p, .string name] w fun e w' =>
    e = .returned (.int .i64 ((S.sync name.data.toList).2 : Nat)) ∧ J w' R (l.set i (p, (S.sync name.data.toList).1)) r ∧ Kp R w w'
  rename : ∀ {w R l r p S} (i : Nat) (a b : ByteArray), J w R l r → l[i]? = some (p, S) → S.asked < 1000000 → Calls Try.prog 20 #[at_ p, .string a, .string b] w fun e w' =>
    e = .returned (.int .i64 ((S.rename a.data.toList b.data.toList).2 : Nat)) ∧ J w' R (l.set i (p, (S.rename a.data.toList b.data.toList).1)) r ∧ Kp R w w'
  remove : ∀ {w R l r p S} (i : Nat) (name : ByteArray), J w R l r → l[i]? = some (p, S) → S.asked < 1000000 → Calls Try.prog 27 #[at_ p, .string name] w fun e w' =>
    e = .returned (.int .i64 ((S.remove name.data.toList).2 : Nat)) ∧ J w' R (l.set i (p, (S.remove name.data.toList).1)) r ∧ Kp R w w'
  syncDir : ∀ {w R l r p S} (i : Nat), J w R l r → l[i]? = some (p, S) → S.asked < 1000000 → Calls Try.prog 19 #[at_ p] w fun e w' =>
    e = .returned (.int .i64 (S.syncDir.2 : Nat)) ∧ J w' R (l.set i (p, S.syncDir.1)) r ∧ Kp R w w'
  read : ∀ {w R l r p S} (i : Nat) (name : ByteArray), J w R l r → l[i]? = some (p, S) → Calls Try.prog 22 #[at_ p, .string name] w fun e w' =>
    ∃ a c, e = .returned (.tuple #[.slice a (S.read name.data.toList).1.length c, .int .i64 ((S.read name.data.toList).2 : Nat)]) ∧ OwnB w' w.heap.size a (S.read name.data.toList).1.length c (S.read name.data.toList).1 ∧ J w' (fun k => R k ∨ (Value.slice a (S.read name.data.toList).1.length c).ownBlock = some k) l r ∧ Kp R w w'
  list : ∀ {w R l r p S} (i : Nat), J w R l r → l[i]? = some (p, S) → Calls Try.prog 23 #[at_ p] w fun e w' =>
    ∃ a c, e = .returned (.tuple #[.slice a S.list.1.length c, .int .i64 (S.list.2 : Nat)]) ∧ SsAt w' a S.list.1.length c S.list.1 ∧ (∀ ad, a = some ad → w.heap.size ≤ ad.block ∧ ad.block < w'.heap.size) ∧ J w' (fun k => R k ∨ ∃ ad, a = some ad ∧ k = ad.block) l r ∧ Kp R w w'
  ops : ∀ {w R l r p S} (i : Nat), J w R l r → l[i]? = some (p, S) → Calls Try.prog 29 #[at_ p] w fun e w' =>
    e = .returned (.int .i64 (S.asked : Nat)) ∧ J w' R l r ∧ Kp R w w'
  fuse : ∀ {w R l r p S} (i : Nat) (n : Int), (-9223372036854775808 ≤ n ∧ n ≤ 9223372036854775807) → J w R l r → l[i]? = some (p, S) → Calls Try.prog 25 #[at_ p, .int .i64 n] w fun e w' =>
    e = .returned (.tuple #[]) ∧ J w' R (l.set i (p, S.setFuse n)) r ∧ Kp R w w'
  fail : ∀ {w R l r p S} (i : Nat) (n : Int), (-9223372036854775808 ≤ n ∧ n ≤ 9223372036854775807) → J w R l r → l[i]? = some (p, S) → Calls Try.prog 26 #[at_ p, .int .i64 n] w fun e w' =>
    e = .returned (.tuple #[]) ∧ J w' R (l.set i (p, S.setFail n)) r ∧ Kp R w w'
  damage : ∀ {w R l r p S} (i : Nat) (name : ByteArray) (n : Int) (t : UInt8), (-9223372036854775808 ≤ n ∧ n ≤ 9223372036854775807) → J w R l r → l[i]? = some (p, S) → Calls Try.prog 28 #[at_ p, .string name, .int .i64 n, .int .u8 (t.toNat : Int)] w fun e w' =>
    e = .returned (.int .i64 ((S.damage name.data.toList n t).2 : Nat)) ∧ J w' R (l.set i (p, (S.damage name.data.toList n t).1)) r ∧ Kp R w w'
  crash : ∀ {w R l r p S} (i : Nat) (a : Option Addr) (len cap : Nat) (picks : List Int), J w R l r → l[i]? = some (p, S) → IsAt w a len cap picks → (0 < len → ∀ ad, a = some ad → R ad.block) → Calls Try.prog 21 #[at_ p, .slice a len cap] w fun e w' =>
    e = .returned (.tuple #[]) ∧ J w' R (l.set i (p, S.crash picks)) r ∧ Kp R w w'
  copy : ∀ {w R l r p S} (i : Nat), J w R l r → l[i]? = some (p, S) → Calls Try.prog 14 #[at_ p] w fun e w' =>
    ∃ q, e = .returned (at_ q) ∧ J w' R (l ++ [(q, S)]) r ∧ Kp R w w'
/-- The walk's own steps, where all that is old is kept. -/
theorem FsOk.step {J : Face} (h : FsOk J) {w w' : World} {R : Nat → Prop} {l r : Fss} (hj : J w R l r) (hb : Below w.heap.size w w') : J w' R l r := h.less (h.turn hj (Chg.of hb)) (fun _ hk => .inl hk)
end Go.Proofs.Ytkelahekfkhcfaa
