/- The contracts of batch.takers and of its two closures: numbers and texts that are taken from bytes, one behind the other. -/
import Derived.Test.YtohhdbmkbfehfaaSliceAny
import Derived.Test.YtohhdbmkbfehfaaPlainBRead
import Derived.Test.YtohhdbmkbfehfaaKept
import Derived.Test.YtohhdbmkbfehfaaFx
import Derived.Test.YtohhdbmkbfehfaaText
namespace Go.Proofs.Ytohhdbmkbfehfaa
open Go.RowKit
/-- The two variables that the closures hold: the bytes in block gB, the place in block gA. -/
structure Taking (w : World) (gB gA : Nat) (a : Option Addr) (len cap p : Nat) : Prop where
  bytes : w.heap[gB]? = some (.cells #[.slice a len cap] 25 (0, 0))
  place : w.heap[gA]? = some (.cells #[.int .i64 (p : Int)] 3 (0, 0))
theorem Taking.below {B : Nat} {w w' : World} {gB gA : Nat} {a : Option Addr} {len cap p : Nat} (h : Taking w gB gA a len cap p) (hB : w.heap.size ≤ B) (hb : Below B w w') : Taking w' gB gA a len cap p :=
  ⟨by rw [hb.block gB (Nat.lt_of_lt_of_le (lt_of_block h.bytes) hB)]; exact h.bytes, by rw [hb.block gA (Nat.lt_of_lt_of_le (lt_of_block h.place) hB)]; exact h.place⟩
theorem Taking.alloc {w : World} {gB gA : Nat} {a : Option Addr} {len cap p : Nat} (h : Taking w gB gA a len cap p) (o : Obj) : Taking (w.alloc o) gB gA a len cap p := h.below (Nat.le_refl _) ((Below.refl _ _).alloc (Nat.le_refl _) _)
theorem Taking.grown {w w' : World} {gB gA : Nat} {a : Option Addr} {len cap p : Nat} {row : Option Nat} (h : Taking w gB gA a len cap p) (hg : w.grownBy w' row) (h1 : some gB ≠ row) (h2 : some gA ≠ row) : Taking w' gB gA a len cap p :=
  ⟨by rw [hg.block gB (lt_of_block h.bytes) h1]; exact h.bytes, by rw [hg.block gA (lt_of_block h.place) h2]; exact h.place⟩
theorem grown_set (w : World) (b : Nat) (v : Value) : w.grownBy (w.setCell ⟨b, 0, none⟩ v) (some b) :=
  ⟨rfl, rfl, rfl, by simp, fun k _ hk => Below.heap_setCell _ _ _ k (fun e => hk (by rw [e]))⟩
theorem Taking.put {w : World} {gB gA : Nat} {a : Option Addr} {len cap p : Nat} (h : Taking w gB gA a len cap p) (hne : gB ≠ gA) (p' : Nat) : Taking (w.setCell ⟨gA, 0, none⟩ (.int .i64 (p' : Int))) gB gA a len cap p' :=
  ⟨by rw [Below.heap_setCell _ _ _ gB hne]; exact h.bytes, one_setCell h.place⟩
theorem grown_refl (w : World) (row : Option Nat) : w.grownBy w row := ⟨rfl, rfl, rfl, Nat.le_refl _, fun _ _ _ => rfl⟩

/-- Where reading stands, in the world W of a call that began in w: the operations that were read are the call's own, the closures' variables lie below them, nothing old has turned. -/
structure DecAt (w W : World) (a : Option Addr) (len cap p : Nat) (ao : Option Addr) (k co : Nat) (L : List Opn) : Prop where
  own : OwnO W (w.heap.size + 2) ao k co L
  tk : Taking W w.heap.size (w.heap.size + 1) a len cap p
  blw : Below w.heap.size w W
  sz : w.heap.size + 2 ≤ W.heap.size
theorem DecAt.taken {w W W' : World} {a : Option Addr} {len cap p p' : Nat} {ao : Option Addr} {k co : Nat} {L : List Opn} (h : DecAt w W a len cap p ao k co L) (ht : Taking W' w.heap.size (w.heap.size + 1) a len cap p') (hg : W.grownBy W' (some (w.heap.size + 1))) : DecAt w W' a len cap p' ao k co L :=
  ⟨h.own.grown hg (by omega), ht, h.blw.grown hg h.blw.size (fun j hj => by simp at hj; omega), Nat.le_trans h.sz hg.size⟩
theorem DecAt.alloc {w W : World} {a : Option Addr} {len cap p : Nat} {ao : Option Addr} {k co : Nat} {L : List Opn} (h : DecAt w W a len cap p ao k co L) (o : Obj) : DecAt w (W.alloc o) a len cap p ao k co L :=
  ⟨h.own.alloc o, h.tk.alloc o, h.blw.alloc h.blw.size o, by have := h.sz; simp; omega⟩
theorem DecAt.set {w W : World} {a : Option Addr} {len cap p : Nat} {ao : Option Addr} {k co : Nat} {L : List Opn} (h : DecAt w W a len cap p ao k co L) {n : Nat} (i : Nat) (v : Value) (hn : w.heap.size + 2 ≤ n) (hne : ∀ g, (Value.slice ao k co).ownBlock = some g → g < n) : DecAt w (W.setCell ⟨n, i, none⟩ v) a len cap p ao k co L := by
  have hg := grown_cell W ⟨n, i, none⟩ v
  refine ⟨h.own.grownNe hg (fun g hk => ?_), h.tk.grown hg ?_ ?_, h.blw.grown hg h.blw.size (fun j hj => ?_), Nat.le_trans h.sz hg.size⟩
  · have := hne g hk
    simp
    omega
  · simp
    omega
  · simp
    omega
  · simp at hj
    omega
theorem DecAt.app {w W W' : World} {a : Option Addr} {len cap p : Nat} {ao : Option Addr} {k co : Nat} {L : List Opn} {a' : Option Addr} {k' c' : Nat} {L' : List Opn} (h : DecAt w W a len cap p ao k co L) (ho : OwnO W' (w.heap.size + 2) a' k' c' L') (hb : Below (w.heap.size + 2) W W') : DecAt w W' a len cap p a' k' c' L' :=
  ⟨ho, ⟨by rw [hb.block _ (by omega)]; exact h.tk.bytes, by rw [hb.block _ (by omega)]; exact h.tk.place⟩, h.blw.trans (hb.mono (by omega)), Nat.le_trans h.sz hb.size⟩

set_option maxRecDepth 100000 in
set_option maxHeartbeats 1000000 in
theorem number_any (gB gA : Nat) (a : Option Addr) (len cap p size : Nat) (bs : List UInt8) (w : World) (ht : Taking w gB gA a len cap p) (hb : BsAt w a len cap bs) (hne : gB ≠ gA) (hp : p ≤ len) :
    Calls Try.prog 30 #[.int .i64 (size : Int), .pointer (some ⟨gB, 0, none⟩), .pointer (some ⟨gA, 0, none⟩)] w fun e w' => e = .returned (.int .u64 ((numAt bs p size : Nat) : Int)) ∧ Taking w' gB gA a len cap (numTo bs p size) ∧ w.grownBy w' (some gA) := by
  have hlen := hb.size
  have hmx := hb.max
  have hle := hb.le
  unfold maxLen at hmx
  obtain ⟨a', hsl, hsub⟩ := slice_any hb p hp
  have HS : Hid (BsAt w a' (len - p) (cap - p) (bs.drop p)) := hsub w bs hb
  have hfx := fun W (hW : BsAt W a' (len - p) (cap - p) (bs.drop p)) => fixed_any a' (len - p) (cap - p) (bs.drop p) size W hW
  have hsz := fun h0 => fxRead_size (bs := bs.drop p) (size := size) h0
  rw [List.length_drop, hlen] at hsz
  have HN : Hid (numAt bs p size = (fxRead (bs.drop p) size).1) := rfl
  have HT : Hid (numTo bs p size = if (fxRead (bs.drop p) size).2 = 0 then p + size else p) := rfl
  have HK : Hid (Taking w gB gA a len cap p) := ht
  have cB := cell_of_one ht.bytes
  have cA := cell_of_one ht.place
  have fA := free_of_one ht.place
  generalize fxRead (bs.drop p) size = r at hfx hsz HN HT
  obtain ⟨n, er⟩ := r
  simp only at hfx hsz HN HT
  have HFX : Hid (∀ W, BsAt W a' (len - p) (cap - p) (bs.drop p) → _) := hfx
  clear hsub hfx ht hb
  by_cases h0 : er = 0
  · have hps := hsz h0
    rw [if_pos h0] at HT
    subst h0
    clear hsz hlen
    go_enter Try.func30, Try.ntmps30
    go_wp2_with fail
    refine (HFX.out _ HS.out).mono ?_
    rintro e w1 ⟨rfl, rfl⟩
    go_wp2_with fail
    go_ret
    rw [HN.out, HT.out]
    exact ⟨ret1 rfl, HK.out.put hne (p + size), grown_set _ _ _⟩
  · rw [if_neg h0] at HT
    have hn0 : (((er : Nat) : Int) == 0) = false := by simp; omega
    clear hsz hlen
    go_enter Try.func30, Try.ntmps30
    go_wp2_with fail
    refine (HFX.out _ HS.out).mono ?_
    rintro e w1 ⟨rfl, rfl⟩
    go_wp2_with fail
    go_ret
    rw [HN.out, HT.out]
    exact ⟨ret1 rfl, HK.out, grown_refl _ _⟩

set_option maxRecDepth 100000 in
set_option maxHeartbeats 1000000 in
theorem text_taken (gB gA : Nat) (a : Option Addr) (len cap p : Nat) (bs : List UInt8) (w : World) (ht : Taking w gB gA a len cap p) (hb : BsAt w a len cap bs) (hne : gB ≠ gA) (hp : p ≤ len) :
    Calls Try.prog 32 #[.pointer (some ⟨gB, 0, none⟩), .pointer (some ⟨gA, 0, none⟩)] w fun e w' => e = .returned (.string (txtAt bs p)) ∧ Taking w' gB gA a len cap (txtTo bs p) ∧ w.grownBy w' (some gA) := by
  have hlen := hb.size
  have hmx := hb.max
  have hle := hb.le
  unfold maxLen at hmx
  obtain ⟨a', hsl, hsub⟩ := slice_any hb p hp
  have HS : Hid (BsAt w a' (len - p) (cap - p) (bs.drop p)) := hsub w bs hb
  have htx := fun W (hW : BsAt W a' (len - p) (cap - p) (bs.drop p)) => text_any a' (len - p) (cap - p) (bs.drop p) W hW
  have hto := txtTo_le (bs := bs) (p := p) (by omega)
  unfold txtTo at hto ⊢
  unfold txtAt
  have HK : Hid (Taking w gB gA a len cap p) := ht
  have cB := cell_of_one ht.bytes
  have cA := cell_of_one ht.place
  have fA := free_of_one ht.place
  generalize txtRead (bs.drop p) = r at htx hto ⊢
  obtain ⟨s, k, er⟩ := r
  simp only at htx hto ⊢
  have HTX : Hid (∀ W, BsAt W a' (len - p) (cap - p) (bs.drop p) → _) := htx
  have hpk : p + k ≤ len := by omega
  clear hsub htx ht hb hto hlen
  go_enter Try.func32, Try.ntmps32
  go_wp2_with fail
  refine (HTX.out _ HS.out).mono ?_
  rintro e w1 ⟨rfl, rfl⟩
  go_wp2_with fail
  go_ret
  exact ⟨ret1 rfl, HK.out.put hne (p + k), grown_set _ _ _⟩

set_option maxRecDepth 100000 in
set_option maxHeartbeats 1000000 in
theorem takers_any (a : Option Addr) (len cap : Nat) (w : World) :
    Calls Try.prog 22 #[.slice a len cap] w fun e w' => e = .returned (.tuple #[.func (.func 30) #[] #[.pointer (some ⟨w.heap.size, 0, none⟩), .pointer (some ⟨w.heap.size + 1, 0, none⟩)], .func (.func 32) #[] #[.pointer (some ⟨w.heap.size, 0, none⟩), .pointer (some ⟨w.heap.size + 1, 0, none⟩)]]) ∧ Taking w' w.heap.size (w.heap.size + 1) a len cap 0 ∧ w'.heap.size = w.heap.size + 2 ∧ Below w.heap.size w w' := by
  have hmf : ∀ fn first cap w, (Instr.makeFunc fn first cap).run Try.prog w = .ok (.func fn first cap) w := fun _ _ _ _ => rfl
  go_enter Try.func22, Try.ntmps22
  go_wp2
  go_ret2
  refine ⟨ret2 rfl rfl, ?_, by simp, ((Below.refl _ _).alloc (Nat.le_refl _) _).alloc (by simp) _⟩
  refine ⟨?_, ?_⟩
  · have hb : Below (w.alloc (.cells #[.slice a len cap] 25)).heap.size (w.alloc (.cells #[.slice a len cap] 25)) _ := (Below.refl _ _).alloc (Nat.le_refl _) (.cells #[.int .i64 0] 3)
    rw [hb.block _ (by simp)]
    exact heap_alloc_new w _
  · have := heap_alloc_new (w.alloc (.cells #[.slice a len cap] 25)) (.cells #[.int .i64 0] 3)
    simpa using this
end Go.Proofs.Ytohhdbmkbfehfaa
