/- What Go's bit operations on unsigned numbers are in natural numbers. -/
import Derived.WalkKit
import Derived.Test.YtmlfbihlbiikeaaGreatDoorChecked
import Derived.Test.YtmlfbihlbiikeaaGreatDoorQa00
import Derived.Lib.AppendStr
import Derived.Laws.AppendOwnNone
import Derived.Deep.AppendSrc
import Derived.Handy
namespace Go.Proofs.YtmlfbihlbiikeaaGreatDoor
theorem nbits_or32 (a b : Nat) (ha : a < 4294967296) (hb : b < 4294967296) : bits .or .u32 (a : Int) (b : Int) = ((a ||| b : Nat) : Int) := by
  have h : a ||| b < 2 ^ 32 := Nat.or_lt_two_pow ha hb
  have e : (BitVec.ofInt IntKind.u32.bits (a : Int) ||| BitVec.ofInt IntKind.u32.bits (b : Int)).toNat = a ||| b := by
    show (BitVec.ofInt 32 (a : Int) ||| BitVec.ofInt 32 (b : Int)).toNat = _
    rw [BitVec.toNat_or, BitVec.ofInt_natCast, BitVec.ofInt_natCast, BitVec.toNat_ofNat, BitVec.toNat_ofNat, Nat.mod_eq_of_lt ha, Nat.mod_eq_of_lt hb]
  unfold bits
  simp only [e]
  simp [IntKind.wrap, IntKind.bits, IntKind.signed]
  omega
theorem nbits_or64 (a b : Nat) (ha : a < 18446744073709551616) (hb : b < 18446744073709551616) : bits .or .u64 (a : Int) (b : Int) = ((a ||| b : Nat) : Int) := by
  have h : a ||| b < 2 ^ 64 := Nat.or_lt_two_pow ha hb
  have e : (BitVec.ofInt IntKind.u64.bits (a : Int) ||| BitVec.ofInt IntKind.u64.bits (b : Int)).toNat = a ||| b := by
    show (BitVec.ofInt 64 (a : Int) ||| BitVec.ofInt 64 (b : Int)).toNat = _
    rw [BitVec.toNat_or, BitVec.ofInt_natCast, BitVec.ofInt_natCast, BitVec.toNat_ofNat, BitVec.toNat_ofNat, Nat.mod_eq_of_lt ha, Nat.mod_eq_of_lt hb]
  unfold bits
  simp only [e]
  simp [IntKind.wrap, IntKind.bits, IntKind.signed]
  omega
theorem nbits_xor32 (a b : Nat) (ha : a < 4294967296) (hb : b < 4294967296) : bits .xor .u32 (a : Int) (b : Int) = ((a ^^^ b : Nat) : Int) := by
  have h : a ^^^ b < 2 ^ 32 := Nat.xor_lt_two_pow ha hb
  have e : (BitVec.ofInt IntKind.u32.bits (a : Int) ^^^ BitVec.ofInt IntKind.u32.bits (b : Int)).toNat = a ^^^ b := by
    show (BitVec.ofInt 32 (a : Int) ^^^ BitVec.ofInt 32 (b : Int)).toNat = _
    rw [BitVec.toNat_xor, BitVec.ofInt_natCast, BitVec.ofInt_natCast, BitVec.toNat_ofNat, BitVec.toNat_ofNat, Nat.mod_eq_of_lt ha, Nat.mod_eq_of_lt hb]
  unfold bits
  simp only [e]
  simp [IntKind.wrap, IntKind.bits, IntKind.signed]
  omega
theorem nbits_and32 (a b : Nat) (ha : a < 4294967296) (hb : b < 4294967296) : bits .and .u32 (a : Int) (b : Int) = ((a &&& b : Nat) : Int) := by
  have h : a &&& b < 2 ^ 32 := Nat.and_lt_two_pow _ hb
  have e : (BitVec.ofInt IntKind.u32.bits (a : Int) &&& BitVec.ofInt IntKind.u32.bits (b : Int)).toNat = a &&& b := by
    show (BitVec.ofInt 32 (a : Int) &&& BitVec.ofInt 32 (b : Int)).toNat = _
    rw [BitVec.toNat_and, BitVec.ofInt_natCast, BitVec.ofInt_natCast, BitVec.toNat_ofNat, BitVec.toNat_ofNat, Nat.mod_eq_of_lt ha, Nat.mod_eq_of_lt hb]
  unfold bits
  simp only [e]
  simp [IntKind.wrap, IntKind.bits, IntKind.signed]
  omega
theorem nbits_and64 (a b : Nat) (ha : a < 18446744073709551616) (hb : b < 18446744073709551616) : bits .and .u64 (a : Int) (b : Int) = ((a &&& b : Nat) : Int) := by
  have h : a &&& b < 2 ^ 64 := Nat.and_lt_two_pow _ hb
  have e : (BitVec.ofInt IntKind.u64.bits (a : Int) &&& BitVec.ofInt IntKind.u64.bits (b : Int)).toNat = a &&& b := by
    show (BitVec.ofInt 64 (a : Int) &&& BitVec.ofInt 64 (b : Int)).toNat = _
    rw [BitVec.toNat_and, BitVec.ofInt_natCast, BitVec.ofInt_natCast, BitVec.toNat_ofNat, BitVec.toNat_ofNat, Nat.mod_eq_of_lt ha, Nat.mod_eq_of_lt hb]
  unfold bits
  simp only [e]
  simp [IntKind.wrap, IntKind.bits, IntKind.signed]
  omega
theorem nbits_or8_128 : ∀ a : Fin 256, bits .or .u8 ((a.val : Nat) : Int) 128 = (((a.val % 128 + 128 : Nat)) : Int) := by decide +kernel
theorem nbits_andNot8_128 : ∀ a : Fin 256, bits .andNot .u8 ((a.val : Nat) : Int) 128 = (((a.val % 128 : Nat)) : Int) := by decide +kernel
end Go.Proofs.YtmlfbihlbiikeaaGreatDoor
namespace Go.Proofs.YtmlfbihlbiikeaaGreatDoor
open Go.RowKit

def cellsB (bs : List UInt8) : List Value := bs.map fun b => Value.int .u8 (b.toNat : Int)
theorem cellsB_length (bs : List UInt8) : (cellsB bs).length = bs.length := by simp [cellsB]
theorem cellsB_append (bs cs : List UInt8) : cellsB (bs ++ cs) = cellsB bs ++ cellsB cs := by simp [cellsB]
theorem cellsB_one (bs : List UInt8) : ∀ u ∈ cellsB bs, u.oneCell' = true := by
  intro u hu
  obtain ⟨_, _, rfl⟩ := List.mem_map.1 hu
  rfl
theorem cellsB_get (bs : List UInt8) (j : Nat) (h : j < bs.length) : (cellsB bs)[j]? = some (.int .u8 ((bs.getD j 0).toNat : Int)) := by
  simp [cellsB, List.getD, h]
theorem strCells_cellsB (s : ByteArray) : Lib.strCells s = cellsB s.data.toList := rfl

structure OwnB (w : World) (B : Nat) (a : Option Addr) (len cap : Nat) (bs : List UInt8) : Prop where
  size : bs.length = len
  row : w.ownsRow B 5 1 (.slice a len cap) len (cellsB bs)

theorem OwnB.bs {w : World} {B : Nat} {a : Option Addr} {len cap : Nat} {bs : List UInt8} (h : OwnB w B a len cap bs) : BsAt w a len cap bs := by
  have hs := h.size
  rcases h.row.2 with ⟨hv, hn⟩ | ⟨g, c, cur, hv, hb, hg, hn, hc, hz, ht⟩
  · simp only [Value.slice.injEq] at hv
    obtain ⟨rfl, rfl, rfl⟩ := hv
    exact ⟨hs, Nat.le_refl _, Nat.zero_le _, fun _ => rfl, fun h0 => absurd h0 (Nat.lt_irrefl _)⟩
  · simp only [Value.slice.injEq, true_and] at hv
    obtain ⟨rfl, rfl⟩ := hv
    refine ⟨hs, hn, hc, fun h0 => by simp at h0, fun _ => ⟨g, 0, rfl, fun j hj => ?_⟩⟩
    rw [Nat.zero_add, h.row.cellAt j (by omega), cellsB_get bs j (by omega)]

theorem OwnB.below {w w' : World} {B : Nat} {a : Option Addr} {len cap : Nat} {bs : List UInt8} (h : OwnB w B a len cap bs) (hb : Below w.heap.size w w') : OwnB w' B a len cap bs := by
  refine ⟨h.size, h.row.1, ?_⟩
  rcases h.row.2 with hn | ⟨g, c, cur, hv, hB, hg, rest⟩
  · exact .inl hn
  · exact .inr ⟨g, c, cur, hv, hB, by rw [hb.block g (Array.getElem?_eq_some_iff.1 hg).1]; exact hg, rest⟩

theorem OwnB.mono {w : World} {B B' : Nat} {a : Option Addr} {len cap : Nat} {bs : List UInt8} (h : OwnB w B a len cap bs) (hB : B' ≤ B) : OwnB w B' a len cap bs := by
  refine ⟨h.size, h.row.1, ?_⟩
  rcases h.row.2 with hn | ⟨g, c, cur, hv, hb, rest⟩
  · exact .inl hn
  · exact .inr ⟨g, c, cur, hv, Nat.le_trans hB hb, rest⟩

theorem OwnB.lt {w : World} {B : Nat} {a : Option Addr} {len cap : Nat} {bs : List UInt8} (h : OwnB w B a len cap bs) : ∀ k, (Value.slice a len cap).ownBlock = some k → B ≤ k := fun k hk => (h.row.lt k hk).1

theorem OwnB.alloc {w : World} {B : Nat} {a : Option Addr} {len cap : Nat} {bs : List UInt8} (h : OwnB w B a len cap bs) (o : Obj) : OwnB (w.alloc o) B a len cap bs := ⟨h.size, h.row.alloc o⟩
theorem BsAt.alloc {w : World} {a : Option Addr} {len cap : Nat} {bs : List UInt8} (h : BsAt w a len cap bs) (o : Obj) : BsAt (w.alloc o) a len cap bs := h.below (Nat.le_refl _) ((Below.refl _ _).alloc (Nat.le_refl _) _)

theorem infoU8 : (Tryz.prog.info? 5).map (fun i => (i.zero, i.size, i.bytes)) = some (some (.int .u8 0), 1, 1) := by kernel_rfl

theorem own_of_row {w : World} {B : Nat} {v : Value} {n : Nat} {bs : List UInt8} (h : w.ownsRow B 5 1 v n (cellsB bs)) : ∃ a cap, v = .slice a n cap ∧ OwnB w B a n cap bs := by
  have hn : bs.length = n := by have := h.1; rw [cellsB_length] at this; omega
  rcases h.2 with ⟨rfl, rfl⟩ | ⟨g, c, cur, rfl, rest⟩
  · exact ⟨none, 0, rfl, hn, h⟩
  · exact ⟨_, c, rfl, hn, h⟩

theorem wpList_app (w : World) {ops : Array Oper} {rest : List Oper} {o : Oper} {a : Act} {Q : Exit → Act → World → Prop} (hgd : o.guard = none) (s x : Operand)
    (ho : o.op = .call { callee := .builtin .append, args := #[s, x], argTypes := #[29, 29] })
    (B : Nat) (a1 : Option Addr) (n1 c1 : Nat) (bs : List UInt8) (hs : a.eval s = .slice a1 n1 c1) (hown : OwnB w B a1 n1 c1 bs)
    (a2 : Option Addr) (n2 c2 : Nat) (cs : List UInt8) (hx : a.eval x = .slice a2 n2 c2) (hsrc : BsAt w a2 n2 c2 cs)
    (hl : n1 + n2 ≤ 140737488355328) (hB : B ≤ w.heap.size)
    (h : ∀ a' c' w', OwnB w' B a' (n1 + n2) c' (bs ++ cs) → Below B w w' → w.grownBy w' (Value.slice a1 n1 c1).ownBlock → wpList Tryz.prog ops Q rest (a.put o.dst (.slice a' (n1 + n2) c')) w') :
    wpList Tryz.prog ops Q (o :: rest) a w := by
  obtain ⟨i, hi, hz0, hz1, hz2⟩ := info_parts infoU8
  have hsz := hsrc.size
  have fin : ∀ v' w', w'.ownsRow B 5 1 v' (n1 + n2) (cellsB bs ++ cellsB cs) → w.grownBy w' (Value.slice a1 n1 c1).ownBlock → wpList Tryz.prog ops Q rest (a.put o.dst v') w' := by
    intro v' w' hr hg
    rw [← cellsB_append] at hr
    obtain ⟨a', c', rfl, ho'⟩ := own_of_row hr
    exact h a' c' w' ho' ((Below.refl B w).grown hg hB hown.lt) hg
  cases a2 with
  | none =>
    have hc0 := hsrc.bare rfl
    have hle := hsrc.le
    obtain rfl : n2 = 0 := by omega
    subst hc0
    obtain rfl := List.eq_nil_of_length_eq_zero hsz
    refine wpList_append_own_none hgd s x _ ho B 5 i 1 Tryz.underlying29 hi _ n1 _ hs hown.row hx ?_
    exact fin _ w (by simpa [cellsB] using hown.row) (World.grownBy.refl _ _)
  | some ad =>
    have hcell : ∀ j u, (cellsB cs)[j]? = some u → w.cell? (ad.add j) = some u := by
      intro j u hu
      have hj : j < cs.length := by have := (List.getElem?_eq_some_iff.1 hu).1; rwa [cellsB_length] at this
      obtain ⟨b, off, he, hc⟩ := hsrc.here (by omega)
      obtain rfl := Option.some.inj he
      rw [cellsB_get cs j hj] at hu
      obtain rfl := Option.some.inj hu
      rw [Addr.add_lit]
      exact hc j (by omega)
    exact wpList_append_own w hgd s x _ ho B 5 i (.int .u8 0) 1 1 Tryz.underlying29 hi hz0 hz1 hz2 rfl (by decide) _ n1 _ hs hown.row ad n2 c2 (cellsB cs) hx (by rw [cellsB_length]; omega) hcell (cellsB_one cs) (by unfold maxLen; omega) (by omega) hB
      (fun v' w' hr hg _ => fin v' w' hr hg)

theorem wpList_appS (w : World) {ops : Array Oper} {rest : List Oper} {o : Oper} {a : Act} {Q : Exit → Act → World → Prop} (hgd : o.guard = none) (s x : Operand)
    (ho : o.op = .call { callee := .builtin .append, args := #[s, x], argTypes := #[29, 9] })
    (B : Nat) (a1 : Option Addr) (n1 c1 : Nat) (bs : List UInt8) (hs : a.eval s = .slice a1 n1 c1) (hown : OwnB w B a1 n1 c1 bs)
    (t : ByteArray) (hx : a.eval x = .string t) (hl : n1 + t.size ≤ 140737488355328) (hB : B ≤ w.heap.size)
    (h : ∀ a' c' w', OwnB w' B a' (n1 + t.size) c' (bs ++ t.data.toList) → Below B w w' → w.grownBy w' (Value.slice a1 n1 c1).ownBlock → wpList Tryz.prog ops Q rest (a.put o.dst (.slice a' (n1 + t.size) c')) w') :
    wpList Tryz.prog ops Q (o :: rest) a w := by
  obtain ⟨i, hi, hz0, hz1, hz2⟩ := info_parts infoU8
  refine Lib.wpList_append_own_string w hgd s x _ _ ho B 5 i Tryz.underlying29 Tryz.underlying9 hi hz0 hz1 hz2 _ n1 _ hs hown.row t hx (by unfold maxLen; omega) hl hB ?_
  intro v' w' hr hg _
  rw [strCells_cellsB, ← cellsB_append] at hr
  obtain ⟨a', c', rfl, ho'⟩ := own_of_row hr
  exact h a' c' w' ho' ((Below.refl B w).grown hg hB hown.lt) hg

theorem BsAt.nil (w : World) : BsAt w none 0 0 [] := ⟨rfl, Nat.le_refl _, Nat.zero_le _, fun _ => rfl, fun h => absurd h (Nat.lt_irrefl _)⟩
theorem BsAt.drew {w : World} {a : Option Addr} {len cap : Nat} {bs : List UInt8} (h : BsAt w a len cap bs) : BsAt w.drew a len cap bs := h.below (Nat.le_refl _) (Below.refl _ _).drew
theorem conv_of {w : World} {a : Option Addr} {len cap : Nat} {bs : List UInt8} (h : BsAt w a len cap bs) : (convert 29 9 (.slice a len cap)).run Tryz.prog w = .ok (.string (strOf bs)) w :=
  h.asStr (P := Tryz.prog) (dst := 9) Tryz.underlying29 Tryz.underlying5 Tryz.underlying9
theorem BsAt.upTo {w : World} {a : Option Addr} {len cap : Nat} {bs : List UInt8} (h : BsAt w a len cap bs) (k : Nat) (hk : k ≤ len) : BsAt w a k cap (bs.take k) := by
  have hs := h.size
  have hl := h.le
  refine ⟨by simp; omega, by omega, h.max, h.bare, fun hp => ?_⟩
  obtain ⟨b, off, rfl, hc⟩ := h.here (by omega)
  refine ⟨b, off, rfl, fun j hj => ?_⟩
  rw [hc j (by omega)]
  simp [List.getD, hj]
end Go.Proofs.YtmlfbihlbiikeaaGreatDoor
namespace Go.Proofs.YtmlfbihlbiikeaaGreatDoor
open Go.RowKit
theorem i64_wrap (k : Nat) (h : k < 9223372036854775808) : IntKind.i64.wrap (k : Int) = (k : Int) := by
  simp [IntKind.wrap, IntKind.bits, IntKind.signed]
  omega
theorem conv_u64_int (k : Nat) (h : k < 9223372036854775808) (W : World) : (convert 23 3 (.int .u64 (k : Int))).run Tryz.prog W = .ok (.int .i64 (k : Int)) W := by
  have e := i64_wrap k h
  generalize (k : Int) = z at e ⊢
  simp [convert, run_underlying Tryz.underlying23, run_underlying Tryz.underlying3, go_sem, e]
end Go.Proofs.YtmlfbihlbiikeaaGreatDoor
namespace Go.Proofs.YtmlfbihlbiikeaaGreatDoor
open Go.Shelf Go.RowKit Go.Sort Go.Lib
set_option linter.unusedVariables false
set_option linter.unusedSimpArgs false
abbrev Pow (w : World) : Prop := Lib.TabIs Tryz.prog w "internal/strconv.uint64pow10" .u64 Lib.pow10Tab
theorem below_grow (w : World) (k : Nat) (os : Array Obj) : Below w.heap.size w (grow (w.drewN k) os) := by
  refine ⟨rfl, rfl, rfl, ?_, fun b hb => ?_⟩
  · show w.heap.size ≤ (w.heap ++ os).size
    rw [Array.size_append]
    omega
  · show (w.heap ++ os)[b]? = w.heap[b]?
    rw [Array.getElem?_append_left hb]
set_option maxHeartbeats 6400000 in
set_option maxRecDepth 100000 in
theorem ifmt_any (u : Nat) (h : u < 18446744073709551616) (w : World) (htab : Pow w) :
    Calls Tryz.prog 81 #[.int .u64 (u : Int), .int .i64 10] w fun e w' => e = .returned (.string ⟨(decDigits u).toArray⟩) ∧ Below w.heap.size w w' := by
  by_cases hs : u < 100
  · have hcv : ∀ W : World, (convert 23 3 (.int .u64 (u : Int))).run Tryz.prog W = .ok (.int .i64 (u : Int)) W := fun W => conv_u64_int u (by omega) W
    have hlt : decide ((u : Int) < 100) = true := decide_eq_true (by omega)
    have hi : (u : Int) < 100 := by omega
    go_enter Tryz.func81, Tryz.ntmps81
    go_wp2_with fail
    refine (Any.internal_strconv_small smallL u hs _).mono ?_
    rintro e w' ⟨rfl, rfl⟩
    go_wp2
    go_ret
    exact ⟨rfl, Below.refl _ _⟩
  · have hu1 : 1 ≤ u := by omega
    have hnd20 : Lib.nDigits u ≤ 20 := by have := Lib.numDigits_eq u hu1 h; split at this <;> omega
    have hal : Tryz.prog.arrayLen 203 = 24 := by kernel_rfl
    have hge : decide ((u : Int) < 100) = false := decide_eq_false (by omega)
    have hn : ¬ (u : Int) < 100 := by omega
    have hsl : ∀ W, (Instr.sliceAt 203 (.pointer (some ⟨w.heap.size, 0, none⟩)) none (some (.int .i64 (Lib.nDigits u : Int))) none).run Tryz.prog W = .ok (.slice (some ⟨w.heap.size, 0, none⟩) (Lib.nDigits u) 24) W := fun W => by
      rw [run_sliceAt_array_h W 203 ⟨w.heap.size, 0, none⟩ (by simp [Program.arrayLen, Program.elem, Tryz.underlying203]) .i64 (Lib.nDigits u : Int) (by omega) (by rw [hal]; omega)]
      go_simp
    have hH0 : Holds (fun (b : UInt8) => Value.int .u8 (b.toNat : Int)) (w.alloc (.cells Lib.zeros24 203)) w.heap.size 0 (Array.replicate (Lib.nDigits u) 0) := fun j hj => by
      have hj' : j < Lib.nDigits u := by simpa using hj
      refine ⟨?_, World.frozen?_alloc_new _ _ _ _⟩
      rw [World.cell?_alloc_new, Lib.zeros24_at _ (by omega), getElem!_pos _ j hj]
      simp
    have hfmt := Any.internal_strconv_formatBase10 fmtL w.heap.size 0 24 u (Array.replicate (Lib.nDigits u) 0) (w.alloc (.cells Lib.zeros24 203)) hH0 (by rw [Array.size_replicate]; exact Lib.lt_pow_nDigits u) h (by rw [Array.size_replicate]; omega)
    rw [Array.size_replicate] at hfmt
    have HH0 := Lib.hid hH0
    clear hH0 hal
    go_enter Tryz.func81, Tryz.ntmps81
    go_wp2_with fail
    refine (Any.internal_strconv_numDigits ndL u hu1 h _ (Lib.tabIs_alloc htab _)).mono ?_
    rintro e w' ⟨rfl, rfl⟩
    go_wp2_with fail
    refine hfmt.mono ?_
    rintro e w' ⟨rfl, k, v', dk, rfl, hF⟩
    have hcv : (convert 29 9 (.slice (some ⟨w.heap.size, 0, none⟩) (Lib.nDigits u) 24)).run Tryz.prog ((putRow (fun (b : UInt8) => Value.int .u8 (b.toNat : Int)) (w.alloc (.cells Lib.zeros24 203)) w.heap.size 0 dk).drewN k) = .ok (.string ⟨(Lib.decDigits u).toArray⟩) ((putRow (fun (b : UInt8) => Value.int .u8 (b.toNat : Int)) (w.alloc (.cells Lib.zeros24 203)) w.heap.size 0 dk).drewN k) := by
      have h := run_convert_bytes_back (P := Tryz.prog) ((putRow (fun (b : UInt8) => Value.int .u8 (b.toNat : Int)) (w.alloc (.cells Lib.zeros24 203)) w.heap.size 0 dk).drewN k) 29 9 5 ⟨w.heap.size, 0, none⟩ 24 (Lib.decDigits u) Tryz.underlying29 Tryz.underlying5 Tryz.underlying9 (fun j hj => by
        rw [Lib.row_is_numeral hF j hj, Lib.add_plain, World.cell?_drewN]
        exact cell?_putRow (fun (b : UInt8) => Value.int .u8 (b.toNat : Int)) _ w.heap.size 0 _ dk HH0.out (by rw [hF.size, Array.size_replicate]) j (by rw [hF.size]; rw [Lib.decDigits_length] at hj; exact hj))
      rw [Lib.decDigits_length] at h
      exact h
    go_wp2
    go_ret
    refine ⟨rfl, ?_⟩
    rw [alloc_eq_grow]
    obtain ⟨os', _, e⟩ := putRow_grow_new (fun (b : UInt8) => Value.int .u8 (b.toNat : Int)) w #[.cells Lib.zeros24 203] w.heap.size 0 dk (Nat.le_refl _)
    rw [e]
    exact below_grow w k os'
theorem fmt_any (u : Nat) (h : u < 18446744073709551616) (w : World) (htab : Pow w) :
    Calls Tryz.prog 37 #[.int .u64 (u : Int), .int .i64 10] w fun e w' => e = .returned (.string ⟨(decDigits u).toArray⟩) ∧ Below w.heap.size w w' := by
  go_enter Tryz.func37, Tryz.ntmps37
  go_wp2_with fail
  refine (ifmt_any u h _ htab).mono ?_
  rintro e w' ⟨rfl, hb⟩
  go_wp2
  go_ret
  exact ⟨rfl, hb⟩
end Go.Proofs.YtmlfbihlbiikeaaGreatDoor
namespace Go.Proofs.YtmlfbihlbiikeaaGreatDoor
open Go.RowKit
abbrev at_ (p : Nat) : Value := .pointer (some ⟨p, 0, none⟩)
structure Chg (R : Nat → Prop) (w w' : World) : Prop where
  os : w'.os = w.os
  tape : w'.tape = w.tape
  output : w'.output = w.output
  size : w.heap.size ≤ w'.heap.size
  block : ∀ k, k < w.heap.size → ¬ R k → w'.heap[k]? = w.heap[k]?
theorem Chg.refl (R : Nat → Prop) (w : World) : Chg R w w := ⟨rfl, rfl, rfl, Nat.le_refl _, fun _ _ _ => rfl⟩
theorem Chg.wide {R R' : Nat → Prop} {w w' : World} (h : Chg R w w') (hR : ∀ k, k < w.heap.size → R k → R' k) : Chg R' w w' := ⟨h.os, h.tape, h.output, h.size, fun k hk hn => h.block k hk (fun hr => hn (hR k hk hr))⟩
theorem Chg.andThen {R R' : Nat → Prop} {a b c : World} (h : Chg R a b) (k : Chg R' b c) (hR : ∀ k, k < a.heap.size → R' k → R k) : Chg R a c :=
  ⟨k.os.trans h.os, k.tape.trans h.tape, k.output.trans h.output, Nat.le_trans h.size k.size, fun i hi hn => (k.block i (Nat.lt_of_lt_of_le hi h.size) (fun hr => hn (hR i hi hr))).trans (h.block i hi hn)⟩
theorem Chg.grown {row : Option Nat} {w w' : World} (h : w.grownBy w' row) : Chg (fun k => row = some k) w w' := ⟨h.os, h.tape, h.output, h.size, fun k hk hn => h.block k hk (fun e => hn e.symm)⟩
theorem Chg.of {R : Nat → Prop} {w w' : World} (h : Below w.heap.size w w') : Chg R w w' := ⟨h.os, h.tape, h.output, h.size, fun k hk _ => h.block k hk⟩
theorem Chg.drew {R : Nat → Prop} {w w' : World} (h : Chg R w w') : Chg R w w'.drew := ⟨h.os, h.tape, h.output, h.size, h.block⟩
theorem Chg.alloc {R : Nat → Prop} {w w' : World} (h : Chg R w w') (o : Obj) : Chg R w (w'.alloc o) :=
  ⟨h.os, h.tape, h.output, by have := h.size; simp; omega, fun k hk hr => (Below.heap_alloc _ _ k (Nat.lt_of_lt_of_le hk h.size)).trans (h.block k hk hr)⟩
theorem Chg.set {R : Nat → Prop} {w w' : World} (h : Chg R w w') {p : Nat} (hp : p < w.heap.size → R p) (j : Nat) (v : Value) : Chg R w (w'.setCell ⟨p, j, none⟩ v) :=
  ⟨h.os, h.tape, h.output, by have := h.size; simpa using this, fun k hk hr => (Below.heap_setCell _ _ _ k (fun e => hr (by rw [e] at hk ⊢; exact hp hk))).trans (h.block k hk hr)⟩
theorem Chg.below {R : Nat → Prop} {B : Nat} {w w' : World} (h : Chg R w w') (hR : ∀ k, R k → B ≤ k) (hB : B ≤ w.heap.size) : Below B w w' := ⟨h.os, h.tape, h.output, h.size, fun k hk => h.block k (Nat.lt_of_lt_of_le hk hB) (fun hr => by have := hR k hr; omega)⟩
def Box (w : World) (p : Nat) (t : TypeId) (arr : Array Value) : Prop := w.heap[p]? = some (.cells arr t (0, 0))
theorem Box.lt {w : World} {p : Nat} {t : TypeId} {arr : Array Value} (h : Box w p t arr) : p < w.heap.size := (Array.getElem?_eq_some_iff.1 h).1
theorem Box.cell {w : World} {p : Nat} {t : TypeId} {arr : Array Value} (h : Box w p t arr) (j : Nat) : w.cell? ⟨p, j, none⟩ = arr[j]? := cell_of_row w p j arr t (0, 0) h
theorem Box.soft {w : World} {p : Nat} {t : TypeId} {arr : Array Value} (h : Box w p t arr) (j : Nat) : w.frozen? ⟨p, j, none⟩ = false := by
  unfold World.frozen?
  rw [show w.heap[p]? = _ from h]
  simp
theorem Box.set {w : World} {p : Nat} {t : TypeId} {arr : Array Value} (h : Box w p t arr) (j : Nat) (v : Value) : Box (w.setCell ⟨p, j, none⟩ v) p t (arr.setIfInBounds j v) := by
  have hlt := h.lt
  unfold Box at h ⊢
  have e := Array.getElem?_eq_some_iff.1 h
  obtain ⟨_, e⟩ := e
  simp [World.setCell, Array.getElem?_modify, h]
theorem Box.eq {w : World} {p : Nat} {t : TypeId} {arr arr' : Array Value} (h : Box w p t arr) (e : arr = arr') : Box w p t arr' := e ▸ h
theorem Box.kept {w w' : World} {p : Nat} {t : TypeId} {arr : Array Value} (h : Box w p t arr) (hk : w'.heap[p]? = w.heap[p]?) : Box w' p t arr := hk.trans h
theorem Box.new (w : World) (t : TypeId) (arr : Array Value) : Box (w.alloc (.cells arr t)) w.heap.size t arr := heap_alloc_new w _
theorem Box.alloc {w : World} {p : Nat} {t : TypeId} {arr : Array Value} (h : Box w p t arr) (o : Obj) : Box (w.alloc o) p t arr := h.kept (Below.heap_alloc w o p h.lt)
theorem Box.other {w : World} {p q : Nat} {t : TypeId} {arr : Array Value} (h : Box w p t arr) (hq : p ≠ q) (j : Nat) (v : Value) : Box (w.setCell ⟨q, j, none⟩ v) p t arr := h.kept (Below.heap_setCell _ _ _ _ hq)
def tagOf : Obj → Nat
  | .cells _ t _ => t
  | .map _ _ => 1000
  | _ => 2000
def tag (w : World) (k : Nat) : Option Nat := (w.heap[k]?).map tagOf
theorem tag_ne {w : World} {a b i j : Nat} (ha : tag w a = some i) (hb : tag w b = some j) (h : i ≠ j) : a ≠ b := by
  rintro rfl
  rw [ha] at hb
  exact h (Option.some.inj hb)
theorem tag_lt {w : World} {a i : Nat} (ha : tag w a = some i) : a < w.heap.size := by
  unfold tag at ha
  cases h : w.heap[a]? with
  | none => rw [h] at ha; cases ha
  | some o => exact (Array.getElem?_eq_some_iff.1 h).1
theorem Box.tag {w : World} {p : Nat} {t : TypeId} {arr : Array Value} (h : Box w p t arr) : tag w p = some t := by
  unfold Go.Proofs.YtmlfbihlbiikeaaGreatDoor.tag
  rw [show w.heap[p]? = _ from h]
  rfl
theorem row_tag {w : World} {B : Nat} {e : TypeId} {size n : Nat} {v : Value} {xs : List Value} (h : w.ownsRow B e size v n xs) {b : Nat} (hb : v.ownBlock = some b) : tag w b = some e := by
  rcases h.2 with ⟨hv, _⟩ | ⟨g, c, cur, hv, _, hg, _⟩
  · rw [hv] at hb; cases hb
  · rw [hv] at hb
    obtain rfl := Option.some.inj hb
    unfold tag
    rw [hg]
    rfl
theorem row_same {w w' : World} {B : Nat} {e : TypeId} {size n : Nat} {v : Value} {xs : List Value} (h : w.ownsRow B e size v n xs) (hk : ∀ b, v.ownBlock = some b → w'.heap[b]? = w.heap[b]?) : w'.ownsRow B e size v n xs := by
  refine ⟨h.1, ?_⟩
  rcases h.2 with hn | ⟨g, c, cur, hv, hB, hg, rest⟩
  · exact .inl hn
  · exact .inr ⟨g, c, cur, hv, hB, (hk g (by rw [hv]; rfl)).trans hg, rest⟩
def blkOf (a : Option Addr) : Option Nat := a.map (·.block)
theorem own_blk (a : Option Addr) (n c : Nat) : (Value.slice a n c).ownBlock = blkOf a := by
  cases a <;> rfl
structure IsAt (w : World) (a : Option Addr) (len cap : Nat) (l : List Int) : Prop where
  size : l.length = len
  le : len ≤ cap
  max : cap ≤ maxLen
  bare : a = none → cap = 0
  wf : ∀ j, j < len → -9223372036854775808 ≤ l.getD j 0 ∧ l.getD j 0 ≤ 9223372036854775807
  here : 0 < len → ∃ b off, a = some ⟨b, off, none⟩ ∧ ∀ j, j < len → w.cell? ⟨b, off + j, none⟩ = some (.int .i64 (l.getD j 0))
theorem slice_of_row {w : World} {B : Nat} {e : TypeId} {size n : Nat} {v : Value} {xs : List Value} (h : w.ownsRow B e size v n xs) : ∃ a c, v = .slice a n c := by
  rcases h.2 with ⟨rfl, rfl⟩ | ⟨g, c, cur, rfl, _⟩
  · exact ⟨none, 0, rfl⟩
  · exact ⟨_, c, rfl⟩
theorem wpList_appV (w : World) {ops : Array Oper} {rest : List Oper} {o : Oper} {a : Act} {Q : Exit → Act → World → Prop} (hgd : o.guard = none) (s x : Operand) (t e : TypeId)
    (ho : o.op = .call { callee := .builtin .append, args := #[s, x], argTypes := #[t, t] }) (ht : Tryz.prog.underlying t = some (.slice e)) (z : Value) (size bytes : Nat) (hinfo : (Tryz.prog.info? e).map (fun i => (i.zero, i.size, i.bytes)) = some (some z, size, bytes)) (hzs : z.cells.size = size) (hsz : 0 < size)
    (B : Nat) (a1 : Option Addr) (n1 c1 : Nat) (xs : List Value) (hs : a.eval s = .slice a1 n1 c1) (hown : w.ownsRow B e size (.slice a1 n1 c1) n1 xs)
    (a2 : Option Addr) (n2 c2 : Nat) (news : List Value) (hx : a.eval x = .slice a2 n2 c2) (hbare : a2 = none → n2 = 0 ∧ c2 = 0) (hl : news.length = n2 * size) (hnews : ∀ ad, a2 = some ad → ∀ j u, news[j]? = some u → w.cell? (ad.add j) = some u) (h1 : ∀ u ∈ news, u.oneCell' = true)
    (h63 : n1 + n2 ≤ maxLen) (hbytes : (n1 + n2) * bytes ≤ 140737488355328) (hB : B ≤ w.heap.size)
    (h : ∀ a' c' w', w'.ownsRow B e size (.slice a' (n1 + n2) c') (n1 + n2) (xs ++ news) → Below B w w' → w.grownBy w' (blkOf a1) → wpList Tryz.prog ops Q rest (a.put o.dst (.slice a' (n1 + n2) c')) w') :
    wpList Tryz.prog ops Q (o :: rest) a w := by
  obtain ⟨i, hi, hz0, hz1, hz2⟩ := info_parts hinfo
  have fin : ∀ v' w', w'.ownsRow B e size v' (n1 + n2) (xs ++ news) → w.grownBy w' (Value.slice a1 n1 c1).ownBlock → wpList Tryz.prog ops Q rest (a.put o.dst v') w' := by
    intro v' w' hr hg
    obtain ⟨a', c', rfl⟩ := slice_of_row hr
    exact h a' c' w' hr ((Below.refl B w).grown hg hB (fun k hk => (hown.lt k hk).1)) (by rw [← own_blk a1 n1 c1]; exact hg)
  cases a2 with
  | none =>
    obtain ⟨rfl, rfl⟩ := hbare rfl
    obtain rfl := List.eq_nil_of_length_eq_zero (by rw [hl]; simp : news.length = 0)
    refine wpList_append_own_none hgd s x _ ho B e i size ht hi _ n1 _ hs hown hx ?_
    exact fin _ w (by simpa using hown) (World.grownBy.refl _ _)
  | some ad => exact wpList_append_own w hgd s x _ ho B e i z size bytes ht hi hz0 hz1 hz2 hzs hsz _ n1 _ hs hown ad n2 c2 news hx hl (hnews ad rfl) h1 h63 hbytes hB (fun v' w' hr hg _ => fin v' w' hr hg)
theorem row_addr {w : World} {B : Nat} {e : TypeId} {size n cap : Nat} {a : Option Addr} {xs : List Value} (h : w.ownsRow B e size (.slice a n cap) n xs) : n ≤ cap ∧ cap ≤ maxLen ∧ (a = none → cap = 0) ∧ (0 < n → ∃ g, a = some ⟨g, 0, none⟩) := by
  rcases h.2 with ⟨hv, hn⟩ | ⟨g, c, cur, hv, _, _, hn, hc, _⟩
  · simp only [Value.slice.injEq] at hv
    obtain ⟨rfl, rfl, rfl⟩ := hv
    exact ⟨Nat.le_refl _, Nat.zero_le _, fun _ => rfl, fun h0 => absurd h0 (Nat.lt_irrefl _)⟩
  · simp only [Value.slice.injEq, true_and] at hv
    obtain ⟨rfl, rfl⟩ := hv
    exact ⟨hn, hc, fun h0 => by simp at h0, fun _ => ⟨g, rfl⟩⟩
theorem row_below {w w' : World} {B : Nat} {e : TypeId} {size n : Nat} {v : Value} {xs : List Value} (h : w.ownsRow B e size v n xs) (hb : Below w.heap.size w w') : w'.ownsRow B e size v n xs :=
  row_same h fun b e => hb.block b (tag_lt (row_tag h e))
end Go.Proofs.YtmlfbihlbiikeaaGreatDoor
