/- Slices of bytes in memory: a slice that can be read as a list of bytes, and how that reading is kept. -/
import Derived.WalkKit
import Derived.Deep.AppendSrc
import Derived.Test.YtiflepadjcpjjaaRows
import Derived.OpenShut
import Derived.Test.YtiflepadjcpjjaaChecked
import Derived.Laws.Cover1
import Derived.LoopN
namespace Go.Proofs.Ytiflepadjcpjjaa
open Go.RowKit

theorem ret1 {a a' : Value} (h : a = a') : Ending.returned a = .returned a' := by rw [h]
theorem ret2 {a b a' b' : Value} (h1 : a = a') (h2 : b = b') : Ending.returned (.tuple #[a, b]) = .returned (.tuple #[a', b']) := by rw [h1, h2]
theorem ret3 {a b c a' b' c' : Value} (h1 : a = a') (h2 : b = b') (h3 : c = c') : Ending.returned (.tuple #[a, b, c]) = .returned (.tuple #[a', b', c']) := by rw [h1, h2, h3]

/-- The slice value (a, len, cap) reads as the bytes bs in the world w. -/
structure BsAt (w : World) (a : Option Addr) (len cap : Nat) (bs : List UInt8) : Prop where
  size : bs.length = len
  le : len ≤ cap
  max : cap ≤ maxLen
  bare : a = none → cap = 0
  here : 0 < len → ∃ b off, a = some ⟨b, off, none⟩ ∧ ∀ j, j < len → w.cell? ⟨b, off + j, none⟩ = some (.int .u8 ((bs.getD j 0).toNat : Int))

theorem BsAt.below {B : Nat} {w w' : World} {a : Option Addr} {len cap : Nat} {bs : List UInt8} (h : BsAt w a len cap bs) (hB : w.heap.size ≤ B) (hb : Below B w w') : BsAt w' a len cap bs :=
  ⟨h.size, h.le, h.max, h.bare, fun hp => by
    obtain ⟨b, off, ha, hc⟩ := h.here hp
    exact ⟨b, off, ha, fun j hj => by rw [hb.cell (Nat.lt_of_lt_of_le (World.block_lt_of_cell? w _ (hc j hj)) hB)]; exact hc j hj⟩⟩

def strOf (l : List UInt8) : ByteArray := ⟨l.toArray⟩

/-- A slice of bytes as a string: the bytes that it reads as. -/
theorem BsAt.asStr {P : Program} {w : World} {a : Option Addr} {len cap : Nat} {bs : List UInt8} (h : BsAt w a len cap bs) {src dst e : TypeId} (hs : P.underlying src = some (.slice e)) (he : P.underlying e = some (.int .u8)) (hd : P.underlying dst = some .string) :
    (convert src dst (.slice a len cap)).run P w = .ok (.string (strOf bs)) w := by
  have hl := h.size
  subst hl
  rcases Nat.eq_zero_or_pos bs.length with h0 | h0
  · obtain rfl := List.eq_nil_of_length_eq_zero h0
    cases a with
    | none => exact run_convert_bytes_nil w src e hs he _ _ dst hd
    | some x => exact run_convert_bytes_back w src dst e x cap [] hs he hd (fun j hj => absurd hj (Nat.not_lt_zero _))
  · obtain ⟨b, off, rfl, hc⟩ := h.here h0
    refine run_convert_bytes_back w src dst e _ cap bs hs he hd (fun j hj => ?_)
    rw [Addr.add_lit, hc j hj]
    simp [List.getD, hj]

theorem BsAt.sub {w : World} {b off len cap : Nat} {bs : List UInt8} (h : BsAt w (some ⟨b, off, none⟩) len cap bs) (k n : Nat) (hk : k + n ≤ len) : BsAt w (some ⟨b, off + k, none⟩) n (cap - k) ((bs.drop k).take n) := by
  have h1 := h.size
  have h2 := h.le
  have h3 := h.max
  refine ⟨by simp; omega, by omega, by omega, by simp, fun hp => ⟨b, off + k, rfl, fun j hj => ?_⟩⟩
  obtain ⟨b', off', he, hc⟩ := h.here (by omega)
  simp at he
  obtain ⟨rfl, rfl⟩ := he
  rw [Nat.add_assoc, hc (k + j) (by omega)]
  simp [List.getD, hj]

theorem BsAt.empty {w : World} (a : Addr) (cap : Nat) (h : cap ≤ maxLen) : BsAt w (some a) 0 cap [] := ⟨rfl, Nat.zero_le _, h, by simp, fun hp => absurd hp (Nat.lt_irrefl _)⟩

/-- A literal of one byte. -/
theorem BsAt.one {w : World} {x : Int} {e : TypeId} {b : UInt8} (hx : x = (b.toNat : Int)) : BsAt (w.alloc (.cells #[.int .u8 x] e)) (some ⟨w.heap.size, 0, none⟩) 1 1 [b] := by
  refine ⟨rfl, Nat.le_refl _, by unfold maxLen; omega, by simp, fun _ => ⟨w.heap.size, 0, rfl, fun j hj => ?_⟩⟩
  obtain rfl : j = 0 := by omega
  subst hx
  simp
end Go.Proofs.Ytiflepadjcpjjaa
/- What an argument's reading gives: a slice of bytes that came in, and how much it holds. -/
namespace Go.Proofs.Ytiflepadjcpjjaa
open Go.RowKit

theorem BsAt.ofInts {w : World} {x : Addr} {len cap : Nat} {zs : List Int} (hl : len ≤ cap) (hm : cap ≤ maxLen) (hz : zs.length = cap)
    (hcell : ∀ i, i < zs.length → w.cell? (x.add i) = some (.int .u8 (zs.getD i 0))) (hwz : ∀ n ∈ zs, (Lit.int .u8 n).wf = true) :
    BsAt w (some x) len cap ((zs.take len).map fun z => UInt8.ofNat z.toNat) := by
  refine ⟨by simp; omega, hl, hm, by simp, fun hp => ?_⟩
  have hb : ∀ i, i < zs.length → 0 ≤ zs.getD i 0 ∧ zs.getD i 0 < 256 := by
    intro i hi
    have hmem : zs.getD i 0 ∈ zs := by simp [List.getD, hi]
    have := hwz _ hmem
    simp [Lit.wf, IntKind.min, IntKind.max, IntKind.bits, IntKind.signed] at this
    have e : zs.getD i 0 = zs[i]?.getD 0 := by simp
    omega
  obtain ⟨b, off, rfl, hc⟩ := ints_at hcell (by omega)
  refine ⟨b, off, rfl, fun j hj => ?_⟩
  rw [hc j (by omega)]
  have hj' := hb j (by omega)
  have e : ((zs.take len).map fun z => UInt8.ofNat z.toNat).getD j 0 = UInt8.ofNat (zs.getD j 0).toNat := by
    simp [List.getD, hj, show j < zs.length by omega]
  rw [e]
  have e2 : zs.getD j 0 = zs[j]?.getD 0 := by simp
  simp
  omega

theorem bulk_one {H : Type} (d : DataW H) : 1 ≤ Rows.uptoBulk d := by
  cases d with
  | lit l => cases l <;> simp [Rows.uptoBulk]
  | _ => simp [Rows.uptoBulk]
theorem bulk_len {H : Type} : ∀ l : List (DataW H), l.length ≤ Rows.uptoBulkAll l
  | [] => by simp [Rows.uptoBulkAll]
  | d :: r => by
    have h1 := bulk_len r
    have h2 := bulk_one d
    simp only [Rows.uptoBulkAll, List.length_cons]
    omega
theorem bulk_slice {H : Type} (elems spare : List (DataW H)) : elems.length + spare.length + 1 ≤ Rows.uptoBulk (.slice elems spare) := by
  have h1 := bulk_len elems
  have h2 := bulk_len spare
  simp only [Rows.uptoBulk]
  omega
theorem bulk_string {H : Type} (s : ByteArray) : s.size + 1 ≤ Rows.uptoBulk (DataW.lit (H := H) (.string s.data.toList)) := by
  simp only [Rows.uptoBulk, Array.length_toList]
  exact Nat.le_refl _
end Go.Proofs.Ytiflepadjcpjjaa
/- The contracts of cmp.Compare for strings and whole numbers. -/
namespace Go.Proofs.Ytiflepadjcpjjaa
open Go.RowKit

/-- Two texts, byte by byte. -/
def scmp (x y : List UInt8) : Int := if Op.bytesLess x y = true then -1 else if (x == y) = true then 0 else 1
/-- Two numbers. -/
def icmp (x y : Int) : Int := if x < y then -1 else if y < x then 1 else 0

set_option maxRecDepth 100000 in
set_option maxHeartbeats 400000 in
theorem nanI_any (x : Int) (w : World) : Calls Try.prog 65 #[.int .i64 x] w fun e w' => e = .returned (.bool false) ∧ w' = w := by
  go_enter Try.func65, Try.ntmps65
  go_wp2
  go_ret
  exact ⟨ret1 (by simp), rfl⟩
set_option maxRecDepth 100000 in
set_option maxHeartbeats 400000 in
theorem nanU_any (x : Int) (w : World) : Calls Try.prog 64 #[.int .u64 x] w fun e w' => e = .returned (.bool false) ∧ w' = w := by
  go_enter Try.func64, Try.ntmps64
  go_wp2
  go_ret
  exact ⟨ret1 (by simp), rfl⟩
set_option maxRecDepth 100000 in
set_option maxHeartbeats 400000 in
theorem nanS_any (x : ByteArray) (w : World) : Calls Try.prog 63 #[.string x] w fun e w' => e = .returned (.bool false) ∧ w' = w := by
  go_enter Try.func63, Try.ntmps63
  go_wp2
  go_ret
  exact ⟨ret1 (by simp), rfl⟩
set_option maxRecDepth 100000 in
set_option maxHeartbeats 400000 in
theorem cmpI_any (x y : Int) (w : World) : Calls Try.prog 61 #[.int .i64 x, .int .i64 y] w fun e w' => e = .returned (.int .i64 (icmp x y)) ∧ w' = w := by
  by_cases h1 : x < y
  · have HE : Hid (icmp x y = -1) := by simp only [Hid, icmp, if_pos h1]
    go_enter Try.func61, Try.ntmps61
    go_wp2_with (go_at_call 65; refine (nanI_any _ _).mono ?_; rintro e w1 ⟨rfl, rfl⟩)
    go_ret
    rw [HE.out]
    exact ⟨ret1 rfl, rfl⟩
  · by_cases h2 : y < x
    · have HE : Hid (icmp x y = 1) := by simp only [Hid, icmp, if_neg h1, if_pos h2]
      go_enter Try.func61, Try.ntmps61
      go_wp2_with (go_at_call 65; refine (nanI_any _ _).mono ?_; rintro e w1 ⟨rfl, rfl⟩)
      go_ret
      rw [HE.out]
      exact ⟨ret1 rfl, rfl⟩
    · have HE : Hid (icmp x y = 0) := by simp only [Hid, icmp, if_neg h1, if_neg h2]
      go_enter Try.func61, Try.ntmps61
      go_wp2_with (go_at_call 65; refine (nanI_any _ _).mono ?_; rintro e w1 ⟨rfl, rfl⟩)
      go_ret
      rw [HE.out]
      exact ⟨ret1 rfl, rfl⟩
set_option maxRecDepth 100000 in
set_option maxHeartbeats 400000 in
theorem cmpU_any (x y : Int) (w : World) : Calls Try.prog 60 #[.int .u64 x, .int .u64 y] w fun e w' => e = .returned (.int .i64 (icmp x y)) ∧ w' = w := by
  by_cases h1 : x < y
  · have HE : Hid (icmp x y = -1) := by simp only [Hid, icmp, if_pos h1]
    go_enter Try.func60, Try.ntmps60
    go_wp2_with (go_at_call 64; refine (nanU_any _ _).mono ?_; rintro e w1 ⟨rfl, rfl⟩)
    go_ret
    rw [HE.out]
    exact ⟨ret1 rfl, rfl⟩
  · by_cases h2 : y < x
    · have HE : Hid (icmp x y = 1) := by simp only [Hid, icmp, if_neg h1, if_pos h2]
      go_enter Try.func60, Try.ntmps60
      go_wp2_with (go_at_call 64; refine (nanU_any _ _).mono ?_; rintro e w1 ⟨rfl, rfl⟩)
      go_ret
      rw [HE.out]
      exact ⟨ret1 rfl, rfl⟩
    · have HE : Hid (icmp x y = 0) := by simp only [Hid, icmp, if_neg h1, if_neg h2]
      go_enter Try.func60, Try.ntmps60
      go_wp2_with (go_at_call 64; refine (nanU_any _ _).mono ?_; rintro e w1 ⟨rfl, rfl⟩)
      go_ret
      rw [HE.out]
      exact ⟨ret1 rfl, rfl⟩
set_option maxRecDepth 100000 in
set_option maxHeartbeats 400000 in
theorem cmpS_any (x y : ByteArray) (w : World) : Calls Try.prog 59 #[.string x, .string y] w fun e w' => e = .returned (.int .i64 (scmp x.toList y.toList)) ∧ w' = w := by
  by_cases h1 : Op.bytesLess x.toList y.toList = true
  · have HE : Hid (scmp x.toList y.toList = -1) := by simp only [Hid, scmp, if_pos h1]
    go_enter Try.func59, Try.ntmps59
    go_wp2_with (go_at_call 63; refine (nanS_any _ _).mono ?_; rintro e w1 ⟨rfl, rfl⟩)
    go_ret
    rw [HE.out]
    exact ⟨ret1 rfl, rfl⟩
  · by_cases h2 : (x.toList == y.toList) = true
    · have HE : Hid (scmp x.toList y.toList = 0) := by simp only [Hid, scmp, if_neg h1, if_pos h2]
      have h1' : Op.bytesLess x.toList y.toList = false := by simpa using h1
      go_enter Try.func59, Try.ntmps59
      go_wp2_with (go_at_call 63; refine (nanS_any _ _).mono ?_; rintro e w1 ⟨rfl, rfl⟩)
      go_ret
      rw [HE.out]
      exact ⟨ret1 rfl, rfl⟩
    · have HE : Hid (scmp x.toList y.toList = 1) := by simp only [Hid, scmp, if_neg h1, if_neg h2]
      have h1' : Op.bytesLess x.toList y.toList = false := by simpa using h1
      have h2' : (x.toList == y.toList) = false := by simpa using h2
      go_enter Try.func59, Try.ntmps59
      go_wp2_with (go_at_call 63; refine (nanS_any _ _).mono ?_; rintro e w1 ⟨rfl, rfl⟩)
      go_ret
      rw [HE.out]
      exact ⟨ret1 rfl, rfl⟩
end Go.Proofs.Ytiflepadjcpjjaa
/- The contracts of the three methods by which two keys are held against one another. -/
namespace Go.Proofs.Ytiflepadjcpjjaa
open Go.RowKit

set_option maxRecDepth 100000 in
set_option maxHeartbeats 400000 in
theorem byUser_any (s t : ByteArray) (q r k l : Int) (w : World) : Calls Try.prog 51 #[.agg #[.string s, .int .u64 q, .int .i64 k, .string t, .int .u64 r, .int .i64 l]] w fun e w' => e = .returned (.int .i64 (scmp s.toList t.toList)) ∧ Below w.heap.size w w' := by
  go_enter Try.func51, Try.ntmps51
  go_wp2_with (go_at_call 59; refine (cmpS_any _ _ _).mono ?_; rintro e w1 ⟨rfl, rfl⟩)
  go_ret
  exact ⟨ret1 rfl, (Below.refl _ _).alloc (Nat.le_refl _) _⟩
set_option maxRecDepth 100000 in
set_option maxHeartbeats 400000 in
theorem bySeq_any (s t : ByteArray) (q r k l : Int) (w : World) : Calls Try.prog 52 #[.agg #[.string s, .int .u64 q, .int .i64 k, .string t, .int .u64 r, .int .i64 l]] w fun e w' => e = .returned (.int .i64 (icmp r q)) ∧ Below w.heap.size w w' := by
  go_enter Try.func52, Try.ntmps52
  go_wp2_with (go_at_call 60; refine (cmpU_any _ _ _).mono ?_; rintro e w1 ⟨rfl, rfl⟩)
  go_ret
  exact ⟨ret1 rfl, (Below.refl _ _).alloc (Nat.le_refl _) _⟩
set_option maxRecDepth 100000 in
set_option maxHeartbeats 400000 in
theorem byKind_any (s t : ByteArray) (q r k l : Int) (w : World) : Calls Try.prog 53 #[.agg #[.string s, .int .u64 q, .int .i64 k, .string t, .int .u64 r, .int .i64 l]] w fun e w' => e = .returned (.int .i64 (icmp l k)) ∧ Below w.heap.size w w' := by
  go_enter Try.func53, Try.ntmps53
  go_wp2_with (go_at_call 61; refine (cmpI_any _ _ _).mono ?_; rintro e w1 ⟨rfl, rfl⟩)
  go_ret
  exact ⟨ret1 rfl, (Below.refl _ _).alloc (Nat.le_refl _) _⟩
end Go.Proofs.Ytiflepadjcpjjaa
/- The contract of ikey.Compare: two keys held against one another, as a plain function tells it. -/
namespace Go.Proofs.Ytiflepadjcpjjaa
open Go.RowKit

def kcmp (s t : List UInt8) (q r k l : Int) : Int := if (scmp s t != 0) = true then scmp s t else if (icmp r q != 0) = true then icmp r q else icmp l k

theorem index3_0 (f : Array Value) (g h x y : Array Value) (W : World) (a b c : Nat) (x' : Array Value) : (Instr.index 83 (.agg #[.func (.func a) f x', .func (.func b) g x, .func (.func c) h y]) (.int .i64 0)).run Try.prog W = .ok (.func (.func a) f x') W := by
  simp [Instr.index, run_underlying Try.underlying83, asIntOf, go_sem]
theorem index3_1 (f : Array Value) (g h x y : Array Value) (W : World) (a b c : Nat) (x' : Array Value) : (Instr.index 83 (.agg #[.func (.func a) f x', .func (.func b) g x, .func (.func c) h y]) (.int .i64 1)).run Try.prog W = .ok (.func (.func b) g x) W := by
  simp [Instr.index, run_underlying Try.underlying83, asIntOf, go_sem]
theorem index3_2 (f : Array Value) (g h x y : Array Value) (W : World) (a b c : Nat) (x' : Array Value) : (Instr.index 83 (.agg #[.func (.func a) f x', .func (.func b) g x, .func (.func c) h y]) (.int .i64 2)).run Try.prog W = .ok (.func (.func c) h y) W := by
  simp [Instr.index, run_underlying Try.underlying83, asIntOf, go_sem]

set_option maxRecDepth 100000 in
set_option maxHeartbeats 1000000 in
theorem compare_any (s t : ByteArray) (q r k l : Int) (w : World) :
    Calls Try.prog 39 #[.agg #[.string s, .int .u64 q, .int .i64 k], .agg #[.string t, .int .u64 r, .int .i64 l]] w fun e w' => e = .returned (.int .i64 (kcmp s.toList t.toList q r k l)) ∧ Below w.heap.size w w' := by
  have hmf : ∀ (fn : Fn) (first cap : Array Value) (w : World), (Instr.makeFunc fn first cap).run Try.prog w = .ok (.func fn first cap) w := fun _ _ _ _ => rfl
  have hi0 := index3_0
  have hi1 := index3_1
  have hi2 := index3_2
  have hu := fun W => byUser_any s t q r k l W
  have hq := fun W => bySeq_any s t q r k l W
  have hk := fun W => byKind_any s t q r k l W
  have HE : Hid (kcmp s.toList t.toList q r k l = if (scmp s.toList t.toList != 0) = true then scmp s.toList t.toList else if (icmp r q != 0) = true then icmp r q else icmp l k) := rfl
  generalize scmp s.toList t.toList = c1 at hu HE
  generalize icmp r q = c2 at hq HE
  generalize icmp l k = c3 at hk HE
  by_cases h1 : (c1 != 0) = true
  · rw [if_pos h1] at HE
    go_enter Try.func39, Try.ntmps39
    go_wp2
    refine wp_loop_rounds 4 ?_
    rw [rounds_succ]
    go_wp2_with (first
      | (go_at_call 51; refine (hu _).mono ?_; rintro e w1 ⟨rfl, hb1⟩; have HB1 : Hid (Below w.heap.size w w1) := (((((Below.refl _ w).alloc (Nat.le_refl _) _).alloc (by simp) _).alloc (by simp; omega) _)).trans (hb1.mono (by simp; omega)); clear hb1))
    go_ret
    rw [HE.out]
    exact ⟨ret1 rfl, HB1.out⟩
  · rw [if_neg h1] at HE
    have h1' : (c1 != 0) = false := by simpa using h1
    by_cases h2 : (c2 != 0) = true
    · rw [if_pos h2] at HE
      go_enter Try.func39, Try.ntmps39
      go_wp2
      refine wp_loop_rounds 4 ?_
      rw [rounds_succ]
      go_wp2_with (first
        | (go_at_call 51; refine (hu _).mono ?_; rintro e w1 ⟨rfl, hb1⟩; have HB1 : Hid (Below w.heap.size w w1) := (((((Below.refl _ w).alloc (Nat.le_refl _) _).alloc (by simp) _).alloc (by simp; omega) _)).trans (hb1.mono (by simp; omega)); clear hb1))
      rw [rounds_succ]
      go_wp2_with (first
        | (go_at_call 52; refine (hq _).mono ?_; rintro e w2 ⟨rfl, hb2⟩))
      go_ret
      rw [HE.out]
      exact ⟨ret1 rfl, HB1.out.trans (hb2.mono HB1.out.size)⟩
    · rw [if_neg h2] at HE
      have h2' : (c2 != 0) = false := by simpa using h2
      by_cases h3 : (c3 != 0) = true
      · go_enter Try.func39, Try.ntmps39
        go_wp2
        refine wp_loop_rounds 4 ?_
        rw [rounds_succ]
        go_wp2_with (first
          | (go_at_call 51; refine (hu _).mono ?_; rintro e w1 ⟨rfl, hb1⟩; have HB1 : Hid (Below w.heap.size w w1) := (((((Below.refl _ w).alloc (Nat.le_refl _) _).alloc (by simp) _).alloc (by simp; omega) _)).trans (hb1.mono (by simp; omega)); clear hb1))
        rw [rounds_succ]
        go_wp2_with (first
          | (go_at_call 52; refine (hq _).mono ?_; rintro e w2 ⟨rfl, hb2⟩))
        rw [rounds_succ]
        go_wp2_with (first
          | (go_at_call 53; refine (hk _).mono ?_; rintro e w3 ⟨rfl, hb3⟩))
        go_ret
        rw [HE.out]
        exact ⟨ret1 rfl, (HB1.out.trans (hb2.mono HB1.out.size)).trans (hb3.mono (Nat.le_trans HB1.out.size hb2.size))⟩
      · have h3' : (c3 != 0) = false := by simpa using h3
        have HZ : Hid (c3 = 0) := by simpa [Hid] using h3'
        go_enter Try.func39, Try.ntmps39
        go_wp2
        refine wp_loop_rounds 4 ?_
        rw [rounds_succ]
        go_wp2_with (first
          | (go_at_call 51; refine (hu _).mono ?_; rintro e w1 ⟨rfl, hb1⟩; have HB1 : Hid (Below w.heap.size w w1) := (((((Below.refl _ w).alloc (Nat.le_refl _) _).alloc (by simp) _).alloc (by simp; omega) _)).trans (hb1.mono (by simp; omega)); clear hb1))
        rw [rounds_succ]
        go_wp2_with (first
          | (go_at_call 52; refine (hq _).mono ?_; rintro e w2 ⟨rfl, hb2⟩))
        rw [rounds_succ]
        go_wp2_with (first
          | (go_at_call 53; refine (hk _).mono ?_; rintro e w3 ⟨rfl, hb3⟩))
        rw [rounds_succ]
        go_wp2
        go_ret
        rw [HE.out, HZ.out]
        exact ⟨ret1 rfl, (HB1.out.trans (hb2.mono HB1.out.size)).trans (hb3.mono (Nat.le_trans HB1.out.size hb2.size))⟩
end Go.Proofs.Ytiflepadjcpjjaa
/- The contracts of ikey.Check and of the document's own Check: what is wrong with a key, told by a plain function. -/
namespace Go.Proofs.Ytiflepadjcpjjaa
open Go.RowKit

/-- What is wrong with a key whose user has n bytes. -/
def chk (n q : Nat) (k : Int) : Nat := if 64 < n then 21 else if 72057594037927935 < q then 22 else if k = 0 ∨ k = 1 then 0 else 23

set_option maxRecDepth 100000 in
set_option maxHeartbeats 400000 in
theorem check_any (s : ByteArray) (q : Nat) (k : Int) (w : World) (hs : s.size ≤ 9223372036854775807) :
    Calls Try.prog 38 #[.agg #[.string s, .int .u64 (q : Int), .int .i64 k]] w fun e w' => e = .returned (.int .i64 ((chk s.size q k : Nat) : Int)) ∧ Below w.heap.size w w' := by
  have hb : Below w.heap.size w (w.alloc (.cells #[.string s, .int .u64 (q : Int), .int .i64 k] 42)) := (Below.refl _ _).alloc (Nat.le_refl _) _
  by_cases h1 : 64 < s.size
  · have HE : Hid (chk s.size q k = 21) := by unfold chk Hid; rw [if_pos h1]
    go_enter Try.func38, Try.ntmps38
    go_wp2
    go_ret
    rw [HE.out]
    exact ⟨ret1 rfl, hb⟩
  · by_cases h2 : 72057594037927935 < q
    · have HE : Hid (chk s.size q k = 22) := by unfold chk Hid; rw [if_neg h1, if_pos h2]
      go_enter Try.func38, Try.ntmps38
      go_wp2
      go_ret
      rw [HE.out]
      exact ⟨ret1 rfl, hb⟩
    · by_cases h3 : k = 0
      · have HE : Hid (chk s.size q k = 0) := by unfold chk Hid; rw [if_neg h1, if_neg h2, if_pos (.inl h3)]
        subst h3
        go_enter Try.func38, Try.ntmps38
        go_wp2
        go_ret
        rw [HE.out]
        exact ⟨ret1 rfl, hb⟩
      · by_cases h4 : k = 1
        · have HE : Hid (chk s.size q k = 0) := by unfold chk Hid; rw [if_neg h1, if_neg h2, if_pos (.inr h4)]
          subst h4
          go_enter Try.func38, Try.ntmps38
          go_wp2
          go_ret
          rw [HE.out]
          exact ⟨ret1 rfl, hb⟩
        · have HE : Hid (chk s.size q k = 23) := by unfold chk Hid; rw [if_neg h1, if_neg h2, if_neg (by omega)]
          have h3' : (k == 0) = false := by simpa using h3
          have h4' : (k == 1) = false := by simpa using h4
          go_enter Try.func38, Try.ntmps38
          go_wp2
          go_ret
          rw [HE.out]
          exact ⟨ret1 rfl, hb⟩
end Go.Proofs.Ytiflepadjcpjjaa
