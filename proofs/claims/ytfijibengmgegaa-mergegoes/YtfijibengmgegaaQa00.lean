/- Slices of bytes in memory: a slice that can be read as a list of bytes, and how that reading is kept. -/
import Derived.WalkKit
import Derived.Deep.AppendSrc
import Derived.Test.YtfijibengmgegaaRows
import Derived.OpenShut
import Derived.Test.YtfijibengmgegaaChecked
import Derived.Laws.Cover1
namespace Go.Proofs.Ytfijibengmgegaa
open Go.RowKit

theorem ret1 {a a' : Value} (h : a = a') : Ending.returned a = .returned a' := by rw [h]
theorem ret2 {a b a' b' : Value} (h1 : a = a') (h2 : b = b') : Ending.returned (.tuple #[a, b]) = .returned (.tuple #[a', b']) := by rw [h1, h2]
theorem ret3 {a b c a' b' c' : Value} (h1 : a = a') (h2 : b = b') (h3 : c = c') : Ending.returned (.tuple #[a, b, c]) = .returned (.tuple #[a', b', c']) := by rw [h1, h2, h3]

/-- The slice value (a, len, cap) reads as the bytes bs in the world w. -/
structure BsAt (w : World) (a : Option Addr) (len cap : Nat) (bs : List UInt8) : Prop where
  size : bs.length = len
  le : len ≤ cap
  max : cap ≤ maxLen
  bare : a = none → cap = 0
  here : 0 < len → ∃ b off, a = some ⟨b, off, none⟩ ∧ ∀ j, j < len → w.cell? ⟨b, off + j, none⟩ = some (.int .u8 ((bs.getD j 0).toNat : Int))

theorem BsAt.below {B : Nat} {w w' : World} {a : Option Addr} {len cap : Nat} {bs : List UInt8} (h : BsAt w a len cap bs) (hB : w.heap.size ≤ B) (hb : Below B w w') : BsAt w' a len cap bs :=
  ⟨h.size, h.le, h.max, h.bare, fun hp => by
    obtain ⟨b, off, ha, hc⟩ := h.here hp
    exact ⟨b, off, ha, fun j hj => by rw [hb.cell (Nat.lt_of_lt_of_le (World.block_lt_of_cell? w _ (hc j hj)) hB)]; exact hc j hj⟩⟩

def strOf (l : List UInt8) : ByteArray := ⟨l.toArray⟩

/-- A slice of bytes as a string: the bytes that it reads as. -/
theorem BsAt.asStr {P : Program} {w : World} {a : Option Addr} {len cap : Nat} {bs : List UInt8} (h : BsAt w a len cap bs) {src dst e : TypeId} (hs : P.underlying src = some (.slice e)) (he : P.underlying e = some (.int .u8)) (hd : P.underlying dst = some .string) :
    (convert src dst (.slice a len cap)).run P w = .ok (.string (strOf bs)) w := by
  have hl := h.size
  subst hl
  rcases Nat.eq_zero_or_pos bs.length with h0 | h0
  · obtain rfl := List.eq_nil_of_length_eq_zero h0
    cases a with
    | none => exact run_convert_bytes_nil w src e hs he _ _ dst hd
    | some x => exact run_convert_bytes_back w src dst e x cap [] hs he hd (fun j hj => absurd hj (Nat.not_lt_zero _))
  · obtain ⟨b, off, rfl, hc⟩ := h.here h0
    refine run_convert_bytes_back w src dst e _ cap bs hs he hd (fun j hj => ?_)
    rw [Addr.add_lit, hc j hj]
    simp [List.getD, hj]

theorem BsAt.sub {w : World} {b off len cap : Nat} {bs : List UInt8} (h : BsAt w (some ⟨b, off, none⟩) len cap bs) (k n : Nat) (hk : k + n ≤ len) : BsAt w (some ⟨b, off + k, none⟩) n (cap - k) ((bs.drop k).take n) := by
  have h1 := h.size
  have h2 := h.le
  have h3 := h.max
  refine ⟨by simp; omega, by omega, by omega, by simp, fun hp => ⟨b, off + k, rfl, fun j hj => ?_⟩⟩
  obtain ⟨b', off', he, hc⟩ := h.here (by omega)
  simp at he
  obtain ⟨rfl, rfl⟩ := he
  rw [Nat.add_assoc, hc (k + j) (by omega)]
  simp [List.getD, hj]

theorem BsAt.empty {w : World} (a : Addr) (cap : Nat) (h : cap ≤ maxLen) : BsAt w (some a) 0 cap [] := ⟨rfl, Nat.zero_le _, h, by simp, fun hp => absurd hp (Nat.lt_irrefl _)⟩

/-- A literal of one byte. -/
theorem BsAt.one {w : World} {x : Int} {e : TypeId} {b : UInt8} (hx : x = (b.toNat : Int)) : BsAt (w.alloc (.cells #[.int .u8 x] e)) (some ⟨w.heap.size, 0, none⟩) 1 1 [b] := by
  refine ⟨rfl, Nat.le_refl _, by unfold maxLen; omega, by simp, fun _ => ⟨w.heap.size, 0, rfl, fun j hj => ?_⟩⟩
  obtain rfl : j = 0 := by omega
  subst hx
  simp
end Go.Proofs.Ytfijibengmgegaa
/- What an argument's reading gives: a slice of bytes that came in, and how much it holds. -/
namespace Go.Proofs.Ytfijibengmgegaa
open Go.RowKit

theorem BsAt.ofInts {w : World} {x : Addr} {len cap : Nat} {zs : List Int} (hl : len ≤ cap) (hm : cap ≤ maxLen) (hz : zs.length = cap)
    (hcell : ∀ i, i < zs.length → w.cell? (x.add i) = some (.int .u8 (zs.getD i 0))) (hwz : ∀ n ∈ zs, (Lit.int .u8 n).wf = true) :
    BsAt w (some x) len cap ((zs.take len).map fun z => UInt8.ofNat z.toNat) := by
  refine ⟨by simp; omega, hl, hm, by simp, fun hp => ?_⟩
  have hb : ∀ i, i < zs.length → 0 ≤ zs.getD i 0 ∧ zs.getD i 0 < 256 := by
    intro i hi
    have hmem : zs.getD i 0 ∈ zs := by simp [List.getD, hi]
    have := hwz _ hmem
    simp [Lit.wf, IntKind.min, IntKind.max, IntKind.bits, IntKind.signed] at this
    have e : zs.getD i 0 = zs[i]?.getD 0 := by simp
    omega
  obtain ⟨b, off, rfl, hc⟩ := ints_at hcell (by omega)
  refine ⟨b, off, rfl, fun j hj => ?_⟩
  rw [hc j (by omega)]
  have hj' := hb j (by omega)
  have e : ((zs.take len).map fun z => UInt8.ofNat z.toNat).getD j 0 = UInt8.ofNat (zs.getD j 0).toNat := by
    simp [List.getD, hj, show j < zs.length by omega]
  rw [e]
  have e2 : zs.getD j 0 = zs[j]?.getD 0 := by simp
  simp
  omega

theorem bulk_one {H : Type} (d : DataW H) : 1 ≤ Rows.uptoBulk d := by
  cases d with
  | lit l => cases l <;> simp [Rows.uptoBulk]
  | _ => simp [Rows.uptoBulk]
theorem bulk_len {H : Type} : ∀ l : List (DataW H), l.length ≤ Rows.uptoBulkAll l
  | [] => by simp [Rows.uptoBulkAll]
  | d :: r => by
    have h1 := bulk_len r
    have h2 := bulk_one d
    simp only [Rows.uptoBulkAll, List.length_cons]
    omega
theorem bulk_slice {H : Type} (elems spare : List (DataW H)) : elems.length + spare.length + 1 ≤ Rows.uptoBulk (.slice elems spare) := by
  have h1 := bulk_len elems
  have h2 := bulk_len spare
  simp only [Rows.uptoBulk]
  omega
theorem bulk_string {H : Type} (s : ByteArray) : s.size + 1 ≤ Rows.uptoBulk (DataW.lit (H := H) (.string s.data.toList)) := by
  simp only [Rows.uptoBulk, Array.length_toList]
  exact Nat.le_refl _
end Go.Proofs.Ytfijibengmgegaa
/- The contracts of cmp.Compare for strings and whole numbers. -/
namespace Go.Proofs.Ytfijibengmgegaa
open Go.RowKit

/-- Two texts, byte by byte. -/
def scmp (x y : List UInt8) : Int := if Op.bytesLess x y = true then -1 else if (x == y) = true then 0 else 1
/-- Two numbers. -/
def icmp (x y : Int) : Int := if x < y then -1 else if y < x then 1 else 0

set_option maxRecDepth 100000 in
set_option maxHeartbeats 400000 in
theorem nanI_any (x : Int) (w : World) : Calls Try.prog 58 #[.int .i64 x] w fun e w' => e = .returned (.bool false) ∧ w' = w := by
  go_enter Try.func58, Try.ntmps58
  go_wp2
  go_ret
  exact ⟨ret1 (by simp), rfl⟩
set_option maxRecDepth 100000 in
set_option maxHeartbeats 400000 in
theorem nanU_any (x : Int) (w : World) : Calls Try.prog 57 #[.int .u64 x] w fun e w' => e = .returned (.bool false) ∧ w' = w := by
  go_enter Try.func57, Try.ntmps57
  go_wp2
  go_ret
  exact ⟨ret1 (by simp), rfl⟩
set_option maxRecDepth 100000 in
set_option maxHeartbeats 400000 in
theorem nanS_any (x : ByteArray) (w : World) : Calls Try.prog 56 #[.string x] w fun e w' => e = .returned (.bool false) ∧ w' = w := by
  go_enter Try.func56, Try.ntmps56
  go_wp2
  go_ret
  exact ⟨ret1 (by simp), rfl⟩
set_option maxRecDepth 100000 in
set_option maxHeartbeats 400000 in
theorem cmpI_any (x y : Int) (w : World) : Calls Try.prog 53 #[.int .i64 x, .int .i64 y] w fun e w' => e = .returned (.int .i64 (icmp x y)) ∧ w' = w := by
  by_cases h1 : x < y
  · have HE : Hid (icmp x y = -1) := by simp only [Hid, icmp, if_pos h1]
    go_enter Try.func53, Try.ntmps53
    go_wp2_with (go_at_call 58; refine (nanI_any _ _).mono ?_; rintro e w1 ⟨rfl, rfl⟩)
    go_ret
    rw [HE.out]
    exact ⟨ret1 rfl, rfl⟩
  · by_cases h2 : y < x
    · have HE : Hid (icmp x y = 1) := by simp only [Hid, icmp, if_neg h1, if_pos h2]
      go_enter Try.func53, Try.ntmps53
      go_wp2_with (go_at_call 58; refine (nanI_any _ _).mono ?_; rintro e w1 ⟨rfl, rfl⟩)
      go_ret
      rw [HE.out]
      exact ⟨ret1 rfl, rfl⟩
    · have HE : Hid (icmp x y = 0) := by simp only [Hid, icmp, if_neg h1, if_neg h2]
      go_enter Try.func53, Try.ntmps53
      go_wp2_with (go_at_call 58; refine (nanI_any _ _).mono ?_; rintro e w1 ⟨rfl, rfl⟩)
      go_ret
      rw [HE.out]
      exact ⟨ret1 rfl, rfl⟩
set_option maxRecDepth 100000 in
set_option maxHeartbeats 400000 in
theorem cmpU_any (x y : Int) (w : World) : Calls Try.prog 52 #[.int .u64 x, .int .u64 y] w fun e w' => e = .returned (.int .i64 (icmp x y)) ∧ w' = w := by
  by_cases h1 : x < y
  · have HE : Hid (icmp x y = -1) := by simp only [Hid, icmp, if_pos h1]
    go_enter Try.func52, Try.ntmps52
    go_wp2_with (go_at_call 57; refine (nanU_any _ _).mono ?_; rintro e w1 ⟨rfl, rfl⟩)
    go_ret
    rw [HE.out]
    exact ⟨ret1 rfl, rfl⟩
  · by_cases h2 : y < x
    · have HE : Hid (icmp x y = 1) := by simp only [Hid, icmp, if_neg h1, if_pos h2]
      go_enter Try.func52, Try.ntmps52
      go_wp2_with (go_at_call 57; refine (nanU_any _ _).mono ?_; rintro e w1 ⟨rfl, rfl⟩)
      go_ret
      rw [HE.out]
      exact ⟨ret1 rfl, rfl⟩
    · have HE : Hid (icmp x y = 0) := by simp only [Hid, icmp, if_neg h1, if_neg h2]
      go_enter Try.func52, Try.ntmps52
      go_wp2_with (go_at_call 57; refine (nanU_any _ _).mono ?_; rintro e w1 ⟨rfl, rfl⟩)
      go_ret
      rw [HE.out]
      exact ⟨ret1 rfl, rfl⟩
set_option maxRecDepth 100000 in
set_option maxHeartbeats 400000 in
theorem cmpS_any (x y : ByteArray) (w : World) : Calls Try.prog 51 #[.string x, .string y] w fun e w' => e = .returned (.int .i64 (scmp x.toList y.toList)) ∧ w' = w := by
  by_cases h1 : Op.bytesLess x.toList y.toList = true
  · have HE : Hid (scmp x.toList y.toList = -1) := by simp only [Hid, scmp, if_pos h1]
    go_enter Try.func51, Try.ntmps51
    go_wp2_with (go_at_call 56; refine (nanS_any _ _).mono ?_; rintro e w1 ⟨rfl, rfl⟩)
    go_ret
    rw [HE.out]
    exact ⟨ret1 rfl, rfl⟩
  · by_cases h2 : (x.toList == y.toList) = true
    · have HE : Hid (scmp x.toList y.toList = 0) := by simp only [Hid, scmp, if_neg h1, if_pos h2]
      have h1' : Op.bytesLess x.toList y.toList = false := by simpa using h1
      go_enter Try.func51, Try.ntmps51
      go_wp2_with (go_at_call 56; refine (nanS_any _ _).mono ?_; rintro e w1 ⟨rfl, rfl⟩)
      go_ret
      rw [HE.out]
      exact ⟨ret1 rfl, rfl⟩
    · have HE : Hid (scmp x.toList y.toList = 1) := by simp only [Hid, scmp, if_neg h1, if_neg h2]
      have h1' : Op.bytesLess x.toList y.toList = false := by simpa using h1
      have h2' : (x.toList == y.toList) = false := by simpa using h2
      go_enter Try.func51, Try.ntmps51
      go_wp2_with (go_at_call 56; refine (nanS_any _ _).mono ?_; rintro e w1 ⟨rfl, rfl⟩)
      go_ret
      rw [HE.out]
      exact ⟨ret1 rfl, rfl⟩
end Go.Proofs.Ytfijibengmgegaa
