/- The document's own way of parting entries into blocks is the same. -/
import Derived.Test.YtgegjcnjlibfdaaGreatQa19
import Derived.Test.YtgegjcnjlibfdaaGreatChecked
import Derived.Test.YtgegjcnjlibfdaaGreatQa03
import Derived.Test.YtgegjcnjlibfdaaGreatQa01
import Derived.Test.YtgegjcnjlibfdaaGreatQa00
import Derived.Test.YtgegjcnjlibfdaaGreatQa12
import Derived.Test.YtgegjcnjlibfdaaGreatQa11
import Derived.Test.YtgegjcnjlibfdaaGreatQa08
import Derived.Deep.RegionHeld3
namespace Go.Proofs.YtgegjcnjlibfdaaGreat
set_option maxRecDepth 100000
open Go.RowKit
set_option linter.unusedVariables false
set_option linter.unusedSimpArgs false
/-- Ahead of entry i, the block begun at fr; gs: the blocks that are done. -/
structure RG (iv bl : Nat) (l : List KV) (i fr : Nat) (gs : List (List KV)) : Prop where
  le : fr ≤ i
  top : i ≤ l.length
  gr : grps iv bl l = gs ++ grps iv bl (l.drop fr)
  no : ∀ m, 1 ≤ m → m ≤ i - fr → fullN iv bl (l.drop fr) m = false
  last : i = l.length → fr = i
theorem RG.start (iv bl : Nat) {l : List KV} (h : l ≠ []) : RG iv bl l 0 0 [] := by
  refine ⟨Nat.le_refl _, Nat.zero_le _, rfl, fun m h1 h2 => by omega, fun e => by omega⟩
theorem RG.close {iv bl : Nat} {l : List KV} {i fr : Nat} {gs : List (List KV)} (h : RG iv bl l i fr gs) (hi : i < l.length) (hc : fullN iv bl (l.drop fr) (i + 1 - fr) = true ∨ i + 1 = l.length) : RG iv bl l (i + 1) (i + 1) (gs ++ [(l.drop fr).take (i + 1 - fr)]) := by
  have h1 := h.le
  have hne : l.drop fr ≠ [] := by
    intro e
    have := congrArg List.length e
    rw [List.length_drop] at this
    simp at this
    omega
  have hf : IsFill iv bl (l.drop fr) (i + 1 - fr) := by
    refine ⟨by omega, by rw [List.length_drop]; omega, fun m a b => h.no m a (by omega), ?_⟩
    rcases hc with hc | hc
    · exact .inr hc
    · left
      rw [List.length_drop]
      omega
  have he := (fillN_is iv bl hne).uniq hf
  refine ⟨Nat.le_refl _, hi, ?_, fun m a b => by omega, fun _ => rfl⟩
  rw [h.gr, grps_cons iv bl hne, he, List.drop_drop, show fr + (i + 1 - fr) = i + 1 by omega]
  simp
theorem RG.go {iv bl : Nat} {l : List KV} {i fr : Nat} {gs : List (List KV)} (h : RG iv bl l i fr gs) (hi : i < l.length) (hc : fullN iv bl (l.drop fr) (i + 1 - fr) = false) (hl : i + 1 ≠ l.length) : RG iv bl l (i + 1) fr gs := by
  have h1 := h.le
  refine ⟨by omega, hi, h.gr, fun m a b => ?_, fun e => absurd e hl⟩
  by_cases hm : m ≤ i - fr
  · exact h.no m a hm
  · rw [show m = i + 1 - fr by omega]
    exact hc
theorem RG.done {iv bl : Nat} {l : List KV} {i fr : Nat} {gs : List (List KV)} (h : RG iv bl l i fr gs) (hi : i = l.length) : grps iv bl l = gs := by
  rw [h.gr, h.last hi, hi, List.drop_length, grps_nil, List.append_nil]
/-- What the document's own Build answers where it refuses. -/
def bldE (bl iv : Int) (bits : Nat) (l : List KV) : Option Int :=
  if ¬ ((1 ≤ bl ∧ bl ≤ 65536) ∧ 1 ≤ iv ∧ iv ≤ 16) then some 1
  else if okB bits = false then some 100 else if l = [] then some 120 else if chkL l ≠ 0 then some ((chkL l : Nat) : Int) else none
theorem seg_take (l : List KV) (a b : Nat) (h : a ≤ b) : (l.take b).drop a = (l.drop a).take (b - a) := by rw [List.drop_take]
theorem getLast_take {l : List KV} {i fr : Nat} (h1 : fr ≤ i) (h2 : i < l.length) : lastK ((l.drop fr).take (i + 1 - fr)) = l[i].1 := by
  have e : ((l.drop fr).take (i + 1 - fr)).getLast? = some l[i] := by
    rw [List.getLast?_eq_getElem?, List.length_take, List.length_drop, Nat.min_eq_left (by omega), List.getElem?_take, if_pos (by omega), List.getElem?_drop, show fr + (i + 1 - fr - 1) = i by omega, List.getElem?_eq_getElem h2]
  unfold lastK
  rw [e]
theorem mid_ne {l : List KV} {i fr : Nat} (h1 : fr ≤ i) (h2 : i < l.length) : (l.drop fr).take (i + 1 - fr) ≠ [] := by
  intro e
  have := congrArg List.length e
  rw [List.length_take, List.length_drop] at this
  simp at this
  omega
end Go.Proofs.YtgegjcnjlibfdaaGreat
/- The contract of the document's own Fixed: for any bytes and any size it returns what the plain function fxRead tells. -/
namespace Go.Proofs.YtgegjcnjlibfdaaGreat
open Go.RowKit

set_option maxRecDepth 100000 in
set_option maxHeartbeats 400000 in
theorem rfixed_any (a : Option Addr) (len cap : Nat) (bs : List UInt8) (size : Int) (w : World) (h : BsAt w a len cap bs) :
    Calls Tryz.prog 81 #[.slice a len cap, .int .i64 size] w fun e w' => e = .returned (.tuple #[.int .u64 ((fxRead bs size).1 : Nat), .int .i64 ((fxRead bs size).2 : Nat)]) ∧ w' = w := by
  have hcap := h.max
  have hle := h.le
  have hlen := h.size
  unfold maxLen at hcap
  by_cases hs : size < 1 ∨ 8 < size
  · have HE : Hid (fxRead bs size = (0, 1)) := by unfold fxRead Hid; rw [if_pos hs]
    by_cases h1 : size < 1
    · clear hs
      go_enter Tryz.func81, Tryz.ntmps81
      go_wp2
      go_ret2
      rw [HE.out]
      exact ⟨ret2 rfl rfl, rfl⟩
    · have h2 : 8 < size := by omega
      have h1' : decide (size < 1) = false := by simpa using h1
      clear hs
      go_enter Tryz.func81, Tryz.ntmps81
      go_wp2
      go_ret2
      rw [HE.out]
      exact ⟨ret2 rfl rfl, rfl⟩
  · have hs1 : 1 ≤ size := by omega
    have hs2 : size ≤ 8 := by omega
    have h1' : decide (size < 1) = false := by simp; omega
    have h2' : decide (8 < size) = false := by simp; omega
    obtain ⟨n, rfl⟩ : ∃ n : Nat, size = (n : Int) := ⟨size.toNat, by omega⟩
    by_cases hl : len < n
    · have HE : Hid (fxRead bs n = (0, 10)) := by unfold fxRead Hid; rw [if_neg hs, if_pos (by simp; omega)]
      clear hs
      go_enter Tryz.func81, Tryz.ntmps81
      go_wp2
      go_ret2
      rw [HE.out]
      exact ⟨ret2 rfl rfl, rfl⟩
    · have HE : Hid (fxRead bs n = (leNat (bs.take n), 0)) := by unfold fxRead Hid; rw [if_neg hs, if_neg (by simp; omega)]; simp
      obtain ⟨b, off, rfl, hc⟩ := h.here (by omega)
      have HL : Hid (bs.length = len) := hlen
      clear hs hlen h
      have HC : Hid (∀ j, j < len → w.cell? ⟨b, off + j, none⟩ = some (.int .u8 ((bs.getD j 0).toNat : Int))) := hc
      clear hc
      go_enter Tryz.func81, Tryz.ntmps81
      go_wp2
      go_loop [6, 7] (fun x i => ∃ k acc : Nat, k ≤ n ∧ i = .int .i64 ((k : Int) - 1) ∧ x = .int .u64 acc ∧ Hid (acc = leNat ((bs.take n).drop k))) (fun _ i => ((intOf i) + 1).toNat)
      case atStart => exact ⟨n, 0, Nat.le_refl _, rfl, rfl, by simp [Hid, leNat]⟩
      case round =>
        obtain ⟨k, acc, hk, rfl, rfl, HR⟩ := hrel
        by_cases hlt : 0 < k
        · obtain ⟨j, rfl⟩ : ∃ j, k = j + 1 := ⟨k - 1, by omega⟩
          have hck := HC.out j (by omega)
          have hc8 : (bs.getD j 0).toNat < 256 := UInt8.toNat_lt _
          have hs : leNat ((bs.take n).drop j) = (bs.getD j 0).toNat + 256 * leNat ((bs.take n).drop (j + 1)) := by
            rw [drop_cons (bs.take n) j (by have := HL.out; simp; omega)]
            simp [leNat, List.getD, show j < n by omega]
          have ha := leNat_lt64 ((bs.take n).drop j) (by simp; omega)
          rw [← HR.out] at hs
          rw [hs] at ha
          generalize hcd : (bs.getD j 0).toNat = c at hck hc8 hs ha
          have HS : Hid (leNat ((bs.take n).drop j) = c + 256 * acc) := hs
          clear hcd hs
          go_wp2
          go_round
          case rel =>
            exact ⟨j, c + 256 * acc, by omega, by go_num, congrArg (Value.int .u64) (by omega), HS.out.symm⟩
          case measure => simp [intOf]
        · obtain rfl : k = 0 := by omega
          go_wp2
          go_ret2
          rw [HE.out]
          exact ⟨ret2 (by rw [HR.out]; rfl) rfl, rfl⟩
end Go.Proofs.YtgegjcnjlibfdaaGreat
/- The contract of the document's own PutFixed: what it lays behind bytes, in new memory. -/
namespace Go.Proofs.YtgegjcnjlibfdaaGreat
open Go.RowKit

theorem pow8_succ (n j : Nat) : n / 2 ^ (8 * j) / 256 = n / 2 ^ (8 * (j + 1)) := by
  rw [Nat.div_div_eq_div_mul, show 8 * (j + 1) = 8 * j + 8 by omega, Nat.pow_add]
set_option maxRecDepth 100000 in
set_option maxHeartbeats 400000 in
theorem rputFixed_any (a : Option Addr) (len cap : Nat) (bs : List UInt8) (n : Nat) (size : Int) (w : World) (h : BsAt w a len cap bs) (hn : n < 18446744073709551616) (hl : len + 10 ≤ 140737488355328) :
    Calls Tryz.prog 31 #[.slice a len cap, .int .u64 (n : Int), .int .i64 size] w fun e w' => ∃ a' c', e = .returned (.slice a' (len + (fxPut n size).length) c') ∧ OwnB w' w.heap.size a' (len + (fxPut n size).length) c' (bs ++ fxPut n size) ∧ Below w.heap.size w w' := by
  by_cases hs : size < 1 ∨ 8 < size
  · have HE : Hid (fxPut n size = []) := by unfold fxPut Hid; rw [if_pos hs]
    by_cases h1 : size < 1
    · clear hs
      go_enter Tryz.func31, Tryz.ntmps31
      go_wp2_with (at_builtin; refine wpList_app0 w rfl _ _ rfl rfl _ _ _ bs rfl h (by omega) ?_; intro a0 c0 w0 ho0 hb0)
      go_ret
      rw [HE.out]
      exact ⟨a0, c0, ret1 (by simp), by simpa using ho0, hb0⟩
    · have h2 : 8 < size := by omega
      have h1' : decide (size < 1) = false := by simpa using h1
      clear hs
      go_enter Tryz.func31, Tryz.ntmps31
      go_wp2_with (at_builtin; refine wpList_app0 w rfl _ _ rfl rfl _ _ _ bs rfl h (by omega) ?_; intro a0 c0 w0 ho0 hb0)
      go_ret
      rw [HE.out]
      exact ⟨a0, c0, ret1 (by simp), by simpa using ho0, hb0⟩
  · have hs1 : 1 ≤ size := by omega
    have hs2 : size ≤ 8 := by omega
    have h1' : decide (size < 1) = false := by simp; omega
    have h2' : decide (8 < size) = false := by simp; omega
    obtain ⟨k, rfl⟩ : ∃ k : Nat, size = (k : Int) := ⟨size.toNat, by omega⟩
    have HE : Hid (fxPut n k = fxEnc n k) := by unfold fxPut Hid; rw [if_neg hs]; simp
    clear hs
    go_enter Tryz.func31, Tryz.ntmps31
    go_wp2_with (at_builtin; refine wpList_app0 w rfl _ _ rfl rfl _ _ _ bs rfl h (by omega) ?_; intro a0 c0 w0 ho0 hb0)
    go_loopw [7, 1, 8] (fun v x i wr => ∃ (a3 : Option Addr) (c3 j m : Nat), j ≤ k ∧ m < 18446744073709551616 ∧ v = .slice a3 (len + j) c3 ∧ x = .int .u64 m ∧ i = .int .i64 j ∧ Hid (m = n / 2 ^ (8 * j)) ∧ Hid (OwnB wr w.heap.size a3 (len + j) c3 (bs ++ fxEnc n j)) ∧ Hid (Below w.heap.size w wr)) (fun _ _ i _ => k - (intOf i).toNat)
    case atStart => exact ⟨a0, c0, 0, n, by omega, hn, rfl, rfl, rfl, by simp [Hid], by simpa [fxEnc, Hid] using ho0, hb0⟩
    case round =>
      obtain ⟨a3, c3, j, m, hj, hm, rfl, rfl, rfl, HM, HO, HB⟩ := hrel
      have hsr := HB.out.size
      by_cases hlt : j < k
      · go_wp2_with (first
          | (at_builtin; refine wpList_app _ rfl _ _ rfl w.heap.size _ _ _ (bs ++ fxEnc n j) rfl (HO.out.alloc _) _ _ _ [loByte (n / 2 ^ (8 * j))] rfl (BsAt.one (by rw [loByte_toNat, ← HM.out]; omega)) (by omega) (by simp; omega) ?_))
        intro a4 c4 w4 ho4 hb4 _
        have HO4 : Hid (OwnB w4 w.heap.size a4 (len + j + 1) c4 (bs ++ (fxEnc n j ++ [loByte (n / 2 ^ (8 * j))]))) := by unfold Hid; simpa using ho4
        have HB4 : Hid (Below w.heap.size w w4) := (HB.out.alloc hsr _).trans hb4
        clear ho4 hb4
        go_wp2
        go_roundw
        case rel => exact ⟨a4, c4, j + 1, m / 256, by omega, by omega, rfl, by go_num, by go_num, by rw [HM.out]; exact pow8_succ n j, HO4.out, HB4.out⟩
        case measure => simp [intOf]; omega
      · obtain rfl : j = k := by omega
        go_wp2
        go_ret
        rw [HE.out, fxEnc_length]
        exact ⟨a3, c3, ret1 rfl, HO.out, HB.out⟩
end Go.Proofs.YtgegjcnjlibfdaaGreat
/- The document's own tables: parts with their sums, numbers. -/
namespace Go.Proofs.YtgegjcnjlibfdaaGreat
set_option maxRecDepth 100000
open Go.RowKit
set_option linter.unusedVariables false
set_option linter.unusedSimpArgs false
set_option maxHeartbeats 1000000 in
theorem rsummed_any (a : Option Addr) (n c : Nat) (b : List UInt8) (w : World) (h : BsAt w a n c b) (hn : n ≤ 1000000000) :
    Calls Tryz.prog 30 #[.slice a n c] w fun e w' => ∃ a' c', e = .returned (.slice a' (n + 4) c') ∧ OwnB w' w.heap.size a' (n + 4) c' (partB b) ∧ Below w.heap.size w w' := by
  have HB : Hid (BsAt w a n c b) := h
  have hcr := crc_lt b
  have hsu := sumN_lt b
  have hcv := conv_u32_u64 (sumN b) hsu
  have hpl : (fxPut (sumN b) 4).length = 4 ∧ b ++ fxPut (sumN b) 4 = partB b := by
    have e : fxPut (sumN b) 4 = fxEnc (sumN b) 4 := by unfold fxPut; rw [if_neg (by omega)]; rfl
    rw [e]
    exact ⟨fxEnc_length _ _, rfl⟩
  have HPF : Hid (∀ a' c' V, BsAt V a' n c' b → Calls Tryz.prog 31 #[.slice a' n c', .int .u64 ((sumN b : Nat) : Int), .int .i64 4] V fun e w' => ∃ a'' c'', e = .returned (.slice a'' (n + 4) c'') ∧ OwnB w' V.heap.size a'' (n + 4) c'' (partB b) ∧ Below V.heap.size V w') := fun a' c' V hV => by
    have := rputFixed_any a' n c' b (sumN b) 4 V hV (by omega) (by omega)
    rw [hpl.1, hpl.2] at this
    exact this
  have HCR : Hid (∀ V, BsAt V a n c b → Calls Tryz.prog 72 #[.slice a n c] V fun e w' => e = .returned (.int .u32 (crc b : Nat)) ∧ w' = V) := fun V hV => rcrc_any a n c b V hV
  have HMK : Hid (∀ V, Calls Tryz.prog 71 #[.int .u32 ((crc b : Nat) : Int)] V fun e w' => e = .returned (.int .u32 ((sumN b : Nat) : Int)) ∧ w' = V) := fun V => rmask_any (crc b) V hcr
  clear hpl hcr hsu
  generalize crc b = cb at *
  generalize sumN b = sb at *
  go_enter Tryz.func30, Tryz.ntmps30
  go_wp2_with (at_builtin; refine wpList_app0 w rfl _ _ rfl rfl _ _ _ b rfl HB.out (by omega) ?_; intro a0 c0 w0 ho0 hb0)
  have H0 : Hid (OwnB w0 w.heap.size a0 n c0 b ∧ Below w.heap.size w w0) := ⟨ho0, hb0⟩
  clear ho0 hb0 h
  refine (HCR.out _ (HB.out.below (Nat.le_refl _) H0.out.2)).mono ?_
  rintro _ w1 ⟨rfl, rfl⟩
  go_wp2_with fail
  refine (HMK.out _).mono ?_
  rintro _ w1 ⟨rfl, rfl⟩
  go_wp2_with fail
  refine (HPF.out _ _ _ H0.out.1.bs).mono ?_
  rintro _ w2 ⟨a2, c2, rfl, ho2, hb2⟩
  have H2 : Hid (OwnB w2 w.heap.size a2 (n + 4) c2 (partB b) ∧ Below w.heap.size w w2) := ⟨ho2.mono H0.out.2.size, H0.out.2.trans (hb2.mono H0.out.2.size)⟩
  clear ho2 hb2
  go_wp2
  go_ret
  exact ⟨a2, c2, ret1 rfl, H2.out⟩
theorem fx_four (b : List UInt8) (i : Nat) (h : i + 4 ≤ b.length) : fxRead (b.drop i) 4 = (num4 b i, 0) := by
  unfold fxRead num4 segB
  rw [if_neg (by omega), if_neg (by rw [List.length_drop]; show ¬ _ < 4; omega)]
  rfl
set_option maxHeartbeats 1000000 in
theorem rnumber_any (a : Option Addr) (n c : Nat) (b : List UInt8) (i : Nat) (w : World) (h : BsAt w a n c b) (hi : i + 4 ≤ n) :
    Calls Tryz.prog 37 #[.slice a n c, .int .i64 (i : Int)] w fun e w' => e = .returned (.int .u64 ((num4 b i : Nat) : Int)) ∧ w' = w := by
  have hsz := h.size
  obtain ⟨a2, hs2, hq2⟩ := slice_any h i (by omega)
  have hrd := rfixed_any a2 (n - i) (c - i) (b.drop i) 4 w (hq2 _ _ h)
  rw [fx_four b i (by omega)] at hrd
  clear hq2 h
  generalize num4 b i = x at *
  go_enter Tryz.func37, Tryz.ntmps37
  go_wp2_with fail
  refine hrd.mono ?_
  rintro _ w1 ⟨rfl, rfl⟩
  go_wp2
  go_ret
  exact ⟨ret1 rfl, rfl⟩
theorem okP_seg {b : List UInt8} {i n : Nat} (h : i + n + 4 ≤ b.length) : okP (segB b i (n + 4)) = decide (num4 b (i + n) = sumN (segB b i n)) := by
  have hl : (segB b i (n + 4)).length = n + 4 := by
    unfold segB
    rw [List.length_take, List.length_drop]
    omega
  have hb : bodyB (segB b i (n + 4)) = segB b i n := by
    unfold bodyB
    rw [hl, Nat.add_sub_cancel]
    unfold segB
    rw [List.take_take, Nat.min_eq_left (by omega)]
  have hd : (segB b i (n + 4)).drop ((segB b i (n + 4)).length - 4) = segB b (i + n) 4 := by
    rw [hl, Nat.add_sub_cancel]
    unfold segB
    rw [List.drop_take, List.drop_drop, Nat.add_sub_cancel_left]
  unfold okP
  rw [hb, hd, List.take_of_length_le (by unfold segB; rw [List.length_take]; omega)]
  rfl
set_option maxHeartbeats 4000000 in
theorem rright_any (a : Option Addr) (n c : Nat) (b : List UInt8) (i s : Nat) (w : World) (h : BsAt w a n c b) (hi : i + s + 4 ≤ n) :
    Calls Tryz.prog 38 #[.slice a n c, .int .i64 (i : Int), .int .i64 (s : Int)] w fun e w' => e = .returned (.bool (okP (segB b i (s + 4)))) ∧ ∃ d, w' = w.drewN d := by
  have hsz := h.size
  have hcm := h.max
  have hle := h.le
  unfold maxLen at hcm
  have HB : Hid (BsAt w a n c b) := h
  obtain ⟨a2, hs2, hq2⟩ := slice_mid h i (i + s) (by omega) (by omega)
  have HQ : Hid (∀ V, BsAt V a n c b → BsAt V a2 s (c - i) (segB b i s)) := fun V hV => by
    have := hq2 V _ hV
    rw [Nat.add_sub_cancel_left] at this
    unfold segB
    exact this
  rw [Nat.add_sub_cancel_left] at hs2
  rw [show (((i + s : Nat)) : Int) = (i : Int) + (s : Int) by omega] at hs2
  have HN : Hid (∀ V, BsAt V a n c b → Calls Tryz.prog 37 #[.slice a n c, .int .i64 ((i : Int) + (s : Int))] V fun e w' => e = .returned (.int .u64 ((num4 b (i + s) : Nat) : Int)) ∧ w' = V) := fun V hV => by
    have := rnumber_any a n c b (i + s) V hV (by omega)
    rwa [show (((i + s : Nat)) : Int) = (i : Int) + (s : Int) by omega] at this
  have hcr := crc_lt (segB b i s)
  have hcv := conv_u32_u64 (sumN (segB b i s)) (sumN_lt _)
  have HCR : Hid (∀ V, BsAt V a n c b → Calls Tryz.prog 72 #[.slice a2 s (c - i)] V fun e w' => e = .returned (.int .u32 (crc (segB b i s) : Nat)) ∧ w' = V) := fun V hV => rcrc_any a2 s (c - i) _ V (HQ.out V hV)
  have HMK : Hid (∀ V, Calls Tryz.prog 71 #[.int .u32 ((crc (segB b i s) : Nat) : Int)] V fun e w' => e = .returned (.int .u32 ((sumN (segB b i s) : Nat) : Int)) ∧ w' = V) := fun V => rmask_any _ V hcr
  obtain ⟨r, hr, HR⟩ : ∃ r : Bool, (((num4 b (i + s) : Nat) : Int) == ((sumN (segB b i s) : Nat) : Int)) = r ∧ Hid (okP (segB b i (s + 4)) = r) := by
    refine ⟨_, rfl, ?_⟩
    unfold Hid
    rw [okP_seg (by omega), Bool.eq_iff_iff]
    simp
    omega
  have hwr : IntKind.i64.wrap ((i : Int) + (s : Int)) = (i : Int) + (s : Int) := by
    have := i64_wrap (i + s) (by omega)
    rwa [show (((i + s : Nat)) : Int) = (i : Int) + (s : Int) by omega] at this
  rw [HR.out]
  clear h hq2 HR hcr
  generalize crc (segB b i s) = cb at *
  generalize sumN (segB b i s) = sb at *
  generalize num4 b (i + s) = nb at *
  go_enter Tryz.func38, Tryz.ntmps38
  go_wp2_with fail
  go_region_held3 (fun V => True) (first | trivial | go_keep)
    (first
     | (go_at_call 37; refine (HN.out _ (HB.out.below (Nat.le_refl _) (Below.refl _ _).drew)).mono ?_; rintro _ v1 ⟨rfl, rfl⟩)
     | (go_at_call 72; refine (HCR.out _ (HB.out.below (Nat.le_refl _) (Below.refl _ _).drew)).mono ?_; rintro _ v1 ⟨rfl, rfl⟩)
     | (go_at_call 71; refine (HMK.out _).mono ?_; rintro _ v1 ⟨rfl, rfl⟩))
  go_wp2
  go_ret
  exact ⟨ret1 rfl, 1, rfl⟩
end Go.Proofs.YtgegjcnjlibfdaaGreat
/- The contract of the document's own Check. -/
namespace Go.Proofs.YtgegjcnjlibfdaaGreat
open Go.RowKit

set_option maxRecDepth 100000 in
set_option maxHeartbeats 400000 in
theorem rcheck_any (s : ByteArray) (q : Nat) (k : Int) (w : World) (hs : s.size ≤ 9223372036854775807) :
    Calls Tryz.prog 68 #[.agg #[.string s, .int .u64 (q : Int), .int .i64 k]] w fun e w' => e = .returned (.int .i64 ((chk s.size q k : Nat) : Int)) ∧ Below w.heap.size w w' := by
  have hb : Below w.heap.size w (w.alloc (.cells #[.string s, .int .u64 (q : Int), .int .i64 k] 52)) := (Below.refl _ _).alloc (Nat.le_refl _) _
  by_cases h1 : 64 < s.size
  · have HE : Hid (chk s.size q k = 21) := by unfold chk Hid; rw [if_pos h1]
    go_enter Tryz.func68, Tryz.ntmps68
    go_wp2
    go_ret
    rw [HE.out]
    exact ⟨ret1 rfl, hb⟩
  · by_cases h2 : 72057594037927935 < q
    · have HE : Hid (chk s.size q k = 22) := by unfold chk Hid; rw [if_neg h1, if_pos h2]
      go_enter Tryz.func68, Tryz.ntmps68
      go_wp2
      go_ret
      rw [HE.out]
      exact ⟨ret1 rfl, hb⟩
    · by_cases h3 : k = 0
      · have HE : Hid (chk s.size q k = 0) := by unfold chk Hid; rw [if_neg h1, if_neg h2, if_pos (.inl h3)]
        subst h3
        go_enter Tryz.func68, Tryz.ntmps68
        go_wp2
        go_ret
        rw [HE.out]
        exact ⟨ret1 rfl, hb⟩
      · by_cases h4 : k = 1
        · have HE : Hid (chk s.size q k = 0) := by unfold chk Hid; rw [if_neg h1, if_neg h2, if_pos (.inr h4)]
          subst h4
          go_enter Tryz.func68, Tryz.ntmps68
          go_wp2
          go_ret
          rw [HE.out]
          exact ⟨ret1 rfl, hb⟩
        · have HE : Hid (chk s.size q k = 23) := by unfold chk Hid; rw [if_neg h1, if_neg h2, if_neg (by omega)]
          have h3' : (k != 0) = true := by simpa using h3
          have h4' : (k != 1) = true := by simpa using h4
          go_enter Tryz.func68, Tryz.ntmps68
          go_wp2
          go_ret
          rw [HE.out]
          exact ⟨ret1 rfl, hb⟩
end Go.Proofs.YtgegjcnjlibfdaaGreat
/- The contract of the document's own Compare. -/
namespace Go.Proofs.YtgegjcnjlibfdaaGreat
open Go.RowKit

set_option maxRecDepth 100000 in
set_option maxHeartbeats 1000000 in
theorem rcompare_any (s t : ByteArray) (q r k l : Int) (w : World) :
    Calls Tryz.prog 45 #[.agg #[.string s, .int .u64 q, .int .i64 k], .agg #[.string t, .int .u64 r, .int .i64 l]] w fun e w' => e = .returned (.int .i64 (kcmp s.toList t.toList q r k l)) ∧ Below w.heap.size w w' := by
  have hB : Hid (Below w.heap.size w ((w.alloc (Obj.cells #[Value.string s, Value.int IntKind.u64 q, Value.int IntKind.i64 k] 52)).alloc (Obj.cells #[Value.string t, Value.int IntKind.u64 r, Value.int IntKind.i64 l] 52))) := ((Below.refl _ w).alloc (Nat.le_refl _) _).alloc (by simp) _
  by_cases h1 : Op.bytesLess s.toList t.toList = true
  · have HE : Hid (kcmp s.toList t.toList q r k l = -1) := by simp [Hid, kcmp, scmp, h1]
    go_enter Tryz.func45, Tryz.ntmps45
    go_wp2
    go_ret
    rw [HE.out]
    exact ⟨ret1 rfl, hB.out⟩
  · have h1' : Op.bytesLess s.toList t.toList = false := by simpa using h1
    by_cases h2 : (s.toList == t.toList) = true
    · have HK : Hid (kcmp s.toList t.toList q r k l = if r < q then -1 else if q < r then 1 else icmp l k) := by
        simp only [Hid, kcmp, scmp, icmp, h1', h2]
        by_cases a : r < q
        · simp [a]
        · by_cases b : q < r
          · simp [a, b]
          · simp [a, b]
      by_cases h3 : r < q
      · have HE : Hid (kcmp s.toList t.toList q r k l = -1) := by rw [Hid, HK.out, if_pos h3]
        go_enter Tryz.func45, Tryz.ntmps45
        go_wp2
        go_ret
        rw [HE.out]
        exact ⟨ret1 rfl, hB.out⟩
      · have h3' : decide (r < q) = false := by simpa using h3
        by_cases h4 : q < r
        · have HE : Hid (kcmp s.toList t.toList q r k l = 1) := by rw [Hid, HK.out, if_neg h3, if_pos h4]
          have h4' : (q == r) = false := by simp; omega
          go_enter Tryz.func45, Tryz.ntmps45
          go_wp2
          go_ret
          rw [HE.out]
          exact ⟨ret1 rfl, hB.out⟩
        · have h4' : (q == r) = true := by simp; omega
          have h5' : decide (q < r) = false := by simpa using h4
          by_cases h6 : l < k
          · have HE : Hid (kcmp s.toList t.toList q r k l = -1) := by rw [Hid, HK.out, if_neg h3, if_neg h4]; simp [icmp, h6]
            go_enter Tryz.func45, Tryz.ntmps45
            go_wp2
            go_ret
            rw [HE.out]
            exact ⟨ret1 rfl, hB.out⟩
          · have h6' : decide (l < k) = false := by simpa using h6
            by_cases h7 : k < l
            · have HE : Hid (kcmp s.toList t.toList q r k l = 1) := by rw [Hid, HK.out, if_neg h3, if_neg h4]; simp [icmp, h6, h7]
              go_enter Tryz.func45, Tryz.ntmps45
              go_wp2
              go_ret
              rw [HE.out]
              exact ⟨ret1 rfl, hB.out⟩
            · have HE : Hid (kcmp s.toList t.toList q r k l = 0) := by rw [Hid, HK.out, if_neg h3, if_neg h4]; simp [icmp, h6, h7]
              have h7' : decide (k < l) = false := by simpa using h7
              go_enter Tryz.func45, Tryz.ntmps45
              go_wp2
              go_ret
              rw [HE.out]
              exact ⟨ret1 rfl, hB.out⟩
    · have h2' : (s.toList == t.toList) = false := by simpa using h2
      have HE : Hid (kcmp s.toList t.toList q r k l = 1) := by simp [Hid, kcmp, scmp, h1', h2']
      go_enter Tryz.func45, Tryz.ntmps45
      go_wp2
      go_ret
      rw [HE.out]
      exact ⟨ret1 rfl, hB.out⟩
end Go.Proofs.YtgegjcnjlibfdaaGreat
