/- The contracts of sstable's small functions: within, sums, parts, places. -/
import Derived.Test.YtgegjcnjlibfdaaGreatQa06
import Derived.Test.YtgegjcnjlibfdaaGreatQa11
import Derived.Test.YtgegjcnjlibfdaaGreatQa04
import Derived.Test.YtgegjcnjlibfdaaGreatQa08
import Derived.Test.YtgegjcnjlibfdaaGreatC11MemA
import Derived.Test.YtgegjcnjlibfdaaGreatC11TakeA
import Derived.Test.YtgegjcnjlibfdaaGreatQa03
import Derived.Deep.RegionHeld3
namespace Go.Proofs.YtgegjcnjlibfdaaGreat
set_option maxRecDepth 100000
open Go.RowKit
set_option linter.unusedVariables false
set_option linter.unusedSimpArgs false
set_option maxRecDepth 100000 in
theorem within_any (x y : Int) (w : World) : Calls Tryz.prog 21 #[.int .i64 x, .int .i64 y] w fun e w' => e = .returned (.bool (decide (1 ≤ x ∧ x ≤ y))) ∧ w = w' := by
  by_cases h1 : 1 ≤ x
  · by_cases h2 : x ≤ y
    · rw [show decide (1 ≤ x ∧ x ≤ y) = true by simp [h1, h2]]
      go_enter Tryz.func21, Tryz.ntmps21
      go_wp2
      go_ret
      exact ⟨rfl, rfl⟩
    · rw [show decide (1 ≤ x ∧ x ≤ y) = false by simp [h2]]
      go_enter Tryz.func21, Tryz.ntmps21
      go_wp2
      go_ret
      exact ⟨rfl, rfl⟩
  · rw [show decide (1 ≤ x ∧ x ≤ y) = false by simp [h1]]
    go_enter Tryz.func21, Tryz.ntmps21
    go_wp2
    go_ret
    exact ⟨rfl, rfl⟩
theorem conv_u32_u64 (k : Nat) (h : k < 4294967296) (W : World) : (convert 127 33 (.int .u32 (k : Int))).run Tryz.prog W = .ok (.int .u64 (k : Int)) W := by
  have e : IntKind.u64.wrap (k : Int) = (k : Int) := by
    simp [IntKind.wrap, IntKind.bits, IntKind.signed]
    omega
  generalize (k : Int) = z at e ⊢
  simp [convert, run_underlying Tryz.underlying127, run_underlying Tryz.underlying33, go_sem, e]
set_option maxRecDepth 100000 in
theorem sumOf_any {a : Option Addr} {n c : Nat} {b : List UInt8} {w : World} (h : BsAt w a n c b) : Calls Tryz.prog 76 #[.slice a n c] w fun e w' => e = .returned (.int .u64 ((sumN b : Nat) : Int)) ∧ Below w.heap.size w w' := by
  have hc := crc_any a n c b w h
  have hcl := crc_lt b
  have hcv := conv_u32_u64 (sumN b) (sumN_lt b)
  go_enter Tryz.func76, Tryz.ntmps76
  go_wp2_with fail
  refine hc.mono ?_
  rintro _ w1 ⟨rfl, hb⟩
  have HB : Hid (Below w.heap.size w w1) := hb
  clear hb hc h
  go_wp2_with fail
  refine (mask_any (crc b) w1 hcl).mono ?_
  rintro _ w2 ⟨rfl, rfl⟩
  change _ at hcv
  unfold sumN at hcv
  go_wp2
  go_ret
  exact ⟨rfl, HB.out⟩
/-- b[:k:k] -/
theorem slice_to3 {w0 : World} {bs0 : List UInt8} {a : Option Addr} {len cap : Nat} (h : BsAt w0 a len cap bs0) (k : Nat) (hk : k ≤ len) :
    ∃ a', (∀ W : World, (Instr.slice 27 (.slice a len cap) none (some (.int .i64 (k : Int))) (some (.int .i64 (k : Int)))).run Tryz.prog W = .ok (.slice a' k k) W) ∧
      (∀ (W : World) (bs : List UInt8), BsAt W a len cap bs → BsAt W a' k k (bs.take k)) := by
  have hle := h.le
  have hmx := h.max
  cases a with
  | none =>
    obtain rfl := h.bare rfl
    obtain rfl : k = 0 := by omega
    refine ⟨none, fun W => ?_, fun W bs hb => hb.upTo 0 (by omega)⟩
    simp [Instr.slice, run_underlying Tryz.underlying27, go_sem]
  | some ad =>
    obtain ⟨b, off, s⟩ := ad
    refine ⟨some ⟨b, off, s⟩, fun W => ?_, fun W bs hb => ?_⟩
    · have h1 : k ≤ cap := by omega
      simp [Instr.slice, run_underlying Tryz.underlying27, go_sem, h1]
    · have h2 := hb.upTo k hk
      exact ⟨h2.size, Nat.le_refl _, (by omega), fun e => (by cases e), h2.here⟩
/-- b[lo:hi:hi], the numbers without a sign -/
theorem slice_mid3 {w0 : World} {bs0 : List UInt8} {a : Option Addr} {len cap : Nat} (h : BsAt w0 a len cap bs0) (lo hi : Nat) (hlo : lo ≤ hi) (hhi : hi ≤ len) :
    ∃ a', (∀ W : World, (Instr.slice 27 (.slice a len cap) (some (.int .u64 (lo : Int))) (some (.int .u64 (hi : Int))) (some (.int .u64 (hi : Int)))).run Tryz.prog W = .ok (.slice a' (hi - lo) (hi - lo)) W) ∧
      (∀ (W : World) (bs : List UInt8), BsAt W a len cap bs → BsAt W a' (hi - lo) (hi - lo) ((bs.drop lo).take (hi - lo))) := by
  have hle := h.le
  have hmx := h.max
  cases a with
  | none =>
    obtain rfl := h.bare rfl
    obtain rfl : hi = 0 := by omega
    obtain rfl : lo = 0 := by omega
    refine ⟨none, fun W => ?_, fun W bs hb => hb.upTo 0 (by omega)⟩
    simp [Instr.slice, run_underlying Tryz.underlying27, go_sem]
  | some ad =>
    obtain ⟨b, off, s⟩ := ad
    by_cases hc : hi - lo = 0
    · obtain rfl : hi = lo := by omega
      refine ⟨some ⟨b, off, s⟩, fun W => ?_, fun W bs hb => ?_⟩
      · have h1 : hi ≤ cap := by omega
        simp [Instr.slice, run_underlying Tryz.underlying27, go_sem, h1]
      · rw [Nat.sub_self, List.take_zero]
        exact BsAt.empty _ _ (by omega)
    · refine ⟨some ((⟨b, off, s⟩ : Addr).add lo), fun W => ?_, fun W bs hb => ?_⟩
      · have h1 : hi ≤ cap := by omega
        have h3 : ¬ hi = lo := by omega
        simp [Instr.slice, run_underlying Tryz.underlying27, go_sem, h1, hlo, h3]
      · obtain ⟨b', o', e, _⟩ := hb.here (by omega)
        simp only [Option.some.injEq, Addr.mk.injEq] at e
        obtain ⟨rfl, rfl, rfl⟩ := e
        rw [Addr.add_lit]
        have h4 := hb.sub lo (hi - lo) (by omega)
        exact ⟨h4.size, Nat.le_refl _, by omega, fun e => (by cases e), h4.here⟩
set_option maxRecDepth 100000 in
/-- A part without its sum. -/
theorem body_any {a : Option Addr} {n c : Nat} {p : List UInt8} {w : World} (h : BsAt w a n c p) (h4 : 4 ≤ n) : Calls Tryz.prog 33 #[.slice a n c] w fun e w' => ∃ a', e = .returned (.tuple #[.slice a' (n - 4) (n - 4), .bool (okP p)]) ∧ Part a n c p a' (n - 4) (n - 4) (bodyB p) ∧ Below w.heap.size w w' := by
  have hsz := h.size
  have hmx := h.max
  have hle := h.le
  unfold maxLen at hmx
  obtain ⟨a1, q1, r1⟩ := slice_to3 h (n - 4) (by omega)
  obtain ⟨a2, q2, r2⟩ := slice_any h (n - 4) (by omega)
  have hb1 := r1 _ _ h
  have hb2 := r2 _ _ h
  have hfx : fxRead (p.drop (n - 4)) 4 = (leNat ((p.drop (n - 4)).take 4), 0) := by
    unfold fxRead
    rw [if_neg (by omega), if_neg (by rw [List.length_drop]; show ¬ _ < 4; omega)]
    rfl
  have hf := fixed_eq hb2 hfx
  have hs := sumOf_any hb1
  have HP : Hid (Part a n c p a1 (n - 4) (n - 4) (bodyB p)) := by
    intro W hW
    have := r1 W p hW
    unfold bodyB
    rw [hsz]
    exact this
  have HO : Hid (okP p = decide (leNat ((p.drop (n - 4)).take 4) = sumN (p.take (n - 4)))) := by
    unfold Hid okP bodyB
    rw [hsz]
  have hlt : leNat ((p.drop (n - 4)).take 4) < 4294967296 := num4_lt p (n - 4)
  rw [HO.out]
  generalize leNat ((p.drop (n - 4)).take 4) = x at *
  have hsl := sumN_lt (p.take (n - 4))
  generalize sumN (p.take (n - 4)) = y at *
  rw [show ((n - 4 : Nat) : Int) = (n : Int) - 4 by omega] at q1 q2
  rw [show decide (x = y) = ((x : Int) == (y : Int)) by rw [Bool.eq_iff_iff]; simp; omega]
  clear hb1 hb2 r1 r2 hfx HO
  go_enter Tryz.func33, Tryz.ntmps33
  go_wp2_with fail
  refine hf.mono ?_
  rintro _ w1 ⟨rfl, hw⟩
  obtain rfl : w = w1 := hw.symm
  clear hf
  go_wp2_with fail
  refine hs.mono ?_
  rintro _ w2 ⟨rfl, hb⟩
  have HB : Hid (Below w.heap.size w w2) := hb
  clear hb hs
  go_wp2
  go_ret2
  exact ⟨a1, ret2 rfl rfl, HP.out, HB.out⟩
theorem u64_wrap (k : Nat) (h : k < 18446744073709551616) : IntKind.u64.wrap (k : Int) = (k : Int) := by
  simp [IntKind.wrap, IntKind.bits, IntKind.signed]
  omega
set_option maxRecDepth 100000 in
theorem end_any (x y : Nat) (h : x + y + 4 < 18446744073709551616) (w : World) : Calls Tryz.prog 75 #[.agg #[.int .u64 (x : Int), .int .u64 (y : Int)]] w fun e w' => e = .returned (.int .u64 ((x + y + 4 : Nat) : Int)) ∧ Below w.heap.size w w' := by
  have h1 : IntKind.u64.wrap ((x : Int) + (y : Int)) = (x : Int) + (y : Int) := by
    have := u64_wrap (x + y) (by omega)
    simpa using this
  have h2 : IntKind.u64.wrap ((x : Int) + (y : Int) + 4) = (x : Int) + (y : Int) + 4 := by
    have := u64_wrap (x + y + 4) (by omega)
    simpa using this
  go_enter Tryz.func75, Tryz.ntmps75
  go_wp2
  go_ret
  exact ⟨ret1 (by congr 1), (Below.refl _ _).alloc (Nat.le_refl _) _⟩
end Go.Proofs.YtgegjcnjlibfdaaGreat
/- The contracts of sstable's parts and places: part, value, placeOf, lay. -/
namespace Go.Proofs.YtgegjcnjlibfdaaGreat
set_option maxRecDepth 100000
open Go.RowKit
set_option linter.unusedVariables false
set_option linter.unusedSimpArgs false
abbrev TPl : TypeId := 70
set_option maxHeartbeats 2000000 in
theorem part_any {a : Option Addr} {n c : Nat} {b : List UInt8} {w : World} (x y : Nat) (h : BsAt w a n c b) (hxy : x + y + 4 ≤ n) :
    Calls Tryz.prog 34 #[.agg #[.int .u64 (x : Int), .int .u64 (y : Int)], .slice a n c] w fun e w' => ∃ a', e = .returned (.slice a' (y + 4) (y + 4)) ∧ Part a n c b a' (y + 4) (y + 4) (segB b x (y + 4)) ∧ Below w.heap.size w w' := by
  have hmx := h.max
  have hle := h.le
  unfold maxLen at hmx
  obtain ⟨a1, q1, r1⟩ := slice_mid3 h x (x + y + 4) (by omega) hxy
  rw [show x + y + 4 - x = y + 4 by omega] at q1 r1
  rw [show ((x + y + 4 : Nat) : Int) = (x : Int) + (y : Int) + 4 by omega] at q1
  have HP : Hid (Part a n c b a1 (y + 4) (y + 4) (segB b x (y + 4))) := fun W hW => r1 W b hW
  have hlt : x + y + 4 < 18446744073709551616 := by omega
  clear r1 h
  have HB0 : Hid (Below w.heap.size w (w.alloc (.cells #[.int .u64 (x : Int), .int .u64 (y : Int)] TPl)).drew ∧ Box (w.alloc (.cells #[.int .u64 (x : Int), .int .u64 (y : Int)] TPl)).drew w.heap.size TPl #[.int .u64 (x : Int), .int .u64 (y : Int)]) := ⟨((Below.refl _ _).alloc (Nat.le_refl _) _).drew, Box.new _ _ _⟩
  go_enter Tryz.func34, Tryz.ntmps34
  go_wp2_with fail
  have c0 := HB0.out.2.cell 0
  have c1 := HB0.out.2.cell 1
  go_region_held3 (fun V => V.cell? ⟨w.heap.size, 0, none⟩ = some (.int .u64 (x : Int)) ∧ V.cell? ⟨w.heap.size, 1, none⟩ = some (.int .u64 (y : Int))) (first | exact ⟨c0, c1⟩ | go_keep)
    (first
     | (go_at_call 75; refine (end_any x y hlt _).mono ?_; rintro _ v2 ⟨rfl, hb2⟩
        have HB2 : Hid (Below w.heap.size w v2) := HB1.out.1.trans (hb2.mono HB1.out.1.size)
        have c0 := (HB1.out.2.kept (hb2.block _ HB1.out.2.lt)).cell 0
        have c1 := (HB1.out.2.kept (hb2.block _ HB1.out.2.lt)).cell 1
        clear hb2)
     | (go_at_call 75; refine (end_any x y hlt _).mono ?_; rintro _ v1 ⟨rfl, hb1⟩
        have HB1 : Hid (Below w.heap.size w v1 ∧ Box v1 w.heap.size TPl #[.int .u64 (x : Int), .int .u64 (y : Int)]) := ⟨HB0.out.1.trans (hb1.mono HB0.out.1.size), HB0.out.2.kept (hb1.block _ HB0.out.2.lt)⟩
        have c0 := HB1.out.2.cell 0
        have c1 := HB1.out.2.cell 1
        clear hb1))
  go_wp2
  go_ret
  exact ⟨a1, ret1 rfl, HP.out, HB2.out⟩
theorem putUv_nil (v : Nat) (V : World) (hv : v < 18446744073709551616) : Calls Tryz.prog 102 #[.slice none 0 0, .int .u64 (v : Int)] V fun e w' => ∃ a' c', e = .returned (.slice a' (uvEnc v).length c') ∧ OwnB w' V.heap.size a' (uvEnc v).length c' (uvEnc v) ∧ Below V.heap.size V w' := by
  have h := putUvarint_any none 0 0 [] v V (BsAt.nil V) hv (by omega)
  rw [Nat.zero_add, List.nil_append] at h
  exact h
set_option maxHeartbeats 2000000 in
theorem value_any (x y : Nat) (hx : x < 18446744073709551616) (hy : y < 18446744073709551616) (w : World) :
    Calls Tryz.prog 65 #[.agg #[.int .u64 (x : Int), .int .u64 (y : Int)]] w fun e w' => e = .returned (.string (strOf (plV x y))) ∧ Below w.heap.size w w' := by
  have HB0 : Hid (Below w.heap.size w (w.alloc (.cells #[.int .u64 (x : Int), .int .u64 (y : Int)] TPl)).drew ∧ Box (w.alloc (.cells #[.int .u64 (x : Int), .int .u64 (y : Int)] TPl)).drew w.heap.size TPl #[.int .u64 (x : Int), .int .u64 (y : Int)]) := ⟨((Below.refl _ _).alloc (Nat.le_refl _) _).drew, Box.new _ _ _⟩
  have hl := uvEnc_length x
  go_enter Tryz.func65, Tryz.ntmps65
  go_wp2_with fail
  have c0 := HB0.out.2.cell 0
  have c1 := HB0.out.2.cell 1
  go_region_with
    (first
     | (go_at_call 102; refine (putUvarint_any a1 (uvEnc x).length k1 (uvEnc x) y _ HB1.out.2.2 hy (by omega)).mono ?_; rintro _ v2 ⟨a2, k2, rfl, ho2, hb2⟩
        have HB2 : Hid (Below w.heap.size w v2) := HB1.out.1.trans (hb2.mono HB1.out.1.size)
        have hcv : (convert 27 9 (.slice a2 ((uvEnc x).length + (uvEnc y).length) k2)).run Tryz.prog v2 = .ok (.string (strOf (plV x y))) v2 := conv_of ho2.bs
        have c0 := (HB1.out.2.1.kept (hb2.block _ HB1.out.2.1.lt)).cell 0
        have c1 := (HB1.out.2.1.kept (hb2.block _ HB1.out.2.1.lt)).cell 1
        clear hb2 ho2)
     | (go_at_call 102; refine (putUv_nil x _ hx).mono ?_; rintro _ v1 ⟨a1, k1, rfl, ho1, hb1⟩
        have HB1 : Hid (Below w.heap.size w v1 ∧ Box v1 w.heap.size TPl #[.int .u64 (x : Int), .int .u64 (y : Int)] ∧ BsAt v1 a1 (uvEnc x).length k1 (uvEnc x)) := ⟨HB0.out.1.trans (hb1.mono HB0.out.1.size), HB0.out.2.kept (hb1.block _ HB0.out.2.lt), ho1.bs⟩
        have c0 := HB1.out.2.1.cell 0
        have c1 := HB1.out.2.1.cell 1
        clear hb1 ho1))
  all_goals (go_wp2; go_ret; exact ⟨ret1 rfl, HB2.out⟩)
theorem str_eq (v : ByteArray) (l : List UInt8) : ((strOf l).toList == v.toList) = decide (l = v.data.toList) := by
  rw [Bool.eq_iff_iff, beq_iff_eq, decide_eq_true_iff]
  constructor
  · intro h
    have h2 : strOf l = v := by
      apply ByteArray.ext
      have h3 := congrArg List.toArray h
      simpa [ByteArray.toList_eq] using h3
    rw [← h2]
    simp [strOf]
  · rintro rfl
    simp [strOf]
set_option maxHeartbeats 2000000 in
theorem placeOf_any (v : ByteArray) (hv : v.size ≤ 140737488351232) (w : World) :
    Calls Tryz.prog 80 #[.string v] w fun e w' => ∃ x y : Nat, ∃ ok : Bool, e = .returned (.tuple #[.agg #[.int .u64 (x : Int), .int .u64 (y : Int)], .bool ok]) ∧ x < 18446744073709551616 ∧ y < 18446744073709551616 ∧ plOf v.data.toList = (if ok = true then some (x, y) else none) ∧ Below w.heap.size w w' := by
  have hcv : ∀ W : World, (convert 9 27 (.string v)).run Tryz.prog W = .ok (.slice (some ⟨W.heap.size, 0, none⟩) v.size (grownCap W v.size 0 5))
        (W.drew.alloc (.cells (bytesRow v (grownCap W v.size 0 5)) 5 ((bytesRow v (grownCap W v.size 0 5)).size, (bytesRow v (grownCap W v.size 0 5)).size + 1))) :=
      fun W => run_bytes_of_string W 9 27 5 v Tryz.underlying9 Tryz.underlying27 Tryz.underlying5
  obtain ⟨x, k, er, hr1⟩ : ∃ x k er, uvRead v.data.toList = (x, k, er) := ⟨_, _, _, rfl⟩
  obtain ⟨y, m, er2, hr2⟩ : ∃ y m er2, uvRead (v.data.toList.drop k) = (y, m, er2) := ⟨_, _, _, rfl⟩
  have hl : v.data.toList.length = v.size := by rw [Array.length_toList]; rfl
  have hx : x < 18446744073709551616 := by have := (uvRead_ok v.data.toList).1; rw [hr1] at this; exact this
  have hy : y < 18446744073709551616 := by have := (uvRead_ok (v.data.toList.drop k)).1; rw [hr2] at this; exact this
  have hk : k ≤ v.size := by
    have := (uvRead_ok v.data.toList).2
    rw [hr1, hl] at this
    dsimp only at this
    omega
  have HP : Hid (plOf v.data.toList = if plV x y = v.data.toList then some (x, y) else none) := by
    unfold Hid plOf
    rw [hr1]
    dsimp only
    rw [hr2]
  have HB0 : Hid (BsAt ((w.alloc (.cells #[.int .u64 0, .int .u64 0] TPl)).alloc (.cells (bytesRow v (grownCap (w.alloc (.cells #[.int .u64 0, .int .u64 0] TPl)) v.size 0 5)) 5 ((bytesRow v (grownCap (w.alloc (.cells #[.int .u64 0, .int .u64 0] TPl)) v.size 0 5)).size, (bytesRow v (grownCap (w.alloc (.cells #[.int .u64 0, .int .u64 0] TPl)) v.size 0 5)).size + 1))).drew (some ⟨w.heap.size + 1, 0, none⟩) v.size (grownCap (w.alloc (.cells #[.int .u64 0, .int .u64 0] TPl)) v.size 0 5) v.data.toList ∧ Below w.heap.size w ((w.alloc (.cells #[.int .u64 0, .int .u64 0] TPl)).alloc (.cells (bytesRow v (grownCap (w.alloc (.cells #[.int .u64 0, .int .u64 0] TPl)) v.size 0 5)) 5 ((bytesRow v (grownCap (w.alloc (.cells #[.int .u64 0, .int .u64 0] TPl)) v.size 0 5)).size, (bytesRow v (grownCap (w.alloc (.cells #[.int .u64 0, .int .u64 0] TPl)) v.size 0 5)).size + 1))).drew ∧ Box ((w.alloc (.cells #[.int .u64 0, .int .u64 0] TPl)).alloc (.cells (bytesRow v (grownCap (w.alloc (.cells #[.int .u64 0, .int .u64 0] TPl)) v.size 0 5)) 5 ((bytesRow v (grownCap (w.alloc (.cells #[.int .u64 0, .int .u64 0] TPl)) v.size 0 5)).size, (bytesRow v (grownCap (w.alloc (.cells #[.int .u64 0, .int .u64 0] TPl)) v.size 0 5)).size + 1))).drew w.heap.size TPl #[.int .u64 0, .int .u64 0]) := by
    have h1 := BsAt.ofStr (w.alloc (.cells #[.int .u64 0, .int .u64 0] TPl)) v (grownCap (w.alloc (.cells #[.int .u64 0, .int .u64 0] TPl)) v.size 0 5) ((bytesRow v (grownCap (w.alloc (.cells #[.int .u64 0, .int .u64 0] TPl)) v.size 0 5)).size, (bytesRow v (grownCap (w.alloc (.cells #[.int .u64 0, .int .u64 0] TPl)) v.size 0 5)).size + 1) (grownCap_ge _ _ _ _) (grownCap_le_maxLen _ _ _ _ (by unfold maxLen; omega))
    rw [World.size_alloc] at h1
    exact ⟨h1, ((((Below.refl _ _).alloc (Nat.le_refl _) _)).alloc (by simp) _).drew, (Box.new _ _ _).alloc _⟩
  go_enter Tryz.func80, Tryz.ntmps80
  go_wp2_with fail
  generalize ((w.alloc (.cells #[.int .u64 0, .int .u64 0] TPl)).alloc (.cells (bytesRow v (grownCap (w.alloc (.cells #[.int .u64 0, .int .u64 0] TPl)) v.size 0 5)) 5 ((bytesRow v (grownCap (w.alloc (.cells #[.int .u64 0, .int .u64 0] TPl)) v.size 0 5)).size, (bytesRow v (grownCap (w.alloc (.cells #[.int .u64 0, .int .u64 0] TPl)) v.size 0 5)).size + 1))).drew = W1 at *
  generalize (grownCap (w.alloc (.cells #[.int .u64 0, .int .u64 0] TPl)) v.size 0 5) = cp at *
  clear hcv
  refine (uvarint_eq HB0.out.1 hr1).mono ?_
  rintro _ w1 ⟨rfl, hw⟩
  obtain rfl : W1 = w1 := hw.symm
  obtain ⟨a2, hsl, hbs⟩ := slice_any HB0.out.1 k hk
  have hc2 := uvarint_eq (hbs _ _ HB0.out.1) hr2
  clear hbs
  go_wp2_with fail
  refine hc2.mono ?_
  rintro _ w1 ⟨rfl, hw⟩
  obtain rfl : W1 = w1 := hw.symm
  clear hc2
  have c0 := HB0.out.2.2.cell 0
  have c1 := HB0.out.2.2.cell 1
  have f0 := HB0.out.2.2.soft 0
  have f1 := HB0.out.2.2.soft 1
  have HB1 : Hid (Below w.heap.size w ((W1.setCell ⟨w.heap.size, 0, none⟩ (.int .u64 (x : Int))).setCell ⟨w.heap.size, 1, none⟩ (.int .u64 (y : Int))) ∧ Box ((W1.setCell ⟨w.heap.size, 0, none⟩ (.int .u64 (x : Int))).setCell ⟨w.heap.size, 1, none⟩ (.int .u64 (y : Int))) w.heap.size TPl #[.int .u64 (x : Int), .int .u64 (y : Int)]) := ⟨(HB0.out.2.1.setCell (p := ⟨w.heap.size, 0, none⟩) (Nat.le_refl _) _).setCell (p := ⟨w.heap.size, 1, none⟩) (Nat.le_refl _) _, ((HB0.out.2.2.set 0 _).set 1 _).eq (by simp)⟩
  go_wp2_with fail
  generalize (W1.setCell ⟨w.heap.size, 0, none⟩ (.int .u64 (x : Int))).setCell ⟨w.heap.size, 1, none⟩ (.int .u64 (y : Int)) = W2 at *
  clear c0 c1 f0 f1 HB0
  obtain ⟨ok, hok, HOK⟩ : ∃ ok : Bool, ((strOf (plV x y)).toList == v.toList) = ok ∧ Hid (plOf v.data.toList = if ok = true then some (x, y) else none) := by
    refine ⟨_, rfl, ?_⟩
    unfold Hid
    rw [str_eq, HP.out]
    simp
  have c0 := HB1.out.2.cell 0
  have c1 := HB1.out.2.cell 1
  have f0 := HB1.out.2.soft 0
  have f1 := HB1.out.2.soft 1
  clear HP
  go_region_with
    (first
     | (go_at_call 65; refine (value_any x y hx hy _).mono ?_; rintro _ v2 ⟨rfl, hb2⟩
        have HB2 : Hid (Below w.heap.size w v2 ∧ Box v2 w.heap.size TPl #[.int .u64 (x : Int), .int .u64 (y : Int)]) := ⟨(HB1.out.1.drew).trans (hb2.mono HB1.out.1.size), HB1.out.2.kept (hb2.block _ HB1.out.2.lt)⟩
        have c0 := HB2.out.2.cell 0
        have c1 := HB2.out.2.cell 1
        have f0 := HB2.out.2.soft 0
        have f1 := HB2.out.2.soft 1
        clear hb2))
  all_goals go_wp2
  all_goals (
    have z := (HB2.out.2.set 0 (.int .u64 (x : Int))).set 1 (.int .u64 (y : Int))
    have z0 := z.cell 0
    have z1 := z.cell 1
    exact bodyPost_ret (v := .tuple #[.agg #[.int .u64 (x : Int), .int .u64 (y : Int)], .bool ok]) (by simp [results, Tryz.results80, go_sem, z0, z1]) rfl ⟨x, y, ok, rfl, hx, hy, HOK.out, (HB2.out.1.setCell (p := ⟨w.heap.size, 0, none⟩) (Nat.le_refl _) _).setCell (p := ⟨w.heap.size, 1, none⟩) (Nat.le_refl _) _⟩)
end Go.Proofs.YtgegjcnjlibfdaaGreat
