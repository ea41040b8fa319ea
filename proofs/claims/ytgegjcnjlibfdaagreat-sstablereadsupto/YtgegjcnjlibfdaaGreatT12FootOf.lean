/- The contract of sstable's footOf: what a table's last bytes tell. -/
import Derived.Test.YtgegjcnjlibfdaaGreatQa13
import Derived.Laws.EntriesVeiled
namespace Go.Proofs.YtgegjcnjlibfdaaGreat
set_option maxRecDepth 100000
open Go.RowKit
set_option linter.unusedVariables false
set_option linter.unusedSimpArgs false
abbrev TFt : TypeId := 72
set_option maxHeartbeats 1000000 in
theorem number_any {w0 w : World} (hb0 : Below w0.heap.size w0 w) {q n c : Nat} {a : Option Addr} {bs : List UInt8} (hq : Box w q TBs #[.slice a n c]) (h0 : BsAt w0 a n c bs) (h4 : 4 ≤ n) :
    Calls Tryz.prog 73 #[at_ q] w fun e w' => e = .returned (.int .u64 ((leNat (bs.take 4) : Nat) : Int)) ∧ ∃ a', w' = w.setCell ⟨q, 0, none⟩ (.slice a' (n - 4) (c - 4)) ∧ BsAt w0 a' (n - 4) (c - 4) (bs.drop 4) := by
  have h : BsAt w a n c bs := h0.below (Nat.le_refl _) hb0
  have hsz := h.size
  have hfx : fxRead bs 4 = (leNat (bs.take 4), 0) := by
    unfold fxRead
    rw [if_neg (by omega), if_neg (by show ¬ _ < 4; omega)]
    rfl
  have hf := fixed_eq h hfx
  obtain ⟨a', hsl, hbs⟩ := slice_any h 4 h4
  have hsl : ∀ W : World, (Instr.slice 27 (.slice a n c) (some (.int .i64 4)) none none).run Tryz.prog W = .ok (.slice a' (n - 4) (c - 4)) W := hsl
  have HB : Hid (BsAt w0 a' (n - 4) (c - 4) (bs.drop 4)) := hbs _ _ h0
  have c0 := hq.cell 0
  have f0 := hq.soft 0
  have hmx := h.max
  unfold maxLen at hmx
  have hle := h.le
  clear hfx hbs h0 h hq
  go_enter Tryz.func73, Tryz.ntmps73
  go_wp2_with fail
  refine hf.mono ?_
  rintro _ w1 ⟨rfl, hw⟩
  obtain rfl : w = w1 := hw.symm
  clear hf
  go_wp2
  go_ret
  exact ⟨ret1 rfl, a', rfl, HB.out⟩
structure FO (w V : World) (t : List UInt8) (k m c : Nat) (a : Option Addr) (arr : Array Value) : Prop where
  base : Below w.heap.size w V
  f : Box V w.heap.size TFt arr
  r : Box V (w.heap.size + 1) TBs #[.slice a m c]
  bs : BsAt w a m c (t.drop k)
theorem FO.num {w V V' : World} {t : List UInt8} {k m c k' m' c' : Nat} {a a' : Option Addr} {arr : Array Value} (h : FO w V t k m c a arr) (hV : V' = V.setCell ⟨w.heap.size + 1, 0, none⟩ (.slice a' m' c')) (hb : BsAt w a' m' c' ((t.drop k).drop 4)) (hk : k' = k + 4) : FO w V' t k' m' c' a' arr := by
  subst hV hk
  refine ⟨h.base.setCell (p := ⟨w.heap.size + 1, 0, none⟩) (by simp) _, h.f.other (by omega) _ _, (h.r.set 0 _).eq (by simp), ?_⟩
  rw [List.drop_drop] at hb
  exact hb
theorem FO.set {w V : World} {t : List UInt8} {k m c : Nat} {a : Option Addr} {arr : Array Value} (h : FO w V t k m c a arr) (j : Nat) (v : Value) : FO w (V.setCell ⟨w.heap.size, j, none⟩ v) t k m c a (arr.setIfInBounds j v) :=
  ⟨h.base.setCell (p := ⟨w.heap.size, j, none⟩) (by simp) _, h.f.set _ _, h.r.other (by omega) _ _, h.bs⟩
theorem FO.eq {w V : World} {t : List UInt8} {k m c : Nat} {a : Option Addr} {arr arr' : Array Value} (h : FO w V t k m c a arr) (e : arr = arr') : FO w V t k m c a arr' := e ▸ h
theorem footOk_no {b : List UInt8} (h : ¬ (28 ≤ b.length ∧ b.drop (b.length - 8) = wordB)) : footOk b = false := decide_eq_false fun hh => h ⟨hh.1, hh.2.1⟩
theorem num_at (b : List UInt8) (n k : Nat) (hn : b.length = n) (h : 28 ≤ n) : leNat (((b.drop (n - 28)).drop k).take 4) = num4 b (n - 28 + k) := by
  unfold num4 segB
  rw [List.drop_drop]
def fv (f : Ft) : Value := .agg #[.int .u64 (f.fa : Int), .int .u64 (f.fn : Int), .int .u64 (f.xa : Int), .int .u64 (f.xn : Int), .int .u64 (f.cnt : Int)]
def ft0 : Ft := ⟨0, 0, 0, 0, 0⟩
def zero5 : Array Value := #[.int .u64 0, .int .u64 0, .int .u64 0, .int .u64 0, .int .u64 0]
def word8 : ByteArray := ⟨#[115, 116, 97, 100, 100, 108, 101, 49]⟩
theorem word_neq (l : List UInt8) : ((strOf l).toList == ([115, 116, 97, 100, 100, 108, 101, 49] : List UInt8)) = decide (l = wordB) := by
  have h := str_eq ⟨#[115, 116, 97, 100, 100, 108, 101, 49]⟩ l
  rw [ByteArray.toList_eq (bs := ⟨#[115, 116, 97, 100, 100, 108, 101, 49]⟩)] at h
  exact h
theorem keep1 {V : World} {g i j : Nat} {x y : Value} (h : V.cell? ⟨g, i, none⟩ = some x) (hj : j = i → y = x) : (V.setCell ⟨g, j, none⟩ y).cell? ⟨g, i, none⟩ = some x := by
  by_cases e : j = i
  · subst e
    rw [hj rfl]
    simp [go_sem, h]
  · simp [go_sem, h, e]
theorem keep5 {V : World} {g : Nat} {x0 x1 x2 x3 x4 : Value} (h : V.cell? ⟨g, 0, none⟩ = some x0 ∧ V.cell? ⟨g, 1, none⟩ = some x1 ∧ V.cell? ⟨g, 2, none⟩ = some x2 ∧ V.cell? ⟨g, 3, none⟩ = some x3 ∧ V.cell? ⟨g, 4, none⟩ = some x4) :
    ((fun V : World => V.cell? ⟨g, 0, none⟩ = some x0 ∧ V.cell? ⟨g, 1, none⟩ = some x1 ∧ V.cell? ⟨g, 2, none⟩ = some x2 ∧ V.cell? ⟨g, 3, none⟩ = some x3 ∧ V.cell? ⟨g, 4, none⟩ = some x4) (((((V.setCell ⟨g, 0, none⟩ x0).setCell ⟨g, 1, none⟩ x1).setCell ⟨g, 2, none⟩ x2).setCell ⟨g, 3, none⟩ x3).setCell ⟨g, 4, none⟩ x4)) := by
  obtain ⟨h0, h1, h2, h3, h4⟩ := h
  exact ⟨keep1 (keep1 (keep1 (keep1 (keep1 h0 (fun _ => rfl)) (fun e => by omega)) (fun e => by omega)) (fun e => by omega)) (fun e => by omega),
    keep1 (keep1 (keep1 (keep1 (keep1 h1 (fun e => by omega)) (fun _ => rfl)) (fun e => by omega)) (fun e => by omega)) (fun e => by omega),
    keep1 (keep1 (keep1 (keep1 (keep1 h2 (fun e => by omega)) (fun e => by omega)) (fun _ => rfl)) (fun e => by omega)) (fun e => by omega),
    keep1 (keep1 (keep1 (keep1 (keep1 h3 (fun e => by omega)) (fun e => by omega)) (fun e => by omega)) (fun _ => rfl)) (fun e => by omega),
    keep1 (keep1 (keep1 (keep1 (keep1 h4 (fun e => by omega)) (fun e => by omega)) (fun e => by omega)) (fun e => by omega)) (fun _ => rfl)⟩
set_option maxHeartbeats 4000000 in
theorem footOf_any {a : Option Addr} {n c : Nat} {b : List UInt8} {w : World} (h : BsAt w a n c b) (hn : n ≤ 1000000000000) :
    Calls Tryz.prog 32 #[.slice a n c] w fun e w' => ∃ f : Ft, e = .returned (.tuple #[fv f, .bool (footOk b)]) ∧ (footOk b = true → f = ftAt b) ∧ Below w.heap.size w w' := by
  have hsz := h.size
  have hmf : ∀ (fn : Fn) (first cap : Array Value) (w : World), (Instr.makeFunc fn first cap).run Tryz.prog w = .ok (.func fn first cap) w := fun _ _ _ _ => rfl
  by_cases h28 : n < 28
  · have hz : (n : Int) - 28 < 0 := by omega
    rw [footOk_no (fun hh => by omega)]
    clear hmf hsz h
    have hb : Below w.heap.size w (w.alloc (.cells #[.int .u64 0, .int .u64 0, .int .u64 0, .int .u64 0, .int .u64 0] TFt)) := (Below.refl _ _).alloc (Nat.le_refl _) _
    have HB : Hid (Below w.heap.size w (w.alloc (.cells #[.int .u64 0, .int .u64 0, .int .u64 0, .int .u64 0, .int .u64 0] TFt))) := hb
    clear hb
    go_enter Tryz.func32, Tryz.ntmps32
    go_wp2
    exact bodyPost_ret (v := .tuple #[fv ft0, .bool false]) (by simp [results, Tryz.results32, go_sem, fv, ft0]) rfl ⟨ft0, rfl, fun h => (by cases h), HB.out⟩
  have hge : 28 ≤ n := by omega
  obtain ⟨a8, hs8, hq8⟩ := slice_any h (n - 8) (by omega)
  rw [show ((n - 8 : Nat) : Int) = (n : Int) - 8 by omega] at hs8
  have H8 : Hid (BsAt w a8 (n - (n - 8)) (c - (n - 8)) (b.drop (n - 8))) := hq8 _ _ h
  have hz : ¬ (n : Int) - 28 < 0 := by omega
  have hcv : (convert 27 9 (.slice a8 (n - (n - 8)) (c - (n - 8)))).run Tryz.prog (w.alloc (.cells #[.int .u64 0, .int .u64 0, .int .u64 0, .int .u64 0, .int .u64 0] TFt)) = .ok (.string (strOf (b.drop (n - 8)))) (w.alloc (.cells #[.int .u64 0, .int .u64 0, .int .u64 0, .int .u64 0, .int .u64 0] TFt)) := conv_of (H8.out.alloc _)
  have hwn := word_neq (b.drop (n - 8))
  by_cases hw8 : b.drop (n - 8) = wordB
  case neg =>
    rw [footOk_no (fun hh => hw8 (by rw [← hsz]; exact hh.2))]
    rw [decide_eq_false hw8] at hwn
    clear hmf hsz h hq8 hw8
    have HB : Hid (Below w.heap.size w (w.alloc (.cells #[.int .u64 0, .int .u64 0, .int .u64 0, .int .u64 0, .int .u64 0] TFt))) := (Below.refl _ _).alloc (Nat.le_refl _) _
    go_enter Tryz.func32, Tryz.ntmps32
    go_wp2
    refine bodyPost_ret (v := .tuple #[fv ft0, .bool false]) (by simp [results, Tryz.results32, go_sem, fv, ft0]) rfl ?_
    exact ⟨⟨ft0, rfl⟩, HB.out⟩
  rw [decide_eq_true hw8] at hwn
  obtain ⟨a0, hs0, hq0⟩ := slice_any h (n - 28) (by omega)
  rw [show ((n - 28 : Nat) : Int) = (n : Int) - 28 by omega, show n - (n - 28) = 28 by omega] at hs0
  have HF0 : Hid (FO w ((w.alloc (.cells #[.int .u64 0, .int .u64 0, .int .u64 0, .int .u64 0, .int .u64 0] TFt)).alloc (.cells #[.slice a0 28 (c - (n - 28))] TBs)) (b.drop (n - 28)) 0 28 (c - (n - 28)) a0 zero5) := by
    refine ⟨((Below.refl _ _).alloc (Nat.le_refl _) _).alloc (by simp) _, (Box.new _ _ _).alloc _, ?_, ?_⟩
    · have := Box.new (w.alloc (.cells #[.int .u64 0, .int .u64 0, .int .u64 0, .int .u64 0, .int .u64 0] TFt)) TBs #[.slice a0 28 (c - (n - 28))]
      rw [World.size_alloc] at this
      exact this
    · have := hq0 _ _ h
      rw [show n - (n - 28) = 28 by omega] at this
      exact this
  have HN : Hid (∀ k, leNat (((b.drop (n - 28)).drop k).take 4) = num4 b (n - 28 + k)) := fun k => num_at b n k hsz hge
  have HOK : Hid (footOk b = decide ((ftAt b).fa + (ftAt b).fn + 4 = (ftAt b).xa ∧ (ftAt b).xa + (ftAt b).xn + 4 = n - 28)) := by
    unfold Hid footOk
    rw [hsz]
    congr 1
    simp only [eq_iff_iff]
    exact ⟨fun hh => hh.2.2, fun hh => ⟨hge, hw8, hh⟩⟩
  have HFT : Hid (ftAt b = ⟨num4 b (n - 28 + 0), num4 b (n - 28 + 4), num4 b (n - 28 + 8), num4 b (n - 28 + 12), num4 b (n - 28 + 16)⟩) := by
    unfold Hid ftAt
    rw [hsz, show n - 24 = n - 28 + 4 by omega, show n - 20 = n - 28 + 8 by omega, show n - 16 = n - 28 + 12 by omega, show n - 12 = n - 28 + 16 by omega]
    rfl
  rw [HOK.out, HFT.out]
  have l0 := num4_lt b (n - 28 + 0)
  have l1 := num4_lt b (n - 28 + 4)
  have l2 := num4_lt b (n - 28 + 8)
  have l3 := num4_lt b (n - 28 + 12)
  have l4 := num4_lt b (n - 28 + 16)
  have N0 : Hid (leNat (((b.drop (n - 28)).drop 0).take 4) = num4 b (n - 28 + 0)) := HN.out 0
  have N1 : Hid (leNat (((b.drop (n - 28)).drop 4).take 4) = num4 b (n - 28 + 4)) := HN.out 4
  have N2 : Hid (leNat (((b.drop (n - 28)).drop 8).take 4) = num4 b (n - 28 + 8)) := HN.out 8
  have N3 : Hid (leNat (((b.drop (n - 28)).drop 12).take 4) = num4 b (n - 28 + 12)) := HN.out 12
  have N4 : Hid (leNat (((b.drop (n - 28)).drop 16).take 4) = num4 b (n - 28 + 16)) := HN.out 16
  clear HN HOK HFT hq0 hq8 hw8 h hsz
  generalize num4 b (n - 28 + 0) = x0 at *
  generalize num4 b (n - 28 + 4) = x1 at *
  generalize num4 b (n - 28 + 8) = x2 at *
  generalize num4 b (n - 28 + 12) = x3 at *
  generalize num4 b (n - 28 + 16) = x4 at *
  go_enter Tryz.func32, Tryz.ntmps32
  go_wp2_with fail
  clear hcv
  generalize (w.alloc (.cells #[.int .u64 0, .int .u64 0, .int .u64 0, .int .u64 0, .int .u64 0] TFt)).alloc (.cells #[.slice a0 28 (c - (n - 28))] TBs) = V0 at *
  refine (number_any HF0.out.base HF0.out.r HF0.out.bs (by omega)).mono ?_
  rintro _ V1 ⟨rfl, a1, hV, hb⟩
  have HF1 : Hid (FO w V1 (b.drop (n - 28)) 4 (28 - 4) (c - (n - 28) - 4) a1 zero5) := HF0.out.num hV hb rfl
  clear hV hb
  rw [N0.out]
  go_wp2_with fail
  refine (number_any HF1.out.base HF1.out.r HF1.out.bs (by omega)).mono ?_
  rintro _ V2 ⟨rfl, a2, hV, hb⟩
  have HF2 : Hid (FO w V2 (b.drop (n - 28)) 8 (28 - 4 - 4) (c - (n - 28) - 4 - 4) a2 zero5) := HF1.out.num hV hb rfl
  clear hV hb
  rw [N1.out]
  have z0 : V2.cell? ⟨w.heap.size, 0, none⟩ = some (.int .u64 0) := HF2.out.f.cell 0
  have z1 : V2.cell? ⟨w.heap.size, 1, none⟩ = some (.int .u64 0) := HF2.out.f.cell 1
  have f0 := HF2.out.f.soft 0
  have f1 := HF2.out.f.soft 1
  have HF3 : Hid (FO w ((V2.setCell ⟨w.heap.size, 0, none⟩ (.int .u64 (x0 : Int))).setCell ⟨w.heap.size, 1, none⟩ (.int .u64 (x1 : Int))) (b.drop (n - 28)) 8 20 (c - (n - 28) - 4 - 4) a2 #[.int .u64 (x0 : Int), .int .u64 (x1 : Int), .int .u64 0, .int .u64 0, .int .u64 0]) := ((HF2.out.set 0 _).set 1 _).eq (by simp [zero5])
  go_wp2_with fail
  clear z0 z1 f0 f1
  generalize (V2.setCell ⟨w.heap.size, 0, none⟩ (.int .u64 (x0 : Int))).setCell ⟨w.heap.size, 1, none⟩ (.int .u64 (x1 : Int)) = V3 at *
  refine (number_any HF3.out.base HF3.out.r HF3.out.bs (by omega)).mono ?_
  rintro _ V4 ⟨rfl, a4, hV, hb⟩
  have HF4 : Hid (FO w V4 (b.drop (n - 28)) 12 (20 - 4) (c - (n - 28) - 4 - 4 - 4) a4 #[.int .u64 (x0 : Int), .int .u64 (x1 : Int), .int .u64 0, .int .u64 0, .int .u64 0]) := HF3.out.num hV hb rfl
  clear hV hb
  rw [N2.out]
  go_wp2_with fail
  refine (number_any HF4.out.base HF4.out.r HF4.out.bs (by omega)).mono ?_
  rintro _ V5 ⟨rfl, a5, hV, hb⟩
  have HF5 : Hid (FO w V5 (b.drop (n - 28)) 16 (20 - 4 - 4) (c - (n - 28) - 4 - 4 - 4 - 4) a5 #[.int .u64 (x0 : Int), .int .u64 (x1 : Int), .int .u64 0, .int .u64 0, .int .u64 0]) := HF4.out.num hV hb rfl
  clear hV hb
  rw [N3.out]
  have z0 : V5.cell? ⟨w.heap.size, 2, none⟩ = some (.int .u64 0) := HF5.out.f.cell 2
  have z1 : V5.cell? ⟨w.heap.size, 3, none⟩ = some (.int .u64 0) := HF5.out.f.cell 3
  have f0 := HF5.out.f.soft 2
  have f1 := HF5.out.f.soft 3
  have HF6 : Hid (FO w ((V5.setCell ⟨w.heap.size, 2, none⟩ (.int .u64 (x2 : Int))).setCell ⟨w.heap.size, 3, none⟩ (.int .u64 (x3 : Int))) (b.drop (n - 28)) 16 12 (c - (n - 28) - 4 - 4 - 4 - 4) a5 #[.int .u64 (x0 : Int), .int .u64 (x1 : Int), .int .u64 (x2 : Int), .int .u64 (x3 : Int), .int .u64 0]) := ((HF5.out.set 2 _).set 3 _).eq (by simp)
  go_wp2_with fail
  clear z0 z1 f0 f1
  generalize (V5.setCell ⟨w.heap.size, 2, none⟩ (.int .u64 (x2 : Int))).setCell ⟨w.heap.size, 3, none⟩ (.int .u64 (x3 : Int)) = V6 at *
  refine (number_any HF6.out.base HF6.out.r HF6.out.bs (by omega)).mono ?_
  rintro _ V7 ⟨rfl, a7, hV, hb⟩
  have HF7 : Hid (FO w V7 (b.drop (n - 28)) 20 (12 - 4) (c - (n - 28) - 4 - 4 - 4 - 4 - 4) a7 #[.int .u64 (x0 : Int), .int .u64 (x1 : Int), .int .u64 (x2 : Int), .int .u64 (x3 : Int), .int .u64 0]) := HF6.out.num hV hb rfl
  clear hV hb
  rw [N4.out]
  have z0 : V7.cell? ⟨w.heap.size, 4, none⟩ = some (.int .u64 0) := HF7.out.f.cell 4
  have f0 := HF7.out.f.soft 4
  have HF8 : Hid (FO w (V7.setCell ⟨w.heap.size, 4, none⟩ (.int .u64 (x4 : Int))) (b.drop (n - 28)) 20 (12 - 4) (c - (n - 28) - 4 - 4 - 4 - 4 - 4) a7 #[.int .u64 (x0 : Int), .int .u64 (x1 : Int), .int .u64 (x2 : Int), .int .u64 (x3 : Int), .int .u64 (x4 : Int)]) := (HF7.out.set 4 _).eq (by simp)
  go_wp2_with fail
  clear z0 f0
  generalize V7.setCell ⟨w.heap.size, 4, none⟩ (.int .u64 (x4 : Int)) = V8 at *
  clear N0 N1 N2 N3 N4 HF0 HF1 HF2 HF3 HF4 HF5 HF6 HF7 hmf hs0 hs8 H8 hwn
  have hcv : ∀ W : World, (convert 3 33 (.int .i64 ((n : Int) - 28))).run Tryz.prog W = .ok (.int .u64 ((n : Int) - 28)) W := fun W => by
    have := conv_int_u64 (n - 28) (by omega) W
    rwa [show ((n - 28 : Nat) : Int) = (n : Int) - 28 by omega] at this
  have HE1 := end_any x0 x1 (by omega)
  have HE2 := end_any x2 x3 (by omega)
  by_cases e1 : x0 + x1 + 4 = x2
  · subst e1
    obtain ⟨r2, hr2, HR2⟩ : ∃ r2 : Bool, ((x0 : Int) + (x1 : Int) + 4 + (x3 : Int) + 4 == (n : Int) - 28) = r2 ∧ Hid (decide (x0 + x1 + 4 = x0 + x1 + 4 ∧ x0 + x1 + 4 + x3 + 4 = n - 28) = r2) := by
      refine ⟨_, rfl, ?_⟩
      unfold Hid
      rw [Bool.eq_iff_iff]
      simp
      omega
    have HR2b : Hid (decide (x0 + x1 + 4 + x3 + 4 = n - 28) = r2) := by
      have := HR2.out
      unfold Hid
      simpa using this
    have HF9 : Hid (Below w.heap.size w V8 ∧ Box V8 w.heap.size TFt #[.int .u64 (x0 : Int), .int .u64 (x1 : Int), .int .u64 ((x0 : Int) + (x1 : Int) + 4), .int .u64 (x3 : Int), .int .u64 (x4 : Int)]) := ⟨HF8.out.base, by have := HF8.out.f; rwa [show ((x0 + x1 + 4 : Nat) : Int) = (x0 : Int) + (x1 : Int) + 4 by omega] at this⟩
    have HE : Hid ((∀ V, Calls Tryz.prog 75 #[.agg #[.int .u64 (x0 : Int), .int .u64 (x1 : Int)]] V fun e w' => e = .returned (.int .u64 ((x0 : Int) + (x1 : Int) + 4)) ∧ Below V.heap.size V w') ∧ ∀ V, Calls Tryz.prog 75 #[.agg #[.int .u64 ((x0 : Int) + (x1 : Int) + 4), .int .u64 (x3 : Int)]] V fun e w' => e = .returned (.int .u64 ((x0 : Int) + (x1 : Int) + 4 + (x3 : Int) + 4)) ∧ Below V.heap.size V w') := by
      constructor
      · intro V
        have := HE1 V
        rwa [show ((x0 + x1 + 4 : Nat) : Int) = (x0 : Int) + (x1 : Int) + 4 by omega] at this
      · intro V
        have := HE2 V
        rwa [show ((x0 + x1 + 4 : Nat) : Int) = (x0 : Int) + (x1 : Int) + 4 by omega, show ((x0 + x1 + 4 + x3 + 4 : Nat) : Int) = (x0 : Int) + (x1 : Int) + 4 + (x3 : Int) + 4 by omega] at this
    clear HE1 HE2 HF8
    have z0 : V8.cell? ⟨w.heap.size, 0, none⟩ = some (.int .u64 (x0 : Int)) := HF9.out.2.cell 0
    have z1 : V8.cell? ⟨w.heap.size, 1, none⟩ = some (.int .u64 (x1 : Int)) := HF9.out.2.cell 1
    have z2 : V8.cell? ⟨w.heap.size, 2, none⟩ = some (.int .u64 ((x0 : Int) + (x1 : Int) + 4)) := HF9.out.2.cell 2
    have z3 : V8.cell? ⟨w.heap.size, 3, none⟩ = some (.int .u64 (x3 : Int)) := HF9.out.2.cell 3
    have z4 : V8.cell? ⟨w.heap.size, 4, none⟩ = some (.int .u64 (x4 : Int)) := HF9.out.2.cell 4
    go_region_held3 (fun V => V.cell? ⟨w.heap.size, 0, none⟩ = some (.int .u64 (x0 : Int)) ∧ V.cell? ⟨w.heap.size, 1, none⟩ = some (.int .u64 (x1 : Int)) ∧ V.cell? ⟨w.heap.size, 2, none⟩ = some (.int .u64 ((x0 : Int) + (x1 : Int) + 4)) ∧ V.cell? ⟨w.heap.size, 3, none⟩ = some (.int .u64 (x3 : Int)) ∧ V.cell? ⟨w.heap.size, 4, none⟩ = some (.int .u64 (x4 : Int))) (first | with_reducible exact ⟨z0, z1, z2, z3, z4⟩ | with_reducible exact keep5 ⟨z0, z1, z2, z3, z4⟩ | exact ⟨z0, z1, z2, z3, z4⟩)
      (first
       | (go_at_call 75; have hg1 := HG1.out; clear hg1; refine (HE.out.2 _).mono ?_; rintro _ v2 ⟨rfl, hb2⟩
          have HG2 : Hid (Below w.heap.size w v2 ∧ Box v2 w.heap.size TFt #[.int .u64 (x0 : Int), .int .u64 (x1 : Int), .int .u64 ((x0 : Int) + (x1 : Int) + 4), .int .u64 (x3 : Int), .int .u64 (x4 : Int)]) := ⟨HG1.out.1.trans (hb2.mono HG1.out.1.size), HG1.out.2.kept (hb2.block _ HG1.out.2.lt)⟩
          have z0 : v2.cell? ⟨w.heap.size, 0, none⟩ = some (.int .u64 (x0 : Int)) := HG2.out.2.cell 0
          have z1 : v2.cell? ⟨w.heap.size, 1, none⟩ = some (.int .u64 (x1 : Int)) := HG2.out.2.cell 1
          have z2 : v2.cell? ⟨w.heap.size, 2, none⟩ = some (.int .u64 ((x0 : Int) + (x1 : Int) + 4)) := HG2.out.2.cell 2
          have z3 : v2.cell? ⟨w.heap.size, 3, none⟩ = some (.int .u64 (x3 : Int)) := HG2.out.2.cell 3
          have z4 : v2.cell? ⟨w.heap.size, 4, none⟩ = some (.int .u64 (x4 : Int)) := HG2.out.2.cell 4
          have f0 := HG2.out.2.soft 0
          have f1 := HG2.out.2.soft 1
          have f2 := HG2.out.2.soft 2
          have f3 := HG2.out.2.soft 3
          have f4 := HG2.out.2.soft 4
          clear hb2)
       | (go_at_call 75; refine (HE.out.1 _).mono ?_; rintro _ v1 ⟨rfl, hb1⟩
          have HG1 : Hid (Below w.heap.size w v1 ∧ Box v1 w.heap.size TFt #[.int .u64 (x0 : Int), .int .u64 (x1 : Int), .int .u64 ((x0 : Int) + (x1 : Int) + 4), .int .u64 (x3 : Int), .int .u64 (x4 : Int)]) := ⟨HF9.out.1.drew.trans (hb1.mono HF9.out.1.size), HF9.out.2.kept (hb1.block _ HF9.out.2.lt)⟩
          have z0 : v1.cell? ⟨w.heap.size, 0, none⟩ = some (.int .u64 (x0 : Int)) := HG1.out.2.cell 0
          have z1 : v1.cell? ⟨w.heap.size, 1, none⟩ = some (.int .u64 (x1 : Int)) := HG1.out.2.cell 1
          have z2 : v1.cell? ⟨w.heap.size, 2, none⟩ = some (.int .u64 ((x0 : Int) + (x1 : Int) + 4)) := HG1.out.2.cell 2
          have z3 : v1.cell? ⟨w.heap.size, 3, none⟩ = some (.int .u64 (x3 : Int)) := HG1.out.2.cell 3
          have z4 : v1.cell? ⟨w.heap.size, 4, none⟩ = some (.int .u64 (x4 : Int)) := HG1.out.2.cell 4
          have f0 := HG1.out.2.soft 0
          have f1 := HG1.out.2.soft 1
          have f2 := HG1.out.2.soft 2
          have f3 := HG1.out.2.soft 3
          have f4 := HG1.out.2.soft 4
          clear hb1))
    go_wp2
    have z := ((((HG2.out.2.set 0 (.int .u64 (x0 : Int))).set 1 (.int .u64 (x1 : Int))).set 2 (.int .u64 ((x0 : Int) + (x1 : Int) + 4))).set 3 (.int .u64 (x3 : Int))).set 4 (.int .u64 (x4 : Int))
    have HZ : Hid (Below w.heap.size w (((((v2.setCell ⟨w.heap.size, 0, none⟩ (.int .u64 (x0 : Int))).setCell ⟨w.heap.size, 1, none⟩ (.int .u64 (x1 : Int))).setCell ⟨w.heap.size, 2, none⟩ (.int .u64 ((x0 : Int) + (x1 : Int) + 4))).setCell ⟨w.heap.size, 3, none⟩ (.int .u64 (x3 : Int))).setCell ⟨w.heap.size, 4, none⟩ (.int .u64 (x4 : Int)))) := ((((HG2.out.1.setCell (p := ⟨w.heap.size, 0, none⟩) (Nat.le_refl _) _).setCell (p := ⟨w.heap.size, 1, none⟩) (Nat.le_refl _) _).setCell (p := ⟨w.heap.size, 2, none⟩) (Nat.le_refl _) _).setCell (p := ⟨w.heap.size, 3, none⟩) (Nat.le_refl _) _).setCell (p := ⟨w.heap.size, 4, none⟩) (Nat.le_refl _) _
    generalize (((((v2.setCell ⟨w.heap.size, 0, none⟩ (.int .u64 (x0 : Int))).setCell ⟨w.heap.size, 1, none⟩ (.int .u64 (x1 : Int))).setCell ⟨w.heap.size, 2, none⟩ (.int .u64 ((x0 : Int) + (x1 : Int) + 4))).setCell ⟨w.heap.size, 3, none⟩ (.int .u64 (x3 : Int))).setCell ⟨w.heap.size, 4, none⟩ (.int .u64 (x4 : Int))) = V9 at *
    have y0 : V9.cell? ⟨w.heap.size, 0, none⟩ = some (.int .u64 (x0 : Int)) := z.cell 0
    have y1 : V9.cell? ⟨w.heap.size, 1, none⟩ = some (.int .u64 (x1 : Int)) := z.cell 1
    have y2 : V9.cell? ⟨w.heap.size, 2, none⟩ = some (.int .u64 ((x0 : Int) + (x1 : Int) + 4)) := z.cell 2
    have y3 : V9.cell? ⟨w.heap.size, 3, none⟩ = some (.int .u64 (x3 : Int)) := z.cell 3
    have y4 : V9.cell? ⟨w.heap.size, 4, none⟩ = some (.int .u64 (x4 : Int)) := z.cell 4
    exact bodyPost_ret (v := .tuple #[fv ⟨x0, x1, x0 + x1 + 4, x3, x4⟩, .bool r2]) (by simp [results, Tryz.results32, go_sem, fv, y0, y1, y2, y3, y4]) rfl ⟨⟨x0, x1, x0 + x1 + 4, x3, x4⟩, by first | rw [HR2.out] | rw [HR2b.out], fun _ => rfl, HZ.out⟩
  · have HR2 : Hid (decide (x0 + x1 + 4 = x2 ∧ x2 + x3 + 4 = n - 28) = false) := decide_eq_false (fun hh => e1 hh.1)
    have hne : ¬ (x0 : Int) + (x1 : Int) + 4 = (x2 : Int) := by omega
    have hr1 : ((x0 : Int) + (x1 : Int) + 4 == (x2 : Int)) = false := by rw [beq_eq_false_iff_ne]; exact hne
    have hbo : ∀ W : World, (binOp .eql 33 (.int .u64 ((x0 : Int) + (x1 : Int) + 4)) (.int .u64 (x2 : Int))).run Tryz.prog W = .ok (.bool false) W := fun W => by
      generalize (x0 : Int) + (x1 : Int) + 4 = y at hr1
      simp [binOp, run_underlying Tryz.underlying33, go_sem, hr1]
    have HF9 : Hid (Below w.heap.size w V8 ∧ Box V8 w.heap.size TFt #[.int .u64 (x0 : Int), .int .u64 (x1 : Int), .int .u64 (x2 : Int), .int .u64 (x3 : Int), .int .u64 (x4 : Int)]) := ⟨HF8.out.base, HF8.out.f⟩
    have HE : Hid (∀ V, Calls Tryz.prog 75 #[.agg #[.int .u64 (x0 : Int), .int .u64 (x1 : Int)]] V fun e w' => e = .returned (.int .u64 ((x0 : Int) + (x1 : Int) + 4)) ∧ Below V.heap.size V w') := by
      intro V
      have := HE1 V
      rwa [show ((x0 + x1 + 4 : Nat) : Int) = (x0 : Int) + (x1 : Int) + 4 by omega] at this
    clear HE1 HE2 HF8 e1
    have z0 : V8.cell? ⟨w.heap.size, 0, none⟩ = some (.int .u64 (x0 : Int)) := HF9.out.2.cell 0
    have z1 : V8.cell? ⟨w.heap.size, 1, none⟩ = some (.int .u64 (x1 : Int)) := HF9.out.2.cell 1
    have z2 : V8.cell? ⟨w.heap.size, 2, none⟩ = some (.int .u64 (x2 : Int)) := HF9.out.2.cell 2
    have z3 : V8.cell? ⟨w.heap.size, 3, none⟩ = some (.int .u64 (x3 : Int)) := HF9.out.2.cell 3
    have z4 : V8.cell? ⟨w.heap.size, 4, none⟩ = some (.int .u64 (x4 : Int)) := HF9.out.2.cell 4
    refine wp_region_noPanic ?_
    refine wp_region_held_drew (S := (fun V => V.cell? ⟨w.heap.size, 0, none⟩ = some (.int .u64 (x0 : Int)) ∧ V.cell? ⟨w.heap.size, 1, none⟩ = some (.int .u64 (x1 : Int)) ∧ V.cell? ⟨w.heap.size, 2, none⟩ = some (.int .u64 (x2 : Int)) ∧ V.cell? ⟨w.heap.size, 3, none⟩ = some (.int .u64 (x3 : Int)) ∧ V.cell? ⟨w.heap.size, 4, none⟩ = some (.int .u64 (x4 : Int)))) (by kernel_rfl) ⟨z0, z1, z2, z3, z4⟩ (fun hHeld => ?_)
    refine wpAnyH_take (i := 0) (v := ?_) rfl (by kernel_rfl) (by kernel_rfl) (by kernel_rfl) (fun _ _ _ h => h) (Or.inl ⟨by rfl, ?_⟩) hHeld ?_
    rotate_left
    · intro w hSw
      try dsimp only at hSw
      go_simp
      try with_reducible rfl
    try simp only [Act.put, List.getElem_toArray, List.getElem_cons_succ, List.getElem_cons_zero, Array.getInternal_eq_getElem, List.setIfInBounds_toArray, List.set_cons_zero, List.set_cons_succ]
    refine wpAnyH_take (i := 1) (v := ?_) rfl (by kernel_rfl) (by kernel_rfl) (by kernel_rfl) (fun _ _ _ h => h) (Or.inl ⟨by rfl, ?_⟩) hHeld ?_
    rotate_left
    · intro w hSw
      try dsimp only at hSw
      go_simp
      try with_reducible rfl
    try simp only [Act.put, List.getElem_toArray, List.getElem_cons_succ, List.getElem_cons_zero, Array.getInternal_eq_getElem, List.setIfInBounds_toArray, List.set_cons_zero, List.set_cons_succ]
    refine wpAnyH_take (i := 2) (v := ?_) rfl (by kernel_rfl) (by kernel_rfl) (by kernel_rfl) (fun _ _ _ h => h) (Or.inl ⟨by rfl, ?_⟩) hHeld ?_
    rotate_left
    · intro w hSw
      try dsimp only at hSw
      go_simp
      try with_reducible rfl
    try simp only [Act.put, List.getElem_toArray, List.getElem_cons_succ, List.getElem_cons_zero, Array.getInternal_eq_getElem, List.setIfInBounds_toArray, List.set_cons_zero, List.set_cons_succ]
    refine wpAnyH_take (i := 4) (v := ?_) rfl (by kernel_rfl) (by kernel_rfl) (by kernel_rfl) (fun _ _ _ h => h) (Or.inl ⟨by rfl, ?_⟩) hHeld ?_
    rotate_left
    · intro w hSw
      try dsimp only at hSw
      go_simp
      try with_reducible rfl
    try simp only [Act.put, List.getElem_toArray, List.getElem_cons_succ, List.getElem_cons_zero, Array.getInternal_eq_getElem, List.setIfInBounds_toArray, List.set_cons_zero, List.set_cons_succ]
    refine wpAnyH_take (i := 5) (v := ?_) rfl (by kernel_rfl) (by kernel_rfl) (by kernel_rfl) (fun _ _ _ h => h) (Or.inl ⟨by rfl, ?_⟩) hHeld ?_
    rotate_left
    · intro w hSw
      try dsimp only at hSw
      go_simp
      try with_reducible rfl
    try simp only [Act.put, List.getElem_toArray, List.getElem_cons_succ, List.getElem_cons_zero, Array.getInternal_eq_getElem, List.setIfInBounds_toArray, List.set_cons_zero, List.set_cons_succ]
    refine wpAnyH_take (i := 6) (v := ?_) rfl (by kernel_rfl) (by kernel_rfl) (by kernel_rfl) (fun _ _ _ h => h) (Or.inl ⟨by rfl, ?_⟩) hHeld ?_
    rotate_left
    · intro w hSw
      try dsimp only at hSw
      go_simp
      try with_reducible rfl
    try simp only [Act.put, List.getElem_toArray, List.getElem_cons_succ, List.getElem_cons_zero, Array.getInternal_eq_getElem, List.setIfInBounds_toArray, List.set_cons_zero, List.set_cons_succ]
    refine wpAnyH_ready (rs := [3]) (by kernel_rfl) (by simp) ?_
    refine AllReadyH.cons rfl (fun K hK => ?_) (AllReadyH.nil)
    go_simp
    refine (HE.out _).mono ?_
    rintro _ v1 ⟨rfl, hb1⟩
    have HG1 : Hid (Below w.heap.size w v1 ∧ Box v1 w.heap.size TFt #[.int .u64 (x0 : Int), .int .u64 (x1 : Int), .int .u64 (x2 : Int), .int .u64 (x3 : Int), .int .u64 (x4 : Int)]) := ⟨HF9.out.1.drew.trans (hb1.mono HF9.out.1.size), HF9.out.2.kept (hb1.block _ HF9.out.2.lt)⟩
    have z0 : v1.cell? ⟨w.heap.size, 0, none⟩ = some (.int .u64 (x0 : Int)) := HG1.out.2.cell 0
    have z1 : v1.cell? ⟨w.heap.size, 1, none⟩ = some (.int .u64 (x1 : Int)) := HG1.out.2.cell 1
    have z2 : v1.cell? ⟨w.heap.size, 2, none⟩ = some (.int .u64 (x2 : Int)) := HG1.out.2.cell 2
    have z3 : v1.cell? ⟨w.heap.size, 3, none⟩ = some (.int .u64 (x3 : Int)) := HG1.out.2.cell 3
    have z4 : v1.cell? ⟨w.heap.size, 4, none⟩ = some (.int .u64 (x4 : Int)) := HG1.out.2.cell 4
    have f0 := HG1.out.2.soft 0
    have f1 := HG1.out.2.soft 1
    have f2 := HG1.out.2.soft 2
    have f3 := HG1.out.2.soft 3
    have f4 := HG1.out.2.soft 4
    clear hb1 hHeld
    refine hK.out _ _ ⟨z0, z1, z2, z3, z4⟩ (fun hHeld => ?_)
    clear hK K
    try simp only [Act.put, List.getElem_toArray, List.getElem_cons_succ, List.getElem_cons_zero, Array.getInternal_eq_getElem, List.setIfInBounds_toArray, List.set_cons_zero, List.set_cons_succ]
    refine wpAnyH_take (i := 7) (v := .bool false) rfl (by kernel_rfl) (by kernel_rfl) (by kernel_rfl) (fun _ _ _ h => h) (Or.inl ⟨by rfl, ?_⟩) hHeld ?_
    · intro w hSw
      try dsimp only at hSw
      go_simp
      try with_reducible rfl
    try simp only [Act.put, List.getElem_toArray, List.getElem_cons_succ, List.getElem_cons_zero, Array.getInternal_eq_getElem, List.setIfInBounds_toArray, List.set_cons_zero, List.set_cons_succ]
    refine wpAnyH_take (i := 8) (v := ?_) rfl (by kernel_rfl) (by kernel_rfl) (by kernel_rfl) (fun _ _ _ h => h) (Or.inl ⟨by rfl, ?_⟩) hHeld ?_
    rotate_left
    · intro w hSw
      try dsimp only at hSw
      go_simp
      try with_reducible rfl
    try simp only [Act.put, List.getElem_toArray, List.getElem_cons_succ, List.getElem_cons_zero, Array.getInternal_eq_getElem, List.setIfInBounds_toArray, List.set_cons_zero, List.set_cons_succ]
    refine wpAnyH_take (i := 9) (v := undef) rfl (by kernel_rfl) (by kernel_rfl) (by kernel_rfl) (fun _ _ _ h => h) (Or.inr ⟨by rfl, rfl⟩) hHeld ?_
    try simp only [Act.put, List.getElem_toArray, List.getElem_cons_succ, List.getElem_cons_zero, Array.getInternal_eq_getElem, List.setIfInBounds_toArray, List.set_cons_zero, List.set_cons_succ]
    refine wpAnyH_take (i := 10) (v := undef) rfl (by kernel_rfl) (by kernel_rfl) (by kernel_rfl) (fun _ _ _ h => h) (Or.inr ⟨by rfl, rfl⟩) hHeld ?_
    try simp only [Act.put, List.getElem_toArray, List.getElem_cons_succ, List.getElem_cons_zero, Array.getInternal_eq_getElem, List.setIfInBounds_toArray, List.set_cons_zero, List.set_cons_succ]
    refine wpAnyH_take (i := 12) (v := undef) rfl (by kernel_rfl) (by kernel_rfl) (by kernel_rfl) (fun _ _ _ h => h) (Or.inr ⟨by rfl, rfl⟩) hHeld ?_
    try simp only [Act.put, List.getElem_toArray, List.getElem_cons_succ, List.getElem_cons_zero, Array.getInternal_eq_getElem, List.setIfInBounds_toArray, List.set_cons_zero, List.set_cons_succ]
    refine wpAnyH_take (i := 13) (v := undef) rfl (by kernel_rfl) (by kernel_rfl) (by kernel_rfl) (fun _ _ _ h => h) (Or.inr ⟨by rfl, rfl⟩) hHeld ?_
    try simp only [Act.put, List.getElem_toArray, List.getElem_cons_succ, List.getElem_cons_zero, Array.getInternal_eq_getElem, List.setIfInBounds_toArray, List.set_cons_zero, List.set_cons_succ]
    refine wpAnyH_ready (rs := [11]) (by kernel_rfl) (by simp) ?_
    refine AllReadyH.cons rfl (fun K hK => ?_) (AllReadyH.nil)
    go_simp
    refine hK.out _ _ hHeld (fun hHeld => ?_)
    clear hK K
    try simp only [Act.put, List.getElem_toArray, List.getElem_cons_succ, List.getElem_cons_zero, Array.getInternal_eq_getElem, List.setIfInBounds_toArray, List.set_cons_zero, List.set_cons_succ]
    refine wpAnyH_take (i := 14) (v := undef) rfl (by kernel_rfl) (by kernel_rfl) (by kernel_rfl) (fun _ _ _ h => h) (Or.inr ⟨by rfl, rfl⟩) hHeld ?_
    try simp only [Act.put, List.getElem_toArray, List.getElem_cons_succ, List.getElem_cons_zero, Array.getInternal_eq_getElem, List.setIfInBounds_toArray, List.set_cons_zero, List.set_cons_succ]
    refine wpAnyH_take (i := 15) (v := ?_) rfl (by kernel_rfl) (by kernel_rfl) (by kernel_rfl) (fun _ _ _ h => h) (Or.inl ⟨by rfl, ?_⟩) hHeld ?_
    rotate_left
    · intro w hSw
      try dsimp only at hSw
      go_simp
      try with_reducible rfl
    try simp only [Act.put, List.getElem_toArray, List.getElem_cons_succ, List.getElem_cons_zero, Array.getInternal_eq_getElem, List.setIfInBounds_toArray, List.set_cons_zero, List.set_cons_succ]
    refine wpAnyH_ready (rs := [16]) (by kernel_rfl) (by simp) ?_
    refine AllReadyH.cons rfl (fun K hK => ?_) (AllReadyH.nil)
    go_simp
    refine hK.out _ _ (keep5 ⟨z0, z1, z2, z3, z4⟩) (fun hHeld => ?_)
    clear hK K
    try simp only [Act.put, List.getElem_toArray, List.getElem_cons_succ, List.getElem_cons_zero, Array.getInternal_eq_getElem, List.setIfInBounds_toArray, List.set_cons_zero, List.set_cons_succ]
    refine wpAnyH_take (i := 17) (v := ?_) rfl (by kernel_rfl) (by kernel_rfl) (by kernel_rfl) (fun _ _ _ h => h) (Or.inl ⟨by rfl, ?_⟩) hHeld ?_
    rotate_left
    · intro w hSw
      try dsimp only at hSw
      go_simp
      try with_reducible rfl
    try simp only [Act.put, List.getElem_toArray, List.getElem_cons_succ, List.getElem_cons_zero, Array.getInternal_eq_getElem, List.setIfInBounds_toArray, List.set_cons_zero, List.set_cons_succ]
    refine wpAnyH_done (by kernel_rfl) (NoPanic.normal ?_) _
    go_wp2
    have z := ((((HG1.out.2.set 0 (.int .u64 (x0 : Int))).set 1 (.int .u64 (x1 : Int))).set 2 (.int .u64 (x2 : Int))).set 3 (.int .u64 (x3 : Int))).set 4 (.int .u64 (x4 : Int))
    have HZ : Hid (Below w.heap.size w (((((v1.setCell ⟨w.heap.size, 0, none⟩ (.int .u64 (x0 : Int))).setCell ⟨w.heap.size, 1, none⟩ (.int .u64 (x1 : Int))).setCell ⟨w.heap.size, 2, none⟩ (.int .u64 (x2 : Int))).setCell ⟨w.heap.size, 3, none⟩ (.int .u64 (x3 : Int))).setCell ⟨w.heap.size, 4, none⟩ (.int .u64 (x4 : Int)))) := ((((HG1.out.1.setCell (p := ⟨w.heap.size, 0, none⟩) (Nat.le_refl _) _).setCell (p := ⟨w.heap.size, 1, none⟩) (Nat.le_refl _) _).setCell (p := ⟨w.heap.size, 2, none⟩) (Nat.le_refl _) _).setCell (p := ⟨w.heap.size, 3, none⟩) (Nat.le_refl _) _).setCell (p := ⟨w.heap.size, 4, none⟩) (Nat.le_refl _) _
    generalize (((((v1.setCell ⟨w.heap.size, 0, none⟩ (.int .u64 (x0 : Int))).setCell ⟨w.heap.size, 1, none⟩ (.int .u64 (x1 : Int))).setCell ⟨w.heap.size, 2, none⟩ (.int .u64 (x2 : Int))).setCell ⟨w.heap.size, 3, none⟩ (.int .u64 (x3 : Int))).setCell ⟨w.heap.size, 4, none⟩ (.int .u64 (x4 : Int))) = V9 at *
    have y0 : V9.cell? ⟨w.heap.size, 0, none⟩ = some (.int .u64 (x0 : Int)) := z.cell 0
    have y1 : V9.cell? ⟨w.heap.size, 1, none⟩ = some (.int .u64 (x1 : Int)) := z.cell 1
    have y2 : V9.cell? ⟨w.heap.size, 2, none⟩ = some (.int .u64 (x2 : Int)) := z.cell 2
    have y3 : V9.cell? ⟨w.heap.size, 3, none⟩ = some (.int .u64 (x3 : Int)) := z.cell 3
    have y4 : V9.cell? ⟨w.heap.size, 4, none⟩ = some (.int .u64 (x4 : Int)) := z.cell 4
    exact bodyPost_ret (v := .tuple #[fv ⟨x0, x1, x2, x3, x4⟩, .bool false]) (by simp [results, Tryz.results32, go_sem, fv, y0, y1, y2, y3, y4]) rfl ⟨⟨x0, x1, x2, x3, x4⟩, by rw [HR2.out], fun hh => absurd (HR2.out.symm.trans hh) (by simp), HZ.out⟩
end Go.Proofs.YtgegjcnjlibfdaaGreat
