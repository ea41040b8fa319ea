/- The contract of manifest's Parse: a range over the map of forms, whatever its order. -/
import Derived.Test.YtmlfbihlbiikeabGreatDoorQa22
import Derived.Test.YtmlfbihlbiikeabGreatDoorChecked
import Derived.Test.YtmlfbihlbiikeabGreatDoorQa06
import Derived.Test.YtmlfbihlbiikeabGreatDoorQa09
import Derived.Test.YtmlfbihlbiikeabGreatDoorQa01
import Derived.Test.YtmlfbihlbiikeabGreatDoorQa18
import Derived.Test.YtmlfbihlbiikeabGreatDoorQa16
import Derived.Lib.AppendZeros
import Derived.Handy
namespace Go.Proofs.YtmlfbihlbiikeabGreatDoor
open Go.Shelf Go.RowKit Go.Lib
set_option linter.unusedVariables false
set_option linter.unusedSimpArgs false
theorem rng_same {H : Type} {w w' : World} {P : Program} {k : TypeId} {R : Value → Option (DataW H × List MemPlace)} {b r n : Nat} {D : DataW H} {left : Lit → Bool} {cnt : Nat} (h : w.ranges P k R b r n D left cnt) (h1 : w'.heap[b]? = w.heap[b]?) (h2 : w'.heap[r]? = w.heap[r]?) : w'.ranges P k R b r n D left cnt := by
  obtain ⟨es, clock, since, seen, c0, a1, a2, a3, a4, a5, rest⟩ := h
  exact ⟨es, clock, since, seen, c0, h1.trans a1, a2, a3, a4, h2.trans a5, rest⟩
theorem rng_lt {H : Type} {w : World} {P : Program} {k : TypeId} {R : Value → Option (DataW H × List MemPlace)} {b r n : Nat} {D : DataW H} {left : Lit → Bool} {cnt : Nat} (h : w.ranges P k R b r n D left cnt) : b < w.heap.size ∧ r < w.heap.size := by
  obtain ⟨es, clock, since, seen, c0, a1, a2, a3, a4, a5, rest⟩ := h
  exact ⟨(Array.getElem?_eq_some_iff.1 a1).1, (Array.getElem?_eq_some_iff.1 a5).1⟩
theorem formD_has (q : Int) : Maps.has formD (litI q) = decide (1 ≤ q ∧ q ≤ 5) := by
  by_cases h1 : q = 1
  · subst h1; rfl
  by_cases h2 : q = 2
  · subst h2; rfl
  by_cases h3 : q = 3
  · subst h3; rfl
  by_cases h4 : q = 4
  · subst h4; rfl
  by_cases h5 : q = 5
  · subst h5; rfl
  rw [decide_eq_false (by omega)]
  unfold formD
  rw [Maps.has_eq]
  simp [Lit.sameKey, show ¬ (1 : Int) = q by omega, show ¬ (2 : Int) = q by omega, show ¬ (3 : Int) = q by omega, show ¬ (4 : Int) = q by omega, show ¬ (5 : Int) = q by omega]
theorem wpList_range_f {w : World} {ops : Array Oper} {rest : List Oper} {o : Oper} {a : Act} {Q : Exit → Act → World → Prop} (hg : o.guard = none) (x : Operand) (hop : o.op = Op.range TMf x) (b : Nat) (hm : a.eval x = .map (some b)) (hn : MpF w b)
    (hK : ∀ w', w'.ranges Tryz.prog TIm formE b w.heap.size 5 formD (Maps.has formD) 5 → Below w.heap.size w w' → w'.heap.size = w.heap.size + 1 → wpList Tryz.prog ops Q rest (a.put o.dst (.pointer (some ⟨w.heap.size, 0, none⟩))) w') :
    wpList Tryz.prog ops Q (o :: rest) a w := by
  refine wpList_range_own w hg x _ hop TIm TFm lawI Tryz.underlying105 formE b 5 formD hm hn ?_
  intro w' h1 h2 h3
  exact hK w' h1 ((Below.refl _ _).grown h2 (Nat.le_refl _) (fun k e => by cases e)) h3
theorem wpList_next_f {w : World} {ops : Array Oper} {rest : List Oper} {o : Oper} {a : Act} {Q : Exit → Act → World → Prop} (hg : o.guard = none) (it : Operand) (hop : o.op = Op.next it false) (b r : Nat) (left : Lit → Bool) (cnt : Nat)
    (hit : a.eval it = .pointer (some ⟨r, 0, none⟩)) (h : w.ranges Tryz.prog TIm formE b r 5 formD left cnt) (hl : ∀ q, left (litI q) = true → 1 ≤ q ∧ q ≤ 5)
    (hDone : (∀ kl, left kl = false) → wpList Tryz.prog ops Q rest (a.put o.dst (.tuple #[.bool false])) w)
    (hMore : ∀ (q : Int) (w' : World) (cnt' : Nat), 1 ≤ q ∧ q ≤ 5 → left (litI q) = true → w'.ranges Tryz.prog TIm formE b r 5 formD (fun z => left z && !z.sameKey (litI q)) cnt' → cnt' < cnt → w.grownBy w' (some r) → w'.heap.size = w.heap.size →
      (Instr.entry (.pointer (some ⟨r, 0, none⟩))).run Tryz.prog w' = .ok (.tuple #[.int .i64 q, fmV q]) w' → wpList Tryz.prog ops Q rest (a.put o.dst (.tuple #[.bool true, .int .i64 q, fmV q])) w') :
    wpList Tryz.prog ops Q (o :: rest) a w := by
  refine wpList_next_ranges w hg it hop TIm lawI formE (Value.int .i64) (fun c : ByteArray × ByteArray × Bool => .agg #[.string c.1, .string c.2.1, .bool c.2.2]) (fun key kl hk => by obtain ⟨x, hx, _⟩ := Maps.keyOf_int_inv Tryz.underlying3 hk; exact ⟨x, hx⟩)
    (fun v y hv => by obtain ⟨x, y, z, e, _⟩ := formE_inv hv; exact ⟨(x, y, z), e⟩) b r 5 formD left cnt hit h (fun _ h => hDone h) ?_
  intro x c kl y w' cnt' hkey hlk hv hat hrg hlt hgr hsz hen
  obtain ⟨x', ex, rfl, _⟩ := Maps.keyOf_int_inv Tryz.underlying3 hkey
  cases ex
  have h15 := hl x hlk
  have h2 := hat .nil
  have h3 := formD_at x .nil
  rw [if_pos h15] at h3
  obtain ⟨a1, a2, a3, e1, e2⟩ := formE_inv hv
  rw [e2] at h2
  have e3 : (.agg [.lit (.string a1.data.toList), .lit (.string a2.data.toList), .lit (.bool a3)] : DataW Unit) = fmD x := by rw [← h3]; exact h2.symm
  have e4 := fmD_inj e3
  rw [← e1] at e4
  have e4' : (.agg #[.string c.1, .string c.2.1, .bool c.2.2] : Value) = fmV x := e4
  simp only [e4'] at hen ⊢
  exact hMore x w' cnt' h15 hlk hrg hlt hgr hsz hen
def MissK (s : List UInt8) (q : Int) : Prop := (numK q → ∀ m, 1 ≤ m → m ≤ 1099511627776 → s ≠ nameP q m) ∧ (q = 4 → s ≠ curB) ∧ (q = 5 → s ≠ tmpB)
theorem miss_nil (q : Int) : MissK [] q := ⟨fun h m a b e => (name_ne h a b).1 e.symm, fun _ e => absurd e (by decide), fun _ e => absurd e (by decide)⟩
theorem miss_of {s : List UInt8} {q : Int} {n : Nat} (h : s ≠ nameP q n) (hm : ∀ m, numK q → 1 ≤ m → m ≤ 1099511627776 → s = nameP q m → n = m) : MissK s q := by
  refine ⟨fun hk m a b e => h ?_, fun e1 e2 => h ?_, fun e1 e2 => h ?_⟩
  · rw [hm m hk a b e]
    exact e
  · subst e1
    exact e2
  · subst e1
    exact e2
theorem names_hit {s : List UInt8} {q : Int} {n : Nat} (h0 : s ≠ []) (h : s = nameP q n) (hq : 1 ≤ q ∧ q ≤ 5) (hn : fmN q = false → n = 0) : Names s q n := by
  by_cases h4 : q = 4
  · subst h4
    have hs : s = curB := h
    have hn0 := hn rfl
    subst hs hn0
    exact ⟨fun _ => ⟨rfl, rfl⟩, fun e => absurd e (by decide), fun j m a b c e => absurd e.symm (name_ne a b c).2.1, fun e => absurd rfl e⟩
  by_cases h5 : q = 5
  · subst h5
    have hs : s = tmpB := h
    have hn0 := hn rfl
    subst hs hn0
    exact ⟨fun e => absurd e (by decide), fun _ => ⟨rfl, rfl⟩, fun j m a b c e => absurd e.symm (name_ne a b c).2.2, fun _ e => absurd rfl e⟩
  have hk : numK q := by
    unfold numK
    omega
  by_cases hm : n < 1 ∨ 1099511627776 < n
  · rw [nameP_out ⟨h4, h5⟩ hm] at h
    exact absurd h h0
  · have h1 : 1 ≤ n ∧ n ≤ 1099511627776 := by omega
    obtain ⟨_, hc, ht⟩ := name_ne hk h1.1 h1.2
    refine ⟨fun e => absurd (h.symm.trans e) hc, fun e => absurd (h.symm.trans e) ht, fun j m a b c e => ?_, fun _ _ e => absurd h (e q n hk h1.1 h1.2)⟩
    exact name_kind hk a h1.1 h1.2 b c (h.symm.trans e)
theorem names_miss {s : List UInt8} (h : ∀ q, 1 ≤ q ∧ q ≤ 5 → MissK s q) : Names s 0 0 := by
  refine ⟨fun e => absurd e ((h 4 (by omega)).2.1 rfl), fun e => absurd e ((h 5 (by omega)).2.2 rfl), fun j m a b c e => ?_, fun _ _ _ => ⟨rfl, rfl⟩⟩
  exact absurd e ((h j (by unfold numK at a; omega)).1 a m b c)
theorem names_parse {s : List UInt8} {q : Int} {n : Nat} (h : Names s q n) : q = (parseR s).1 ∧ n = (parseR s).2 := h.same (parseR_names s)
set_option maxRecDepth 100000 in
set_option maxHeartbeats 2000000 in
theorem parse_any (s : List UInt8) (hs : s.length ≤ 281474976710656) (w : World) (hg : Gl w) :
    Calls Tryz.prog 18 #[.string (strOf s)] w fun e w' => e = .returned (.tuple #[.int .i64 (parseR s).1, .int .u64 (((parseR s).2 : Nat) : Int)]) ∧ Below w.heap.size w w' := by
  have HG : Hid (Gl w) := hg
  have HNU := fun (k : Int) (W : World) (h : Gl W) => number_any k s hs W h
  have HNA := fun (k : Int) (hk : WfI k) (n : Nat) (hn : n < 18446744073709551616) (W : World) (h : Gl W) => name_any k hk n hn W h
  have HS : Hid ((strOf s).toList = s) := by
    show (strOf s).toList = s
    rw [ByteArray.toList_eq]
    simp [strOf]
  generalize strOf s = S at *
  clear hg
  go_enter Tryz.func18, Tryz.ntmps18
  go_wp2_with fail
  refine (forms_any _).mono ?_
  rintro _ w2 ⟨b, rfl, hF, hbb, hb2⟩
  have HB2 : Hid (w.heap.size ≤ b ∧ Below w.heap.size w w2) := ⟨hbb, hb2⟩
  clear hbb hb2
  go_wp2_with (first
    | (at_range; refine wpList_range_f rfl _ rfl b rfl hF ?_; intro w3 hrg3 hb3 hs3)
    | fail)
  go_frame
  obtain ⟨r, hr⟩ : ∃ r, r = w2.heap.size := ⟨_, rfl⟩
  rw [← hr] at hrg3
  have H3 : Hid (w3.ranges Tryz.prog TIm formE b r 5 formD (Maps.has formD) 5 ∧ Below w.heap.size w w3 ∧ w.heap.size ≤ r) := ⟨hrg3, HB2.out.2.trans (hb3.mono HB2.out.2.size), by rw [hr]; exact HB2.out.2.size⟩
  rw [← hr]
  clear hrg3 hb3 hs3 hF hr
  go_loopw [4] (fun _ wr => ∃ (left : Lit → Bool) (cnt : Nat), Hid (wr.ranges Tryz.prog TIm formE b r 5 formD left cnt ∧ Below w.heap.size w wr ∧ (∀ q, left (litI q) = true → 1 ≤ q ∧ q ≤ 5) ∧ ∀ q, 1 ≤ q ∧ q ≤ 5 → left (litI q) = false → MissK s q)) (fun _ wr => wr.rangeLeft b r)
  case atStart =>
    refine ⟨_, _, H3.out.1, H3.out.2.1, fun q h => ?_, fun q h1 h2 => ?_⟩
    · rw [formD_has] at h
      exact of_decide_eq_true h
    · rw [formD_has] at h2
      exact absurd h1 (of_decide_eq_false h2)
  case round =>
    obtain ⟨left, cnt, HR⟩ := hrel
    go_wp2_with (first
      | (at_next; refine wpList_next_f rfl _ rfl b r left cnt rfl HR.out.1 HR.out.2.2.1 ?_ ?_)
      | fail)
    · intro hl0
      go_wp2
      go_ret2
      obtain ⟨e1, e2⟩ := names_parse (names_miss (fun q hq => HR.out.2.2.2 q hq (hl0 _)))
      rw [← e1, ← e2]
      exact ⟨rfl, HR.out.2.1⟩
    · intro q w4 cnt4 hq1 hq2 hlq hrg4 hlt hg4 hsz4 hen
      have HQ : Hid ((1 ≤ q ∧ q ≤ 5) ∧ left (litI q) = true ∧ cnt4 < cnt) := ⟨⟨hq1, hq2⟩, hlq, hlt⟩
      have H4 : Hid (w4.ranges Tryz.prog TIm formE b r 5 formD (fun z => left z && !z.sameKey (litI q)) cnt4 ∧ Below w.heap.size w w4) := ⟨hrg4, HR.out.2.1.grown hg4 (HR.out.2.1.size) (fun k e => by cases e; exact H3.out.2.2)⟩
      have H5 : Hid (Below w.heap.size w (w4.alloc (.cells #[.string (strOf (fmA q)), .string (strOf (fmB q)), .bool (fmN q)] TFm))) := H4.out.2.alloc (H4.out.2.size) _
      have hen' := hen
      unfold fmV at hen'
      clear hq1 hq2 hlq hrg4 hlt hg4 hsz4 hen
      have HNU' := HNU q (w4.alloc (.cells #[.string (strOf (fmA q)), .string (strOf (fmB q)), .bool (fmN q)] TFm)) (HG.out.later H5.out)
      unfold fmV at HNU' ⊢
      go_wp2_with fail
      refine HNU'.mono ?_
      rintro _ w5 ⟨n, rfl, hn, hn0, hnm, hb5⟩
      have H6 : Hid (w5.ranges Tryz.prog TIm formE b r 5 formD (fun z => left z && !z.sameKey (litI q)) cnt4 ∧ Below w.heap.size w w5) := by
        have hlt := rng_lt H4.out.1
        have e : ∀ k, k < w4.heap.size → w5.heap[k]? = w4.heap[k]? := fun k hk => (hb5.block k (by simp; omega)).trans (Below.heap_alloc _ _ k hk)
        exact ⟨rng_same H4.out.1 (e _ hlt.1) (e _ hlt.2), H5.out.trans (hb5.mono H5.out.size)⟩
      have HN : Hid (n < 18446744073709551616 ∧ (fmN q = false → n = 0) ∧ ∀ m, numK q → 1 ≤ m → m ≤ 1099511627776 → s = nameP q m → n = m) := ⟨hn, hn0, hnm⟩
      have HWI : Hid (WfI q) := by
        have := HQ.out.1
        unfold Hid WfI
        omega
      have HREL : Hid (MissK s q → ∀ W, W.ranges Tryz.prog TIm formE b r 5 formD (fun z => left z && !z.sameKey (litI q)) cnt4 → Below w.heap.size w W → ∃ (left : Lit → Bool) (cnt : Nat), Hid (W.ranges Tryz.prog TIm formE b r 5 formD left cnt ∧ Below w.heap.size w W ∧ (∀ q, left (litI q) = true → 1 ≤ q ∧ q ≤ 5) ∧ ∀ q, 1 ≤ q ∧ q ≤ 5 → left (litI q) = false → MissK s q)) := fun hm W h1 h2 => by
        refine ⟨_, _, h1, h2, fun p hp => ?_, fun p hp hf => ?_⟩
        · simp only [Bool.and_eq_true] at hp
          exact HR.out.2.2.1 p hp.1
        · by_cases e : q = p
          · subst e
            exact hm
          · refine HR.out.2.2.2 p hp ?_
            have : (Lit.sameKey (litI p) (litI q)) = false := by
              simp [Lit.sameKey]
              omega
            simp only [this, Bool.not_false, Bool.and_true] at hf
            exact hf
      clear hn hn0 hnm hb5 hen' HNU'
      by_cases h0 : s = []
      · have hs0 : (S.toList == []) = true := by rw [HS.out, h0]; rfl
        have HS0 : Hid (s = []) := h0
        clear h0
        go_wp2
        go_roundw
        case rel => exact HREL.out (by rw [HS0.out]; exact miss_nil q) w5 H6.out.1 H6.out.2
        case measure =>
          rw [H6.out.1.left_eq, HR.out.1.left_eq]
          exact HQ.out.2.2
      · have hs0 : (S.toList == []) = false := by
          rw [HS.out]
          cases s with
          | nil => exact absurd rfl h0
          | cons x t => rfl
        have HS0 : Hid (s ≠ []) := h0
        clear h0
        have HNA' := HNA q HWI.out n HN.out.1 w5 (HG.out.later H6.out.2)
        go_wp2_with fail
        refine HNA'.mono ?_
        rintro _ w6 ⟨rfl, hb6⟩
        have H7 : Hid (w6.ranges Tryz.prog TIm formE b r 5 formD (fun z => left z && !z.sameKey (litI q)) cnt4 ∧ Below w.heap.size w w6) := by
          have hlt := rng_lt H6.out.1
          exact ⟨rng_same H6.out.1 (hb6.block _ hlt.1) (hb6.block _ hlt.2), H6.out.2.trans (hb6.mono H6.out.2.size)⟩
        have HX : Hid ((strOf (nameP q n)).toList = nameP q n) := by
          show (strOf (nameP q n)).toList = _
          rw [ByteArray.toList_eq]
          simp [strOf]
        clear hb6 HNA'
        by_cases he : s = nameP q n
        · have hb : (S.toList == (strOf (nameP q n)).toList) = true := by rw [HS.out, HX.out, he]; simp
          have HE : Hid (s = nameP q n) := he
          clear he
          generalize strOf (nameP q n) = X at *
          go_wp2
          go_ret2
          obtain ⟨e1, e2⟩ := names_parse (names_hit HS0.out HE.out HQ.out.1 HN.out.2.1)
          rw [← e1, ← e2]
          exact ⟨rfl, H7.out.2⟩
        · have hb : (S.toList == (strOf (nameP q n)).toList) = false := by rw [HS.out, HX.out]; exact beq_eq_false_iff_ne.2 he
          have HE : Hid (MissK s q) := miss_of he HN.out.2.2
          clear he
          generalize strOf (nameP q n) = X at *
          go_wp2
          go_roundw
          case rel => exact HREL.out HE.out w6 H7.out.1 H7.out.2
          case measure =>
            rw [H7.out.1.left_eq, HR.out.1.left_eq]
            exact HQ.out.2.2
end Go.Proofs.YtmlfbihlbiikeabGreatDoor
namespace Go.Proofs.YtmlfbihlbiikeabGreatDoor
open Go.RowKit
theorem and1_32 (x : Nat) (h : x < 4294967296) : bits .and .u32 (x : Int) 1 = ((x % 2 : Nat) : Int) := by
  have := nbits_and32 x 1 h (by omega)
  rw [Nat.and_one_is_mod] at this
  exact this
set_option maxRecDepth 100000 in
set_option maxHeartbeats 400000 in
theorem fill_any (k g : Nat) (w : World) (hk : k < 16) (v : Value) (hc : w.cell? ⟨g, k, none⟩ = some v) (hf : w.frozen? ⟨g, k, none⟩ = false) :
    Calls Tryz.prog 157 #[.int .i64 (k : Int), .pointer (some ⟨g, 0, none⟩)] w fun e w' => e = .returned (.tuple #[]) ∧ w' = w.setCell ⟨g, k, none⟩ (.int .u32 (nib k : Nat)) := by
  go_enter Tryz.func157, Tryz.ntmps157
  go_wp2
  go_loop [3, 7] (fun s i => ∃ j x : Nat, j ≤ 4 ∧ x < 4294967296 ∧ i = .int .i64 j ∧ s = .int .u32 x ∧ Hid (x = s1it j k)) (fun _ i => 4 - (intOf i).toNat)
  case atStart => exact ⟨0, k, by omega, by omega, rfl, by go_num, rfl⟩
  case round =>
    obtain ⟨j, x, hj, hx, rfl, rfl, HR⟩ := hrel
    have hb := and1_32 x hx
    by_cases hlt : j < 4
    · have hb := and1_32 x hx
      by_cases hodd : x % 2 = 1
      · have hb1 : bits .and .u32 (x : Int) 1 = 1 := by rw [hb, hodd]; rfl
        have HX : Hid (bits .xor .u32 ((x : Int) / 2) 2197175160 = ((s1 x : Nat) : Int)) := by
          have := nbits_xor32 (x / 2) 2197175160 (by omega) (by omega)
          unfold Hid s1
          rw [if_pos hodd, ← this]
          rfl
        have HX2 : Hid (s1 x < 4294967296) := s1_lt hx
        clear hb hodd
        go_wp2
        go_round
        case rel => exact ⟨j + 1, s1 x, by omega, HX2.out, by go_num, congrArg (Value.int .u32) HX.out, by rw [HR.out]; rfl⟩
        case measure => simp [intOf]; omega
      · have hb1 : bits .and .u32 (x : Int) 1 = 0 := by rw [hb, show x % 2 = 0 by omega]; rfl
        have HX : Hid (((x : Int) / 2) = ((s1 x : Nat) : Int)) := by
          unfold Hid s1
          rw [if_neg hodd]
          rfl
        have HX2 : Hid (s1 x < 4294967296) := s1_lt hx
        clear hb hodd
        go_wp2
        go_round
        case rel => exact ⟨j + 1, s1 x, by omega, HX2.out, by go_num, congrArg (Value.int .u32) HX.out, by rw [HR.out]; rfl⟩
        case measure => simp [intOf]; omega
    · obtain rfl : j = 4 := by omega
      clear hb
      go_wp2
      go_end0
      exact ⟨rfl, by rw [HR.out]; rfl⟩

def tabZ : Array Value := #[Value.int .u32 0, Value.int .u32 0, Value.int .u32 0, Value.int .u32 0, Value.int .u32 0, Value.int .u32 0, Value.int .u32 0, Value.int .u32 0, Value.int .u32 0, Value.int .u32 0, Value.int .u32 0, Value.int .u32 0, Value.int .u32 0, Value.int .u32 0, Value.int .u32 0, Value.int .u32 0]
def tabA : Nat → Array Value
  | 0 => tabZ
  | k + 1 => (tabA k).setIfInBounds k (.int .u32 (nib k : Nat))
def tabN : Array Value := #[Value.int .u32 (nib 0 : Nat), Value.int .u32 (nib 1 : Nat), Value.int .u32 (nib 2 : Nat), Value.int .u32 (nib 3 : Nat), Value.int .u32 (nib 4 : Nat), Value.int .u32 (nib 5 : Nat), Value.int .u32 (nib 6 : Nat), Value.int .u32 (nib 7 : Nat), Value.int .u32 (nib 8 : Nat), Value.int .u32 (nib 9 : Nat), Value.int .u32 (nib 10 : Nat), Value.int .u32 (nib 11 : Nat), Value.int .u32 (nib 12 : Nat), Value.int .u32 (nib 13 : Nat), Value.int .u32 (nib 14 : Nat), Value.int .u32 (nib 15 : Nat)]
theorem tabA_16 : tabA 16 = tabN := rfl
theorem tabA_size : ∀ k, (tabA k).size = 16
  | 0 => rfl
  | k + 1 => by simp [tabA, tabA_size k]

theorem tab_cell (w : World) (k : Nat) (hk : k < 16) : ∃ v, ((w.alloc (.cells tabZ 193)).alloc (.cells (tabA k) 193)).cell? ⟨w.heap.size + 1, k, none⟩ = some v :=
  ⟨(tabA k)[k]'(by rw [tabA_size]; exact hk), by simp [tabA_size, hk]⟩

set_option maxRecDepth 100000 in
set_option maxHeartbeats 400000 in
theorem sumTable_any (w : World) :
    Calls Tryz.prog 130 #[] w fun e w' => e = .returned (.agg tabN) ∧ Below w.heap.size w w' := by
  go_enter Tryz.func130, Tryz.ntmps130
  go_wp2
  go_loopw [5] (fun i wr => ∃ k : Nat, k ≤ 16 ∧ i = .int .i64 k ∧ Hid (wr = (w.alloc (.cells tabZ 193)).alloc (.cells (tabA k) 193))) (fun i _ => 16 - (intOf i).toNat)
  case atStart => exact ⟨0, by omega, rfl, rfl⟩
  case round =>
    obtain ⟨k, hk, rfl, HW⟩ := hrel
    have hw := HW.out
    subst hw
    clear HW
    by_cases hlt : k < 16
    · obtain ⟨v, hv⟩ := tab_cell w k hlt
      have HV : Hid _ := hv
      clear hv
      go_wp2_with (go_at_call 157; refine (fill_any k (w.heap.size + 1) _ hlt v HV.out (by simp [go_sem])).mono ?_; rintro e w1 ⟨rfl, rfl⟩)
      go_roundw
      case rel => exact ⟨k + 1, by omega, by go_num, rfl⟩
      case measure => simp [intOf]; omega
    · obtain rfl : k = 16 := by omega
      rw [tabA_16]
      unfold tabN tabZ
      go_wp2
      exact bodyPost_ret (v := .agg tabN) (by simp [results, Tryz.results130, go_sem, tabN]) rfl ⟨rfl, ((Below.refl _ _).alloc (Nat.le_refl _) _).alloc (by simp) _⟩
end Go.Proofs.YtmlfbihlbiikeabGreatDoor
namespace Go.Proofs.YtmlfbihlbiikeabGreatDoor
open Go.RowKit
theorem and15_32 (x : Nat) (h : x < 4294967296) : bits .and .u32 (x : Int) 15 = ((x % 16 : Nat) : Int) := by
  have := nbits_and32 x 15 h (by omega)
  rw [show 15 = 2 ^ 4 - 1 from rfl, Nat.and_two_pow_sub_one_eq_mod] at this
  exact this
theorem compl32 (x : Nat) (h : x < 4294967296) : bits .xor .u32 IntKind.u32.max (x : Int) = ((4294967295 ^^^ x : Nat) : Int) := nbits_xor32 4294967295 x (by omega) h
theorem half_step (y : Nat) (hy : y < 4294967296) : ∃ m z : Nat, m < 16 ∧ z < 4294967296 ∧ bits .and .u32 (y : Int) 15 = (m : Int) ∧ bits .xor .u32 ((y : Int) / 16) ((nib m : Nat) : Int) = (z : Int) ∧ Hid (z = crcHalf y) :=
  ⟨y % 16, crcHalf y, by omega, crcHalf_lt hy, and15_32 y hy, nbits_xor32 (y / 16) (nib (y % 16)) (by omega) (nib_lt _ (by omega)), rfl⟩
theorem tabN_cell (w : World) (j : Nat) (hj : j < 16) : (w.alloc (.cells tabN 193)).cell? ⟨w.heap.size, j, none⟩ = some (.int .u32 (nib j : Nat)) := by
  have : ∀ j, j < 16 → tabN[j]? = some (.int .u32 (nib j : Nat)) := by
    intro j hj
    have : j = 0 ∨ j = 1 ∨ j = 2 ∨ j = 3 ∨ j = 4 ∨ j = 5 ∨ j = 6 ∨ j = 7 ∨ j = 8 ∨ j = 9 ∨ j = 10 ∨ j = 11 ∨ j = 12 ∨ j = 13 ∨ j = 14 ∨ j = 15 := by omega
    rcases this with rfl | rfl | rfl | rfl | rfl | rfl | rfl | rfl | rfl | rfl | rfl | rfl | rfl | rfl | rfl | rfl <;> rfl
  rw [← this j hj]
  simp [go_sem]
set_option maxRecDepth 100000 in
set_option maxHeartbeats 400000 in
theorem crc_any (a : Option Addr) (len cap : Nat) (bs : List UInt8) (w : World) (h : BsAt w a len cap bs) :
    Calls Tryz.prog 103 #[.slice a len cap] w fun e w' => e = .returned (.int .u32 (crc bs : Nat)) ∧ Below w.heap.size w w' := by
  have hcap := h.max
  have hle := h.le
  have hlen := h.size
  unfold maxLen at hcap
  go_enter Tryz.func103, Tryz.ntmps103
  go_wp2_with (go_at_call 130; refine (sumTable_any _).mono ?_; rintro e w1 ⟨rfl, hb1⟩; unfold tabN)
  have hsz := hb1.size
  go_loopw [4, 10] (fun s i wr => ∃ k x : Nat, k ≤ len ∧ x < 4294967296 ∧ i = .int .i64 k ∧ s = .int .u32 x ∧ Hid (x = crcGo 4294967295 (bs.take k)) ∧
      Hid (∀ j, j < 16 → wr.cell? ⟨w1.heap.size, j, none⟩ = some (.int .u32 (nib j : Nat))) ∧ Hid (BsAt wr a len cap bs) ∧ Hid (Below w.heap.size w wr)) (fun _ i _ => len - (intOf i).toNat)
  case atStart => exact ⟨0, 4294967295, Nat.zero_le _, by omega, rfl, rfl, by simp [Hid, crcGo], fun j hj => tabN_cell w1 j hj, (h.below (Nat.le_refl _) hb1).alloc _, hb1.alloc hsz _⟩
  case round =>
    obtain ⟨k, x, hk, hx, rfl, rfl, HR, HT, HA, HB⟩ := hrel
    clear h
    by_cases hlt : k < len
    · obtain ⟨b, off, rfl, hc⟩ := HA.out.here (by omega)
      have hck := hc k hlt
      have hc8 : (bs.getD k 0).toNat < 256 := UInt8.toNat_lt _
      have HS : Hid (crcGo 4294967295 (bs.take (k + 1)) = crcByte x (bs.getD k 0).toNat) := by rw [HR.out]; exact crcGo_take _ bs k (by omega)
      generalize hcd : (bs.getD k 0).toNat = c at hck hc8 HS
      clear hc hcd hlen
      obtain ⟨y, hy, hy1, HY⟩ : ∃ y : Nat, y < 4294967296 ∧ bits .xor .u32 (x : Int) (c : Int) = (y : Int) ∧ Hid (y = x ^^^ c) := ⟨x ^^^ c, xor32 hx (by omega), nbits_xor32 x c hx (by omega), rfl⟩
      obtain ⟨m1, z1, hm1, hz1, e1, e2, H1⟩ := half_step y hy
      obtain ⟨m2, z2, hm2, hz2, e3, e4, H2⟩ := half_step z1 hz1
      have t1 := HT.out m1 hm1
      have t2 := HT.out m2 hm2
      go_wp2
      go_roundw
      case rel => exact ⟨k + 1, z2, by omega, hz2, by go_num, rfl, by rw [HS.out, H2.out, H1.out, HY.out]; rfl, HT.out, HA.out, HB.out⟩
      case measure => simp [intOf]; omega
    · obtain rfl : k = len := by omega
      go_wp2
      go_ret
      have e : x = crcGo 4294967295 bs := by rw [HR.out, List.take_of_length_le (by omega)]
      exact ⟨ret1 (congrArg (Value.int .u32) (by rw [compl32 x hx, e]; rfl)), HB.out⟩
end Go.Proofs.YtmlfbihlbiikeabGreatDoor
namespace Go.Proofs.YtmlfbihlbiikeabGreatDoor
open Go.RowKit

set_option maxHeartbeats 400000 in
theorem mask_any (n : Nat) (w : World) (h : n < 4294967296) :
    Calls Tryz.prog 102 #[.int .u32 (n : Int)] w fun e w' => e = .returned (.int .u32 (maskN n : Nat)) ∧ w' = w := by
  have HX : Hid (bits .or .u32 ((n : Int) / 32768) ((n : Int) * 131072 % 4294967296) = ((n / 32768 + n % 32768 * 131072 : Nat) : Int)) := by
    have := nbits_or32 (n / 32768) (n * 131072 % 4294967296) (by omega) (Nat.mod_lt _ (by omega))
    rw [mask_or n h] at this
    exact this
  go_enter Tryz.func102, Tryz.ntmps102
  go_wp2
  go_ret
  exact ⟨ret1 (congrArg (Value.int .u32) (by rw [HX.out]; unfold maskN; omega)), rfl⟩
end Go.Proofs.YtmlfbihlbiikeabGreatDoor
namespace Go.Proofs.YtmlfbihlbiikeabGreatDoor
open Go.RowKit
theorem fixed_eq {a : Option Addr} {len cap : Nat} {bs : List UInt8} {size : Int} {w : World} (h : BsAt w a len cap bs) {n er : Nat} (hr : fxRead bs size = (n, er)) :
    Calls Tryz.prog 131 #[.slice a len cap, .int .i64 size] w fun e w' => e = .returned (.tuple #[.int .u64 (n : Nat), .int .i64 (er : Nat)]) ∧ w' = w := by
  have := fixed_any a len cap bs size w h
  rw [hr] at this
  exact this
end Go.Proofs.YtmlfbihlbiikeabGreatDoor
namespace Go.Proofs.YtmlfbihlbiikeabGreatDoor
open Go.RowKit

theorem crc_lt (bs : List UInt8) : crc bs < 4294967296 := xor32 (by omega) (crcGo_lt bs (by omega))
theorem sumN_lt (k : UInt8) (b : List UInt8) : sumN k b < 4294967296 := maskN_lt _
theorem OwnB.oneLit (w : World) (x : Int) (k : UInt8) (hx : x = (k.toNat : Int)) (B : Nat) (hB : B ≤ w.heap.size) : OwnB (w.alloc (.cells #[.int .u8 x] 5)) B (some ⟨w.heap.size, 0, none⟩) 1 1 [k] := by
  subst hx
  exact ⟨rfl, by simp [cellsB], .inr ⟨w.heap.size, 1, _, rfl, hB, heap_alloc_new w _, Nat.le_refl _, by unfold maxLen; omega, rfl, by simp [cellsB]⟩⟩
theorem wpList_zeros (w : World) {ops : Array Oper} {rest : List Oper} {o : Oper} {a : Act} {Q : Exit → Act → World → Prop} (hgd : o.guard = none) (s x : Operand)
    (ho : o.op = .call { callee := .builtin .append, args := #[s, x], argTypes := #[40, 3] })
    (B n : Nat) (hs : a.eval s = .slice none 0 0) (hx : a.eval x = .int .i64 (n : Int)) (h0 : 0 < n) (hl : n ≤ 4096) (hB : B ≤ w.heap.size)
    (h : ∀ a' c' w', OwnB w' B a' n c' (List.replicate n 0) → Below w.heap.size w w' → wpList Tryz.prog ops Q rest (a.put o.dst (.slice a' n c')) w') :
    wpList Tryz.prog ops Q (o :: rest) a w := by
  obtain ⟨i, hi, hz0, hz1, hz2⟩ := info_parts infoU8
  have hge := grownCap_ge w n 0 5
  have hr := Lib.run_append_nil_zeros (P := Tryz.prog) w 40 3 o.type 5 i (.int .u8 0) .i64 .i64 Tryz.underlying40 Tryz.underlying3 hi hz0 n h0 (by rw [hz1]; omega) (by omega) (by rw [hz2]; omega)
  refine Lib.wpList_append_run w hgd s x _ _ ho _ _ hs hx _ _ hr (h _ _ _ ⟨by simp, by simp [cellsB], .inr ⟨w.heap.size, _, _, rfl, hB, heap_alloc_new w.drew _, hge, grownCap_le_maxLen w n 0 _ (by unfold maxLen; omega), ?_, ?_⟩⟩ (((Below.refl _ w).drew).alloc (Nat.le_refl _) _))
  · simp [size_zeroCells, Value.cells]
    omega
  · simp [Builtin.zeroCells, Value.cells, cellsB, Nat.mod_one, List.map_const']

set_option maxHeartbeats 400000 in
theorem left_any (p : Nat) (w : World) (hp : p ≤ 9223372036854775807) : Calls Tryz.prog 35 #[.int .i64 (p : Int)] w fun e w' => e = .returned (.int .i64 (leftN p : Nat)) ∧ w' = w := by
  go_enter Tryz.func35, Tryz.ntmps35
  go_wp2
  go_ret
  exact ⟨ret1 (congrArg (Value.int .i64) (by unfold leftN; omega)), rfl⟩
set_option maxHeartbeats 400000 in
theorem kindOf_any (f l : Bool) (w : World) : Calls Tryz.prog 37 #[.bool f, .bool l] w fun e w' => e = .returned (.int .u8 ((kindN f l).toNat : Nat)) ∧ w' = w := by
  cases f <;> cases l
  all_goals
    go_enter Tryz.func37, Tryz.ntmps37
    go_wp2
    go_ret
    exact ⟨rfl, rfl⟩
set_option maxRecDepth 100000 in
set_option maxHeartbeats 400000 in
theorem sumOf_any (k : UInt8) (a : Option Addr) (len cap : Nat) (b : List UInt8) (w : World) (h : BsAt w a len cap b) (hl : len ≤ 140737488355000) :
    Calls Tryz.prog 73 #[.int .u8 (k.toNat : Int), .slice a len cap] w fun e w' => e = .returned (.int .u64 (sumN k b : Nat)) ∧ Below w.heap.size w w' := by
  have hcl := crc_lt (k :: b)
  have HL : Hid (crc (k :: b) < 4294967296) := hcl
  have HS : Hid (sumN k b < 4294967296) := sumN_lt k b
  clear hcl
  go_enter Tryz.func73, Tryz.ntmps73
  go_wp2_with (first
    | (at_builtin; refine wpList_app _ rfl _ _ rfl w.heap.size _ 1 1 [k] rfl (OwnB.oneLit w _ k rfl _ (Nat.le_refl _)) _ _ _ b rfl (h.alloc _) (by omega) (by simp) ?_))
  intro a1 c1 w1 ho1 hb1 _
  have HB1 : Hid (Below w.heap.size w w1) := ((Below.refl _ _).alloc (Nat.le_refl _) _).trans hb1
  have HO1 : Hid (BsAt w1 a1 (1 + len) c1 (k :: b)) := ho1.bs
  clear hb1 ho1
  go_wp2_with (go_at_call 103; refine (crc_any _ _ _ (k :: b) _ HO1.out).mono ?_; rintro e w2 ⟨rfl, hb2⟩)
  have HB2 : Hid (Below w.heap.size w w2) := HB1.out.trans (hb2.mono HB1.out.size)
  clear hb2
  go_wp2_with (go_at_call 102; refine (mask_any _ _ HL.out).mono ?_; rintro e w3 ⟨rfl, rfl⟩)
  have hs := HS.out
  unfold sumN at hs
  go_wp2
  go_ret
  exact ⟨ret1 (congrArg (Value.int .u64) (by unfold sumN; simp [IntKind.wrap, IntKind.bits, IntKind.signed]; omega)), HB2.out⟩
theorem fx4 (n : Nat) : fxPut n 4 = fxEnc n 4 := by unfold fxPut; rw [if_neg (by omega)]; rfl
theorem fx2 (n : Nat) : fxPut n 2 = fxEnc n 2 := by unfold fxPut; rw [if_neg (by omega)]; rfl
theorem putFx4 (n : Nat) (w : World) (hn : n < 18446744073709551616) :
    Calls Tryz.prog 72 #[.slice none 0 0, .int .u64 (n : Int), .int .i64 4] w fun e w' => ∃ a' c', e = .returned (.slice a' 4 c') ∧ OwnB w' w.heap.size a' 4 c' (fxEnc n 4) ∧ Below w.heap.size w w' := by
  refine (putFixed_any none 0 0 [] n 4 w (BsAt.nil w) hn (by omega)).mono ?_
  rintro e w' ⟨a', c', rfl, ho, hb⟩
  rw [fx4, fxEnc_length, Nat.zero_add] at ho ⊢
  exact ⟨a', c', rfl, ho, hb⟩
theorem putFx2 (n : Nat) (w : World) (hn : n < 18446744073709551616) :
    Calls Tryz.prog 72 #[.slice none 0 0, .int .u64 (n : Int), .int .i64 2] w fun e w' => ∃ a' c', e = .returned (.slice a' 2 c') ∧ OwnB w' w.heap.size a' 2 c' (fxEnc n 2) ∧ Below w.heap.size w w' := by
  refine (putFixed_any none 0 0 [] n 2 w (BsAt.nil w) hn (by omega)).mono ?_
  rintro e w' ⟨a', c', rfl, ho, hb⟩
  rw [fx2, fxEnc_length, Nat.zero_add] at ho ⊢
  exact ⟨a', c', rfl, ho, hb⟩
set_option maxRecDepth 100000 in
set_option maxHeartbeats 400000 in
theorem pieceBytes_any (k : UInt8) (a : Option Addr) (len cap : Nat) (b : List UInt8) (w : World) (h : BsAt w a len cap b) (hl : len ≤ 140737488355000) :
    Calls Tryz.prog 36 #[.int .u8 (k.toNat : Int), .slice a len cap] w fun e w' => ∃ a' c', e = .returned (.slice a' (7 + len) c') ∧ OwnB w' w.heap.size a' (7 + len) c' (pcEnc k b) ∧ Below w.heap.size w w' := by
  have hs := sumN_lt k b
  have hsz := h.size
  have HS : Hid (sumN k b < 18446744073709551616) := by unfold Hid; omega
  have HZ : Hid (b.length = len) := hsz
  clear hs hsz
  go_enter Tryz.func36, Tryz.ntmps36
  go_wp2_with (go_at_call 73; refine (sumOf_any k _ _ _ b _ h hl).mono ?_; rintro e w1 ⟨rfl, hb1⟩)
  have HB1 : Hid (Below w.heap.size w w1) := hb1
  clear hb1
  go_wp2_with fail
  refine (putFx4 (sumN k b) _ HS.out).mono ?_
  rintro e w2 ⟨a2, c2, rfl, ho2, hb2⟩
  have HO2 : Hid (OwnB w2 w.heap.size a2 4 c2 (fxEnc (sumN k b) 4)) := ho2.mono HB1.out.size
  have HB2 : Hid (Below w.heap.size w w2) := HB1.out.trans (hb2.mono HB1.out.size)
  clear ho2 hb2
  go_wp2_with fail
  refine (putFx2 len _ (by omega)).mono ?_
  rintro e w3 ⟨a3, c3, rfl, ho3, hb3⟩
  have HO3 : Hid (OwnB w3 w.heap.size a2 4 c2 (fxEnc (sumN k b) 4)) := HO2.out.below hb3
  have HS3 : Hid (BsAt w3 a3 2 c3 (fxEnc len 2)) := ho3.bs
  have HB3 : Hid (Below w.heap.size w w3) := HB2.out.trans (hb3.mono HB2.out.size)
  clear ho3 hb3
  go_wp2_with (first
    | (at_builtin; refine wpList_app _ rfl _ _ rfl w.heap.size _ _ _ (fxEnc (sumN k b) 4) rfl HO3.out _ _ _ (fxEnc len 2) rfl HS3.out (by omega) HB3.out.size ?_))
  intro a4 c4 w4 ho4 hb4 _
  have HO4 : Hid (OwnB w4 w.heap.size a4 (4 + 2) c4 (fxEnc (sumN k b) 4 ++ fxEnc len 2)) := ho4
  have HB4 : Hid (Below w.heap.size w w4) := HB3.out.trans hb4
  clear ho4 hb4
  go_wp2_with (first
    | (at_builtin; refine wpList_app _ rfl _ _ rfl w.heap.size _ _ _ (fxEnc (sumN k b) 4 ++ fxEnc len 2) rfl (HO4.out.alloc _) _ _ _ [k] rfl (BsAt.one rfl) (by omega) (by have := HB4.out.size; simp; omega) ?_))
  intro a5 c5 w5 ho5 hb5 _
  have HO5 : Hid (OwnB w5 w.heap.size a5 (4 + 2 + 1) c5 (fxEnc (sumN k b) 4 ++ fxEnc len 2 ++ [k])) := ho5
  have HB5 : Hid (Below w.heap.size w w5) := (HB4.out.alloc HB4.out.size _).trans hb5
  clear ho5 hb5
  go_wp2_with (first
    | (at_builtin; refine wpList_app _ rfl _ _ rfl w.heap.size _ _ _ (fxEnc (sumN k b) 4 ++ fxEnc len 2 ++ [k]) rfl HO5.out _ _ _ b rfl (h.below (Nat.le_refl _) HB5.out) (by omega) HB5.out.size ?_))
  intro a6 c6 w6 ho6 hb6 _
  go_wp2
  go_ret
  refine ⟨a6, c6, ret1 rfl, ?_, HB5.out.trans hb6⟩
  unfold pcEnc
  rw [HZ.out]
  simpa using ho6
end Go.Proofs.YtmlfbihlbiikeabGreatDoor
