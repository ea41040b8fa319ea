/- The contract of manifest's form.number: what digits a name has, by the library's ParseUint. -/
import Derived.Test.YtmlfbihlbiikeaaGreatDoorQa02
import Derived.Test.YtmlfbihlbiikeaaGreatDoorChecked
import Derived.Test.YtmlfbihlbiikeaaGreatDoorQa01
import Derived.Test.YtmlfbihlbiikeaaGreatDoorQa08
namespace Go.Proofs.YtmlfbihlbiikeaaGreatDoor
open Go.Shelf Go.RowKit Go.Lib
set_option linter.unusedVariables false
set_option linter.unusedSimpArgs false
theorem pum_dec : ∀ (l : List UInt8) (acc : Nat), (∀ b ∈ l, isD b = true) → l.foldl (fun n b => n * 10 + (b.toNat - 48)) acc ≤ 1099511627776 → Lib.parseUintM (2 ^ 64 - 1) acc l = .ok (l.foldl (fun n b => n * 10 + (b.toNat - 48)) acc)
  | [], acc, _, _ => rfl
  | c :: r, acc, h, hm => by
    have hc := h c (by simp)
    unfold isD at hc
    simp only [Bool.and_eq_true, decide_eq_true_eq] at hc
    have hge : ∀ (r : List UInt8) (a : Nat), a ≤ r.foldl (fun n b => n * 10 + (b.toNat - 48)) a := fun r => by
      induction r with
      | nil => exact fun a => Nat.le_refl _
      | cons x r ih => exact fun a => Nat.le_trans (by omega) (ih (a * 10 + (x.toNat - 48)))
    have h1 := hge r (acc * 10 + (c.toNat - 48))
    rw [List.foldl_cons] at hm ⊢
    unfold Lib.parseUintM
    rw [if_pos hc, if_neg (by omega), if_neg (by omega)]
    exact pum_dec r _ (fun b hb => h b (by simp [hb])) hm
theorem numB_ne (n : Nat) : numB n ≠ [] := fun e => by
  have := congrArg List.length e
  unfold numB pad6 at this
  rw [List.length_append, List.length_replicate, List.length_nil] at this
  omega
theorem pub_num {n : Nat} (h : n ≤ 1099511627776) : Lib.parseUintB 64 (numB n) = .ok n := by
  unfold Lib.parseUintB
  rw [if_neg (numB_ne n)]
  have hv := valN_numB n
  unfold valN at hv
  have := pum_dec (numB n) 0 (numB_all n) (by rw [hv]; exact h)
  rw [hv] at this
  exact this
def coreN (k : Int) (s : List UInt8) : List UInt8 := Lib.trimSuffix (Lib.trimPrefix s (fmA k)) (fmB k)
theorem trimP_app (a l : List UInt8) : Lib.trimPrefix (a ++ l) a = l := by
  unfold Lib.trimPrefix Lib.hasPrefix
  rw [if_pos (List.isPrefixOf_iff_prefix.2 (List.prefix_append a l)), List.drop_left' rfl]
theorem trimS_app (l b : List UInt8) : Lib.trimSuffix (l ++ b) b = l := by
  unfold Lib.trimSuffix Lib.hasSuffix
  rw [if_pos (List.isSuffixOf_iff_suffix.2 (List.suffix_append l b)), List.length_append, Nat.add_sub_cancel, List.take_left' rfl]
theorem core_name {k : Int} (hk : numK k) {m : Nat} (h1 : 1 ≤ m) (h2 : m ≤ 1099511627776) : coreN k (nameP k m) = numB m := by
  rcases hk with rfl | rfl | rfl
  · rw [nameP_log h1 h2]
    show Lib.trimSuffix (Lib.trimPrefix ([] ++ (numB m ++ logB)) []) logB = _
    rw [trimP_app, trimS_app]
  · rw [nameP_tab h1 h2]
    show Lib.trimSuffix (Lib.trimPrefix ([] ++ (numB m ++ tabB)) []) tabB = _
    rw [trimP_app, trimS_app]
  · rw [nameP_man h1 h2]
    show Lib.trimSuffix (Lib.trimPrefix (manB ++ numB m) manB) [] = _
    rw [trimP_app]
    have := trimS_app (numB m) []
    rw [List.append_nil] at this
    exact this
theorem trimP_le (s a : List UInt8) : (Lib.trimPrefix s a).length ≤ s.length := by
  unfold Lib.trimPrefix
  split
  · rw [List.length_drop]; omega
  · exact Nat.le_refl _
theorem trimS_le (s a : List UInt8) : (Lib.trimSuffix s a).length ≤ s.length := by
  unfold Lib.trimSuffix
  split
  · rw [List.length_take]; omega
  · exact Nat.le_refl _
theorem pum_le (M : Nat) : ∀ (l : List UInt8) (acc u : Nat), acc ≤ M → Lib.parseUintM M acc l = .ok u → u ≤ M
  | [], acc, u, h, e => by
    simp only [Lib.parseUintM, Lib.NumEnd.ok.injEq] at e
    omega
  | c :: r, acc, u, h, e => by
    unfold Lib.parseUintM at e
    split at e
    · split at e
      · cases e
      · split at e
        · cases e
        · exact pum_le M r _ u (by omega) e
    · cases e
theorem pub_le {l : List UInt8} {u : Nat} (h : Lib.parseUintB 64 l = .ok u) : u < 18446744073709551616 := by
  unfold Lib.parseUintB at h
  split at h
  · cases h
  · have := pum_le (2 ^ 64 - 1) l 0 u (by omega) h
    omega
theorem pu_any (l : List UInt8) (hs : l.length ≤ 281474976710656) (w : World) (hg : Gl w) :
    Calls Tryz.prog 78 #[.string (strOf l), .int .i64 10, .int .i64 64] w fun e w' => ∃ (u : Nat) (v : Value), e = .returned (.tuple #[.int .u64 (u : Int), v]) ∧ u < 18446744073709551616 ∧ (∀ m : Nat, Lib.parseUintB 64 l = .ok m → u = m) ∧ Below w.heap.size w w' := by
  have hsz : (strOf l).size ≤ 281474976710656 := by rw [strOf_size]; exact hs
  have hl : (strOf l).data.toList = l := by simp [strOf]
  obtain ⟨t1, p1, h1⟩ := hg.syn
  obtain ⟨t2, p2, h2⟩ := hg.rng
  cases h : Lib.parseUintB 64 l with
  | ok u =>
    have hu : u < 18446744073709551616 := pub_le h
    refine (Any.strconv_ParseUint_10_at64_ok puL (strOf l) (by omega) u (by rw [hl]; exact h) w).mono ?_
    rintro e w' ⟨rfl, hw⟩
    refine ⟨u, _, rfl, hu, fun m hm => by cases hm; rfl, ?_⟩
    rcases hw with rfl | rfl
    · exact Below.refl _ _
    · exact Lib.bytesWorld_below _ _ _
  | «syntax» =>
    refine (Any.strconv_ParseUint_10_at64_syntax_var puL (strOf l) hsz (by rw [hl]; exact h) t1 p1 w h1).mono ?_
    rintro e w' ⟨N, rfl, _, _, hb⟩
    exact ⟨0, _, rfl, by decide, fun m hm => (by cases hm), hb⟩
  | range =>
    refine (Any.strconv_ParseUint_10_at64_range_var puL (strOf l) hsz (by rw [hl]; exact h) t2 p2 w h2).mono ?_
    rintro e w' ⟨N, rfl, _, _, hb⟩
    exact ⟨18446744073709551615, _, rfl, by decide, fun m hm => (by cases hm), hb⟩
set_option maxRecDepth 100000 in
set_option maxHeartbeats 1000000 in
theorem number_any (k : Int) (s : List UInt8) (hs : s.length ≤ 281474976710656) (w : World) (hg : Gl w) :
    Calls Tryz.prog 35 #[fmV k, .string (strOf s)] w fun e w' => ∃ n : Nat, e = .returned (.int .u64 (n : Int)) ∧ n < 18446744073709551616 ∧ (fmN k = false → n = 0) ∧ (∀ m, numK k → 1 ≤ m → m ≤ 1099511627776 → s = nameP k m → n = m) ∧ Below w.heap.size w w' := by
  have hl : ∀ l, (strOf l).data.toList = l := fun l => by simp [strOf]
  have HB : Hid (Below w.heap.size w (w.alloc (.cells #[.string (strOf (fmA k)), .string (strOf (fmB k)), .bool (fmN k)] TFm)) ∧ Gl w) := ⟨(Below.refl _ _).alloc (Nat.le_refl _) _, hg⟩
  unfold fmV
  cases hN : fmN k with
  | false =>
    have hnk : ¬ numK k := fun h => by
      unfold fmN at hN
      have := of_decide_eq_false hN
      exact this h
    rw [hN] at HB
    go_enter Tryz.func35, Tryz.ntmps35
    go_wp2
    go_ret
    exact ⟨0, rfl, by decide, fun _ => rfl, fun m h => absurd h hnk, HB.out.1⟩
  | true =>
    have HP : Hid (∀ m, numK k → 1 ≤ m → m ≤ 1099511627776 → s = nameP k m → Lib.parseUintB 64 (coreN k s) = .ok m) := fun m a b c e => by
      rw [e, core_name a b c, pub_num c]
    have h1 : ∀ W : World, Calls Tryz.prog 80 #[.string (strOf s), .string (strOf (fmA k))] W fun e w' => e = .returned (.string (strOf (Lib.trimPrefix s (fmA k)))) ∧ w' = W := fun W => by
      have := Any.strings_TrimPrefix tpL (strOf s) (strOf (fmA k)) W
      rw [hl, hl] at this
      exact this
    have l1 := trimP_le s (fmA k)
    have h2 : ∀ W : World, Calls Tryz.prog 79 #[.string (strOf (Lib.trimPrefix s (fmA k))), .string (strOf (fmB k))] W fun e w' => e = .returned (.string (strOf (coreN k s))) ∧ w' = W := fun W => by
      have := Any.strings_TrimSuffix tsL (strOf (Lib.trimPrefix s (fmA k))) (strOf (fmB k)) W (by rw [strOf_size]; omega)
      rw [hl, hl] at this
      exact this
    have l2 : (coreN k s).length ≤ 281474976710656 := Nat.le_trans (Nat.le_trans (trimS_le _ _) l1) hs
    have h3 := fun (W : World) (h : Gl W) => pu_any (coreN k s) l2 W h
    rw [hN] at HB
    generalize coreN k s = C at *
    generalize strOf (Lib.trimPrefix s (fmA k)) = P1 at *
    generalize strOf s = S at *
    generalize strOf (fmA k) = A at *
    generalize strOf (fmB k) = Bq at *
    generalize strOf C = CC at *
    clear hg hl l1 l2 hs
    go_enter Tryz.func35, Tryz.ntmps35
    go_wp2_with fail
    have HX : Hid (Box (w.alloc (.cells #[.string A, .string Bq, .bool true] TFm)) w.heap.size TFm #[.string A, .string Bq, .bool true]) := Box.new _ _ _
    generalize (w.alloc (.cells #[.string A, .string Bq, .bool true] TFm)) = W0 at HB HX ⊢
    have c0 : W0.drew.cell? ⟨w.heap.size, 0, none⟩ = some (.string A) := HX.out.cell 0
    have c1 : W0.drew.cell? ⟨w.heap.size, 1, none⟩ = some (.string Bq) := HX.out.cell 1
    have HG2 : Hid (Gl W0.drew) := HB.out.2.later (show Below w.heap.size w W0.drew from HB.out.1.drew)
    have h3' := h3 W0.drew HG2.out
    clear h3
    go_region_held3 (fun V => V.cell? ⟨w.heap.size, 0, none⟩ = some (.string A) ∧ V.cell? ⟨w.heap.size, 1, none⟩ = some (.string Bq)) (first | exact ⟨c0, c1⟩ | go_keep)
      (first | (go_at_call 80; refine (h1 _).mono ?_; rintro _ v1 ⟨rfl, rfl⟩) | (go_at_call 79; refine (h2 _).mono ?_; rintro _ v1 ⟨rfl, rfl⟩) | (go_at_call 78; refine h3'.mono ?_; rintro _ v1 ⟨u, vv, rfl, hu, hum, hb3⟩; have c0 : v1.cell? ⟨w.heap.size, 0, none⟩ = some (.string A) := ((HX.out.kept (w' := v1) (hb3.block _ HX.out.lt)).cell 0); have c1 : v1.cell? ⟨w.heap.size, 1, none⟩ = some (.string Bq) := ((HX.out.kept (w' := v1) (hb3.block _ HX.out.lt)).cell 1)))
    clear c0 c1
    have H3 : Hid (Below w.heap.size w v1) := (show Below w.heap.size w W0.drew from HB.out.1.drew).trans (hb3.mono (show w.heap.size ≤ W0.drew.heap.size from HB.out.1.size))
    go_wp2
    go_ret
    exact ⟨u, rfl, hu, fun h => (by cases h), fun m a b c e => hum m (HP.out m a b c e), H3.out⟩
end Go.Proofs.YtmlfbihlbiikeaaGreatDoor
namespace Go.Proofs.YtmlfbihlbiikeaaGreatDoor
open Go.Shelf Go.RowKit Go.Lib
set_option linter.unusedVariables false
set_option linter.unusedSimpArgs false
theorem rng_same {H : Type} {w w' : World} {P : Program} {k : TypeId} {R : Value → Option (DataW H × List MemPlace)} {b r n : Nat} {D : DataW H} {left : Lit → Bool} {cnt : Nat} (h : w.ranges P k R b r n D left cnt) (h1 : w'.heap[b]? = w.heap[b]?) (h2 : w'.heap[r]? = w.heap[r]?) : w'.ranges P k R b r n D left cnt := by
  obtain ⟨es, clock, since, seen, c0, a1, a2, a3, a4, a5, rest⟩ := h
  exact ⟨es, clock, since, seen, c0, h1.trans a1, a2, a3, a4, h2.trans a5, rest⟩
theorem rng_lt {H : Type} {w : World} {P : Program} {k : TypeId} {R : Value → Option (DataW H × List MemPlace)} {b r n : Nat} {D : DataW H} {left : Lit → Bool} {cnt : Nat} (h : w.ranges P k R b r n D left cnt) : b < w.heap.size ∧ r < w.heap.size := by
  obtain ⟨es, clock, since, seen, c0, a1, a2, a3, a4, a5, rest⟩ := h
  exact ⟨(Array.getElem?_eq_some_iff.1 a1).1, (Array.getElem?_eq_some_iff.1 a5).1⟩
theorem formD_has (q : Int) : Maps.has formD (litI q) = decide (1 ≤ q ∧ q ≤ 5) := by
  by_cases h1 : q = 1
  · subst h1; rfl
  by_cases h2 : q = 2
  · subst h2; rfl
  by_cases h3 : q = 3
  · subst h3; rfl
  by_cases h4 : q = 4
  · subst h4; rfl
  by_cases h5 : q = 5
  · subst h5; rfl
  rw [decide_eq_false (by omega)]
  unfold formD
  rw [Maps.has_eq]
  simp [Lit.sameKey, show ¬ (1 : Int) = q by omega, show ¬ (2 : Int) = q by omega, show ¬ (3 : Int) = q by omega, show ¬ (4 : Int) = q by omega, show ¬ (5 : Int) = q by omega]
theorem wpList_range_f {w : World} {ops : Array Oper} {rest : List Oper} {o : Oper} {a : Act} {Q : Exit → Act → World → Prop} (hg : o.guard = none) (x : Operand) (hop : o.op = Op.range TMf x) (b : Nat) (hm : a.eval x = .map (some b)) (hn : MpF w b)
    (hK : ∀ w', w'.ranges Tryz.prog TIm formE b w.heap.size 5 formD (Maps.has formD) 5 → Below w.heap.size w w' → w'.heap.size = w.heap.size + 1 → wpList Tryz.prog ops Q rest (a.put o.dst (.pointer (some ⟨w.heap.size, 0, none⟩))) w') :
    wpList Tryz.prog ops Q (o :: rest) a w := by
  refine wpList_range_own w hg x _ hop TIm TFm lawI Tryz.underlying76 formE b 5 formD hm hn ?_
  intro w' h1 h2 h3
  exact hK w' h1 ((Below.refl _ _).grown h2 (Nat.le_refl _) (fun k e => by cases e)) h3
theorem wpList_next_f {w : World} {ops : Array Oper} {rest : List Oper} {o : Oper} {a : Act} {Q : Exit → Act → World → Prop} (hg : o.guard = none) (it : Operand) (hop : o.op = Op.next it false) (b r : Nat) (left : Lit → Bool) (cnt : Nat)
    (hit : a.eval it = .pointer (some ⟨r, 0, none⟩)) (h : w.ranges Tryz.prog TIm formE b r 5 formD left cnt) (hl : ∀ q, left (litI q) = true → 1 ≤ q ∧ q ≤ 5)
    (hDone : (∀ kl, left kl = false) → wpList Tryz.prog ops Q rest (a.put o.dst (.tuple #[.bool false])) w)
    (hMore : ∀ (q : Int) (w' : World) (cnt' : Nat), 1 ≤ q ∧ q ≤ 5 → left (litI q) = true → w'.ranges Tryz.prog TIm formE b r 5 formD (fun z => left z && !z.sameKey (litI q)) cnt' → cnt' < cnt → w.grownBy w' (some r) → w'.heap.size = w.heap.size →
      (Instr.entry (.pointer (some ⟨r, 0, none⟩))).run Tryz.prog w' = .ok (.tuple #[.int .i64 q, fmV q]) w' → wpList Tryz.prog ops Q rest (a.put o.dst (.tuple #[.bool true, .int .i64 q, fmV q])) w') :
    wpList Tryz.prog ops Q (o :: rest) a w := by
  refine wpList_next_ranges w hg it hop TIm lawI formE (Value.int .i64) (fun c : ByteArray × ByteArray × Bool => .agg #[.string c.1, .string c.2.1, .bool c.2.2]) (fun key kl hk => by obtain ⟨x, hx, _⟩ := Maps.keyOf_int_inv Tryz.underlying3 hk; exact ⟨x, hx⟩)
    (fun v y hv => by obtain ⟨x, y, z, e, _⟩ := formE_inv hv; exact ⟨(x, y, z), e⟩) b r 5 formD left cnt hit h (fun _ h => hDone h) ?_
  intro x c kl y w' cnt' hkey hlk hv hat hrg hlt hgr hsz hen
  obtain ⟨x', ex, rfl, _⟩ := Maps.keyOf_int_inv Tryz.underlying3 hkey
  cases ex
  have h15 := hl x hlk
  have h2 := hat .nil
  have h3 := formD_at x .nil
  rw [if_pos h15] at h3
  obtain ⟨a1, a2, a3, e1, e2⟩ := formE_inv hv
  rw [e2] at h2
  have e3 : (.agg [.lit (.string a1.data.toList), .lit (.string a2.data.toList), .lit (.bool a3)] : DataW Unit) = fmD x := by rw [← h3]; exact h2.symm
  have e4 := fmD_inj e3
  rw [← e1] at e4
  have e4' : (.agg #[.string c.1, .string c.2.1, .bool c.2.2] : Value) = fmV x := e4
  simp only [e4'] at hen ⊢
  exact hMore x w' cnt' h15 hlk hrg hlt hgr hsz hen
def MissK (s : List UInt8) (q : Int) : Prop := (numK q → ∀ m, 1 ≤ m → m ≤ 1099511627776 → s ≠ nameP q m) ∧ (q = 4 → s ≠ curB) ∧ (q = 5 → s ≠ tmpB)
theorem miss_nil (q : Int) : MissK [] q := ⟨fun h m a b e => (name_ne h a b).1 e.symm, fun _ e => absurd e (by decide), fun _ e => absurd e (by decide)⟩
theorem miss_of {s : List UInt8} {q : Int} {n : Nat} (h : s ≠ nameP q n) (hm : ∀ m, numK q → 1 ≤ m → m ≤ 1099511627776 → s = nameP q m → n = m) : MissK s q := by
  refine ⟨fun hk m a b e => h ?_, fun e1 e2 => h ?_, fun e1 e2 => h ?_⟩
  · rw [hm m hk a b e]
    exact e
  · subst e1
    exact e2
  · subst e1
    exact e2
theorem names_hit {s : List UInt8} {q : Int} {n : Nat} (h0 : s ≠ []) (h : s = nameP q n) (hq : 1 ≤ q ∧ q ≤ 5) (hn : fmN q = false → n = 0) : Names s q n := by
  by_cases h4 : q = 4
  · subst h4
    have hs : s = curB := h
    have hn0 := hn rfl
    subst hs hn0
    exact ⟨fun _ => ⟨rfl, rfl⟩, fun e => absurd e (by decide), fun j m a b c e => absurd e.symm (name_ne a b c).2.1, fun e => absurd rfl e⟩
  by_cases h5 : q = 5
  · subst h5
    have hs : s = tmpB := h
    have hn0 := hn rfl
    subst hs hn0
    exact ⟨fun e => absurd e (by decide), fun _ => ⟨rfl, rfl⟩, fun j m a b c e => absurd e.symm (name_ne a b c).2.2, fun _ e => absurd rfl e⟩
  have hk : numK q := by
    unfold numK
    omega
  by_cases hm : n < 1 ∨ 1099511627776 < n
  · rw [nameP_out ⟨h4, h5⟩ hm] at h
    exact absurd h h0
  · have h1 : 1 ≤ n ∧ n ≤ 1099511627776 := by omega
    obtain ⟨_, hc, ht⟩ := name_ne hk h1.1 h1.2
    refine ⟨fun e => absurd (h.symm.trans e) hc, fun e => absurd (h.symm.trans e) ht, fun j m a b c e => ?_, fun _ _ e => absurd h (e q n hk h1.1 h1.2)⟩
    exact name_kind hk a h1.1 h1.2 b c (h.symm.trans e)
theorem names_miss {s : List UInt8} (h : ∀ q, 1 ≤ q ∧ q ≤ 5 → MissK s q) : Names s 0 0 := by
  refine ⟨fun e => absurd e ((h 4 (by omega)).2.1 rfl), fun e => absurd e ((h 5 (by omega)).2.2 rfl), fun j m a b c e => ?_, fun _ _ _ => ⟨rfl, rfl⟩⟩
  exact absurd e ((h j (by unfold numK at a; omega)).1 a m b c)
theorem names_parse {s : List UInt8} {q : Int} {n : Nat} (h : Names s q n) : q = (parseR s).1 ∧ n = (parseR s).2 := h.same (parseR_names s)
set_option maxRecDepth 100000 in
set_option maxHeartbeats 2000000 in
theorem parse_any (s : List UInt8) (hs : s.length ≤ 281474976710656) (w : World) (hg : Gl w) :
    Calls Tryz.prog 11 #[.string (strOf s)] w fun e w' => e = .returned (.tuple #[.int .i64 (parseR s).1, .int .u64 (((parseR s).2 : Nat) : Int)]) ∧ Below w.heap.size w w' := by
  have HG : Hid (Gl w) := hg
  have HNU := fun (k : Int) (W : World) (h : Gl W) => number_any k s hs W h
  have HNA := fun (k : Int) (hk : WfI k) (n : Nat) (hn : n < 18446744073709551616) (W : World) (h : Gl W) => name_any k hk n hn W h
  have HS : Hid ((strOf s).toList = s) := by
    show (strOf s).toList = s
    rw [ByteArray.toList_eq]
    simp [strOf]
  generalize strOf s = S at *
  clear hg
  go_enter Tryz.func11, Tryz.ntmps11
  go_wp2_with fail
  refine (forms_any _).mono ?_
  rintro _ w2 ⟨b, rfl, hF, hbb, hb2⟩
  have HB2 : Hid (w.heap.size ≤ b ∧ Below w.heap.size w w2) := ⟨hbb, hb2⟩
  clear hbb hb2
  go_wp2_with (first
    | (at_range; refine wpList_range_f rfl _ rfl b rfl hF ?_; intro w3 hrg3 hb3 hs3)
    | fail)
  go_frame
  obtain ⟨r, hr⟩ : ∃ r, r = w2.heap.size := ⟨_, rfl⟩
  rw [← hr] at hrg3
  have H3 : Hid (w3.ranges Tryz.prog TIm formE b r 5 formD (Maps.has formD) 5 ∧ Below w.heap.size w w3 ∧ w.heap.size ≤ r) := ⟨hrg3, HB2.out.2.trans (hb3.mono HB2.out.2.size), by rw [hr]; exact HB2.out.2.size⟩
  rw [← hr]
  clear hrg3 hb3 hs3 hF hr
  go_loopw [4] (fun _ wr => ∃ (left : Lit → Bool) (cnt : Nat), Hid (wr.ranges Tryz.prog TIm formE b r 5 formD left cnt ∧ Below w.heap.size w wr ∧ (∀ q, left (litI q) = true → 1 ≤ q ∧ q ≤ 5) ∧ ∀ q, 1 ≤ q ∧ q ≤ 5 → left (litI q) = false → MissK s q)) (fun _ wr => wr.rangeLeft b r)
  case atStart =>
    refine ⟨_, _, H3.out.1, H3.out.2.1, fun q h => ?_, fun q h1 h2 => ?_⟩
    · rw [formD_has] at h
      exact of_decide_eq_true h
    · rw [formD_has] at h2
      exact absurd h1 (of_decide_eq_false h2)
  case round =>
    obtain ⟨left, cnt, HR⟩ := hrel
    go_wp2_with (first
      | (at_next; refine wpList_next_f rfl _ rfl b r left cnt rfl HR.out.1 HR.out.2.2.1 ?_ ?_)
      | fail)
    · intro hl0
      go_wp2
      go_ret2
      obtain ⟨e1, e2⟩ := names_parse (names_miss (fun q hq => HR.out.2.2.2 q hq (hl0 _)))
      rw [← e1, ← e2]
      exact ⟨rfl, HR.out.2.1⟩
    · intro q w4 cnt4 hq1 hq2 hlq hrg4 hlt hg4 hsz4 hen
      have HQ : Hid ((1 ≤ q ∧ q ≤ 5) ∧ left (litI q) = true ∧ cnt4 < cnt) := ⟨⟨hq1, hq2⟩, hlq, hlt⟩
      have H4 : Hid (w4.ranges Tryz.prog TIm formE b r 5 formD (fun z => left z && !z.sameKey (litI q)) cnt4 ∧ Below w.heap.size w w4) := ⟨hrg4, HR.out.2.1.grown hg4 (HR.out.2.1.size) (fun k e => by cases e; exact H3.out.2.2)⟩
      have H5 : Hid (Below w.heap.size w (w4.alloc (.cells #[.string (strOf (fmA q)), .string (strOf (fmB q)), .bool (fmN q)] TFm))) := H4.out.2.alloc (H4.out.2.size) _
      have hen' := hen
      unfold fmV at hen'
      clear hq1 hq2 hlq hrg4 hlt hg4 hsz4 hen
      have HNU' := HNU q (w4.alloc (.cells #[.string (strOf (fmA q)), .string (strOf (fmB q)), .bool (fmN q)] TFm)) (HG.out.later H5.out)
      unfold fmV at HNU' ⊢
      go_wp2_with fail
      refine HNU'.mono ?_
      rintro _ w5 ⟨n, rfl, hn, hn0, hnm, hb5⟩
      have H6 : Hid (w5.ranges Tryz.prog TIm formE b r 5 formD (fun z => left z && !z.sameKey (litI q)) cnt4 ∧ Below w.heap.size w w5) := by
        have hlt := rng_lt H4.out.1
        have e : ∀ k, k < w4.heap.size → w5.heap[k]? = w4.heap[k]? := fun k hk => (hb5.block k (by simp; omega)).trans (Below.heap_alloc _ _ k hk)
        exact ⟨rng_same H4.out.1 (e _ hlt.1) (e _ hlt.2), H5.out.trans (hb5.mono H5.out.size)⟩
      have HN : Hid (n < 18446744073709551616 ∧ (fmN q = false → n = 0) ∧ ∀ m, numK q → 1 ≤ m → m ≤ 1099511627776 → s = nameP q m → n = m) := ⟨hn, hn0, hnm⟩
      have HWI : Hid (WfI q) := by
        have := HQ.out.1
        unfold Hid WfI
        omega
      have HREL : Hid (MissK s q → ∀ W, W.ranges Tryz.prog TIm formE b r 5 formD (fun z => left z && !z.sameKey (litI q)) cnt4 → Below w.heap.size w W → ∃ (left : Lit → Bool) (cnt : Nat), Hid (W.ranges Tryz.prog TIm formE b r 5 formD left cnt ∧ Below w.heap.size w W ∧ (∀ q, left (litI q) = true → 1 ≤ q ∧ q ≤ 5) ∧ ∀ q, 1 ≤ q ∧ q ≤ 5 → left (litI q) = false → MissK s q)) := fun hm W h1 h2 => by
        refine ⟨_, _, h1, h2, fun p hp => ?_, fun p hp hf => ?_⟩
        · simp only [Bool.and_eq_true] at hp
          exact HR.out.2.2.1 p hp.1
        · by_cases e : q = p
          · subst e
            exact hm
          · refine HR.out.2.2.2 p hp ?_
            have : (Lit.sameKey (litI p) (litI q)) = false := by
              simp [Lit.sameKey]
              omega
            simp only [this, Bool.not_false, Bool.and_true] at hf
            exact hf
      clear hn hn0 hnm hb5 hen' HNU'
      by_cases h0 : s = []
      · have hs0 : (S.toList == []) = true := by rw [HS.out, h0]; rfl
        have HS0 : Hid (s = []) := h0
        clear h0
        go_wp2
        go_roundw
        case rel => exact HREL.out (by rw [HS0.out]; exact miss_nil q) w5 H6.out.1 H6.out.2
        case measure =>
          rw [H6.out.1.left_eq, HR.out.1.left_eq]
          exact HQ.out.2.2
      · have hs0 : (S.toList == []) = false := by
          rw [HS.out]
          cases s with
          | nil => exact absurd rfl h0
          | cons x t => rfl
        have HS0 : Hid (s ≠ []) := h0
        clear h0
        have HNA' := HNA q HWI.out n HN.out.1 w5 (HG.out.later H6.out.2)
        go_wp2_with fail
        refine HNA'.mono ?_
        rintro _ w6 ⟨rfl, hb6⟩
        have H7 : Hid (w6.ranges Tryz.prog TIm formE b r 5 formD (fun z => left z && !z.sameKey (litI q)) cnt4 ∧ Below w.heap.size w w6) := by
          have hlt := rng_lt H6.out.1
          exact ⟨rng_same H6.out.1 (hb6.block _ hlt.1) (hb6.block _ hlt.2), H6.out.2.trans (hb6.mono H6.out.2.size)⟩
        have HX : Hid ((strOf (nameP q n)).toList = nameP q n) := by
          show (strOf (nameP q n)).toList = _
          rw [ByteArray.toList_eq]
          simp [strOf]
        clear hb6 HNA'
        by_cases he : s = nameP q n
        · have hb : (S.toList == (strOf (nameP q n)).toList) = true := by rw [HS.out, HX.out, he]; simp
          have HE : Hid (s = nameP q n) := he
          clear he
          generalize strOf (nameP q n) = X at *
          go_wp2
          go_ret2
          obtain ⟨e1, e2⟩ := names_parse (names_hit HS0.out HE.out HQ.out.1 HN.out.2.1)
          rw [← e1, ← e2]
          exact ⟨rfl, H7.out.2⟩
        · have hb : (S.toList == (strOf (nameP q n)).toList) = false := by rw [HS.out, HX.out]; exact beq_eq_false_iff_ne.2 he
          have HE : Hid (MissK s q) := miss_of he HN.out.2.2
          clear he
          generalize strOf (nameP q n) = X at *
          go_wp2
          go_roundw
          case rel => exact HREL.out HE.out w6 H7.out.1 H7.out.2
          case measure =>
            rw [H7.out.1.left_eq, HR.out.1.left_eq]
            exact HQ.out.2.2
end Go.Proofs.YtmlfbihlbiikeaaGreatDoor
namespace Go.Proofs.YtmlfbihlbiikeaaGreatDoor
open Go.RowKit
theorem and1_32 (x : Nat) (h : x < 4294967296) : bits .and .u32 (x : Int) 1 = ((x % 2 : Nat) : Int) := by
  have := nbits_and32 x 1 h (by omega)
  rw [Nat.and_one_is_mod] at this
  exact this
set_option maxRecDepth 100000 in
set_option maxHeartbeats 400000 in
theorem fill_any (k g : Nat) (w : World) (hk : k < 16) (v : Value) (hc : w.cell? ⟨g, k, none⟩ = some v) (hf : w.frozen? ⟨g, k, none⟩ = false) :
    Calls Tryz.prog 268 #[.int .i64 (k : Int), .pointer (some ⟨g, 0, none⟩)] w fun e w' => e = .returned (.tuple #[]) ∧ w' = w.setCell ⟨g, k, none⟩ (.int .u32 (nib k : Nat)) := by
  go_enter Tryz.func268, Tryz.ntmps268
  go_wp2
  go_loop [3, 7] (fun s i => ∃ j x : Nat, j ≤ 4 ∧ x < 4294967296 ∧ i = .int .i64 j ∧ s = .int .u32 x ∧ Hid (x = s1it j k)) (fun _ i => 4 - (intOf i).toNat)
  case atStart => exact ⟨0, k, by omega, by omega, rfl, by go_num, rfl⟩
  case round =>
    obtain ⟨j, x, hj, hx, rfl, rfl, HR⟩ := hrel
    have hb := and1_32 x hx
    by_cases hlt : j < 4
    · have hb := and1_32 x hx
      by_cases hodd : x % 2 = 1
      · have hb1 : bits .and .u32 (x : Int) 1 = 1 := by rw [hb, hodd]; rfl
        have HX : Hid (bits .xor .u32 ((x : Int) / 2) 2197175160 = ((s1 x : Nat) : Int)) := by
          have := nbits_xor32 (x / 2) 2197175160 (by omega) (by omega)
          unfold Hid s1
          rw [if_pos hodd, ← this]
          rfl
        have HX2 : Hid (s1 x < 4294967296) := s1_lt hx
        clear hb hodd
        go_wp2
        go_round
        case rel => exact ⟨j + 1, s1 x, by omega, HX2.out, by go_num, congrArg (Value.int .u32) HX.out, by rw [HR.out]; rfl⟩
        case measure => simp [intOf]; omega
      · have hb1 : bits .and .u32 (x : Int) 1 = 0 := by rw [hb, show x % 2 = 0 by omega]; rfl
        have HX : Hid (((x : Int) / 2) = ((s1 x : Nat) : Int)) := by
          unfold Hid s1
          rw [if_neg hodd]
          rfl
        have HX2 : Hid (s1 x < 4294967296) := s1_lt hx
        clear hb hodd
        go_wp2
        go_round
        case rel => exact ⟨j + 1, s1 x, by omega, HX2.out, by go_num, congrArg (Value.int .u32) HX.out, by rw [HR.out]; rfl⟩
        case measure => simp [intOf]; omega
    · obtain rfl : j = 4 := by omega
      clear hb
      go_wp2
      go_end0
      exact ⟨rfl, by rw [HR.out]; rfl⟩

def tabZ : Array Value := #[Value.int .u32 0, Value.int .u32 0, Value.int .u32 0, Value.int .u32 0, Value.int .u32 0, Value.int .u32 0, Value.int .u32 0, Value.int .u32 0, Value.int .u32 0, Value.int .u32 0, Value.int .u32 0, Value.int .u32 0, Value.int .u32 0, Value.int .u32 0, Value.int .u32 0, Value.int .u32 0]
def tabA : Nat → Array Value
  | 0 => tabZ
  | k + 1 => (tabA k).setIfInBounds k (.int .u32 (nib k : Nat))
def tabN : Array Value := #[Value.int .u32 (nib 0 : Nat), Value.int .u32 (nib 1 : Nat), Value.int .u32 (nib 2 : Nat), Value.int .u32 (nib 3 : Nat), Value.int .u32 (nib 4 : Nat), Value.int .u32 (nib 5 : Nat), Value.int .u32 (nib 6 : Nat), Value.int .u32 (nib 7 : Nat), Value.int .u32 (nib 8 : Nat), Value.int .u32 (nib 9 : Nat), Value.int .u32 (nib 10 : Nat), Value.int .u32 (nib 11 : Nat), Value.int .u32 (nib 12 : Nat), Value.int .u32 (nib 13 : Nat), Value.int .u32 (nib 14 : Nat), Value.int .u32 (nib 15 : Nat)]
theorem tabA_16 : tabA 16 = tabN := rfl
theorem tabA_size : ∀ k, (tabA k).size = 16
  | 0 => rfl
  | k + 1 => by simp [tabA, tabA_size k]

theorem tab_cell (w : World) (k : Nat) (hk : k < 16) : ∃ v, ((w.alloc (.cells tabZ 305)).alloc (.cells (tabA k) 305)).cell? ⟨w.heap.size + 1, k, none⟩ = some v :=
  ⟨(tabA k)[k]'(by rw [tabA_size]; exact hk), by simp [tabA_size, hk]⟩

set_option maxRecDepth 100000 in
set_option maxHeartbeats 400000 in
theorem sumTable_any (w : World) :
    Calls Tryz.prog 255 #[] w fun e w' => e = .returned (.agg tabN) ∧ Below w.heap.size w w' := by
  go_enter Tryz.func255, Tryz.ntmps255
  go_wp2
  go_loopw [5] (fun i wr => ∃ k : Nat, k ≤ 16 ∧ i = .int .i64 k ∧ Hid (wr = (w.alloc (.cells tabZ 305)).alloc (.cells (tabA k) 305))) (fun i _ => 16 - (intOf i).toNat)
  case atStart => exact ⟨0, by omega, rfl, rfl⟩
  case round =>
    obtain ⟨k, hk, rfl, HW⟩ := hrel
    have hw := HW.out
    subst hw
    clear HW
    by_cases hlt : k < 16
    · obtain ⟨v, hv⟩ := tab_cell w k hlt
      have HV : Hid _ := hv
      clear hv
      go_wp2_with (go_at_call 268; refine (fill_any k (w.heap.size + 1) _ hlt v HV.out (by simp [go_sem])).mono ?_; rintro e w1 ⟨rfl, rfl⟩)
      go_roundw
      case rel => exact ⟨k + 1, by omega, by go_num, rfl⟩
      case measure => simp [intOf]; omega
    · obtain rfl : k = 16 := by omega
      rw [tabA_16]
      unfold tabN tabZ
      go_wp2
      exact bodyPost_ret (v := .agg tabN) (by simp [results, Tryz.results255, go_sem, tabN]) rfl ⟨rfl, ((Below.refl _ _).alloc (Nat.le_refl _) _).alloc (by simp) _⟩
end Go.Proofs.YtmlfbihlbiikeaaGreatDoor
namespace Go.Proofs.YtmlfbihlbiikeaaGreatDoor
open Go.RowKit
theorem and15_32 (x : Nat) (h : x < 4294967296) : bits .and .u32 (x : Int) 15 = ((x % 16 : Nat) : Int) := by
  have := nbits_and32 x 15 h (by omega)
  rw [show 15 = 2 ^ 4 - 1 from rfl, Nat.and_two_pow_sub_one_eq_mod] at this
  exact this
theorem compl32 (x : Nat) (h : x < 4294967296) : bits .xor .u32 IntKind.u32.max (x : Int) = ((4294967295 ^^^ x : Nat) : Int) := nbits_xor32 4294967295 x (by omega) h
theorem half_step (y : Nat) (hy : y < 4294967296) : ∃ m z : Nat, m < 16 ∧ z < 4294967296 ∧ bits .and .u32 (y : Int) 15 = (m : Int) ∧ bits .xor .u32 ((y : Int) / 16) ((nib m : Nat) : Int) = (z : Int) ∧ Hid (z = crcHalf y) :=
  ⟨y % 16, crcHalf y, by omega, crcHalf_lt hy, and15_32 y hy, nbits_xor32 (y / 16) (nib (y % 16)) (by omega) (nib_lt _ (by omega)), rfl⟩
theorem tabN_cell (w : World) (j : Nat) (hj : j < 16) : (w.alloc (.cells tabN 305)).cell? ⟨w.heap.size, j, none⟩ = some (.int .u32 (nib j : Nat)) := by
  have : ∀ j, j < 16 → tabN[j]? = some (.int .u32 (nib j : Nat)) := by
    intro j hj
    have : j = 0 ∨ j = 1 ∨ j = 2 ∨ j = 3 ∨ j = 4 ∨ j = 5 ∨ j = 6 ∨ j = 7 ∨ j = 8 ∨ j = 9 ∨ j = 10 ∨ j = 11 ∨ j = 12 ∨ j = 13 ∨ j = 14 ∨ j = 15 := by omega
    rcases this with rfl | rfl | rfl | rfl | rfl | rfl | rfl | rfl | rfl | rfl | rfl | rfl | rfl | rfl | rfl | rfl <;> rfl
  rw [← this j hj]
  simp [go_sem]
set_option maxRecDepth 100000 in
set_option maxHeartbeats 400000 in
theorem crc_any (a : Option Addr) (len cap : Nat) (bs : List UInt8) (w : World) (h : BsAt w a len cap bs) :
    Calls Tryz.prog 218 #[.slice a len cap] w fun e w' => e = .returned (.int .u32 (crc bs : Nat)) ∧ Below w.heap.size w w' := by
  have hcap := h.max
  have hle := h.le
  have hlen := h.size
  unfold maxLen at hcap
  go_enter Tryz.func218, Tryz.ntmps218
  go_wp2_with (go_at_call 255; refine (sumTable_any _).mono ?_; rintro e w1 ⟨rfl, hb1⟩; unfold tabN)
  have hsz := hb1.size
  go_loopw [4, 10] (fun s i wr => ∃ k x : Nat, k ≤ len ∧ x < 4294967296 ∧ i = .int .i64 k ∧ s = .int .u32 x ∧ Hid (x = crcGo 4294967295 (bs.take k)) ∧
      Hid (∀ j, j < 16 → wr.cell? ⟨w1.heap.size, j, none⟩ = some (.int .u32 (nib j : Nat))) ∧ Hid (BsAt wr a len cap bs) ∧ Hid (Below w.heap.size w wr)) (fun _ i _ => len - (intOf i).toNat)
  case atStart => exact ⟨0, 4294967295, Nat.zero_le _, by omega, rfl, rfl, by simp [Hid, crcGo], fun j hj => tabN_cell w1 j hj, (h.below (Nat.le_refl _) hb1).alloc _, hb1.alloc hsz _⟩
  case round =>
    obtain ⟨k, x, hk, hx, rfl, rfl, HR, HT, HA, HB⟩ := hrel
    clear h
    by_cases hlt : k < len
    · obtain ⟨b, off, rfl, hc⟩ := HA.out.here (by omega)
      have hck := hc k hlt
      have hc8 : (bs.getD k 0).toNat < 256 := UInt8.toNat_lt _
      have HS : Hid (crcGo 4294967295 (bs.take (k + 1)) = crcByte x (bs.getD k 0).toNat) := by rw [HR.out]; exact crcGo_take _ bs k (by omega)
      generalize hcd : (bs.getD k 0).toNat = c at hck hc8 HS
      clear hc hcd hlen
      obtain ⟨y, hy, hy1, HY⟩ : ∃ y : Nat, y < 4294967296 ∧ bits .xor .u32 (x : Int) (c : Int) = (y : Int) ∧ Hid (y = x ^^^ c) := ⟨x ^^^ c, xor32 hx (by omega), nbits_xor32 x c hx (by omega), rfl⟩
      obtain ⟨m1, z1, hm1, hz1, e1, e2, H1⟩ := half_step y hy
      obtain ⟨m2, z2, hm2, hz2, e3, e4, H2⟩ := half_step z1 hz1
      have t1 := HT.out m1 hm1
      have t2 := HT.out m2 hm2
      go_wp2
      go_roundw
      case rel => exact ⟨k + 1, z2, by omega, hz2, by go_num, rfl, by rw [HS.out, H2.out, H1.out, HY.out]; rfl, HT.out, HA.out, HB.out⟩
      case measure => simp [intOf]; omega
    · obtain rfl : k = len := by omega
      go_wp2
      go_ret
      have e : x = crcGo 4294967295 bs := by rw [HR.out, List.take_of_length_le (by omega)]
      exact ⟨ret1 (congrArg (Value.int .u32) (by rw [compl32 x hx, e]; rfl)), HB.out⟩
end Go.Proofs.YtmlfbihlbiikeaaGreatDoor
