/- What is known of one user, of one list; what is seen of it. -/
import Derived.Test.YtjoamhcehpjepaaQa06
namespace Go.Proofs.Ytjoamhcehpjepaa
open Go.RowKit
set_option linter.unusedVariables false
set_option linter.unusedSimpArgs false
def told17 : Option KV → ByteArray × Nat
  | none => (⟨#[]⟩, 0)
  | some e => if e.1.kind = 0 then (⟨#[]⟩, 1) else (e.2, 2)
set_option maxRecDepth 100000 in
set_option maxHeartbeats 1000000 in
theorem rget17 {w : World} {a : Option Addr} {n c : Nat} {l : List KV} (h : KsAt w a n c l) (u : ByteArray) (s : Nat) : Calls Try.prog 18 #[.slice a n c, .string u, .int .u64 (s : Int)] w fun e w' => e = .returned (.tuple #[.string (told17 (lget17 l u s)).1, .int .i64 (((told17 (lget17 l u s)).2 : Nat) : Int)]) ∧ w' = w := by
  have HS : Hid (KsAt w a n c l ∧ l.length = n) := ⟨h, h.size⟩
  have hm := h.max
  have hl := h.le
  unfold maxLen at hm
  clear h
  go_enter Try.func18, Try.ntmps18
  go_wp2_with fail
  go_loopw [8] (fun x wr => ∃ k : Nat, k ≤ n ∧ x = .int .i64 (k : Int) ∧ wr = w ∧ Hid (lget17 l u s = lget17 (l.drop k) u s)) (fun x _ => n - (intOf x).toNat)
  case atStart => exact ⟨0, Nat.zero_le _, rfl, rfl, rfl⟩
  case round =>
    obtain ⟨k, hk, rfl, rfl, HI⟩ := hrel
    by_cases hkn : k < n
    · obtain ⟨b, off, hab, hc⟩ := HS.out.1.cells4 (by omega)
      have hkl : k < l.length := by rw [HS.out.2]; exact hkn
      obtain ⟨c0, c1, c2, c3⟩ := hc k hkl
      have hidx := fun W => idxKV W (a := a) (b := b) (off := off) (n := n) (c := c) hab hkn
      have HD : Hid (l.drop k = l[k] :: l.drop (k + 1)) := List.drop_eq_getElem_cons hkl
      generalize l[k] = e at c0 c1 c2 c3 HD
      clear hc hab
      by_cases hus : e.1.user = u
      · have hbq : (e.1.user.toList == u.toList) = true := by rw [hus]; simp
        by_cases hsq : e.1.seq ≤ s
        · have HE : Hid (lget17 l u s = some e) := by
            unfold Hid
            rw [HI.out, HD.out]
            unfold lget17
            rw [List.find?_cons, decide_eq_true ⟨hus, hsq⟩]
          have hsq' : ((e.1.seq : Nat) : Int) ≤ (s : Int) := by omega
          clear hus
          by_cases hkd : e.1.kind = 0
          · have hkq : (e.1.kind == 0) = true := by rw [hkd]; rfl
            have HKD : Hid (e.1.kind = 0) := hkd
            clear hkd
            go_wp2
            go_ret2
            rw [HE.out]
            unfold told17
            simp only [HKD.out, if_pos]
            exact ⟨ret2 rfl rfl, by trivial⟩
          · have hkq : (e.1.kind == 0) = false := by simpa using hkd
            have HKD : Hid (¬ e.1.kind = 0) := hkd
            clear hkd
            go_wp2
            go_ret2
            rw [HE.out]
            unfold told17
            simp only [if_neg HKD.out]
            exact ⟨ret2 rfl rfl, by trivial⟩
        · have HE : Hid (lget17 l u s = lget17 (l.drop (k + 1)) u s) := by
            unfold Hid
            rw [HI.out, HD.out]
            unfold lget17
            rw [List.find?_cons, decide_eq_false (fun h => hsq h.2)]
          have hsq' : (s : Int) < ((e.1.seq : Nat) : Int) := by omega
          clear hus
          go_wp2
          go_roundw
          case rel => exact ⟨k + 1, hkn, by go_num, by trivial, HE.out⟩
          case measure => simp only [intOf]; omega
      · have hbq : (e.1.user.toList == u.toList) = false := by
          rw [beq_eq_false_iff_ne]
          intro hc
          rw [ByteArray.toList_eq, ByteArray.toList_eq] at hc
          exact hus (ba_ext17 hc)
        have HE : Hid (lget17 l u s = lget17 (l.drop (k + 1)) u s) := by
          unfold Hid
          rw [HI.out, HD.out]
          unfold lget17
          rw [List.find?_cons, decide_eq_false (fun h => hus h.1)]
        clear hus
        go_wp2
        go_roundw
        case rel => exact ⟨k + 1, hkn, by go_num, by trivial, HE.out⟩
        case measure => simp only [intOf]; omega
    · have HE : Hid (lget17 l u s = none) := by
        unfold Hid
        rw [HI.out, List.drop_eq_nil_of_le (by have := HS.out.2; omega)]
        rfl
      go_wp2
      go_ret2
      rw [HE.out]
      exact ⟨ret2 rfl rfl, by trivial⟩
theorem sees_in {s : Nat} {l : List KV} (hs : SortU l) {u x : ByteArray} (h : (u, x) ∈ seenL s l) : told17 (lget17 l u s) = (x, 2) := by
  obtain ⟨e, h1, h2, h3⟩ := (mem_seen hs u x).1 h
  rw [h1]
  show (if e.1.kind = 0 then _ else _) = _
  rw [if_neg (by omega), h3]
theorem sees_iff {s : Nat} {l : List KV} (hs : SortU l) (hk : ∀ e ∈ l, e.1.kind = 0 ∨ e.1.kind = 1) (u : ByteArray) : (told17 (lget17 l u s)).2 = 2 ↔ ∃ x, (u, x) ∈ seenL s l := by
  constructor
  · intro h
    cases hg : lget17 l u s with
    | none => rw [hg] at h; cases h
    | some e =>
      rw [hg] at h
      obtain ⟨_, _, hm⟩ := lget_user hg
      rcases hk e hm with hk0 | hk1
      · have h' : (if e.1.kind = 0 then ((⟨#[]⟩ : ByteArray), 1) else (e.2, 2)).2 = 2 := h
        rw [if_pos hk0] at h'
        cases h'
      · exact ⟨e.2, (mem_seen hs u e.2).2 ⟨e, hg, hk1, rfl⟩⟩
  · rintro ⟨x, hx⟩
    rw [sees_in hs hx]
theorem told17_two (o : Option KV) : (told17 o).2 = 2 ∨ (told17 o).2 ≠ 2 := by omega
theorem seek_not (I : List It17) (u : ByteArray) (h : seek7 I u < I.length) : ¬ uc (I[seek7 I u]).1 u < 0 := by
  have h1 : I.drop (seek7 I u) = I.dropWhile fun e => decide (uc e.1 u < 0) := by
    have := List.takeWhile_append_dropWhile (p := fun e => decide (uc e.1 u < 0)) (l := I)
    have h9 : ∀ n, n = (I.takeWhile fun e => decide (uc e.1 u < 0)).length → I.drop n = I.dropWhile fun e => decide (uc e.1 u < 0) := fun n hn => by
      conv => lhs; rw [← this]
      rw [hn, List.drop_left]
    exact h9 _ rfl
  have h2 : (I.dropWhile fun e => decide (uc e.1 u < 0)).head? = some (I[seek7 I u]) := by
    rw [← h1, List.head?_drop, List.getElem?_eq_getElem h]
  have h3 := List.head?_dropWhile_not (fun e => decide (uc e.1 u < 0)) I
  rw [h2] at h3
  simpa using h3
/-- Of keys that rise, what is sought is there just where it is the one. -/
theorem seek_there {I : List It17} (hI : I.Pairwise fun a b => uc a.1 b.1 < 0) (u : ByteArray) : (∃ x, (u, x) ∈ I) ↔ ∃ h : seek7 I u < I.length, (I[seek7 I u]).1 = u := by
  have hle : seek7 I u ≤ I.length := (List.takeWhile_prefix _).length_le
  have hlt : ∀ j (hj : j < I.length), j < seek7 I u → uc I[j].1 u < 0 := fun j hj h => by
    have h1 : (I.takeWhile fun e => decide (uc e.1 u < 0))[j]'h = I[j] := (List.takeWhile_prefix (l := I) fun e => decide (uc e.1 u < 0)).getElem h
    have h2 := List.all_takeWhile (p := fun e => decide (uc e.1 u < 0)) (l := I)
    rw [List.all_eq_true] at h2
    have := h2 _ (List.getElem_mem h)
    rw [h1] at this
    simpa using this
  constructor
  · rintro ⟨x, hx⟩
    obtain ⟨k, hk, he⟩ := List.getElem_of_mem hx
    have h0 : uc I[k].1 u = 0 := by rw [he]; exact uc_self u
    have hkge : seek7 I u ≤ k := Nat.le_of_not_lt fun h => by have := hlt k hk h; omega
    refine ⟨by omega, ?_⟩
    by_cases e : seek7 I u = k
    · have : I[seek7 I u]'(by omega) = I[k] := by congr 1
      rw [this, he]
    · have h1 := List.pairwise_iff_getElem.1 hI (seek7 I u) k (by omega) hk (by omega)
      have hst := seek_not I u (by omega)
      rw [he] at h1
      exact absurd h1 hst
  · rintro ⟨h, he⟩
    refine ⟨(I[seek7 I u]).2, ?_⟩
    have hm : I[seek7 I u] ∈ I := List.getElem_mem h
    generalize I[seek7 I u] = y at he hm ⊢
    obtain ⟨y1, y2⟩ := y
    dsimp only at he ⊢
    rw [← he]
    exact hm
end Go.Proofs.Ytjoamhcehpjepaa
/- The walk of ViewSees, by what is asked of view's own. -/
namespace Go.Proofs.Ytjoamhcehpjepaa
open Go.RowKit
set_option linter.unusedVariables false
set_option linter.unusedSimpArgs false
theorem seek_any (I : List It17) (u : ByteArray) : told7 I (norm7 I (seek7 I u)) = if h : seek7 I u < I.length then (I[seek7 I u], true) else (i0, false) := by
  by_cases h : seek7 I u < I.length
  · rw [dif_pos h, told7_norm h]
  · rw [dif_neg h]
    unfold norm7
    rw [if_neg h]
    rfl
/-- What is sought, in one of two ways. -/
theorem seek_case {I : List It17} (hI : I.Pairwise fun a b => uc a.1 b.1 < 0) (u : ByteArray) : (told7 I (norm7 I (seek7 I u)) = (i0, false) ∧ ¬ ∃ x, (u, x) ∈ I) ∨ ∃ e, told7 I (norm7 I (seek7 I u)) = (e, true) ∧ ¬ uc e.1 u < 0 ∧ (e.1 = u ↔ ∃ x, (u, x) ∈ I) := by
  have hs := seek_any I u
  have ht := seek_there hI u
  by_cases h : seek7 I u < I.length
  · rw [dif_pos h] at hs
    refine .inr ⟨_, hs, seek_not I u h, ?_⟩
    rw [ht]
    exact ⟨fun e => ⟨h, e⟩, fun ⟨_, e⟩ => e⟩
  · rw [dif_neg h] at hs
    refine .inl ⟨hs, fun hx => ?_⟩
    obtain ⟨h', _⟩ := ht.1 hx
    exact h h'
set_option maxRecDepth 100000 in
set_option maxHeartbeats 3000000 in
theorem viewSees_of {D : VwRel} (F : VwOk D) (a : Option Addr) (n c : Nat) (l0 : List KV) (s : Nat) (u : ByteArray) (w : World) (h : KsAt w a n c l0) (hwf : ∀ e ∈ l0, WfE e) (hb : a = none → c = 0) (hs : s < 18446744073709551616) :
    Calls Try.prog 4 #[.slice a n c, .int .u64 (s : Int), .string u] w fun e w' => e = .returned (.bool true) ∧ Below w.heap.size w w' := by
  have HWF : Hid (∀ e ∈ l0.take 300, WfE e) := fun e he => hwf e (List.mem_of_mem_take he)
  clear hwf
  have H0 : Hid (KsAt w a n c l0 ∧ (a = none → c = 0)) := ⟨h, hb⟩
  have hcm : c ≤ maxLen := h.max
  have hnc : n ≤ c := h.le
  clear h hb
  go_enter Try.func4, Try.ntmps4
  go_wp2_with fail
  refine (awake17 F w).mono ?_
  rintro _ w1 ⟨rfl, hb1⟩
  have H1 : Hid (Below w.heap.size w w1 ∧ KsAt w1 a n c l0) := ⟨hb1, H0.out.1.below hb1⟩
  clear hb1
  go_upto_if 26 with fail
  go_cut [0] (fun x wz => ∃ m : Nat, x = .slice a m c ∧ m ≤ 300 ∧ wz = w1 ∧ Hid (KsAt w1 a m c (l0.take 300)))
  case first =>
    by_cases h300 : 300 < n
    · obtain ⟨hr, hl⟩ := ks_upto16 H1.out.2 (k := 300) (by omega) (by decide)
      have HL : Hid (KsAt w1 a 300 c (l0.take 300)) := hl
      have h300I : (300 : Int) < (n : Int) := by omega
      have hcj : (300 : Int) ≤ (c : Int) := by omega
      clear hl
      go_wp2_with fail
      go_meet
      exact ⟨300, rfl, Nat.le_refl _, rfl, HL⟩
    · have h300I : decide ((300 : Int) < (n : Int)) = false := by simp; omega
      have HL : Hid (KsAt w1 a n c (l0.take 300)) := by
        show KsAt w1 a n c (l0.take 300)
        rw [List.take_of_length_le (by have := H1.out.2.size; omega)]
        exact H1.out.2
      go_wp2_with fail
      go_meet
      exact ⟨n, rfl, by omega, rfl, HL⟩
  case rest =>
    obtain ⟨m, rfl, hm, hwe, HK⟩ := hcut
    subst hwe
    generalize l0.take 300 = l at HK HWF
    have HLN : Hid (l.length = m) := HK.out.size
    have HBW : Hid (Below w.heap.size w wc) := H1.out.1
    have HBN : Hid (a = none → c = 0) := H0.out.2
    clear H1 H0
    obtain ⟨W2, eW⟩ : ∃ W2, W2 = wc.alloc (.cells #[.slice a m c] TRow) := ⟨_, rfl⟩
    have H2 : Hid (Below w.heap.size w W2 ∧ KsAt W2 a m c l ∧ Box W2 wc.heap.size TRow #[.slice a m c]) := by
      rw [eW]
      have hb := (Below.refl wc.heap.size wc).alloc (Nat.le_refl _) (.cells #[.slice a m c] TRow)
      exact ⟨HBW.out.trans (hb.mono HBW.out.size), HK.out.below hb, Box.new _ _ _⟩
    have hnew := F.new _ 1 1 [l] s W2 (ls_one (q := 0) H2.out.2.1 HBN.out H2.out.2.2) (few_one (by rw [HLN.out]; omega) HWF.out) hs
    clear HBN HK HBW
    go_wp2_with fail
    rw [← eW]
    refine hnew.mono ?_
    rintro _ w3 ⟨hb3, hcase⟩
    clear hnew eW
    rcases hcase with ⟨hr, p, R3, rfl, hd3, hR3⟩ | ⟨hno, rfl⟩
    · have HR : Hid (RiseK l) := riseK_one hr
      rw [all_single HR.out] at hd3
      have S3 : Hid (VwS D W2 W2.heap.size w3 R3 p (seenL s l) none (fun _ => False)) := VwS.made hd3 hb3 hb3.size hR3
      have HSU : Hid (SortU l) := rise_sortU HR.out
      have HKW : Hid (∀ W, Below W2.heap.size W2 W → KsAt W a m c l) := fun W hW => H2.out.2.1.below hW
      clear hd3 hb3 hR3 hr HR
      go_wp2_with fail
      go_loopw [10] (fun s10 wr => ∃ (i : Nat), i ≤ m ∧ s10 = .int .i64 (i : Int) ∧ wr = w3 ∧ Hid (∀ j (hj : j < l.length), j < i → l[j].1.kind = 0 ∨ l[j].1.kind = 1)) (fun s10 _ => m - (intOf s10).toNat)
      case atStart => exact ⟨0, Nat.zero_le _, rfl, rfl, fun j _ h => absurd h (Nat.not_lt_zero _)⟩
      case round =>
        obtain ⟨i, him, rfl, hwe, HKD⟩ := hrel
        subst hwe
        by_cases hi : i < m
        · have hiI : (i : Int) < (m : Int) := by omega
          have hil : i < l.length := by rw [HLN.out]; exact hi
          obtain ⟨b, off, hix, _, hcs⟩ := H2.out.2.1.spots (by omega)
          have hx := hix i hi
          obtain ⟨_, _, z2, _⟩ := hcs _ S3.out.low i hil
          have HY : Hid ((l[i].1.kind = 0 ∨ l[i].1.kind = 1) → ∀ j (hj : j < l.length), j < i + 1 → l[j].1.kind = 0 ∨ l[j].1.kind = 1) := fun hk j hj hji => by
            by_cases e : j = i
            · subst e; exact hk
            · exact HKD.out j hj (by omega)
          clear hix hcs
          generalize l[i].1.kind = kd at z2 HY
          by_cases hk0 : kd = 0
          · have e0 : (kd == 0) = true := by simp [hk0]
            have HYY : Hid (_) := HY.out (.inl hk0)
            go_wp2
            go_roundw
            case rel => exact ⟨i + 1, by omega, by go_num, by first | rfl | trivial, HYY.out⟩
            case measure => simp only [intOf]; omega
          · have e0 : (kd == 0) = false := by simp [hk0]
            by_cases hk1 : kd = 1
            · have e1 : (kd == 1) = true := by simp [hk1]
              have HYY : Hid (_) := HY.out (.inr hk1)
              clear hk0
              go_wp2
              go_roundw
              case rel => exact ⟨i + 1, by omega, by go_num, by first | rfl | trivial, HYY.out⟩
              case measure => simp only [intOf]; omega
            · have e1 : (kd == 1) = false := by simp [hk1]
              have e2 : (kd != 0) = true := by simp [hk0]
              have e3 : (kd != 1) = true := by simp [hk1]
              have HB : Hid (Below w.heap.size w wr) := H2.out.1.trans (S3.out.low.mono H2.out.1.size)
              go_wp2
              go_ret
              exact ⟨ret1 rfl, HB.out⟩
        · obtain rfl : i = m := by omega
          have HKA : Hid (∀ e ∈ l, e.1.kind = 0 ∨ e.1.kind = 1) := fun e he => by
            obtain ⟨j, hj, rfl⟩ := List.getElem_of_mem he
            exact HKD.out j hj (by rw [HLN.out] at hj; exact hj)
          have HIR : Hid ((seenL s l).Pairwise fun a b => uc a.1 b.1 < 0) := rise_seen HSU.out
          have HIL : Hid ((seenL s l).length ≤ i) := Nat.le_trans (seen_le _ _) (by rw [HLN.out]; exact Nat.le_refl _)
          have HIN : Hid (∀ y ∈ seenL s l, told17 (lget17 l y.1 s) = (y.2, 2)) := fun y hy => sees_in HSU.out (u := y.1) (x := y.2) hy
          have HIF : Hid (∀ v : ByteArray, (told17 (lget17 l v s)).2 = 2 ↔ ∃ x, (v, x) ∈ seenL s l) := fun v => sees_iff HSU.out HKA.out v
          generalize seenL s l = I at S3 HIR HIL HIN HIF
          clear HKD HKA HSU
          have hiI : ¬ (i : Int) < (i : Int) := by omega
          go_wp2_with fail
          refine (all17 F S3.out HIR.out i HIL.out (by omega)).mono ?_
          rintro _ w5 ⟨a5, c5, R5, rfl, hal⟩
          have L5 : Hid (Lv D W2 W2.heap.size w5 p I none wr.heap.size a5 c5 R5) := Lv.of hal
          clear hal S3
          generalize wr.heap.size = BB at L5
          obtain ⟨N, hN⟩ : ∃ N, N = I.length := ⟨_, rfl⟩
          have HN : Hid (N = I.length) := hN
          have hNi : N ≤ i := by rw [hN]; exact HIL.out
          rw [← hN]
          clear hN
          go_wp2_with fail
          go_loopw [13] (fun s13 wr => ∃ (k : Nat), k ≤ N ∧ s13 = .int .i64 (k : Int) ∧ wr = w5) (fun s13 _ => N - (intOf s13).toNat)
          case atStart => exact ⟨0, Nat.zero_le _, rfl, rfl⟩
          case round =>
            obtain ⟨k, hkN, rfl, hwe⟩ := hrel
            subst hwe
            by_cases hk : k < N
            · have HKL : Hid (k < I.length) := by have := HN.out; unfold Hid; omega
              have hkI : (k : Int) < (N : Int) := by omega
              obtain ⟨g, ha5, hc⟩ := L5.out.own.cellsAt (by have := HKL.out; omega)
              obtain ⟨y0, y1⟩ := hc k HKL.out
              have hx := fun W => idxI W (b := g) (n := N) (c := c5) (i := k) hk
              have HG : Hid (∀ W, Below W2.heap.size W2 W → Calls Try.prog 18 #[.slice a i c, .string (I[k]'HKL.out).1, .int .u64 (s : Int)] W fun e w' => e = .returned (.tuple #[.string (I[k]'HKL.out).2, .int .i64 2]) ∧ w' = W) := fun W hW => by
                have := rget17 (HKW.out W hW) (I[k]'HKL.out).1 s
                rw [HIN.out _ (List.getElem_mem HKL.out)] at this
                exact this
              clear hc
              generalize (I[k]'HKL.out) = e at y0 y1 HG
              have hlow := L5.out.vw.low
              have heq : (e.2.toList == e.2.toList) = true := by simp
              have HGW : Hid (Calls Try.prog 18 #[.slice a i c, .string e.1, .int .u64 (s : Int)] wr fun e' w' => e' = .returned (.tuple #[.string e.2, .int .i64 2]) ∧ wr = w') := (HG.out wr hlow).mono fun x w' ⟨h1, h2⟩ => ⟨h1, h2.symm⟩
              clear hlow HG
              rw [ha5]
              go_wp2_with fail
              refine HGW.out.mono ?_
              rintro _ w6 ⟨rfl, rfl⟩
              go_wp2
              go_roundw
              case rel => exact ⟨k + 1, by omega, by go_num, by first | rfl | trivial⟩
              case measure => simp only [intOf]; omega
            · obtain rfl : k = N := by omega
              have hkI : ¬ (k : Int) < (k : Int) := by omega
              go_wp2_with fail
              go_loopw [16] (fun s16 wr => ∃ (q : Nat), q ≤ i ∧ s16 = .int .i64 (q : Int) ∧ Hid (∃ R o, Lv D W2 W2.heap.size wr p I o BB a5 c5 R)) (fun s16 _ => i - (intOf s16).toNat)
              case atStart => exact ⟨0, Nat.zero_le _, rfl, R5, none, L5.out⟩
              case round =>
                clear L5
                obtain ⟨q, hqi, rfl, HQ⟩ := hrel
                obtain ⟨RQ, oQ, hQ⟩ := HQ.out
                have LQ : Hid (Lv D W2 W2.heap.size wr p I oQ BB a5 c5 RQ) := hQ
                clear HQ hQ
                by_cases hq : q < i
                · have hqI : (q : Int) < (i : Int) := by omega
                  have hql : q < l.length := by rw [HLN.out]; exact hq
                  obtain ⟨b, off, hix, _, hcs⟩ := H2.out.2.1.spots (by omega)
                  have hx := hix q hq
                  have HCU : Hid (∀ W, Below W2.heap.size W2 W → W.cell? ⟨b, off + q * 4, none⟩ = some (.string l[q].1.user)) := fun W hW => (hcs W hW q hql).1
                  have HG : Hid (∀ W, Below W2.heap.size W2 W → Calls Try.prog 18 #[.slice a i c, .string l[q].1.user, .int .u64 (s : Int)] W fun e w' => e = .returned (.tuple #[.string (told17 (lget17 l l[q].1.user s)).1, .int .i64 (((told17 (lget17 l l[q].1.user s)).2 : Nat) : Int)]) ∧ W = w') := fun W hW => (rget17 (HKW.out W hW) l[q].1.user s).mono fun x w' ⟨h1, h2⟩ => ⟨h1, h2.symm⟩
                  have HIFQ := HIF.out l[q].1.user
                  clear hix hcs
                  generalize l[q].1.user = eu at HCU HG HIFQ
                  generalize (told17 (lget17 l eu s)).1 = tv at HG
                  generalize (told17 (lget17 l eu s)).2 = tk at HG HIFQ
                  have HTK : Hid (tk = 2 ↔ ∃ x, (eu, x) ∈ I) := HIFQ
                  clear HIFQ
                  generalize off + q * 4 = oq at hx HCU
                  have x0 := HCU.out _ LQ.out.vw.low
                  go_wp2_with fail
                  refine (HG.out _ LQ.out.vw.low).mono ?_
                  rintro _ w7 ⟨rfl, rfl⟩
                  go_wp2_with fail
                  refine (F.seek eu LQ.out.vw.it).mono ?_
                  rintro _ w8 ⟨rfl, hp8⟩
                  obtain ⟨R8, h8⟩ := LQ.out.step hp8
                  rw [show go7 I 3 eu oQ = norm7 I (seek7 I eu) from rfl] at h8
                  obtain ⟨oS, hoS⟩ : ∃ oS, oS = norm7 I (seek7 I eu) := ⟨_, rfl⟩
                  rw [← hoS] at h8
                  have L8 : Hid (Lv D W2 W2.heap.size w8 p I oS BB a5 c5 R8) := h8
                  have hcase := seek_case HIR.out eu
                  rw [← hoS] at hcase
                  clear hp8 h8 hoS LQ
                  clear HG x0
                  rcases hcase with ⟨htd, hno⟩ | ⟨e, htd, hge, hiff⟩
                  · have HTD : Hid (told7 I oS = (i0, false)) := htd
                    have htk : ((tk : Int) == 2) = false := by
                      have h2 : tk ≠ 2 := fun h => hno (HTK.out.1 h)
                      rw [beq_eq_false_iff_ne]
                      omega
                    clear htd hno HTK
                    have hA : Calls Try.prog 13 #[at_ p] w8 fun x w' => x = .returned (.tuple #[.agg #[.string ⟨#[]⟩, .string ⟨#[]⟩], .bool false]) ∧ ∃ R', Lv D W2 W2.heap.size w' p I oS BB a5 c5 R' := L8.out.at' F HTD.out
                    go_wp2_with fail
                    refine hA.mono ?_
                    rintro _ w9 ⟨rfl, R9, h9⟩
                    have L9 : Hid (Lv D W2 W2.heap.size (w9.alloc (.cells #[.string ⟨#[]⟩, .string ⟨#[]⟩] TItm)) p I oS BB a5 c5 R9 ∧ Box (w9.alloc (.cells #[.string ⟨#[]⟩, .string ⟨#[]⟩] TItm)) w9.heap.size TItm #[.string ⟨#[]⟩, .string ⟨#[]⟩]) := ⟨h9.below F ((Below.refl _ _).alloc (Nat.le_refl _) _), Box.new _ _ _⟩
                    clear h9 hA L8
                    go_upto_region 29 with fail
                    generalize w9.heap.size = q9 at L9 ⊢
                    generalize w9.alloc (.cells #[.string ⟨#[]⟩, .string ⟨#[]⟩] TItm) = W10 at L9 ⊢
                    have b0 := L9.out.2.cell 0
                    have b1 := L9.out.2.cell 1
                    simp only [List.getElem?_toArray, List.getElem?_cons_succ, List.getElem?_cons_zero] at b0 b1
                    have x0 := HCU.out _ L9.out.1.vw.low
                    have L11 : Hid (∀ m, ∃ R o, Lv D W2 W2.heap.size (W10.drewN m) p I o BB a5 c5 R) := fun m => ⟨R9, oS, L9.out.1.below F (Below.drewM (Below.refl _ _) _)⟩
                    clear L9
                    go_quiet (fail)
                    go_wp2
                    go_roundw
                    case rel => exact ⟨q + 1, by omega, by go_num, L11.out _⟩
                    case measure => simp only [intOf]; omega
                  · have HTD : Hid (told7 I oS = (e, true)) := htd
                    by_cases hee : e.1 = eu
                    · have htk : ((tk : Int) == 2) = true := by
                        have h2 : tk = 2 := HTK.out.2 (hiff.1 hee)
                        rw [h2]; rfl
                      have hke : (e.1.toList == eu.toList) = true := by rw [hee]; simp
                      clear htd hge hiff HTK hee
                      have hA : Calls Try.prog 13 #[at_ p] w8 fun x w' => x = .returned (.tuple #[.agg #[.string e.1, .string e.2], .bool true]) ∧ ∃ R', Lv D W2 W2.heap.size w' p I oS BB a5 c5 R' := L8.out.at' F HTD.out
                      go_wp2_with fail
                      refine hA.mono ?_
                      rintro _ w9 ⟨rfl, R9, h9⟩
                      have L9 : Hid (Lv D W2 W2.heap.size (w9.alloc (.cells #[.string e.1, .string e.2] TItm)) p I oS BB a5 c5 R9 ∧ Box (w9.alloc (.cells #[.string e.1, .string e.2] TItm)) w9.heap.size TItm #[.string e.1, .string e.2]) := ⟨h9.below F ((Below.refl _ _).alloc (Nat.le_refl _) _), Box.new _ _ _⟩
                      clear h9 hA L8
                      go_upto_region 29 with fail
                      generalize w9.heap.size = q9 at L9 ⊢
                      generalize w9.alloc (.cells #[.string e.1, .string e.2] TItm) = W10 at L9 ⊢
                      have b0 := L9.out.2.cell 0
                      have b1 := L9.out.2.cell 1
                      simp only [List.getElem?_toArray, List.getElem?_cons_succ, List.getElem?_cons_zero] at b0 b1
                      have x0 := HCU.out _ L9.out.1.vw.low
                      have L11 : Hid (∀ m, ∃ R o, Lv D W2 W2.heap.size (W10.drewN m) p I o BB a5 c5 R) := fun m => ⟨R9, oS, L9.out.1.below F (Below.drewM (Below.refl _ _) _)⟩
                      clear L9
                      go_quiet (fail)
                      go_wp2
                      go_roundw
                      case rel => exact ⟨q + 1, by omega, by go_num, L11.out _⟩
                      case measure => simp only [intOf]; omega
                    · have htk : ((tk : Int) == 2) = false := by
                        have h2 : tk ≠ 2 := fun h => hee (hiff.2 (HTK.out.1 h))
                        rw [beq_eq_false_iff_ne]
                        omega
                      have hke : (e.1.toList == eu.toList) = false := by
                        rw [beq_eq_false_iff_ne]
                        intro h
                        exact hee (ba_ext17 (by simpa [ByteArray.toList_eq] using h))
                      clear htd hge hiff HTK hee
                      have hA : Calls Try.prog 13 #[at_ p] w8 fun x w' => x = .returned (.tuple #[.agg #[.string e.1, .string e.2], .bool true]) ∧ ∃ R', Lv D W2 W2.heap.size w' p I oS BB a5 c5 R' := L8.out.at' F HTD.out
                      go_wp2_with fail
                      refine hA.mono ?_
                      rintro _ w9 ⟨rfl, R9, h9⟩
                      have L9 : Hid (Lv D W2 W2.heap.size (w9.alloc (.cells #[.string e.1, .string e.2] TItm)) p I oS BB a5 c5 R9 ∧ Box (w9.alloc (.cells #[.string e.1, .string e.2] TItm)) w9.heap.size TItm #[.string e.1, .string e.2]) := ⟨h9.below F ((Below.refl _ _).alloc (Nat.le_refl _) _), Box.new _ _ _⟩
                      clear h9 hA L8
                      go_upto_region 29 with fail
                      generalize w9.heap.size = q9 at L9 ⊢
                      generalize w9.alloc (.cells #[.string e.1, .string e.2] TItm) = W10 at L9 ⊢
                      have b0 := L9.out.2.cell 0
                      have b1 := L9.out.2.cell 1
                      simp only [List.getElem?_toArray, List.getElem?_cons_succ, List.getElem?_cons_zero] at b0 b1
                      have x0 := HCU.out _ L9.out.1.vw.low
                      have L11 : Hid (∀ m, ∃ R o, Lv D W2 W2.heap.size (W10.drewN m) p I o BB a5 c5 R) := fun m => ⟨R9, oS, L9.out.1.below F (Below.drewM (Below.refl _ _) _)⟩
                      clear L9
                      go_quiet (fail)
                      go_wp2
                      go_roundw
                      case rel => exact ⟨q + 1, by omega, by go_num, L11.out _⟩
                      case measure => simp only [intOf]; omega
                · obtain rfl : q = i := by omega
                  have hqI : ¬ (q : Int) < (q : Int) := by omega
                  go_wp2_with fail
                  refine (F.seek u LQ.out.vw.it).mono ?_
                  rintro _ w8 ⟨rfl, hp8⟩
                  obtain ⟨R8, h8⟩ := LQ.out.step hp8
                  rw [show go7 I 3 u oQ = norm7 I (seek7 I u) from rfl] at h8
                  obtain ⟨oS, hoS⟩ : ∃ oS, oS = norm7 I (seek7 I u) := ⟨_, rfl⟩
                  rw [← hoS] at h8
                  have L8 : Hid (Lv D W2 W2.heap.size w8 p I oS BB a5 c5 R8) := h8
                  have hcase := seek_case HIR.out u
                  rw [← hoS] at hcase
                  clear hp8 h8 hoS LQ
                  rcases hcase with ⟨htd, hno⟩ | ⟨e, htd, hge, hiff⟩
                  · have HTD : Hid (told7 I oS = (i0, false)) := htd
                    clear htd hno
                    have hA : Calls Try.prog 13 #[at_ p] w8 fun x w' => x = .returned (.tuple #[.agg #[.string ⟨#[]⟩, .string ⟨#[]⟩], .bool false]) ∧ ∃ R', Lv D W2 W2.heap.size w' p I oS BB a5 c5 R' := L8.out.at' F HTD.out
                    go_wp2_with fail
                    refine hA.mono ?_
                    rintro _ w9 ⟨rfl, R9, h9⟩
                    have L9 : Hid (Lv D W2 W2.heap.size (w9.alloc (.cells #[.string ⟨#[]⟩, .string ⟨#[]⟩] TItm)) p I oS BB a5 c5 R9 ∧ Box (w9.alloc (.cells #[.string ⟨#[]⟩, .string ⟨#[]⟩] TItm)) w9.heap.size TItm #[.string ⟨#[]⟩, .string ⟨#[]⟩]) := ⟨h9.below F ((Below.refl _ _).alloc (Nat.le_refl _) _), Box.new _ _ _⟩
                    clear h9 hA L8
                    go_upto_region 33 with fail
                    generalize w9.heap.size = q9 at L9 ⊢
                    generalize w9.alloc (.cells #[.string ⟨#[]⟩, .string ⟨#[]⟩] TItm) = W10 at L9 ⊢
                    have b0 := L9.out.2.cell 0
                    have b1 := L9.out.2.cell 1
                    simp only [List.getElem?_toArray, List.getElem?_cons_succ, List.getElem?_cons_zero] at b0 b1
                    have HB : Hid (Below w.heap.size w W10) := H2.out.1.trans (L9.out.1.vw.low.mono H2.out.1.size)
                    go_wp2
                    go_ret
                    exact ⟨ret1 rfl, HB.out⟩
                  · have HTD : Hid (told7 I oS = (e, true)) := htd
                    have hbl : Op.bytesLess e.1.toList u.toList = false := by
                      cases h : Op.bytesLess e.1.toList u.toList with
                      | false => rfl
                      | true => exact absurd (uc_less.2 h) hge
                    clear htd hge hiff
                    have hA : Calls Try.prog 13 #[at_ p] w8 fun x w' => x = .returned (.tuple #[.agg #[.string e.1, .string e.2], .bool true]) ∧ ∃ R', Lv D W2 W2.heap.size w' p I oS BB a5 c5 R' := L8.out.at' F HTD.out
                    go_wp2_with fail
                    refine hA.mono ?_
                    rintro _ w9 ⟨rfl, R9, h9⟩
                    have L9 : Hid (Lv D W2 W2.heap.size (w9.alloc (.cells #[.string e.1, .string e.2] TItm)) p I oS BB a5 c5 R9 ∧ Box (w9.alloc (.cells #[.string e.1, .string e.2] TItm)) w9.heap.size TItm #[.string e.1, .string e.2]) := ⟨h9.below F ((Below.refl _ _).alloc (Nat.le_refl _) _), Box.new _ _ _⟩
                    clear h9 hA L8
                    go_upto_region 33 with fail
                    generalize w9.heap.size = q9 at L9 ⊢
                    generalize w9.alloc (.cells #[.string e.1, .string e.2] TItm) = W10 at L9 ⊢
                    have b0 := L9.out.2.cell 0
                    have b1 := L9.out.2.cell 1
                    simp only [List.getElem?_toArray, List.getElem?_cons_succ, List.getElem?_cons_zero] at b0 b1
                    have HB : Hid (Below w.heap.size w W10) := H2.out.1.trans (L9.out.1.vw.low.mono H2.out.1.size)
                    go_wp2
                    go_ret
                    exact ⟨ret1 rfl, HB.out⟩
    · have HB : Hid (Below w.heap.size w w3) := H2.out.1.trans (hb3.mono H2.out.1.size)
      clear hb3
      go_wp2
      go_ret
      exact ⟨ret1 rfl, HB.out⟩
end Go.Proofs.Ytjoamhcehpjepaa
