/- The contract of the document's own Nums. -/
import Derived.Test.YtcdfgcjecmpjhaaV14Ask
import Derived.Test.YtcdfgcjecmpjhaaV14Nums
import Derived.Deep.DeepCutAuto
namespace Go.Proofs.Ytcdfgcjecmpjhaa
open Go.RowKit
set_option linter.unusedVariables false
set_option linter.unusedSimpArgs false
/-- A number in its place. -/
def insN (x : Nat) : List Nat → List Nat
  | [] => [x]
  | y :: r => if x < y then x :: y :: r else y :: insN x r
theorem insN_perm (x : Nat) : ∀ l : List Nat, (insN x l).Perm (x :: l)
  | [] => .refl _
  | y :: r => by
    unfold insN
    split
    · exact .refl _
    · exact ((insN_perm x r).cons y).trans (.swap x y r)
theorem insN_row {x : Nat} : ∀ {l : List Nat}, l.Pairwise (· ≤ ·) → (insN x l).Pairwise (· ≤ ·)
  | [], _ => by simp [insN]
  | y :: r, h => by
    obtain ⟨h1, h2⟩ := List.pairwise_cons.1 h
    unfold insN
    by_cases hx : x < y
    · rw [if_pos hx]
      refine List.pairwise_cons.2 ⟨fun z hz => ?_, h⟩
      rcases List.mem_cons.1 hz with rfl | hz
      · omega
      · have := h1 z hz; omega
    · rw [if_neg hx]
      refine List.pairwise_cons.2 ⟨fun z hz => ?_, insN_row h2⟩
      rcases List.mem_cons.1 ((insN_perm x r).mem_iff.1 hz) with rfl | hz
      · omega
      · exact h1 z hz
theorem insN_no {x : Nat} : ∀ {l : List Nat}, (∀ y ∈ l, ¬ x < y) → insN x l = l ++ [x]
  | [], _ => rfl
  | y :: r, h => by
    unfold insN
    rw [if_neg (h y (by simp)), insN_no (fun z hz => h z (by simp [hz]))]
    rfl
theorem insN_snoc_yes {x z : Nat} : ∀ {l : List Nat}, (∃ y ∈ l, x < y) → insN x (l ++ [z]) = insN x l ++ [z]
  | [], h => by obtain ⟨g, hg, _⟩ := h; cases hg
  | y :: r, h => by
    rw [List.cons_append]
    unfold insN
    by_cases hg : x < y
    · rw [if_pos hg, if_pos hg]
      rfl
    · rw [if_neg hg, if_neg hg, insN_snoc_yes]
      · rfl
      · obtain ⟨q, hq, hq2⟩ := h
        rcases List.mem_cons.1 hq with rfl | hq
        · exact absurd hq2 hg
        · exact ⟨q, hq, hq2⟩
theorem insN_snoc_no {x z : Nat} : ∀ {l : List Nat}, (∀ y ∈ l, ¬ x < y) → x < z → insN x (l ++ [z]) = l ++ [x] ++ [z]
  | [], _, hx => by
    show insN x [z] = _
    unfold insN
    rw [if_pos hx]
    rfl
  | y :: r, h, hx => by
    rw [List.cons_append]
    unfold insN
    rw [if_neg (h y (by simp)), insN_snoc_no (fun q hq => h q (by simp [hq])) hx]
    rfl
/-- How far the document's own Nums has come with one number. -/
structure Wn (x : Nat) (l : List Nat) (i : Nat) (dn : Bool) (o : List Nat) : Prop where
  yes : dn = true → (∃ g ∈ l.take i, x < g) ∧ o = insN x (l.take i)
  no : dn = false → (∀ g ∈ l.take i, ¬ x < g) ∧ o = l.take i
theorem Wn.step {x : Nat} {l : List Nat} {i : Nat} {dn : Bool} {o : List Nat} (h : Wn x l i dn o) (hi : i < l.length) : (dn = true ∨ ¬ x < l[i] → Wn x l (i + 1) dn (o ++ [l[i]])) ∧ (dn = false → x < l[i] → Wn x l (i + 1) true (o ++ [x] ++ [l[i]])) := by
  have e := List.take_succ_eq_append_getElem hi
  refine ⟨fun hc => ⟨fun hd => ?_, fun hd => ?_⟩, fun hd ha => ⟨fun _ => ?_, fun hx => by cases hx⟩⟩
  · obtain ⟨⟨g, hg, hg2⟩, rfl⟩ := h.yes hd
    rw [e]
    exact ⟨⟨g, List.mem_append_left _ hg, hg2⟩, (insN_snoc_yes ⟨g, hg, hg2⟩).symm⟩
  · obtain ⟨h1, rfl⟩ := h.no hd
    rw [e]
    refine ⟨fun g hg => ?_, rfl⟩
    rcases List.mem_append.1 hg with hg | hg
    · exact h1 g hg
    · obtain rfl := List.mem_singleton.1 hg
      rcases hc with hc | hc
      · rw [hd] at hc; cases hc
      · exact hc
  · obtain ⟨h1, rfl⟩ := h.no hd
    rw [e]
    exact ⟨⟨l[i], List.mem_append_right _ (List.mem_singleton.2 rfl), ha⟩, (insN_snoc_no h1 ha).symm⟩
theorem Wn.len {x : Nat} {l : List Nat} {i : Nat} {o : List Nat} (h : Wn x l i false o) : o.length ≤ i := by
  rw [(h.no rfl).2, List.length_take]
  omega
theorem rise_eq : ∀ {l m : List Nat}, l.Perm m → l.Pairwise (· ≤ ·) → m.Pairwise (· ≤ ·) → l = m
  | [], m, h, _, _ => h.nil_eq
  | x :: r, [], h, _, _ => h.symm.nil_eq.symm
  | x :: r, y :: q, h, h1, h2 => by
    obtain ⟨a1, a2⟩ := List.pairwise_cons.1 h1
    obtain ⟨b1, b2⟩ := List.pairwise_cons.1 h2
    have e : x = y := by
      have hx : x ≤ y := by
        rcases List.mem_cons.1 (h.mem_iff.2 (List.mem_cons_self : y ∈ y :: q)) with e | e
        · omega
        · exact a1 y e
      have hy : y ≤ x := by
        rcases List.mem_cons.1 (h.mem_iff.1 (List.mem_cons_self : x ∈ x :: r)) with e | e
        · omega
        · exact b1 x e
      omega
    subst e
    rw [rise_eq h.cons_inv a2 b2]
theorem OwnU.less {w : World} {B B' : Nat} {a : Option Addr} {n c : Nat} {l : List Nat} (h : OwnU w B a n c l) (hB : B' ≤ B) : OwnU w B' a n c l := ⟨h.size, row_less h.row hB⟩
set_option maxRecDepth 100000 in
set_option maxHeartbeats 8000000 in
theorem rnums_any (v : PV) (s : SV) (w : World) (h : VnAt w v s) (hn : v.all.length < 65536) :
    Calls Try.prog 22 #[.agg #[.slice (s.a 0) (v 0).length (s.c 0), .slice (s.a 1) (v 1).length (s.c 1), .slice (s.a 2) (v 2).length (s.c 2), .slice (s.a 3) (v 3).length (s.c 3)]] w fun e w' => ∃ (a : Option Addr) (n c : Nat) (l : List Nat), e = .returned (.slice a n c) ∧ OwnU w' w.heap.size a n c l ∧ l.Perm (v.all.map PF.num) ∧ l.Pairwise (· ≤ ·) ∧ Below w.heap.size w w' := by
  have HV : Hid (VnAt w v s) := h
  have HB0 : Hid (Below w.heap.size w (w.alloc (.cells (vA v s) TVn)) ∧ Box (w.alloc (.cells (vA v s) TVn)) w.heap.size TVn (vA v s)) := ⟨(Below.refl _ _).alloc (Nat.le_refl _) _, Box.new _ _ _⟩
  have HN : Hid (v.all.length < 65536) := hn
  clear h hn
  go_enter Try.func22, Try.ntmps22
  go_wp2_with fail
  go_loopw [4, 3] (fun s4 s3 wr => ∃ (k m : Nat) (a : Option Addr) (c : Nat) (l : List Nat), k ≤ 4 ∧ s4 = .int .i64 (k : Int) ∧ s3 = .slice a m c ∧ Hid (OwnU wr (w.heap.size + 1) a m c l ∧ l.Perm (accN v k) ∧ l.Pairwise (· ≤ ·) ∧ Below w.heap.size w wr ∧ Box wr w.heap.size TVn (vA v s))) (fun s4 _ _ => 4 - (intOf s4).toNat)
  case atStart => exact ⟨0, 0, none, 0, [], by omega, rfl, rfl, OwnU.nil _ _, .refl _, List.Pairwise.nil, HB0.out⟩
  case round =>
    obtain ⟨k, m0, a0, c0, l0, hk4, rfl, rfl, HI⟩ := hrel
    by_cases hk : k < 4
    · have hle := accN_le (v := v) hk
      have hkI : (k : Int) < 4 := by omega
      have HKL : Hid (accN v (k + 1) = accN v k ++ (v k).map PF.num) := accN_succ v k
      have HFL : Hid (FlAt w (s.a k) (v k).length (s.c k) (v k)) := HV.out k hk
      have hall : v.all.length < 65536 := HN.out
      have hx := idxL_arr w.heap.size k hk
      have HLV : Hid (∀ W, Box W w.heap.size TVn (vA v s) → W.cell? ⟨w.heap.size, k, none⟩ = some (.slice (s.a k) (v k).length (s.c k))) := fun W hW => hW.level hk
      generalize v k = lk at HKL HFL hle HLV
      generalize accN v k = ac at HI HKL hle
      generalize s.a k = ak at HFL HLV
      generalize s.c k = ck at HFL HLV
      go_wp2_with fail
      go_loopw [5, 3] (fun s5 s3 wr => ∃ (i m : Nat) (a : Option Addr) (c : Nat) (l : List Nat), i ≤ lk.length ∧ s5 = .int .i64 (i : Int) ∧ s3 = .slice a m c ∧ Hid (OwnU wr (w.heap.size + 1) a m c l ∧ l.Perm (ac ++ (lk.take i).map PF.num) ∧ l.Pairwise (· ≤ ·) ∧ Below w.heap.size w wr ∧ Box wr w.heap.size TVn (vA v s))) (fun s5 _ _ => lk.length - (intOf s5).toNat)
      case atStart => exact ⟨0, m0, a0, c0, l0, Nat.zero_le _, rfl, rfl, HI.out.1, by simpa using HI.out.2.1, HI.out.2.2⟩
      case round =>
        clear HI
        obtain ⟨i, m, a, c, l, hil, rfl, rfl, HI⟩ := hrel
        have hcell := HLV.out wr HI.out.2.2.2.2
        by_cases hi : i < lk.length
        · have hiI : (i : Int) < (lk.length : Int) := by omega
          obtain ⟨b, o, hix, hblt, hcs⟩ := HFL.out.at hi
          obtain ⟨d0, d1, d2, d3, d4, d5, d6, d7, d8⟩ := hcs wr HI.out.2.2.2.1
          have HTK : Hid (lk.take (i + 1) = lk.take i ++ [lk[i]]) := List.take_succ_eq_append_getElem hi
          clear hcs
          generalize lk[i] = f at d0 d1 d2 d3 d4 d5 d6 d7 d8 HTK
          have hm2 : m < 65536 := by
            have h1 := HI.out.1.size
            have h2 := HI.out.2.1.length_eq
            rw [List.length_append, List.length_map, List.length_take] at h2
            omega
          have HTM : Hid ((lk.take (i + 1)).map PF.num = (lk.take i).map PF.num ++ [f.num]) := by unfold Hid; rw [HTK.out]; simp
          clear HTK
          go_upto_region 9 with fail
          clear d0 d1 d2 d3 d4 d5 d6 d7 d8 hix hcell
          generalize f.num = x at HTM ⊢
          have HW0 : Hid (Below w.heap.size w wr ∧ Box wr w.heap.size TVn (vA v s) ∧ w.heap.size + 1 ≤ wr.heap.size ∧ OwnU wr (w.heap.size + 1) a m c l) := ⟨HI.out.2.2.2.1, HI.out.2.2.2.2, HI.out.2.2.2.2.lt, HI.out.1⟩
          have HP : Hid (l.Perm (ac ++ (lk.take i).map PF.num) ∧ l.Pairwise (· ≤ ·)) := ⟨HI.out.2.1, HI.out.2.2.1⟩
          clear HI
          generalize hw0 : wr = w0 at HW0 ⊢
          clear hw0
          go_wp2_with fail
          go_loopw [7, 8, 9] (fun s7 s8 s9 wr => ∃ (j k : Nat) (dn : Bool) (a' : Option Addr) (c' : Nat) (o : List Nat), j ≤ m ∧ k ≤ j + 1 ∧ s9 = .int .i64 (j : Int) ∧ s8 = .bool dn ∧ s7 = .slice a' k c' ∧ Hid (OwnU wr w0.heap.size a' k c' o ∧ Wn x l j dn o ∧ Below w0.heap.size w0 wr)) (fun _ _ s9 _ => m - (intOf s9).toNat)
          case atStart => exact ⟨0, 0, false, none, 0, [], Nat.zero_le _, by omega, rfl, rfl, rfl, OwnU.nil _ _, ⟨fun h => (by cases h), fun _ => ⟨by simp, by simp⟩⟩, Below.refl _ _⟩
          case round =>
            obtain ⟨j, k', dn, a', c', o', hjm, hkj, rfl, rfl, rfl, HJ⟩ := hrel
            by_cases hj : j < m
            · have hjl : j < l.length := by rw [HW0.out.2.2.2.size]; exact hj
              have hjI : (j : Int) < (m : Int) := by omega
              obtain ⟨b2, o2, hix, hblt2, hcs⟩ := HW0.out.2.2.2.us.at hjl
              have hc0 := hcs wr HJ.out.2.2
              have HS2 : Hid ((dn = true ∨ ¬ x < l[j] → Wn x l (j + 1) dn (o' ++ [l[j]])) ∧ (dn = false → x < l[j] → Wn x l (j + 1) true (o' ++ [x] ++ [l[j]]))) := HJ.out.2.1.step hjl
              have HCS : Hid (∀ W : World, Below w0.heap.size w0 W → W.cell? ⟨b2, o2, none⟩ = some (.int .u64 (l[j] : Int))) := hcs
              clear hcs
              generalize l[j] = y at hc0 HS2 HCS
              by_cases hcase : dn = false ∧ x < y
              · obtain ⟨rfl, hxy⟩ := hcase
                have hxyI : (x : Int) < (y : Int) := by omega
                have hk2 : k' ≤ j := by have := HJ.out.1.size; have := HJ.out.2.1.len; omega
                have HST : Hid (Wn x l (j + 1) true (o' ++ [x] ++ [y])) := HS2.out.2 rfl hxy
                have HAw4 : Hid (OwnU (wr.alloc (.cells #[.int .u64 (x : Int)] TU)) w0.heap.size a' (k') c' (o') ∧ Below w0.heap.size w0 (wr.alloc (.cells #[.int .u64 (x : Int)] TU)) ∧ UsAt (wr.alloc (.cells #[.int .u64 (x : Int)] TU)) (some ⟨wr.heap.size, 0, none⟩) 1 1 [x] ∧ w0.heap.size ≤ (wr.alloc (.cells #[.int .u64 (x : Int)] TU)).heap.size) := by
                  have hB := HJ.out.2.2.alloc HJ.out.2.2.size (.cells #[.int .u64 (x : Int)] TU)
                  exact ⟨HJ.out.1.alloc _, hB, UsAt.one wr x, hB.size⟩
                go_upto_region 16 with (at_builtin; refine wpList_appU (wr.alloc (.cells #[.int .u64 (x : Int)] TU)) rfl _ _ rfl w0.heap.size a' (k') c' (o') rfl HAw4.out.1 (some ⟨wr.heap.size, 0, none⟩) 1 1 [x] rfl HAw4.out.2.2.1 (by omega) HAw4.out.2.2.2 ?_; intro a4 c4 w4 ho2 hb2 hg2)
                have Hw4 : Hid (OwnU w4 w0.heap.size a4 (k' + 1) c4 (o' ++ [x]) ∧ Below w0.heap.size w0 w4) := ⟨ho2, HAw4.out.2.1.trans hb2⟩
                clear ho2 hb2 hg2
                have hc1 := HCS.out w4 Hw4.out.2
                have HAw7 : Hid (OwnU (w4.alloc (.cells #[.int .u64 (y : Int)] TU)) w0.heap.size a4 (k' + 1) c4 (o' ++ [x]) ∧ Below w0.heap.size w0 (w4.alloc (.cells #[.int .u64 (y : Int)] TU)) ∧ UsAt (w4.alloc (.cells #[.int .u64 (y : Int)] TU)) (some ⟨w4.heap.size, 0, none⟩) 1 1 [y] ∧ w0.heap.size ≤ (w4.alloc (.cells #[.int .u64 (y : Int)] TU)).heap.size) := by
                  have hB := Hw4.out.2.alloc Hw4.out.2.size (.cells #[.int .u64 (y : Int)] TU)
                  exact ⟨Hw4.out.1.alloc _, hB, UsAt.one w4 y, hB.size⟩
                go_wp2_with (at_builtin; refine wpList_appU (w4.alloc (.cells #[.int .u64 (y : Int)] TU)) rfl _ _ rfl w0.heap.size a4 (k' + 1) c4 (o' ++ [x]) rfl HAw7.out.1 (some ⟨w4.heap.size, 0, none⟩) 1 1 [y] rfl HAw7.out.2.2.1 (by omega) HAw7.out.2.2.2 ?_; intro a7 c7 w7 ho2 hb2 hg2)
                have Hw7 : Hid (OwnU w7 w0.heap.size a7 (k' + 1 + 1) c7 (o' ++ [x] ++ [y]) ∧ Below w0.heap.size w0 w7) := ⟨ho2, HAw7.out.2.1.trans hb2⟩
                clear ho2 hb2 hg2
                go_wp2
                go_roundw
                case rel => exact ⟨j + 1, k' + 1 + 1, true, a7, c7, o' ++ [x] ++ [y], hj, by omega, by go_num, rfl, rfl, Hw7.out.1, HST.out, Hw7.out.2⟩
                case measure => simp only [intOf]; omega
              · rcases (show dn = true ∨ (dn = false ∧ ¬ x < y) by cases dn <;> simp at hcase ⊢; exact hcase) with rfl | ⟨rfl, hxy⟩
                · have HST : Hid (Wn x l (j + 1) true (o' ++ [y])) := HS2.out.1 (.inl rfl)
                  clear hcase
                  have HAw7 : Hid (OwnU (wr.alloc (.cells #[.int .u64 (y : Int)] TU)) w0.heap.size a' (k') c' (o') ∧ Below w0.heap.size w0 (wr.alloc (.cells #[.int .u64 (y : Int)] TU)) ∧ UsAt (wr.alloc (.cells #[.int .u64 (y : Int)] TU)) (some ⟨wr.heap.size, 0, none⟩) 1 1 [y] ∧ w0.heap.size ≤ (wr.alloc (.cells #[.int .u64 (y : Int)] TU)).heap.size) := by
                    have hB := HJ.out.2.2.alloc HJ.out.2.2.size (.cells #[.int .u64 (y : Int)] TU)
                    exact ⟨HJ.out.1.alloc _, hB, UsAt.one wr y, hB.size⟩
                  go_wp2_with (at_builtin; refine wpList_appU (wr.alloc (.cells #[.int .u64 (y : Int)] TU)) rfl _ _ rfl w0.heap.size a' (k') c' (o') rfl HAw7.out.1 (some ⟨wr.heap.size, 0, none⟩) 1 1 [y] rfl HAw7.out.2.2.1 (by omega) HAw7.out.2.2.2 ?_; intro a7 c7 w7 ho2 hb2 hg2)
                  have Hw7 : Hid (OwnU w7 w0.heap.size a7 (k' + 1) c7 (o' ++ [y]) ∧ Below w0.heap.size w0 w7) := ⟨ho2, HAw7.out.2.1.trans hb2⟩
                  clear ho2 hb2 hg2
                  go_wp2
                  go_roundw
                  case rel => exact ⟨j + 1, k' + 1, true, a7, c7, o' ++ [y], hj, by omega, by go_num, rfl, rfl, Hw7.out.1, HST.out, Hw7.out.2⟩
                  case measure => simp only [intOf]; omega
                · have HST : Hid (Wn x l (j + 1) false (o' ++ [y])) := HS2.out.1 (.inr hxy)
                  have hxyI : ¬ (x : Int) < (y : Int) := by omega
                  clear hcase
                  have HAw7 : Hid (OwnU (wr.alloc (.cells #[.int .u64 (y : Int)] TU)) w0.heap.size a' (k') c' (o') ∧ Below w0.heap.size w0 (wr.alloc (.cells #[.int .u64 (y : Int)] TU)) ∧ UsAt (wr.alloc (.cells #[.int .u64 (y : Int)] TU)) (some ⟨wr.heap.size, 0, none⟩) 1 1 [y] ∧ w0.heap.size ≤ (wr.alloc (.cells #[.int .u64 (y : Int)] TU)).heap.size) := by
                    have hB := HJ.out.2.2.alloc HJ.out.2.2.size (.cells #[.int .u64 (y : Int)] TU)
                    exact ⟨HJ.out.1.alloc _, hB, UsAt.one wr y, hB.size⟩
                  go_wp2_with (at_builtin; refine wpList_appU (wr.alloc (.cells #[.int .u64 (y : Int)] TU)) rfl _ _ rfl w0.heap.size a' (k') c' (o') rfl HAw7.out.1 (some ⟨wr.heap.size, 0, none⟩) 1 1 [y] rfl HAw7.out.2.2.1 (by omega) HAw7.out.2.2.2 ?_; intro a7 c7 w7 ho2 hb2 hg2)
                  have Hw7 : Hid (OwnU w7 w0.heap.size a7 (k' + 1) c7 (o' ++ [y]) ∧ Below w0.heap.size w0 w7) := ⟨ho2, HAw7.out.2.1.trans hb2⟩
                  clear ho2 hb2 hg2
                  go_wp2
                  go_roundw
                  case rel => exact ⟨j + 1, k' + 1, false, a7, c7, o' ++ [y], hj, by omega, by go_num, rfl, rfl, Hw7.out.1, HST.out, Hw7.out.2⟩
                  case measure => simp only [intOf]; omega
            · have hjI : ¬ (j : Int) < (m : Int) := by omega
              have HE : Hid (∀ W n' a'' c'', OwnU W w0.heap.size a'' n' c'' (insN x l) → Below w0.heap.size w0 W → OwnU W (w.heap.size + 1) a'' n' c'' (insN x l) ∧ (insN x l).Perm (ac ++ (lk.take (i + 1)).map PF.num) ∧ (insN x l).Pairwise (· ≤ ·) ∧ Below w.heap.size w W ∧ Box W w.heap.size TVn (vA v s)) := fun W n' a'' c'' ho hb => by
                refine ⟨ho.less HW0.out.2.2.1, ?_, insN_row HP.out.2, HW0.out.1.trans (hb.mono HW0.out.1.size), HW0.out.2.1.kept (hb.block _ HW0.out.2.1.lt)⟩
                rw [HTM.out, ← List.append_assoc]
                refine (insN_perm x l).trans ((HP.out.1.cons x).trans ?_)
                exact (List.perm_append_singleton x _).symm
              have HTA : Hid (l.take j = l) := List.take_of_length_le (by rw [HW0.out.2.2.2.size]; omega)
              cases dn
              · have ho : insN x l = o' ++ [x] := by
                  have := HJ.out.2.1.no rfl
                  rw [HTA.out] at this
                  rw [this.2]
                  exact insN_no this.1
                have HO : Hid (insN x l = o' ++ [x]) := ho
                clear ho
                have HAw4 : Hid (OwnU (wr.alloc (.cells #[.int .u64 (x : Int)] TU)) w0.heap.size a' (k') c' (o') ∧ Below w0.heap.size w0 (wr.alloc (.cells #[.int .u64 (x : Int)] TU)) ∧ UsAt (wr.alloc (.cells #[.int .u64 (x : Int)] TU)) (some ⟨wr.heap.size, 0, none⟩) 1 1 [x] ∧ w0.heap.size ≤ (wr.alloc (.cells #[.int .u64 (x : Int)] TU)).heap.size) := by
                  have hB := HJ.out.2.2.alloc HJ.out.2.2.size (.cells #[.int .u64 (x : Int)] TU)
                  exact ⟨HJ.out.1.alloc _, hB, UsAt.one wr x, hB.size⟩
                go_wp2_with (at_builtin; refine wpList_appU (wr.alloc (.cells #[.int .u64 (x : Int)] TU)) rfl _ _ rfl w0.heap.size a' (k') c' (o') rfl HAw4.out.1 (some ⟨wr.heap.size, 0, none⟩) 1 1 [x] rfl HAw4.out.2.2.1 (by omega) HAw4.out.2.2.2 ?_; intro a4 c4 w4 ho2 hb2 hg2)
                have Hw4 : Hid (OwnU w4 w0.heap.size a4 (k' + 1) c4 (o' ++ [x]) ∧ Below w0.heap.size w0 w4) := ⟨ho2, HAw4.out.2.1.trans hb2⟩
                clear ho2 hb2 hg2
                go_wp2
                go_roundw
                case rel => exact ⟨i + 1, k' + 1, a4, c4, insN x l, hi, by go_num, rfl, HE.out _ _ _ _ (by rw [HO.out]; exact Hw4.out.1) Hw4.out.2⟩
                case measure => simp only [intOf]; omega
              · have HO : Hid (o' = insN x l) := by unfold Hid; rw [(HJ.out.2.1.yes rfl).2, HTA.out]
                go_wp2
                go_roundw
                case rel => exact ⟨i + 1, k', a', c', insN x l, hi, by go_num, rfl, HE.out _ _ _ _ (by rw [← HO.out]; exact HJ.out.1) HJ.out.2.2⟩
                case measure => simp only [intOf]; omega
        · have hiI : ¬ (i : Int) < (lk.length : Int) := by omega
          obtain rfl : i = lk.length := by omega
          go_wp2
          go_roundw
          case rel =>
            refine ⟨k + 1, m, a, c, l, hk, by go_num, rfl, HI.out.1, ?_, HI.out.2.2⟩
            rw [HKL.out]
            have := HI.out.2.1
            rw [List.take_length] at this
            exact this
          case measure => simp only [intOf]; omega
    · obtain rfl : k = 4 := by omega
      have H2 : Hid (OwnU wr w.heap.size a0 m0 c0 l0 ∧ l0.Perm (v.all.map PF.num) ∧ l0.Pairwise (· ≤ ·) ∧ Below w.heap.size w wr) := ⟨HI.out.1.less (Nat.le_succ _), by rw [← accN_four]; exact HI.out.2.1, HI.out.2.2.1, HI.out.2.2.2.1⟩
      go_wp2
      go_ret
      exact ⟨a0, m0, c0, l0, ret1 rfl, H2.out⟩
end Go.Proofs.Ytcdfgcjecmpjhaa
