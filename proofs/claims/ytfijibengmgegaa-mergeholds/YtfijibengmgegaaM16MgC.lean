/- Where a gap cuts a list: the library's Search at merge's closure. -/
import Derived.Test.YtfijibengmgegaaM16MgA
import Derived.Deep.LoopGhost
import Derived.WalkKit
namespace Go.Proofs.Ytfijibengmgegaa
open Go.RowKit
set_option linter.unusedVariables false
set_option linter.unusedSimpArgs false
set_option maxRecDepth 100000 in
set_option maxHeartbeats 1000000 in
theorem search16 (n : Nat) (hn : n < 4611686018427387904) (pr : Nat → Bool) (c1 c2 c3 : Value) (w : World)
    (hf : ∀ W : World, Below w.heap.size w W → ∀ i : Nat, i < n → Calls Try.prog 42 #[.int .i64 (i : Int), c1, c2, c3] W fun e w' => e = .returned (.bool (pr i)) ∧ Below W.heap.size W w')
    (hm : ∀ a b, a ≤ b → b < n → pr a = true → pr b = true) :
    Calls Try.prog 41 #[.int .i64 (n : Int), .func (.func 42) #[] #[c1, c2, c3]] w fun e w' => ∃ r : Nat, e = .returned (.int .i64 (r : Int)) ∧ r ≤ n ∧ (∀ i, i < r → pr i = false) ∧ (∀ i, r ≤ i → i < n → pr i = true) ∧ Below w.heap.size w w' := by
  have HF : Hid (∀ W : World, Below w.heap.size w W → ∀ i : Nat, i < n → Calls Try.prog 42 #[.int .i64 (i : Int), c1, c2, c3] W fun e w' => e = .returned (.bool (pr i)) ∧ Below W.heap.size W w') := hf
  have HM : Hid (∀ a b, a ≤ b → b < n → pr a = true → pr b = true) := hm
  clear hf hm
  go_enter Try.func41, Try.ntmps41
  go_wp2
  go_loopg [5, 6] n (fun kx s5 s6 wr => ∃ (lo hi : Nat), s5 = .int .i64 (lo : Int) ∧ s6 = .int .i64 (hi : Int) ∧ lo ≤ hi ∧ hi ≤ n ∧ hi - lo ≤ kx ∧ Hid (Below w.heap.size w wr ∧ (∀ t, t < lo → pr t = false) ∧ (∀ t, hi ≤ t → t < n → pr t = true)))
  case atStart => exact ⟨0, n, rfl, rfl, Nat.zero_le _, Nat.le_refl _, by omega, Below.refl _ _, fun t ht => absurd ht (Nat.not_lt_zero _), fun t h1 h2 => by omega⟩
  case round =>
    obtain ⟨lo, hi, rfl, rfl, hlh, hin, hg, HI⟩ := hrel
    by_cases hlt : lo < hi
    · have hc := HF.out _ HI.out.1 ((lo + hi) / 2) (by omega)
      rw [show (((lo + hi) / 2 : Nat) : Int) = ((lo : Int) + (hi : Int)) / 2 by omega] at hc
      cases hp : pr ((lo + hi) / 2) <;> rw [hp] at hc
      · have HP : Hid (pr ((lo + hi) / 2) = false) := hp
        clear hp
        go_wp2_with fail
        refine hc.mono ?_
        rintro _ w2 ⟨rfl, hb⟩
        have HB : Hid (Below w.heap.size w w2) := HI.out.1.trans (hb.mono HI.out.1.size)
        clear hb hc
        go_wp2
        go_roundg (hi - ((lo + hi) / 2 + 1))
        case measure => omega
        case rel =>
          refine ⟨(lo + hi) / 2 + 1, hi, by congr 1, rfl, by omega, hin, Nat.le_refl _, HB.out, fun t ht => ?_, HI.out.2.2⟩
          cases h : pr t with
          | false => rfl
          | true =>
            have := HM.out t ((lo + hi) / 2) (by omega) (by omega) h
            rw [HP.out] at this
            cases this
      · have HP : Hid (pr ((lo + hi) / 2) = true) := hp
        clear hp
        go_wp2_with fail
        refine hc.mono ?_
        rintro _ w2 ⟨rfl, hb⟩
        have HB : Hid (Below w.heap.size w w2) := HI.out.1.trans (hb.mono HI.out.1.size)
        clear hb hc
        go_wp2
        go_roundg ((lo + hi) / 2 - lo)
        case measure => omega
        case rel => exact ⟨lo, (lo + hi) / 2, rfl, by congr 1, by omega, by omega, Nat.le_refl _, HB.out, HI.out.2.1, fun t h1 h2 => HM.out _ t h1 h2 HP.out⟩
    · obtain rfl : hi = lo := by omega
      go_wp2
      go_ret
      exact ⟨hi, ret1 rfl, hin, HI.out.2.1, HI.out.2.2, HI.out.1⟩
/-- Is an entry of a list behind a gap. -/
def gapP (k : IK) (m i : Nat) (e : KV) : Prop := 0 < e.1.cmp k ∨ (e.1.cmp k = 0 ∧ m ≤ i)
instance (k : IK) (m i : Nat) (e : KV) : Decidable (gapP k m i e) := inferInstanceAs (Decidable (_ ∨ _))
abbrev gapA (a : Option Addr) (n c : Nat) (k : IK) (m : Nat) : Array Value := #[.slice a n c, .string k.user, .int .u64 (k.seq : Int), .int .i64 k.kind, .int .i64 (m : Int)]
abbrev TGap : TypeId := 68
set_option maxRecDepth 100000 in
set_option maxHeartbeats 4000000 in
theorem clos_any {w : World} {ai : Option Addr} {li ci : Nat} {l : List KV} {a : Option Addr} {n c : Nat} (hk : KsAt w ai li ci l) (k : IK) (m i : Nat) (q1 q2 q3 : Nat) (hq1 : Box w q1 26 #[.slice ai li ci]) (hq2 : Box w q2 TGap (gapA a n c k m)) (hq3 : Box w q3 3 #[.int .i64 (i : Int)]) (j : Nat) (hj : j < li) (hjl : j < l.length) :
    Calls Try.prog 42 #[.int .i64 (j : Int), at_ q1, at_ q2, at_ q3] w fun e w' => e = .returned (.bool (decide (gapP k m i l[j]))) ∧ Below w.heap.size w w' := by
  obtain ⟨b, off, hix, hb, hcs⟩ := hk.spots (by omega)
  have hx := hix j hj
  have HC : Hid (∀ W, Below w.heap.size w W → W.cell? ⟨q1, 0, none⟩ = some (.slice ai li ci) ∧ W.cell? ⟨b, off + j * 4, none⟩ = some (.string l[j].1.user) ∧ W.cell? ⟨b, off + j * 4 + 1, none⟩ = some (.int .u64 (l[j].1.seq : Int)) ∧ W.cell? ⟨b, off + j * 4 + 2, none⟩ = some (.int .i64 l[j].1.kind) ∧ W.cell? ⟨q2, 1, none⟩ = some (.string k.user) ∧ W.cell? ⟨q2, 2, none⟩ = some (.int .u64 (k.seq : Int)) ∧ W.cell? ⟨q2, 3, none⟩ = some (.int .i64 k.kind)) := fun W hW => by
    obtain ⟨z0, z1, z2, _⟩ := hcs W hW j hjl
    have h2 := hq2.kept (hW.block _ hq2.lt)
    exact ⟨(hq1.kept (hW.block _ hq1.lt)).cell 0, z0, z1, z2, h2.cell 1, h2.cell 2, h2.cell 3⟩
  have HG : Hid (∀ W, Below w.heap.size w W → W.cell? ⟨q2, 4, none⟩ = some (.int .i64 (m : Int)) ∧ W.cell? ⟨q3, 0, none⟩ = some (.int .i64 (i : Int))) := fun W hW => ⟨(hq2.kept (hW.block _ hq2.lt)).cell 4, (hq3.kept (hW.block _ hq3.lt)).cell 0⟩
  have HP : Hid (decide (gapP k m i l[j]) = (decide (0 < l[j].1.cmp k) || (decide (l[j].1.cmp k = 0) && decide (m ≤ i)))) := by
    show decide (gapP k m i l[j]) = _
    by_cases ha : 0 < l[j].1.cmp k
    · rw [decide_eq_true (show gapP k m i l[j] from .inl ha), decide_eq_true ha]; rfl
    · by_cases hb : l[j].1.cmp k = 0 ∧ m ≤ i
      · rw [decide_eq_true (show gapP k m i l[j] from .inr hb), decide_eq_true hb.1, decide_eq_true hb.2]; simp
      · rw [decide_eq_false (show ¬ gapP k m i l[j] from fun h => h.elim ha hb), decide_eq_false ha]
        by_cases hc : l[j].1.cmp k = 0
        · rw [decide_eq_false (fun h => hb ⟨hc, h⟩)]; simp
        · rw [decide_eq_false hc]; simp
  have HCP : Hid (∀ W : World, Calls Try.prog 36 #[.agg #[.string l[j].1.user, .int .u64 (l[j].1.seq : Int), .int .i64 l[j].1.kind], .agg #[.string k.user, .int .u64 (k.seq : Int), .int .i64 k.kind]] W fun r w' => r = .returned (.int .i64 (l[j].1.cmp k)) ∧ Below W.heap.size W w') := fun W => compare_any _ _ _ _ _ _ W
  rw [HP.out]
  clear hix hcs hk hq1 hq2 hq3 hb HP
  generalize l[j].1.cmp k = cv at HCP ⊢
  generalize l[j] = e at HC HCP
  generalize off + j * 4 = oj at HC hx
  have HB0 : Hid (Below w.heap.size w w.drew) := (Below.refl _ _).drew
  obtain ⟨x0, x1, x2, x3, x4, x5, x6⟩ := HC.out _ HB0.out
  go_enter Try.func42, Try.ntmps42
  go_wp2_with fail
  go_region_held3 (fun V => V.cell? ⟨q1, 0, none⟩ = some (.slice ai li ci) ∧ V.cell? ⟨b, oj, none⟩ = some (.string e.1.user) ∧ V.cell? ⟨b, oj + 1, none⟩ = some (.int .u64 (e.1.seq : Int)) ∧ V.cell? ⟨b, oj + 2, none⟩ = some (.int .i64 e.1.kind) ∧ V.cell? ⟨q2, 1, none⟩ = some (.string k.user) ∧ V.cell? ⟨q2, 2, none⟩ = some (.int .u64 (k.seq : Int)) ∧ V.cell? ⟨q2, 3, none⟩ = some (.int .i64 k.kind)) (first | exact ⟨x0, x1, x2, x3, x4, x5, x6⟩ | go_keep)
    (first
     | (go_at_call 36; refine (HCP.out _).mono ?_; rintro _ vx ⟨rfl, hbx⟩
        have HB0 : Hid (Below w.heap.size w vx) := HB0.out.trans (hbx.mono HB0.out.size)
        obtain ⟨x0, x1, x2, x3, x4, x5, x6⟩ := HC.out _ HB0.out
        clear hbx))
  obtain ⟨y0, y1⟩ := HG.out _ HB0.out
  clear x0 x1 x2 x3 x4 x5 x6
  by_cases h1 : 0 < cv
  · go_wp2
    go_ret
    exact ⟨ret1 (by simp [h1]), HB0.out⟩
  · by_cases h2 : cv = 0
    · go_wp2
      go_ret
      exact ⟨ret1 (by simp [h2]), HB0.out⟩
    · go_wp2
      go_ret
      exact ⟨ret1 (by simp [h1, h2]), HB0.out⟩
theorem tw_at {P : KV → Bool} : ∀ {l : List KV} {i : Nat}, i ≤ l.length → (∀ j (hj : j < l.length), j < i → P l[j] = true) → (∀ hi : i < l.length, P l[i] = false) → (l.takeWhile P).length = i
  | [], i, h, _, _ => by
    obtain rfl : i = 0 := by simpa using h
    rfl
  | e :: l, 0, _, _, h => by
    have := h (by simp)
    rw [List.takeWhile_cons_of_neg (by simpa using this)]
    rfl
  | e :: l, i + 1, h, h1, h2 => by
    have h0 := h1 0 (by simp) (by omega)
    rw [List.takeWhile_cons_of_pos (by simpa using h0)]
    have ih := tw_at (P := P) (l := l) (i := i) (by simpa using h) (fun j hj hji => h1 (j + 1) (by simpa using hj) (by omega)) (fun hi => h2 (by simpa using hi))
    show (List.takeWhile _ l).length + 1 = i + 1
    rw [ih]
/-- How many of a list a gap takes. -/
def gapV (L : List (List KV)) (k : IK) (m i : Nat) : Nat := ((rowL L i).takeWhile fun e => !decide (gapP k m i e)).length
theorem gap_at {L : List (List KV)} {k : IK} {m i r : Nat} (hr : r ≤ (rowL L i).length) (h1 : ∀ j (hj : j < (rowL L i).length), j < r → ¬ gapP k m i (rowL L i)[j]) (h2 : ∀ hj : r < (rowL L i).length, gapP k m i (rowL L i)[r]) : gapV L k m i = r :=
  tw_at hr (fun j hj hjr => by simp [h1 j hj hjr]) (fun hj => by simp [h2 hj])
theorem gapP_mono {k : IK} {m i : Nat} {e f : KV} (h : gapP k m i e) (hef : e.1.cmp f.1 < 0) : gapP k m i f := by
  left
  have h1 : f.1.cmp e.1 = -e.1.cmp f.1 := IK.cmp_turn _ _
  rcases h with h | ⟨h, _⟩
  · have h2 : k.cmp e.1 = -e.1.cmp k := IK.cmp_turn _ _
    have h3 : k.cmp f.1 < 0 := IK.cmp_trans (show k.cmp e.1 < 0 by omega) hef
    have h4 : f.1.cmp k = -k.cmp f.1 := IK.cmp_turn _ _
    omega
  · have h2 : k.cmp e.1 = -e.1.cmp k := IK.cmp_turn _ _
    have h3 : k.cmp f.1 < 0 := cmp_le_lt (show k.cmp e.1 ≤ 0 by omega) hef
    have h4 : f.1.cmp k = -k.cmp f.1 := IK.cmp_turn _ _
    omega
theorem rise_row {L : List (List KV)} (hL : RiseL L) (i : Nat) : RiseK (rowL L i) := by
  unfold rowL
  by_cases hi : i < L.length
  · rw [show L.getD i [] = L[i] by simp [List.getD, hi]]
    exact hL _ (List.getElem_mem hi)
  · rw [show L.getD i [] = [] by simp [List.getD, Nat.not_lt.1 hi]]
    exact List.Pairwise.nil
set_option maxRecDepth 100000 in
set_option maxHeartbeats 4000000 in
theorem cut_any {w : World} {a : Option Addr} {n c : Nat} {L : List (List KV)} (h : LsAt w a n c L) (hL : RiseL L) (k : IK) (m i : Nat) (hi : i < n) (hfew : lenL L i ≤ 4000000000000) :
    Calls Try.prog 33 #[.agg (gapA a n c k m), .int .i64 (i : Int)] w fun e w' => e = .returned (.int .i64 (gapV L k m i : Int)) ∧ Below w.heap.size w w' := by
  have hmf : ∀ (fn : Fn) (first cap : Array Value) (w : World), (Instr.makeFunc fn first cap).run Try.prog w = .ok (.func fn first cap) w := fun _ _ _ _ => rfl
  obtain ⟨b, o, ai, ci, hx, hy, hk, hb⟩ := h.listA hi
  have hlen : lenL L i = (rowL L i).length := rfl
  have hmx := hk.max
  have hle := hk.le
  have HR : Hid (RiseK (rowL L i)) := rise_row hL i
  rw [hlen] at hy hk hle
  have hB1 := ((Below.refl w.heap.size w).alloc (Nat.le_refl _) (.cells (gapA a n c k m) TGap)).alloc (by simp) (.cells #[.int .i64 (i : Int)] 3)
  have hcl := hy _ hB1
  have HW : Hid (_) := hB1.alloc (by simp; omega) (.cells #[.slice ai (rowL L i).length ci] 26)
  have HQ1 : Hid (Box ((((w.alloc (.cells (gapA a n c k m) TGap)).alloc (.cells #[.int .i64 (i : Int)] 3))).alloc (.cells #[.slice ai (rowL L i).length ci] 26)) (w.heap.size + 1 + 1) 26 #[.slice ai (rowL L i).length ci]) := by
    have := Box.new ((w.alloc (.cells (gapA a n c k m) TGap)).alloc (.cells #[.int .i64 (i : Int)] 3)) 26 #[.slice ai (rowL L i).length ci]
    unfold Hid; simpa using this
  have HQ2 : Hid (Box ((((w.alloc (.cells (gapA a n c k m) TGap)).alloc (.cells #[.int .i64 (i : Int)] 3))).alloc (.cells #[.slice ai (rowL L i).length ci] 26)) w.heap.size TGap (gapA a n c k m)) := ((Box.new w TGap (gapA a n c k m)).alloc _).alloc _
  have HQ3 : Hid (Box ((((w.alloc (.cells (gapA a n c k m) TGap)).alloc (.cells #[.int .i64 (i : Int)] 3))).alloc (.cells #[.slice ai (rowL L i).length ci] 26)) (w.heap.size + 1) 3 #[.int .i64 (i : Int)]) := by
    have := Box.new (w.alloc (.cells (gapA a n c k m) TGap)) 3 #[.int .i64 (i : Int)]
    rw [show (w.alloc (.cells (gapA a n c k m) TGap)).heap.size = w.heap.size + 1 by simp] at this
    exact this.alloc _
  have HK : Hid (KsAt w ai (rowL L i).length ci (rowL L i)) := hk
  have hn62 : (rowL L i).length < 4611686018427387904 := by rw [← hlen]; omega
  clear h hL hi hfew hB1 hy hk hb hlen hmx hle
  have HGV : Hid (∀ r, r ≤ (rowL L i).length → (∀ j (hj : j < (rowL L i).length), j < r → ¬ gapP k m i (rowL L i)[j]) → (∀ hj : r < (rowL L i).length, gapP k m i (rowL L i)[r]) → gapV L k m i = r) := fun r h1 h2 h3 => gap_at h1 h2 h3
  generalize gapV L k m i = gv at HGV ⊢
  generalize rowL L i = l at *
  unfold gapA at HW HQ1 HQ2 HQ3 hcl ⊢
  go_enter Try.func33, Try.ntmps33
  go_wp2_with fail
  generalize ((w.alloc (.cells #[.slice a n c, .string k.user, .int .u64 (k.seq : Int), .int .i64 k.kind, .int .i64 (m : Int)] TGap)).alloc (.cells #[.int .i64 (i : Int)] 3)).alloc (.cells #[.slice ai l.length ci] 26) = W3 at HW HQ1 HQ2 HQ3 ⊢
  refine (search16 l.length hn62 (fun j => decide (∃ hj : j < l.length, gapP k m i l[j])) (at_ (w.heap.size + 1 + 1)) (at_ w.heap.size) (at_ (w.heap.size + 1)) W3 (fun W hW j hj => ?_) (fun x y hxy hy hx => ?_)).mono ?_
  · have := clos_any (a := a) (n := n) (c := c) (HK.out.below (HW.out.trans (hW.mono HW.out.size))) k m i (w.heap.size + 1 + 1) w.heap.size (w.heap.size + 1) (HQ1.out.kept (hW.block _ HQ1.out.lt)) (HQ2.out.kept (hW.block _ HQ2.out.lt)) (HQ3.out.kept (hW.block _ HQ3.out.lt)) j hj hj
    rw [show decide (∃ hj : j < l.length, gapP k m i l[j]) = decide (gapP k m i l[j]) from decide_eq_decide.2 ⟨fun ⟨_, h⟩ => h, fun h => ⟨hj, h⟩⟩]
    exact this
  · simp only [decide_eq_true_eq] at hx ⊢
    obtain ⟨hx1, hx2⟩ := hx
    refine ⟨hy, ?_⟩
    by_cases e : x = y
    · subst e; exact hx2
    · exact gapP_mono hx2 (List.pairwise_iff_getElem.1 HR.out x y hx1 hy (by omega))
  · rintro _ w4 ⟨r, rfl, hr, hr1, hr2, hb4⟩
    have HG : Hid (gv = r) := HGV.out r hr (fun j hj hjr hp => by
      have := hr1 j hjr
      simp only [decide_eq_false_iff_not] at this
      exact this ⟨hj, hp⟩) (fun hj => by
      have := hr2 r (Nat.le_refl _) hj
      simp only [decide_eq_true_eq] at this
      exact this.2)
    have H4 : Hid (Below w.heap.size w w4) := HW.out.trans (hb4.mono HW.out.size)
    clear hr hr1 hr2 hb4
    go_wp2
    go_ret
    rw [HG.out]
    exact ⟨ret1 rfl, H4.out⟩
end Go.Proofs.Ytfijibengmgegaa
