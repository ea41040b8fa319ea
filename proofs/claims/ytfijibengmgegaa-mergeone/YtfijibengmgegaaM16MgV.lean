/- Merge's New, and what is done with no iterator. -/
import Derived.Test.YtfijibengmgegaaM16MgW
namespace Go.Proofs.Ytfijibengmgegaa
open Go.RowKit
set_option linter.unusedVariables false
set_option linter.unusedSimpArgs false
set_option maxRecDepth 100000 in
set_option maxHeartbeats 4000000 in
theorem mrises_any (a : Option Addr) (n c : Nat) (l : List KV) (w : World) (h : KsAt w a n c l) (hn : n ≤ 4000000000000) :
    Calls Try.prog 23 #[.slice a n c] w fun e w' => e = .returned (.bool (decide (RiseK l))) ∧ Below w.heap.size w w' := by
  have HS : Hid (l.length = n) := h.size
  have HK : Hid (KsAt w a n c l) := h
  clear h
  go_enter Try.func23, Try.ntmps23
  go_wp2_with fail
  go_loopw [3] (fun s3 wr => ∃ (i : Nat), i ≤ n ∧ s3 = .int .i64 ((i : Int) + 1) ∧ Hid (Below w.heap.size w wr ∧ ∀ j (hj : j + 1 < l.length), j < i → l[j].1.cmp l[j + 1].1 < 0)) (fun s3 _ => n + 2 - (intOf s3).toNat)
  case atStart => exact ⟨0, Nat.zero_le _, rfl, Below.refl _ _, fun j hj h => absurd h (Nat.not_lt_zero _)⟩
  case round =>
    obtain ⟨i, hin, rfl, HI⟩ := hrel
    have hw1 : IntKind.i64.wrap (i : Int) = (i : Int) := by rw [IntKind.wrap_i64]; omega
    have hw2 : IntKind.i64.wrap ((i : Int) + 1 + 1) = (i : Int) + 1 + 1 := by rw [IntKind.wrap_i64]; omega
    by_cases hi : i + 1 < n
    · have hiI : ((i : Int) + 1) < (n : Int) := by omega
      obtain ⟨b, off, hix, hb, hcs⟩ := HK.out.spots (by omega)
      have HC : Hid (∀ W, Below w.heap.size w W → _) := hcs
      have hx0 := hix i (by omega)
      have hx1 := hix (i + 1) hi
      rw [show ((i + 1 : Nat) : Int) = (i : Int) + 1 by omega] at hx1
      clear hix
      have HA : Hid (∀ W, Below w.heap.size w W → W.cell? ⟨b, off + i * 4, none⟩ = some (.string (l[i]'(by rw [HS.out]; omega)).1.user) ∧ W.cell? ⟨b, off + i * 4 + 1, none⟩ = some (.int .u64 ((l[i]'(by rw [HS.out]; omega)).1.seq : Int)) ∧ W.cell? ⟨b, off + i * 4 + 2, none⟩ = some (.int .i64 (l[i]'(by rw [HS.out]; omega)).1.kind) ∧ W.cell? ⟨b, off + (i + 1) * 4, none⟩ = some (.string (l[i + 1]'(by rw [HS.out]; omega)).1.user) ∧ W.cell? ⟨b, off + (i + 1) * 4 + 1, none⟩ = some (.int .u64 ((l[i + 1]'(by rw [HS.out]; omega)).1.seq : Int)) ∧ W.cell? ⟨b, off + (i + 1) * 4 + 2, none⟩ = some (.int .i64 (l[i + 1]'(by rw [HS.out]; omega)).1.kind)) := fun W hW => by
        obtain ⟨z0, z1, z2, _⟩ := hcs W hW i (by rw [HS.out]; omega)
        obtain ⟨y0, y1, y2, _⟩ := hcs W hW (i + 1) (by rw [HS.out]; omega)
        exact ⟨z0, z1, z2, y0, y1, y2⟩
      have HY : Hid ((l[i]'(by rw [HS.out]; omega)).1.cmp (l[i + 1]'(by rw [HS.out]; omega)).1 < 0 → ∀ j (hj : j + 1 < l.length), j < i + 1 → l[j].1.cmp l[j + 1].1 < 0) := fun hlt j hj hji => by
        by_cases e : j = i
        · subst e; exact hlt
        · exact HI.out.2 j hj (by omega)
      have HN : Hid (¬ (l[i]'(by rw [HS.out]; omega)).1.cmp (l[i + 1]'(by rw [HS.out]; omega)).1 < 0 → ¬ RiseK l) := fun hno hr => hno (rise_at hr i (by rw [HS.out]; omega))
      have HCP : Hid (∀ W : World, Calls Try.prog 36 #[.agg #[.string (l[i]'(by rw [HS.out]; omega)).1.user, .int .u64 ((l[i]'(by rw [HS.out]; omega)).1.seq : Int), .int .i64 (l[i]'(by rw [HS.out]; omega)).1.kind], .agg #[.string (l[i + 1]'(by rw [HS.out]; omega)).1.user, .int .u64 ((l[i + 1]'(by rw [HS.out]; omega)).1.seq : Int), .int .i64 (l[i + 1]'(by rw [HS.out]; omega)).1.kind]] W fun r w' => r = .returned (.int .i64 ((l[i]'(by rw [HS.out]; omega)).1.cmp (l[i + 1]'(by rw [HS.out]; omega)).1)) ∧ Below W.heap.size W w') := fun W => compare_any _ _ _ _ _ _ W
      generalize (l[i]'(by rw [HS.out]; omega)).1 = eA at HA HY HN HCP
      generalize (l[i + 1]'(by rw [HS.out]; omega)).1 = eB at HA HY HN HCP
      generalize eA.cmp eB = cv at HY HN HCP
      generalize off + i * 4 = oA at HA hx0
      generalize off + (i + 1) * 4 = oB at HA hx1
      clear HC hcs
      have HB : Hid (Below w.heap.size w wr) := HI.out.1
      clear HI
      go_wp2_with fail
      have HB1 : Hid (Below w.heap.size w wr.drew) := HB.out.drew
      obtain ⟨x0, x1, x2, y0, y1, y2⟩ := HA.out _ HB1.out
      go_region_held3 (fun V => V.cell? ⟨b, oA, none⟩ = some (.string eA.user) ∧ V.cell? ⟨b, oA + 1, none⟩ = some (.int .u64 (eA.seq : Int)) ∧ V.cell? ⟨b, oA + 2, none⟩ = some (.int .i64 eA.kind) ∧ V.cell? ⟨b, oB, none⟩ = some (.string eB.user) ∧ V.cell? ⟨b, oB + 1, none⟩ = some (.int .u64 (eB.seq : Int)) ∧ V.cell? ⟨b, oB + 2, none⟩ = some (.int .i64 eB.kind)) (first | exact ⟨x0, x1, x2, y0, y1, y2⟩ | go_keep)
        (first
         | (go_at_call 36; refine (HCP.out _).mono ?_; rintro _ vx ⟨rfl, hbx⟩
            have HB1 : Hid (Below w.heap.size w vx) := HB1.out.trans (hbx.mono HB1.out.size)
            obtain ⟨x0, x1, x2, y0, y1, y2⟩ := HA.out _ HB1.out
            clear hbx))
      by_cases hcv : 0 ≤ cv
      · go_wp2
        go_ret
        rw [decide_eq_false (HN.out (by omega))]
        exact ⟨ret1 rfl, HB1.out⟩
      · go_wp2
        go_roundw
        case rel => exact ⟨i + 1, by omega, by congr 1, HB1.out, HY.out (by omega)⟩
        case measure => simp only [intOf]; omega
    · have HR : Hid (RiseK l) := rise_of fun j hj => HI.out.2 j hj (by have := HS.out; omega)
      have hiI : ¬ ((i : Int) + 1) < (n : Int) := by omega
      go_wp2
      go_ret
      rw [decide_eq_true HR.out]
      exact ⟨ret1 rfl, HI.out.1⟩
set_option maxRecDepth 100000 in
set_option maxHeartbeats 4000000 in
theorem new_16 (a : Option Addr) (n c : Nat) (L : List (List KV)) (w : World) (h : LsAt w a n c L) (hf : FewL L) :
    Calls Try.prog 11 #[.slice a n c] w fun e w' => Below w.heap.size w w' ∧ ((RiseL L ∧ ∃ p R, e = .returned (.tuple #[at_ p, .int .i64 0]) ∧ Mg16 w' R p L none ∧ ∀ k, R k → w.heap.size ≤ k) ∨ (¬ RiseL L ∧ e = .returned (.tuple #[nilIt, .int .i64 160]))) := by
  have HS : Hid (L.length = n ∧ FewL L ∧ ∀ i, lenL L i ≤ 4000000000000) := ⟨h.size, hf, few_each hf⟩
  have HK : Hid (LsAt w a n c L) := h
  have hn : n ≤ 1000 := by have := hf.1; have := h.size; omega
  clear h hf
  go_enter Try.func11, Try.ntmps11
  go_wp2_with fail
  go_loopw [8] (fun s4 wr => ∃ (i : Nat), i ≤ n ∧ s4 = .int .i64 (i : Int) ∧ Hid (Below w.heap.size w wr ∧ ∀ j, j < i → RiseK (rowL L j))) (fun s4 _ => n - (intOf s4).toNat)
  case atStart => exact ⟨0, Nat.zero_le _, rfl, Below.refl _ _, fun j hj => absurd hj (Nat.not_lt_zero _)⟩
  case round =>
    obtain ⟨i, hin, rfl, HI⟩ := hrel
    by_cases hi : i < n
    · have hiI : (i : Int) < (n : Int) := by omega
      obtain ⟨b, off, hx, _, hc⟩ := HK.out.spots (by omega)
      obtain ⟨ai, ci, h1, h2, _⟩ := hc i hi
      have hx0 := hx i hi
      have hc0 := h1 wr HI.out.1
      have HRI := mrises_any ai (rowL L i).length ci (rowL L i) wr (h2.below HI.out.1) (HS.out.2.2 i)
      have HRI2 : Hid (Calls Try.prog 23 #[.slice ai (rowL L i).length ci] wr fun e w' => e = .returned (.bool (decide (RiseK (rowL L i)))) ∧ Below wr.heap.size wr w') := HRI
      clear HRI hx h1 h2 hc
      generalize off + i = o at hx0 hc0
      have HY : Hid (RiseK (rowL L i) → ∀ j, j < i + 1 → RiseK (rowL L j)) := fun hr j hj => by
        by_cases e : j = i
        · subst e; exact hr
        · exact HI.out.2 j (by omega)
      have HN : Hid (¬ RiseK (rowL L i) → ¬ RiseL L) := fun hno hl => hno (by
        have hil : i < L.length := by have := HS.out.1; omega
        have e : rowL L i = L[i] := by simp [rowL, List.getD, hil]
        rw [e]
        exact hl _ (List.getElem_mem hil))
      generalize rowL L i = ri at hc0 HRI2 HY HN
      go_wp2_with fail
      refine HRI2.out.mono ?_
      rintro _ w2 ⟨rfl, hb2⟩
      have H2 : Hid (Below w.heap.size w w2) := HI.out.1.trans (hb2.mono HI.out.1.size)
      clear hb2
      by_cases hr : RiseK ri
      · rw [decide_eq_true hr]
        have HR := HY.out hr
        go_wp2
        go_roundw
        case rel => exact ⟨i + 1, by omega, by go_num, H2.out, HR⟩
        case measure => simp only [intOf]; omega
      · rw [decide_eq_false hr]
        have HR : Hid (¬ RiseL L) := HN.out hr
        go_wp2
        go_ret2
        exact ⟨H2.out, .inr ⟨HR.out, ret2 rfl rfl⟩⟩
    · have HR : Hid (RiseL L) := fun l hl => by
        obtain ⟨k, hk, rfl⟩ := List.mem_iff_getElem.1 hl
        have := HI.out.2 k (by have := HS.out.1; omega)
        have e : rowL L k = L[k] := by simp [rowL, List.getD, hk]
        rw [e] at this
        exact this
      have hiI : ¬ (i : Int) < (n : Int) := by omega
      have HCP : Hid (Calls Try.prog 24 #[.slice a n c] wr fun e w' => CopP wr n L e w') := copied_any (HK.out.below HI.out.1) HS.out.2.1
      have HB : Hid (Below w.heap.size w wr) := HI.out.1
      clear HI
      go_wp2_with fail
      refine HCP.out.mono ?_
      rintro _ w2 ⟨rfl, hb2, hls⟩
      have HF : Hid (Below w.heap.size w (w2.alloc (.cells #[.slice (some ⟨wr.heap.size, 0, none⟩) n n, .int .i64 0, .int .i64 0, .bool false, .pointer none] TItr)) ∧ Mg16 (w2.alloc (.cells #[.slice (some ⟨wr.heap.size, 0, none⟩) n n, .int .i64 0, .int .i64 0, .bool false, .pointer none] TItr)) (fun k => wr.heap.size ≤ k ∧ k < w2.heap.size + 1) w2.heap.size L none ∧ w.heap.size ≤ wr.heap.size) := by
        have hbx := Box.new w2 TItr #[.slice (some ⟨wr.heap.size, 0, none⟩) n n, .int .i64 0, .int .i64 0, .bool false, .pointer none]
        refine ⟨(HB.out.trans (hb2.mono HB.out.size)).alloc (Nat.le_trans HB.out.size hb2.size) _, ⟨fun k => wr.heap.size ≤ k ∧ k < w2.heap.size, some ⟨wr.heap.size, 0, none⟩, n, d0, .pointer none, ⟨?_, fun k hk => by simp; exact hk.2, ⟨⟨hb2.size, Nat.lt_succ_self _⟩, fun hk => Nat.lt_irrefl _ hk.2⟩, fun k hk => ⟨hk.1, Nat.lt_succ_of_lt hk.2⟩, ?_, HR.out, HS.out.2.1⟩, fun i e => by cases e⟩, HB.out.size⟩
        · rw [HS.out.1]; exact hbx
        · rw [HS.out.1]; exact hls.kept fun k hk => Below.heap_alloc w2 _ k hk.2
      clear hb2 hls HCP
      go_wp2
      go_ret2
      exact ⟨HF.out.1, .inl ⟨HR.out, w2.heap.size, _, ret2 rfl rfl, HF.out.2.1, fun k hk => Nat.le_trans HF.out.2.2 hk.1⟩⟩
end Go.Proofs.Ytfijibengmgegaa
