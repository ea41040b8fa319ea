/- The walk of SstableReads. -/
import Derived.Test.YtgegjcnjlibfdaaGreatQa19
import Derived.Test.YtgegjcnjlibfdaaGreatQa22
import Derived.Test.YtgegjcnjlibfdaaGreatR12Get
import Derived.Deep.DeepCutAuto
namespace Go.Proofs.YtgegjcnjlibfdaaGreat
open Go.RowKit
set_option linter.unusedVariables false
set_option linter.unusedSimpArgs false
/-- What Open has answered. -/
def OpR (b : List UInt8) (B : Nat) (tv : Value) (er : Nat) (V : World) : Prop := (openT b = .error er ∧ tv = .pointer none) ∨ ∃ T p, openT b = .ok T ∧ er = 0 ∧ tv = at_ p ∧ TbAt V B p T
theorem openT_err {b : List UInt8} {er : Nat} (h : openT b = .error er) : er ≠ 0 := by
  unfold openT at h
  repeat' split at h
  all_goals first
    | (cases h; omega)
    | cases h
theorem OwnB.store12 {w : World} {B g len cap : Nat} {bs : List UInt8} (h : OwnB w B (some ⟨g, 0, none⟩) len cap bs) (j : Nat) (x : UInt8) : OwnB (w.setCell ⟨g, j, none⟩ (.int .u8 (x.toNat : Int))) B (some ⟨g, 0, none⟩) len cap (bs.set j x) := by
  have hs := h.size
  refine ⟨by simp [hs], by rw [cellsB_length]; simp [hs], ?_⟩
  rcases h.row.2 with ⟨hv, _⟩ | ⟨g', c, cur, hv, hb, hg, hn, hc, hz, ht⟩
  · simp at hv
  · simp only [Value.slice.injEq, Option.some.injEq, Addr.mk.injEq, true_and, and_true] at hv
    obtain ⟨rfl, rfl⟩ := hv
    refine .inr ⟨g, cap, cur.setIfInBounds j (.int .u8 (x.toNat : Int)), rfl, hb, Box.set (w := w) (p := g) (t := 5) hg j _, hn, hc, by simpa using hz, ?_⟩
    rw [Nat.mul_one] at ht ⊢
    rw [Array.toList_setIfInBounds, List.take_set, ht]
    simp [cellsB]
set_option maxRecDepth 100000 in
set_option maxHeartbeats 8000000 in
theorem sstableReads_walk (a : Option Addr) (n c : Nat) (b : List UInt8) (u : ByteArray) (a2 : Int) (w : World) (h0 : BsAt w a n c b) (hc0 : c ≤ 1048576) (hu : u.size ≤ 1048576) (h2 : (Lit.int .u64 a2).wf = true) :
    Calls Tryz.prog 5 #[.slice a n c, .string u, .int .u64 a2] w fun e w' => e = .returned (.bool true) ∧ Below w.heap.size w w' := by
  obtain ⟨s, rfl, hs⟩ : ∃ q : Nat, a2 = (q : Int) ∧ q < 18446744073709551616 := by
    simp [Lit.wf, IntKind.min, IntKind.max, IntKind.bits, IntKind.signed] at h2
    exact ⟨a2.toNat, by omega, by omega⟩
  have HB : Hid (BsAt w a n c b ∧ u.size ≤ 140737488351232 ∧ s < 18446744073709551616) := ⟨h0, by omega, hs⟩
  have hle := h0.le
  have hn : n ≤ 1048576 := by omega
  clear h0 hc0 hu h2 hle
  go_enter Tryz.func5, Tryz.ntmps5
  go_wp2_with fail
  refine (awake12_any _).mono ?_
  rintro _ w1 ⟨rfl, hb1⟩
  have H1 : Hid (Below w.heap.size w w1) := hb1
  clear hb1
  go_wp2_with (first | (at_builtin; refine wpList_app0 w1 rfl _ _ rfl rfl _ _ _ b rfl (HB.out.1.below (Nat.le_refl _) H1.out) (by omega) ?_; intro a3 c3 w2 ho2 hb2
                        have H2 : Hid (OwnB w2 w.heap.size a3 n c3 b ∧ Below w.heap.size w w2) := ⟨ho2.mono H1.out.size, H1.out.trans (hb2.mono H1.out.size)⟩
                        clear ho2 hb2) | fail)
  refine (open12_any H2.out.1.bs (by omega)).mono ?_
  intro e w3 hop
  obtain ⟨tv, er, rfl, H3⟩ : ∃ (tv : Value) (er : Nat), e = .returned (.tuple #[tv, .int .i64 (er : Int)]) ∧ Hid (OpR b w2.heap.size tv er w3 ∧ OwnB w3 w.heap.size a3 n c3 b ∧ Below w.heap.size w w3) := by
    obtain ⟨hb3, ⟨er, he, h5⟩ | ⟨T, p, he, h5, ht⟩⟩ := hop
    · exact ⟨_, er, h5, .inl ⟨he, rfl⟩, H2.out.1.below hb3, H2.out.2.trans (hb3.mono H2.out.2.size)⟩
    · exact ⟨at_ p, 0, h5, .inr ⟨T, p, he, rfl, rfl, ht⟩, H2.out.1.below hb3, H2.out.2.trans (hb3.mono H2.out.2.size)⟩
  have HBL : Hid (∀ k, blkOf a3 = some k → k < w2.heap.size) := fun k hk => tag_lt (H2.out.1.tag hk)
  generalize w2.heap.size = B at H3 HBL
  clear hop H2
  go_wp2_with fail
  go_loopw [11] (fun x wr => ∃ k : Nat, k ≤ n ∧ x = .int .i64 (k : Int) ∧ Hid (∃ bs, OpR b B tv er wr ∧ OwnB wr w.heap.size a3 n c3 bs ∧ Below w.heap.size w wr)) (fun x _ => n - (intOf x).toNat)
  case atStart => exact ⟨0, Nat.zero_le _, rfl, b, H3.out⟩
  case round =>
    obtain ⟨k, hk, rfl, HR⟩ := hrel
    obtain ⟨bs, ho, hw, hb⟩ := HR.out
    by_cases hkn : k < n
    · obtain ⟨g, rfl, hgB, hgl, hc⟩ := hw.cells (by omega)
      have hck := hc k hkn
      have hfk := hw.unfrozen k
      have HN : Hid (OpR b B tv er (wr.setCell ⟨g, k, none⟩ (.int .u8 99)) ∧ OwnB (wr.setCell ⟨g, k, none⟩ (.int .u8 99)) w.heap.size (some ⟨g, 0, none⟩) n c3 (bs.set k 99) ∧ Below w.heap.size w (wr.setCell ⟨g, k, none⟩ (.int .u8 99))) := by
        refine ⟨?_, hw.store12 k 99, hb.setCell hgB _⟩
        rcases ho with ho | ⟨T, p, h1, h2, h3, h4⟩
        · exact .inl ho
        · refine .inr ⟨T, p, h1, h2, h3, h4.keep fun j hj _ => Below.heap_setCell _ _ _ _ (fun e => ?_)⟩
          have h5 := HBL.out g rfl
          have h6 : j = g := e
          omega
      clear hc ho hw hb HR
      go_wp2
      go_roundw
      case rel => exact ⟨k + 1, hkn, by go_num, _, HN.out⟩
      case measure => simp only [intOf]; omega
    · have H4 : Hid (OpR b B tv er wr ∧ Below w.heap.size w wr) := ⟨ho, hb⟩
      have hro := ropen12 (HB.out.1.below (Nat.le_refl _) hb) (by omega)
      clear ho hw hb HR
      go_wp2_with fail
      refine hro.mono ?_
      rintro _ w5 ⟨hb5, ⟨er2, he2, rfl⟩ | ⟨T, q, fa, pl, he2, rfl, hrt, hfi, hbl, hin⟩⟩
      · have H5 : Hid (Below w.heap.size w w5) := H4.out.2.trans (hb5.mono H4.out.2.size)
        rcases H4.out.1 with ⟨h1, h2⟩ | ⟨T, p, h1, _⟩
        · rw [he2] at h1
          obtain rfl := Except.error.inj h1
          subst h2
          have hne : ((er2 : Int) != (er2 : Int)) = false := by simp
          clear hro hb5 he2 h1
          go_wp2
          go_ret
          exact ⟨ret1 rfl, H5.out⟩
        · rw [he2] at h1
          cases h1
      rcases H4.out.1 with ⟨h1, _⟩ | ⟨T2, p, h1, h2, h3, ht⟩
      · rw [he2] at h1
        cases h1
      rw [he2] at h1
      obtain rfl := Except.ok.inj h1
      subst h2 h3
      have H5 : Hid (Below w.heap.size w w5 ∧ TbAt w5 B p T ∧ RTb w5 wr.heap.size q a n c b fa T.filter.length T.told pl ∧ T.filter = segB b fa T.filter.length ∧ T.blocks = plBl b pl ∧ (∀ d ∈ pl, d.p + d.s + 4 ≤ n) ∧ pl.length ≤ 750000 ∧ T.filter.length ≤ 3000000 ∧ T.told < 4294967296) := by
        refine ⟨H4.out.2.trans (hb5.mono H4.out.2.size), ht.below hb5, hrt, hfi, hbl, hin, ?_, ht.small.1, ht.told⟩
        have := ht.small.2
        rw [hbl] at this
        unfold plBl at this
        rwa [List.length_map] at this
      generalize wr.heap.size = B2 at H5
      clear hro hb5 he2 h1 ht hrt hfi hbl hin H4
      have hal := all12 H5.out.2.1
      go_wp2_with fail
      refine hal.mono ?_
      intro e w6 hal6
      obtain ⟨al, nl, cl, el, rfl, H6⟩ : ∃ (al : Option Addr) (nl cl el : Nat), e = .returned (.tuple #[.slice al nl cl, .int .i64 (el : Int)]) ∧ Hid (Below w.heap.size w w6 ∧ Below w5.heap.size w5 w6 ∧ ((allT T = .error el ∧ nl = 0 ∧ al = none ∧ cl = 0) ∨ ∃ l, allT T = .ok l ∧ el = 0 ∧ KsAt w6 al nl cl l)) := by
        obtain ⟨hb6, ⟨er, he, _, h7⟩ | ⟨l, al, cl, he, h7, ho7⟩⟩ := hal6
        · exact ⟨none, 0, 0, er, h7, H5.out.1.trans (hb6.mono H5.out.1.size), hb6, .inl ⟨he, rfl, rfl, rfl⟩⟩
        · exact ⟨al, l.length, cl, 0, h7, H5.out.1.trans (hb6.mono H5.out.1.size), hb6, .inr ⟨l, he, rfl, ho7.ks⟩⟩
      clear hal hal6
      have hra := rall12 (T := T) (H5.out.2.2.1.below H6.out.2.1) (HB.out.1.below (Nat.le_refl _) H6.out.1) (by omega) H5.out.2.2.2.2.2.1 H5.out.2.2.2.2.1 rfl H5.out.2.2.2.2.2.2.1 H5.out.2.2.2.2.2.2.2.2
      go_wp2_with fail
      refine hra.mono ?_
      intro e w7 hra7
      obtain ⟨am, cm, rfl, H7⟩ : ∃ (am : Option Addr) (cm : Nat), e = .returned (.tuple #[.slice am nl cm, .int .i64 (el : Int)]) ∧ Hid (Below w.heap.size w w7 ∧ Below w5.heap.size w5 w7 ∧ ∃ l, KsAt w7 al nl cl l ∧ KsAt w7 am nl cm l) := by
        obtain ⟨hb7, h7⟩ := hra7
        have h8 : Below w.heap.size w w7 ∧ Below w5.heap.size w5 w7 := ⟨H6.out.1.trans (hb7.mono H6.out.1.size), H6.out.2.1.trans (hb7.mono H6.out.2.1.size)⟩
        rcases H6.out.2.2 with ⟨he, rfl, rfl, rfl⟩ | ⟨l, he, rfl, hk6⟩
        · rcases h7 with ⟨er, he2, h9⟩ | ⟨l2, _, _, he2, _⟩
          · rw [he] at he2
            obtain rfl := Except.error.inj he2
            exact ⟨none, 0, h9, h8.1, h8.2, [], KsAt.nil _, KsAt.nil _⟩
          · rw [he] at he2
            cases he2
        · rcases h7 with ⟨er, he2, _⟩ | ⟨l2, am, cm, he2, h9, hk7⟩
          · rw [he] at he2
            cases he2
          · rw [he] at he2
            obtain rfl := Except.ok.inj he2
            have hz := hk6.size
            rw [hz] at h9 hk7
            exact ⟨am, cm, h9, h8.1, h8.2, l, hk6.below hb7, hk7⟩
      clear hra hra7
      obtain ⟨l, hk1, hk2⟩ := H7.out.2.2
      have hsa := same12 hk1 hk2
      clear hk1 hk2
      go_wp2_with fail
      refine hsa.mono ?_
      rintro _ w8 ⟨rfl, d8, hd8⟩
      have H8 : Hid (Below w.heap.size w w8 ∧ Below w5.heap.size w5 w8) := by
        rw [hd8]
        exact ⟨below_drewN H7.out.1 d8, below_drewN H7.out.2.1 d8⟩
      clear hd8 hsa H7 H6
      have hg1 := get12 (H5.out.2.1.below H8.out.2) u s HB.out.2.1 HB.out.2.2
      have HG2 : Hid (∀ V, Below w.heap.size w V → Below w5.heap.size w5 V → Calls Tryz.prog 18 #[at_ q, .string u, .int .u64 (s : Int)] V fun r w' => r = .returned (ansV (getT T u s)) ∧ Below V.heap.size V w') := fun V hV hV2 => rgett12 (H5.out.2.2.1.below hV2) (HB.out.1.below (Nat.le_refl _) hV) (by omega) H5.out.2.2.2.2.2.1 H5.out.2.2.2.2.1 H5.out.2.2.2.1 H5.out.2.2.2.2.2.2.2.1 H5.out.2.2.2.2.2.2.1 u s HB.out.2.1 HB.out.2.2
      generalize getT T u s = A at hg1 HG2
      obtain ⟨av, aw, ae⟩ := A
      unfold ansV at hg1 HG2
      dsimp only at hg1 HG2
      go_wp2_with fail
      refine hg1.mono ?_
      rintro _ w9 ⟨rfl, hb9⟩
      have H9 : Hid (Below w.heap.size w w9 ∧ Below w5.heap.size w5 w9) := ⟨H8.out.1.trans (hb9.mono H8.out.1.size), H8.out.2.trans (hb9.mono H8.out.2.size)⟩
      clear hg1 hb9 H8
      go_wp2_with fail
      refine (HG2.out _ H9.out.1 H9.out.2).mono ?_
      rintro _ w10 ⟨rfl, hb10⟩
      have H10 : Hid (Below w.heap.size w w10 ∧ Below w5.heap.size w5 w10) := ⟨H9.out.1.trans (hb10.mono H9.out.1.size), H9.out.2.trans (hb10.mono H9.out.2.size)⟩
      clear HG2 hb10 H9
      obtain ⟨m, HM⟩ : ∃ m, Hid (pl.length = m) := ⟨_, (rfl : pl.length = pl.length)⟩
      have HBK : Hid (∀ V, Below w5.heap.size w5 V → Calls Tryz.prog 19 #[at_ p] V fun r w' => r = .returned (.int .i64 (m : Int)) ∧ V = w') := fun V hV => by
        have := blocks_any (H5.out.2.1.below hV)
        rwa [show T.blocks.length = m by rw [H5.out.2.2.2.2.1]; unfold plBl; rw [List.length_map]; exact HM.out] at this
      obtain ⟨_, al2, _, cl2, _, _, z2, _, _, _, _⟩ := (H5.out.2.2.1.below (H10.out.2.trans (Below.refl _ _).drew)).cells
      rw [HM.out] at z2
      have hvv : (av.toList == av.toList) = true := by simp
      go_wp2_with fail
      go_region_held3 (fun V => V.cell? ⟨q, 2, none⟩ = some (.slice al2 m cl2)) (first | with_reducible exact z2 | go_keep)
        (first
         | (go_at_call 19; refine (HBK.out _ (H10.out.2.drew)).mono ?_; rintro _ v1 ⟨rfl, hv1⟩
            obtain rfl : w10.drew = v1 := hv1))
      go_wp2
      go_ret
      exact ⟨ret1 rfl, H10.out.1.drew⟩
end Go.Proofs.YtgegjcnjlibfdaaGreat
