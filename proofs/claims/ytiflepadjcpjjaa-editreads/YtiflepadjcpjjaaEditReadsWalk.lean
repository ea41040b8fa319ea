/- The walk of EditReads. -/
import Derived.Test.YtiflepadjcpjjaaQa10
import Derived.Test.YtiflepadjcpjjaaE13RDec
namespace Go.Proofs.Ytiflepadjcpjjaa
open Go.RowKit
set_option linter.unusedVariables false
set_option linter.unusedSimpArgs false
/-- The edit that bytes are, and the error. -/
def ansE (b : List UInt8) : PE × Int := match decE b with
  | none => (ez, 133)
  | some x => (x, 0)
theorem ansE_none {b : List UInt8} (h : decE b = none) : ansE b = (ez, 133) := by unfold ansE; rw [h]
theorem ansE_some {b : List UInt8} {x : PE} (h : decE b = some x) : ansE b = (x, 0) := by unfold ansE; rw [h]
theorem edec_ans (a : Option Addr) (n c : Nat) (b : List UInt8) (w : World) (h : BsAt w a n c b) (hl : n ≤ 200000000000000) :
    Calls Try.prog 14 #[.slice a n c] w fun r w' => Below w.heap.size w w' ∧ ∃ s : SE, r = .returned (.tuple #[.agg #[.int .u64 ((ansE b).1.log : Int), .int .u64 ((ansE b).1.next : Int), .int .u64 ((ansE b).1.last : Int), .slice s.a (ansE b).1.dels.length s.c, .slice s.a' (ansE b).1.adds.length s.c'], .int .i64 (ansE b).2]) ∧ OwnG w' w.heap.size s.a (ansE b).1.dels.length s.c (ansE b).1.dels ∧ OwnF w' w.heap.size s.a' (ansE b).1.adds.length s.c' (ansE b).1.adds := by
  refine (edec_any a n c b w h hl).mono ?_
  rintro r w' ⟨hb, ⟨hn, rfl⟩ | ⟨x, s, hx, rfl, hg, hf⟩⟩
  · rw [ansE_none hn]
    exact ⟨hb, sz0, rfl, OwnG.nil _ _, OwnF.nil _ _⟩
  · rw [ansE_some hx]
    exact ⟨hb, s, rfl, hg, hf⟩
theorem redec_ans (a : Option Addr) (n c : Nat) (b : List UInt8) (w : World) (h : BsAt w a n c b) (hl : n ≤ 200000000000000) :
    Calls Try.prog 15 #[.slice a n c] w fun r w' => Below w.heap.size w w' ∧ ∃ s : SE, r = .returned (.tuple #[.agg #[.int .u64 ((ansE b).1.log : Int), .int .u64 ((ansE b).1.next : Int), .int .u64 ((ansE b).1.last : Int), .slice s.a (ansE b).1.dels.length s.c, .slice s.a' (ansE b).1.adds.length s.c'], .int .i64 (ansE b).2]) ∧ EdAt w' (ansE b).1 s := by
  refine (redec_any a n c b w h hl).mono ?_
  rintro r w' ⟨hb, ⟨hn, rfl⟩ | ⟨x, s, hx, rfl, he⟩⟩
  · rw [ansE_none (by rw [← rdecE_eq]; exact hn)]
    exact ⟨hb, sz0, rfl, EdAt.zero _⟩
  · rw [ansE_some (by rw [← rdecE_eq]; exact hx)]
    exact ⟨hb, s, rfl, he⟩
set_option maxRecDepth 100000 in
set_option maxHeartbeats 4000000 in
theorem editReads_walk (a0 : Option Addr) (n cap0 : Nat) (b : List UInt8) (w : World) (h0 : BsAt w a0 n cap0 b) (e0 : cap0 ≤ 140737488351232) :
    Calls Try.prog 5 #[.slice a0 n cap0] w fun e w' => e = .returned (.bool true) ∧ Below w.heap.size w w' := by
  have hle := h0.le
  have H0 : Hid (BsAt w a0 n cap0 b) := h0
  have hdec := fun W a m c (hm : m ≤ 200000000000000) (h : BsAt W a m c b) => edec_ans a m c b W h hm
  have hrdec := fun W a m c (hm : m ≤ 200000000000000) (h : BsAt W a m c b) => redec_ans a m c b W h hm
  generalize ansE b = D at hdec hrdec
  obtain ⟨x, er⟩ := D
  have HDEC : Hid (∀ (W : World) (a : Option Addr) (m c : Nat), m ≤ 200000000000000 → BsAt W a m c b → Calls Try.prog 14 #[.slice a m c] W fun r w' => Below W.heap.size W w' ∧ ∃ s : SE, r = .returned (.tuple #[.agg #[.int .u64 (x.log : Int), .int .u64 (x.next : Int), .int .u64 (x.last : Int), .slice s.a x.dels.length s.c, .slice s.a' x.adds.length s.c'], .int .i64 er]) ∧ OwnG w' W.heap.size s.a x.dels.length s.c x.dels ∧ OwnF w' W.heap.size s.a' x.adds.length s.c' x.adds) := hdec
  have HRDEC : Hid (∀ (W : World) (a : Option Addr) (m c : Nat), m ≤ 200000000000000 → BsAt W a m c b → Calls Try.prog 15 #[.slice a m c] W fun r w' => Below W.heap.size W w' ∧ ∃ s : SE, r = .returned (.tuple #[.agg #[.int .u64 (x.log : Int), .int .u64 (x.next : Int), .int .u64 (x.last : Int), .slice s.a x.dels.length s.c, .slice s.a' x.adds.length s.c'], .int .i64 er]) ∧ EdAt w' x s) := hrdec
  clear h0 hdec hrdec
  go_enter Try.func5, Try.ntmps5
  go_wp2_with (first
    | (go_at_call 8; refine (awake_any _).mono ?_; rintro e v1 ⟨rfl, hb1⟩)
    | (at_builtin; refine wpList_app0 v1 rfl _ _ rfl rfl _ _ _ b rfl (H0.out.below (Nat.le_refl _) hb1) (by omega) ?_))
  intro a2 c2 v2 ho2 hb2
  have HB2 : Hid (Below w.heap.size w v2) := hb1.trans (hb2.mono hb1.size)
  have HO2 : Hid (OwnB v2 w.heap.size a2 n c2 b) := ho2.mono hb1.size
  clear ho2 hb2 hb1
  go_wp2_with fail
  refine (HDEC.out _ _ _ _ (by omega) HO2.out.bs).mono ?_
  rintro _ v3 ⟨hb3, s, rfl, hog, hof⟩
  have H3 : Hid (Below w.heap.size w (v3.alloc (.cells (eA x s) TE)) ∧ OwnB (v3.alloc (.cells (eA x s) TE)) w.heap.size a2 n c2 b ∧ Box (v3.alloc (.cells (eA x s) TE)) v3.heap.size TE (eA x s) ∧ OwnG (v3.alloc (.cells (eA x s) TE)) v2.heap.size s.a x.dels.length s.c x.dels ∧ OwnF (v3.alloc (.cells (eA x s) TE)) v2.heap.size s.a' x.adds.length s.c' x.adds) := by
    have hb := HB2.out.trans (hb3.mono HB2.out.size)
    exact ⟨hb.alloc hb.size _, (HO2.out.below hb3).alloc _, Box.new _ _ _, hog.alloc _, hof.alloc _⟩
  have hz3 := hb3.size
  clear hog hof hb3
  go_wp2_with fail
  go_loopw [7] (fun i wr => ∃ (k : Nat) (bs : List UInt8), k ≤ n ∧ i = .int .i64 (k : Int) ∧ Hid (BsAt wr a2 n c2 bs ∧ (∀ g, a2 = some ⟨g, 0, none⟩ → ∀ j, wr.frozen? ⟨g, j, none⟩ = false) ∧ Box wr v3.heap.size TE (eA x s) ∧ OwnG wr v2.heap.size s.a x.dels.length s.c x.dels ∧ OwnF wr v2.heap.size s.a' x.adds.length s.c' x.adds ∧ Below w.heap.size w wr)) (fun i _ => n - (intOf i).toNat)
  case atStart => exact ⟨0, b, Nat.zero_le _, rfl, H3.out.2.1.bs, (fun g e j => by subst e; exact H3.out.2.1.unfrozen j), H3.out.2.2.1, H3.out.2.2.2.1, H3.out.2.2.2.2, H3.out.1⟩
  case round =>
    obtain ⟨k, bs, hk, rfl, HX⟩ := hrel
    by_cases hlt : k < n
    · obtain ⟨g, rfl, hBg, hgs, _⟩ := HO2.out.cells (by omega)
      obtain ⟨g', off, he, hc⟩ := HX.out.1.here (by omega)
      simp only [Option.some.injEq, Addr.mk.injEq, and_true] at he
      obtain ⟨rfl, rfl⟩ := he
      have hck := hc k hlt
      have hfk := HX.out.2.1 g rfl k
      rw [Nat.zero_add] at hck
      have hx1 : (0 : Int) ≤ (k : Int) := by omega
      have hx2 : (k : Int) < (n : Int) := by omega
      have HS : Hid (BsAt (wr.setCell ⟨g, k, none⟩ (.int .u8 99)) (some ⟨g, 0, none⟩) n c2 (bs.set k 99) ∧ (∀ g', (some ⟨g, 0, none⟩ : Option Addr) = some ⟨g', 0, none⟩ → ∀ j, (wr.setCell ⟨g, k, none⟩ (.int .u8 99)).frozen? ⟨g', j, none⟩ = false) ∧ Box (wr.setCell ⟨g, k, none⟩ (.int .u8 99)) v3.heap.size TE (eA x s) ∧ OwnG (wr.setCell ⟨g, k, none⟩ (.int .u8 99)) v2.heap.size s.a x.dels.length s.c x.dels ∧ OwnF (wr.setCell ⟨g, k, none⟩ (.int .u8 99)) v2.heap.size s.a' x.adds.length s.c' x.adds ∧ Below w.heap.size w (wr.setCell ⟨g, k, none⟩ (.int .u8 99))) := by
        have h1 := HX.out.1.store k hlt 99
        rw [Nat.zero_add] at h1
        refine ⟨h1, (fun g' e j => by rw [World.frozen?_setCell]; exact HX.out.2.1 g' e j), HX.out.2.2.1.other (by omega) _ _, HX.out.2.2.2.1.kept fun i e => Below.heap_setCell _ _ _ _ (by have := HX.out.2.2.2.1.ge e; show i ≠ g; omega), HX.out.2.2.2.2.1.kept fun i e => Below.heap_setCell _ _ _ _ (by have := HX.out.2.2.2.2.1.ge e; show i ≠ g; omega), HX.out.2.2.2.2.2.setCell hBg _⟩
      clear hc
      go_wp2_with fail
      go_roundw
      case rel => exact ⟨k + 1, bs.set k 99, by omega, by go_num, HS.out⟩
      case measure => simp [intOf]; omega
    · go_wp2_with fail
      refine (HRDEC.out _ _ _ _ (by omega) (H0.out.below (Nat.le_refl _) HX.out.2.2.2.2.2)).mono ?_
      rintro _ v5 ⟨hb5, t, rfl, het⟩
      have H5 : Hid (Below w.heap.size w (v5.alloc (.cells (eA x t) TE)) ∧ EdAt (v5.alloc (.cells (eA x t) TE)) x s ∧ EdAt (v5.alloc (.cells (eA x t) TE)) x t) := by
        have hb := HX.out.2.2.2.2.2.trans (hb5.mono HX.out.2.2.2.2.2.size)
        have ha : Below v5.heap.size v5 (v5.alloc (.cells (eA x t) TE)) := (Below.refl _ _).alloc (Nat.le_refl _) _
        exact ⟨hb.alloc hb.size _, ⟨((HX.out.2.2.2.1.below hb5).alloc _).gs, ((HX.out.2.2.2.2.1.below hb5).alloc _).fs⟩, het.below ha⟩
      have hv5 := HX.out.2.2.1.kept (hb5.block _ HX.out.2.2.1.lt)
      obtain ⟨c0, c1, c2', c3, c4⟩ := hv5.five
      have hlt5 : v3.heap.size < v5.heap.size := hv5.lt
      have hsm : ∀ W, W = v5.alloc (.cells (eA x t) TE) → Calls Try.prog 11 #[.agg #[.int .u64 (x.log : Int), .int .u64 (x.next : Int), .int .u64 (x.last : Int), .slice s.a x.dels.length s.c, .slice s.a' x.adds.length s.c'], .agg #[.int .u64 (x.log : Int), .int .u64 (x.next : Int), .int .u64 (x.last : Int), .slice t.a x.dels.length t.c, .slice t.a' x.adds.length t.c']] W fun e w' => e = .returned (.bool true) ∧ Below w.heap.size w w' := by
        rintro W rfl
        exact (same_eq H5.out.2.1 H5.out.2.2).mono fun e w' ⟨g1, g2⟩ => ⟨g1, H5.out.1.trans (g2.mono H5.out.1.size)⟩
      clear hb5 het hv5
      go_wp2_with fail
      refine (hsm _ rfl).mono ?_
      rintro _ v6 ⟨rfl, hb6⟩
      have H6 : Hid (Below w.heap.size w v6) := hb6
      clear hb6 hsm
      go_wp2
      go_ret
      exact ⟨ret1 (by simp), H6.out⟩
end Go.Proofs.Ytiflepadjcpjjaa
