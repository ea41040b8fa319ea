/- The walk of EditBack. -/
import Derived.Test.YtiflepadjcpjjaaE13Awake
import Derived.Test.YtiflepadjcpjjaaW9Sl
import Derived.Test.YtiflepadjcpjjaaAppFit
namespace Go.Proofs.Ytiflepadjcpjjaa
open Go.RowKit
set_option linter.unusedVariables false
set_option linter.unusedSimpArgs false
/-- Bytes that are an edit, cut, with more behind. -/
theorem wpList_appTwo (w : World) {ops : Array Oper} {rest : List Oper} {o : Oper} {a : Act} {Q : Exit → Act → World → Prop} (hgd : o.guard = none) (s x : Operand)
    (ho : o.op = .call { callee := .builtin .append, args := #[s, x], argTypes := #[28, 28] })
    (B : Nat) (a1 : Option Addr) (n1 c1 : Nat) (bs : List UInt8) (hs : a.eval s = .slice a1 n1 c1) (hown : OwnB w B a1 n1 c1 bs)
    (a2 : Option Addr) (n2 c2 : Nat) (cs : List UInt8) (hx : a.eval x = .slice a2 n2 c2) (hsrc : BsAt w a2 n2 c2 cs)
    (h1 : n1 ≤ 420000) (h2 : n2 ≤ 140737488351232) (hB : B ≤ w.heap.size)
    (h : ∀ a' c' w', OwnB w' B a' (n1 + n2) c' (bs ++ cs) → Below B w w' → wpList Try.prog ops Q rest (a.put o.dst (.slice a' (n1 + n2) c')) w') :
    wpList Try.prog ops Q (o :: rest) a w := by
  rcases Nat.eq_zero_or_pos n1 with h0 | h0
  · exact wpList_app w hgd s x ho B a1 n1 c1 bs hs hown a2 n2 c2 cs hx hsrc (by omega) hB (fun a' c' w' k1 k2 _ => h a' c' w' k1 k2)
  · exact wpList_appFit w hgd s x ho B a1 n1 c1 bs hs hown h0 a2 n2 c2 cs hx hsrc (by omega) hB h
set_option maxRecDepth 100000 in
set_option maxHeartbeats 4000000 in
theorem editBack_walk (x : PE) (s : SE) (cut : Int) (am : Option Addr) (lm cm : Nat) (mo : List UInt8) (w : World) (h : EdAt w x s) (hwf : WfE x) (hdl : x.dels.length * 16 ≤ 140737488351232) (hal : x.adds.length * 88 ≤ 140737488351232) (hcw : (Lit.int .i64 cut).wf = true) (hmo : BsAt w am lm cm mo) (hml : cm ≤ 140737488351232) :
    Calls Try.prog 6 #[.agg #[.int .u64 (x.log : Int), .int .u64 (x.next : Int), .int .u64 (x.last : Int), .slice s.a x.dels.length s.c, .slice s.a' x.adds.length s.c'], .int .i64 cut, .slice am lm cm] w fun e w' => e = .returned (.bool true) ∧ Below w.heap.size w w' := by
  have HB0 : Hid (Below w.heap.size w (w.alloc (.cells (eA x s) TE)) ∧ Box (w.alloc (.cells (eA x s) TE)) w.heap.size TE (eA x s)) := ⟨(Below.refl _ _).alloc (Nat.le_refl _) _, Box.new _ _ _⟩
  have HS : Hid (EdAt w x s ∧ WfE x ∧ BsAt w am lm cm mo) := ⟨h, hwf, hmo⟩
  have hlm := hmo.le
  have hcb : -9223372036854775808 ≤ cut ∧ cut ≤ 9223372036854775807 := by
    simp [Lit.wf, IntKind.min, IntKind.max, IntKind.bits, IntKind.signed] at hcw
    omega
  clear h hwf hmo hcw
  go_enter Try.func6, Try.ntmps6
  go_wp2_with fail
  refine (awake_any _).mono ?_
  rintro _ w1 ⟨rfl, hb1⟩
  have H1 : Hid (Below w.heap.size w w1 ∧ Box w1 w.heap.size TE (eA x s)) := ⟨HB0.out.1.trans (hb1.mono HB0.out.1.size), HB0.out.2.kept (hb1.block _ HB0.out.2.lt)⟩
  obtain ⟨c0, c1, c2, c3, c4⟩ := H1.out.2.five
  clear hb1 HB0
  go_wp2_with fail
  refine (eenc_any x s w1 (HS.out.1.below H1.out.1) HS.out.2.1).mono ?_
  rintro _ w2 ⟨a2, k2, rfl, ho2, hb2⟩
  have H2 : Hid (Below w.heap.size w w2 ∧ Box w2 w.heap.size TE (eA x s) ∧ BsAt w2 a2 x.lay.length k2 x.lay) := ⟨H1.out.1.trans (hb2.mono H1.out.1.size), H1.out.2.kept (hb2.block _ H1.out.2.lt), ho2.bs⟩
  clear c0 c1 c2 c3 c4
  obtain ⟨c0, c1, c2, c3, c4⟩ := H2.out.2.1.five
  clear ho2 hb2 H1
  by_cases her : x.err = 0
  · have hly := PE.lay_yes her
    have hel := PE.enc_len her
    have HX : Hid (x.err = 0 ∧ decE x.enc = some x) := ⟨her, decE_iff.2 ⟨her, rfl⟩⟩
    rw [hly] at H2 ⊢
    rw [her]
    clear her hly
    have hde := edec_any a2 x.enc.length k2 x.enc w2 H2.out.2.2 (by omega)
    generalize hE : x.enc = E at H2 hde HX hel ⊢
    generalize hL : E.length = L at H2 hde hel ⊢
    go_wp2_with fail
    refine hde.mono ?_
    rintro _ w3 ⟨hb3, ⟨hno, _⟩ | ⟨y, t, hy, rfl, hog, hof⟩⟩
    · rw [HX.out.2] at hno
      cases hno
    obtain rfl : y = x := by rw [HX.out.2] at hy; exact (Option.some.inj hy).symm
    have hv3 := H2.out.2.1.kept (hb3.block _ H2.out.2.1.lt)
    obtain ⟨W3, e3, H3⟩ : ∃ W3, W3 = w3.alloc (.cells (eA y t) TE) ∧ Hid (Below w.heap.size w W3 ∧ EdAt W3 y s ∧ EdAt W3 y t ∧ BsAt W3 a2 L k2 E ∧ BsAt W3 am lm cm mo) := by
      have hb : Below w2.heap.size w2 (w3.alloc (.cells (eA y t) TE)) := hb3.trans ((Below.refl _ _).alloc hb3.size _)
      have hbw := H2.out.1.trans (hb.mono H2.out.1.size)
      exact ⟨_, rfl, hbw, HS.out.1.below hbw, ⟨(hog.alloc _).gs, (hof.alloc _).fs⟩, H2.out.2.2.below (Nat.le_refl _) hb, HS.out.2.2.below (Nat.le_refl _) hbw⟩
    clear c0 c1 c2 c3 c4
    obtain ⟨c0, c1, c2, c3, c4⟩ := hv3.five
    have hlt : w.heap.size < w3.heap.size := hv3.lt
    have hsm : ∀ W, W = w3.alloc (.cells (eA y t) TE) → Calls Try.prog 11 #[.agg #[.int .u64 (y.log : Int), .int .u64 (y.next : Int), .int .u64 (y.last : Int), .slice s.a y.dels.length s.c, .slice s.a' y.adds.length s.c'], .agg #[.int .u64 (y.log : Int), .int .u64 (y.next : Int), .int .u64 (y.last : Int), .slice t.a y.dels.length t.c, .slice t.a' y.adds.length t.c']] W fun e w' => e = .returned (.bool true) ∧ Below W3.heap.size W3 w' := by
      rintro W rfl
      rw [← e3]
      exact same_eq H3.out.2.1 H3.out.2.2.1
    clear hde hb3 hy hog hof e3 H2 hv3
    go_wp2_with fail
    refine (hsm _ rfl).mono ?_
    rintro _ w4 ⟨rfl, hb4⟩
    have H4 : Hid (Below w.heap.size w w4 ∧ BsAt w4 a2 L k2 E ∧ BsAt w4 am lm cm mo) := ⟨H3.out.1.trans (hb4.mono H3.out.1.size), H3.out.2.2.2.1.below (Nat.le_refl _) hb4, H3.out.2.2.2.2.below (Nat.le_refl _) hb4⟩
    clear hsm hb4 H3 c0 c1 c2 c3 c4 HX hE hL
    obtain ⟨q, hq, hqc⟩ : ∃ q : Nat, q < 9223372036854775808 ∧ ((0 ≤ cut ∧ cut = (q : Int)) ∨ (cut < 0 ∧ -(cut + 1) = (q : Int))) := by
      by_cases h0 : 0 ≤ cut
      · exact ⟨cut.toNat, by omega, .inl ⟨h0, by omega⟩⟩
      · exact ⟨(-(cut + 1)).toNat, by omega, .inr ⟨by omega, by omega⟩⟩
    have hrm : (q : Int).tmod ((L : Int) + 1) = ((q % (L + 1) : Nat) : Int) := by
      rw [Int.tmod_eq_emod_of_nonneg (by omega)]
      simp
    have hrl : q % (L + 1) ≤ L := by have := Nat.mod_lt q (show 0 < L + 1 by omega); omega
    generalize q % (L + 1) = r at hrm hrl
    obtain ⟨p1, s1, t1⟩ := slice_to H4.out.2.1 r hrl
    have HT : Hid (BsAt w4 p1 r k2 (E.take r)) := t1 _ _ H4.out.2.1
    clear t1
    have hw1 : IntKind.i64.wrap ((L : Int) + 1) = (L : Int) + 1 := by rw [IntKind.wrap_i64]; omega
    have hnz : ¬ ((L : Int) + 1 = 0) := by omega
    rcases hqc with ⟨h0, rfl⟩ | ⟨h0, hqn⟩
    · have hnl : ¬ (q : Int) < 0 := by omega
      go_wp2_with (first
        | (at_builtin; refine wpList_app0 w4 rfl _ _ rfl rfl p1 r k2 (E.take r) rfl HT.out (by omega) ?_; intro a5 k5 w5 ho5 hb5
           have H5 : Hid (OwnB w5 w4.heap.size a5 r k5 (E.take r) ∧ Below w4.heap.size w4 w5 ∧ BsAt w5 am lm cm mo) := ⟨ho5, hb5, H4.out.2.2.below (Nat.le_refl _) hb5⟩
           clear ho5 hb5)
        | (at_builtin; refine wpList_appTwo w5 rfl _ _ rfl w4.heap.size a5 r k5 (E.take r) rfl H5.out.1 am lm cm mo rfl H5.out.2.2 (by omega) (by omega) H5.out.2.1.size ?_; intro a6 k6 w6 ho6 hb6
           have H6 : Hid (BsAt w6 a6 (r + lm) k6 (E.take r ++ mo) ∧ Below w.heap.size w w6) := ⟨ho6.bs, (H4.out.1.trans (H5.out.2.1.mono H4.out.1.size)).trans (hb6.mono H4.out.1.size)⟩
           clear ho6 hb6))
      have hd6 := edec_any a6 (r + lm) k6 (E.take r ++ mo) w6 H6.out.1 (by omega)
      generalize E.take r ++ mo = C at H6 hd6
      generalize r + lm = n6 at H6 hd6 ⊢
      refine hd6.mono ?_
      rintro _ w7 ⟨hb7, ⟨hno, rfl⟩ | ⟨z, t, hz, rfl, hog, hof⟩⟩
      · have HB7 : Hid (Below w.heap.size w (w7.alloc (.cells (eA ez sz0) TE))) := by
          have := H6.out.2.trans (hb7.mono H6.out.2.size)
          exact this.alloc this.size _
        have hsm : ∀ W, W = w7.alloc (.cells (eA ez sz0) TE) → Calls Try.prog 11 #[.agg #[.int .u64 0, .int .u64 0, .int .u64 0, .slice none 0 0, .slice none 0 0], .agg #[.int .u64 0, .int .u64 0, .int .u64 0, .slice none 0 0, .slice none 0 0]] W fun e w' => e = .returned (.bool true) ∧ Below w.heap.size w w' := by
          rintro W rfl
          have := same_eq (x := ez) (s := sz0) (t := sz0) (EdAt.zero (w7.alloc (.cells (eA ez sz0) TE))) (EdAt.zero _)
          exact this.mono fun e w' ⟨h1, h2⟩ => ⟨h1, HB7.out.trans (h2.mono HB7.out.size)⟩
        clear hb7 hd6
        go_wp2_with fail
        refine (hsm _ rfl).mono ?_
        rintro _ w8 ⟨rfl, hb8⟩
        have H8 : Hid (Below w.heap.size w w8) := hb8
        clear hb8 hsm
        go_wp2
        go_ret
        exact ⟨ret1 rfl, H8.out⟩
      · obtain ⟨hze, hzc⟩ := decE_iff.1 hz
        obtain ⟨W7, e7, H7⟩ : ∃ W7, W7 = w7.alloc (.cells (eA z t) TE) ∧ Hid (Below w.heap.size w W7 ∧ EdAt W7 z t ∧ BsAt W7 a6 n6 k6 C) := by
          have hb : Below w6.heap.size w6 (w7.alloc (.cells (eA z t) TE)) := hb7.trans ((Below.refl _ _).alloc hb7.size _)
          exact ⟨_, rfl, H6.out.2.trans (hb.mono H6.out.2.size), ⟨(hog.alloc _).gs, (hof.alloc _).fs⟩, H6.out.1.below (Nat.le_refl _) hb⟩
        have hlay : z.lay = C := by rw [PE.lay_yes hze]; exact hzc
        have hen : ∀ W, W = w7.alloc (.cells (eA z t) TE) → Calls Try.prog 9 #[.agg #[.int .u64 (z.log : Int), .int .u64 (z.next : Int), .int .u64 (z.last : Int), .slice t.a z.dels.length t.c, .slice t.a' z.adds.length t.c']] W fun e w' => ∃ a' c', e = .returned (.tuple #[.slice a' n6 c', .int .i64 0]) ∧ BsAt w' a' n6 c' C ∧ Below W7.heap.size W7 w' := by
          rintro W rfl
          rw [← e7]
          have h1 := eenc_any z t W7 H7.out.2.1 (fun f hf => by
            have := PE.err_zero hze
            have hf0 := PF.err_zero (this.2.2.2.2.2.2 f hf)
            have k1 := err_le hf0.2.2.2.1
            have k2 := err_le hf0.2.2.2.2.1
            exact ⟨by omega, by omega⟩)
          rw [hlay, hze, show C.length = n6 from H6.out.1.size] at h1
          exact h1.mono fun e w' ⟨a', c', g1, g2, g3⟩ => ⟨a', c', g1, g2.bs, g3⟩
        clear hb7 hd6 hz hog hof e7 hze hzc hlay
        go_wp2_with fail
        refine (hen _ rfl).mono ?_
        rintro _ w8 ⟨a8, k8, rfl, hb8s, hb8⟩
        have H8 : Hid (Below w.heap.size w w8) := H7.out.1.trans (hb8.mono H7.out.1.size)
        have cv1 := conv_of hb8s
        have cv2 := conv_of (H7.out.2.2.below (Nat.le_refl _) hb8)
        generalize strOf C = SC at cv1 cv2
        clear hb8s hb8 hen
        go_wp2
        go_ret
        exact ⟨ret1 (by simp), H8.out⟩
    · have hneg : IntKind.i64.wrap (-(IntKind.i64.wrap (cut + 1))) = (q : Int) := by
        rw [IntKind.wrap_i64, IntKind.wrap_i64]
        omega
      go_wp2_with (first
        | (at_builtin; refine wpList_app0 w4 rfl _ _ rfl rfl p1 r k2 (E.take r) rfl HT.out (by omega) ?_; intro a5 k5 w5 ho5 hb5
           have H5 : Hid (OwnB w5 w4.heap.size a5 r k5 (E.take r) ∧ Below w4.heap.size w4 w5 ∧ BsAt w5 am lm cm mo) := ⟨ho5, hb5, H4.out.2.2.below (Nat.le_refl _) hb5⟩
           clear ho5 hb5)
        | (at_builtin; refine wpList_appTwo w5 rfl _ _ rfl w4.heap.size a5 r k5 (E.take r) rfl H5.out.1 am lm cm mo rfl H5.out.2.2 (by omega) (by omega) H5.out.2.1.size ?_; intro a6 k6 w6 ho6 hb6
           have H6 : Hid (BsAt w6 a6 (r + lm) k6 (E.take r ++ mo) ∧ Below w.heap.size w w6) := ⟨ho6.bs, (H4.out.1.trans (H5.out.2.1.mono H4.out.1.size)).trans (hb6.mono H4.out.1.size)⟩
           clear ho6 hb6))
      have hd6 := edec_any a6 (r + lm) k6 (E.take r ++ mo) w6 H6.out.1 (by omega)
      generalize E.take r ++ mo = C at H6 hd6
      generalize r + lm = n6 at H6 hd6 ⊢
      refine hd6.mono ?_
      rintro _ w7 ⟨hb7, ⟨hno, rfl⟩ | ⟨z, t, hz, rfl, hog, hof⟩⟩
      · have HB7 : Hid (Below w.heap.size w (w7.alloc (.cells (eA ez sz0) TE))) := by
          have := H6.out.2.trans (hb7.mono H6.out.2.size)
          exact this.alloc this.size _
        have hsm : ∀ W, W = w7.alloc (.cells (eA ez sz0) TE) → Calls Try.prog 11 #[.agg #[.int .u64 0, .int .u64 0, .int .u64 0, .slice none 0 0, .slice none 0 0], .agg #[.int .u64 0, .int .u64 0, .int .u64 0, .slice none 0 0, .slice none 0 0]] W fun e w' => e = .returned (.bool true) ∧ Below w.heap.size w w' := by
          rintro W rfl
          have := same_eq (x := ez) (s := sz0) (t := sz0) (EdAt.zero (w7.alloc (.cells (eA ez sz0) TE))) (EdAt.zero _)
          exact this.mono fun e w' ⟨h1, h2⟩ => ⟨h1, HB7.out.trans (h2.mono HB7.out.size)⟩
        clear hb7 hd6
        go_wp2_with fail
        refine (hsm _ rfl).mono ?_
        rintro _ w8 ⟨rfl, hb8⟩
        have H8 : Hid (Below w.heap.size w w8) := hb8
        clear hb8 hsm
        go_wp2
        go_ret
        exact ⟨ret1 rfl, H8.out⟩
      · obtain ⟨hze, hzc⟩ := decE_iff.1 hz
        obtain ⟨W7, e7, H7⟩ : ∃ W7, W7 = w7.alloc (.cells (eA z t) TE) ∧ Hid (Below w.heap.size w W7 ∧ EdAt W7 z t ∧ BsAt W7 a6 n6 k6 C) := by
          have hb : Below w6.heap.size w6 (w7.alloc (.cells (eA z t) TE)) := hb7.trans ((Below.refl _ _).alloc hb7.size _)
          exact ⟨_, rfl, H6.out.2.trans (hb.mono H6.out.2.size), ⟨(hog.alloc _).gs, (hof.alloc _).fs⟩, H6.out.1.below (Nat.le_refl _) hb⟩
        have hlay : z.lay = C := by rw [PE.lay_yes hze]; exact hzc
        have hen : ∀ W, W = w7.alloc (.cells (eA z t) TE) → Calls Try.prog 9 #[.agg #[.int .u64 (z.log : Int), .int .u64 (z.next : Int), .int .u64 (z.last : Int), .slice t.a z.dels.length t.c, .slice t.a' z.adds.length t.c']] W fun e w' => ∃ a' c', e = .returned (.tuple #[.slice a' n6 c', .int .i64 0]) ∧ BsAt w' a' n6 c' C ∧ Below W7.heap.size W7 w' := by
          rintro W rfl
          rw [← e7]
          have h1 := eenc_any z t W7 H7.out.2.1 (fun f hf => by
            have := PE.err_zero hze
            have hf0 := PF.err_zero (this.2.2.2.2.2.2 f hf)
            have k1 := err_le hf0.2.2.2.1
            have k2 := err_le hf0.2.2.2.2.1
            exact ⟨by omega, by omega⟩)
          rw [hlay, hze, show C.length = n6 from H6.out.1.size] at h1
          exact h1.mono fun e w' ⟨a', c', g1, g2, g3⟩ => ⟨a', c', g1, g2.bs, g3⟩
        clear hb7 hd6 hz hog hof e7 hze hzc hlay
        go_wp2_with fail
        refine (hen _ rfl).mono ?_
        rintro _ w8 ⟨a8, k8, rfl, hb8s, hb8⟩
        have H8 : Hid (Below w.heap.size w w8) := H7.out.1.trans (hb8.mono H7.out.1.size)
        have cv1 := conv_of hb8s
        have cv2 := conv_of (H7.out.2.2.below (Nat.le_refl _) hb8)
        generalize strOf C = SC at cv1 cv2
        clear hb8s hb8 hen
        go_wp2
        go_ret
        exact ⟨ret1 (by simp), H8.out⟩
  · have hne : (((x.err : Nat) : Int) != 0) = true := by simp; omega
    have hck := echeck_any x s w2 (HS.out.1.below H2.out.1) HS.out.2.1
    have HL : Hid (x.lay = []) := PE.lay_no her
    rw [HL.out]
    generalize x.err = er at hne hck ⊢
    go_wp2_with fail
    refine hck.mono ?_
    rintro _ w3 ⟨rfl, hb3⟩
    have H3 : Hid (Below w.heap.size w w3) := H2.out.1.trans (hb3.mono H2.out.1.size)
    clear hb3 hck
    go_wp2
    go_ret
    exact ⟨ret1 (by simp), H3.out⟩
end Go.Proofs.Ytiflepadjcpjjaa
