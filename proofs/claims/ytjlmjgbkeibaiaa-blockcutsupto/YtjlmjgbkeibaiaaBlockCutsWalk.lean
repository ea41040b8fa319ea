/- The walk of BlockCuts. -/
import Derived.Test.YtjlmjgbkeibaiaaK11Law
import Derived.Deep.DeepCutAuto
namespace Go.Proofs.Ytjlmjgbkeibaiaa
open Go.RowKit
set_option linter.unusedVariables false
set_option linter.unusedSimpArgs false
/-- Blocks that hold no entries stay. -/
def Oth (W W' : World) : Prop := ∀ k, k < W.heap.size → tag W k ≠ some TKV → W'.heap[k]? = W.heap[k]?
theorem oth_push {W W' : World} {B : Nat} {a : Option Addr} {n c : Nat} {l : List KV} (h : OwnK W B a n c l) (o : Obj) (hg : (W.alloc o).grownBy W' (blkOf a)) : Oth W W' := fun k hk ht => by
  rw [hg.block k (by simp; omega) (fun e => ht (h.tag e.symm))]
  exact Below.heap_alloc W o k hk
theorem Box.oth {W W' : World} {p : Nat} {t : TypeId} {arr : Array Value} (h : Box W p t arr) (hk : Oth W W') (ht : t ≠ TKV) : Box W' p t arr := h.kept (hk p h.lt (by rw [h.tag]; intro e; exact ht (Option.some.inj e)))
theorem OwnB.oth {W W' : World} {B : Nat} {a : Option Addr} {n c : Nat} {l : List UInt8} (h : OwnB W B a n c l) (hk : Oth W W') : OwnB W' B a n c l := h.kept fun k e => hk k (tag_lt (h.tag e)) (by rw [h.tag e]; decide)
theorem BkAt.oth {W W' : World} {B p iv sz : Nat} {ss : List (List UInt8)} (h : BkAt W B p iv sz ss) (hk : Oth W W') : BkAt W' B p iv sz ss := by
  obtain ⟨g, arr, ab, nb, cb, body, h1, h2, h2', h3, h4, h5, h6⟩ := h.here
  exact ⟨h.ge, g, arr, ab, nb, cb, body, h1, h2, h2', h3.oth hk (by decide), h4.oth hk (by decide), h5, h6.oth hk⟩
theorem GB.oth {W W' : World} {B p iv : Nat} {l : List KV} (h : GB W B p iv l) (hk : Oth W W') : GB W' B p iv l := ⟨h.bk.oth hk, h.ok, h.one, h.top, h.small⟩
/-- The two rows of bytes. -/
structure TW (w W : World) (tb : Nat) (a1 : Option Addr) (n1 c1 : Nat) (b1 : List UInt8) (a2 : Option Addr) (n2 c2 : Nat) (b2 : List UInt8) : Prop where
  base : Below w.heap.size w W
  box : Box W tb 24 #[.slice a1 n1 c1, .slice a2 n2 c2]
  o1 : OwnB W w.heap.size a1 n1 c1 b1
  o2 : OwnB W w.heap.size a2 n2 c2 b2
section
variable {w W W' : World} {tb : Nat} {a1 : Option Addr} {n1 c1 : Nat} {b1 : List UInt8} {a2 : Option Addr} {n2 c2 : Nat} {b2 : List UInt8}
theorem TW.below (h : TW w W tb a1 n1 c1 b1 a2 n2 c2 b2) (hb : Below W.heap.size W W') : TW w W' tb a1 n1 c1 b1 a2 n2 c2 b2 := ⟨h.base.trans (hb.mono h.base.size), h.box.kept (hb.block _ h.box.lt), h.o1.below hb, h.o2.below hb⟩
theorem TW.oth (h : TW w W tb a1 n1 c1 b1 a2 n2 c2 b2) (hk : Oth W W') (hb : Below w.heap.size W W') : TW w W' tb a1 n1 c1 b1 a2 n2 c2 b2 := ⟨h.base.trans hb, h.box.oth hk (by decide), h.o1.oth hk, h.o2.oth hk⟩
end
theorem pick_tw (w : World) (tb : Nat) (a1 : Option Addr) (n1 c1 : Nat) (b1 : List UInt8) (a2 : Option Addr) (n2 c2 : Nat) (b2 : List UInt8) (h1 : n1 ≤ 3000000) (h2 : n2 ≤ 3000000) (i : Nat) (hi : i < 2) : ∃ (a : Option Addr) (n c : Nat) (b : List UInt8), n ≤ 3000000 ∧ ∀ W, TW w W tb a1 n1 c1 b1 a2 n2 c2 b2 → W.cell? ⟨tb, i, none⟩ = some (.slice a n c) ∧ BsAt W a n c b := by
  rcases (by omega : i = 0 ∨ i = 1) with rfl | rfl
  · exact ⟨a1, n1, c1, b1, h1, fun W h => ⟨h.box.cell 0, h.o1.bs⟩⟩
  · exact ⟨a2, n2, c2, b2, h2, fun W h => ⟨h.box.cell 1, h.o2.bs⟩⟩
set_option maxRecDepth 100000 in
set_option maxHeartbeats 4000000 in
theorem blockCuts_walk (a : Option Addr) (len cap : Nat) (l0 : List KV) (iv : Int) (cut : Int) (am : Option Addr) (nm cm : Nat) (bm : List UInt8) (w : World) (h0 : KsAt w a len cap l0) (hr0 : ∀ e ∈ l0, RawOk e) (hg : (a = none → cap = 0) ∧ ∀ x, a = some x → x.spot = none) (_hi : (Lit.int .i64 iv).wf = true) (hcu : (Lit.int .i64 cut).wf = true) (hm : BsAt w am nm cm bm) (hcm' : cm ≤ 1048576) : Calls Try.prog 7 #[.slice a len cap, .int .i64 iv, .int .i64 cut, .slice am nm cm] w fun e w' => e = .returned (.bool true) ∧ Below w.heap.size w w' := by
  have HS0 : Hid (KsAt w a len cap l0 ∧ ∀ e ∈ l0, RawOk e) := ⟨h0, hr0⟩
  have HG : Hid ((a = none → cap = 0) ∧ ∀ x, a = some x → x.spot = none) := hg
  have HM : Hid (BsAt w am nm cm bm) := hm
  have hnm : nm ≤ 1048576 := by have := hm.le; omega
  have hcu2 : -9223372036854775808 ≤ cut ∧ cut ≤ 9223372036854775807 := by
    simp [Lit.wf, IntKind.min, IntKind.max, IntKind.bits, IntKind.signed] at hcu
    omega
  obtain ⟨hcu3, hcu4⟩ := hcu2
  have hcm := h0.max
  have hle := h0.le
  unfold maxLen at hcm
  clear h0 hr0 hg _hi hm hcu hcm'
  go_enter Try.func7, Try.ntmps7
  go_wp2_with fail
  refine (awake_any _).mono ?_
  rintro _ w1 ⟨rfl, hb1⟩
  have HB1 : Hid (Below w.heap.size w w1) := hb1
  clear hb1
  go_upto_if 27 with fail
  go_cut [0] (fun x wz => ∃ n : Nat, x = .slice a n cap ∧ n ≤ 1000 ∧ n ≤ cap ∧ wz = w1 ∧ Hid (∃ l, KsAt w1 a n cap l ∧ ∀ e ∈ l, RawOk e))
  case first =>
    have HI : Hid (KsAt w1 a len cap l0) := HS0.out.1.below HB1.out
    by_cases hq : 1000 < len
    · obtain ⟨b, off, hab, _⟩ := HS0.out.1.here (by omega)
      subst hab
      go_wp2_with fail
      go_meet
      exact ⟨1000, rfl, by omega, by omega, rfl, l0.take 1000, HI.out.upTo (by omega), fun e he => HS0.out.2 e (List.mem_of_mem_take he)⟩
    · have hq' : decide ((1000 : Int) < (len : Int)) = false := by simp; omega
      go_wp2_with fail
      go_meet
      exact ⟨len, rfl, by omega, hle, rfl, l0, HI.out, HS0.out.2⟩
  case rest =>
    obtain ⟨n, rfl, hn, hnc, rfl, HL⟩ := hcut
    obtain ⟨l, hl1, hl2⟩ := HL.out
    have HK : Hid (KsAt wc a n cap l ∧ WfL l) := ⟨hl1, RawOk.wfl hl2⟩
    have HSZ : Hid (l.length = n) := hl1.size
    clear hl1 hl2 HL HS0 hle
    rcases build_any a n cap l iv HK.out.2 (by omega) with ⟨er, her, hx⟩ | ⟨v, rfl, hv1, hv16, hck, hx⟩
    · have HX : Hid (∀ w, KsAt w a n cap l → Calls Try.prog 10 #[.slice a n cap, .int .i64 iv] w fun r w' => r = .returned (.tuple #[.slice none 0 0, .int .i64 er]) ∧ Below w.heap.size w w') := hx
      clear hx
      go_wp2_with fail
      refine (HX.out _ HK.out.1).mono ?_
      rintro _ w2 ⟨rfl, hb2⟩
      have hne : (er != 0) = true := by simpa using her
      have HB2 : Hid (Below w.heap.size w w2) := HB1.out.trans (hb2.mono HB1.out.size)
      clear hb2
      go_wp2
      go_ret
      exact ⟨ret1 rfl, HB2.out⟩
    obtain ⟨LL, HLL⟩ : ∃ m, Hid ((layP v l).length = m) := ⟨_, rfl⟩
    have hll : LL ≤ 1106 * n + 5 := by
      have := lay_le hv1 l (chkL_zero.1 hck).1
      rw [HSZ.out, HLL.out] at this
      exact this
    have HX1 : Hid (Calls Try.prog 10 #[.slice a n cap, .int .i64 (v : Int)] wc fun r w' => ∃ a' c', r = .returned (.tuple #[.slice a' LL c', .int .i64 0]) ∧ BsAt w' a' LL c' (layP v l) ∧ Below wc.heap.size wc w') := (hx _ HK.out.1 HG.out.1 HG.out.2).mono fun r w' ⟨a', c', h1, h2, h3⟩ => ⟨a', c', by rw [← HLL.out]; exact h1, by rw [← HLL.out]; exact h2.bs, h3⟩
    clear hx hck
    go_wp2_with fail
    refine HX1.out.mono ?_
    rintro _ w2 ⟨a2, c2, rfl, ho2, hb2⟩
    have H2 : Hid (Below w.heap.size w w2 ∧ BsAt w2 a2 LL c2 (layP v l)) := ⟨HB1.out.trans (hb2.mono HB1.out.size), ho2⟩
    clear ho2 hb2 HK HB1 HX1
    go_upto_if 40 with fail
    go_cut [2] (fun s wz => ∃ q : Nat, s = .int .i64 (q : Int) ∧ q ≤ 9223372036854775807 ∧ wz = w2)
    case first =>
      by_cases hq : cut < 0
      · obtain ⟨q, e⟩ : ∃ q : Nat, -(cut + 1) = (q : Int) := ⟨(-(cut + 1)).toNat, by omega⟩
        have HE : Hid (-(cut + 1) = (q : Int)) := e
        clear e
        go_wp2_with fail
        go_meet
        exact ⟨q, by rw [HE.out], by have := HE.out; omega, rfl⟩
      · go_wp2_with fail
        go_meet
        exact ⟨cut.toNat, by rw [show ((cut.toNat : Nat) : Int) = cut by omega], by omega, rfl⟩
    case rest =>
      obtain ⟨q, rfl, hq, rfl⟩ := hcut
      clear hcu3 hcu4
      obtain ⟨ct, HCT⟩ : ∃ m : Nat, Hid (q % (LL + 1) = m) := ⟨_, rfl⟩
      have hct : ct ≤ LL := by have := HCT.out; have := Nat.mod_lt q (show 0 < LL + 1 by omega); omega
      have hrem : (q : Int).tmod ((LL : Int) + 1) = (ct : Int) := by
        rw [← HCT.out, show ((LL : Int) + 1) = ((LL + 1 : Nat) : Int) by omega, Int.tmod_eq_emod_of_nonneg (by omega)]
        omega
      have hnz : ¬ ((LL : Int) + 1 = 0) := by omega
      obtain ⟨at', hsl, hsq⟩ := slice_to H2.out.2 ct hct
      have HSQ : Hid (∀ (W : World) (bs : List UInt8), BsAt W a2 LL c2 bs → BsAt W at' ct c2 (bs.take ct)) := hsq
      clear hsq
      go_wp2_with (first
        | (at_builtin; refine wpList_app0 wc rfl _ _ rfl rfl at' ct c2 _ rfl (HSQ.out _ _ H2.out.2) (by omega) ?_; intro r1 d1 x1 ho1 hx1
           have H3 : Hid (Below w.heap.size w x1 ∧ BsAt x1 a2 LL c2 (layP v l) ∧ OwnB x1 w.heap.size r1 ct d1 ((layP v l).take ct)) := ⟨H2.out.1.trans (hx1.mono H2.out.1.size), H2.out.2.below (Nat.le_refl _) hx1, ho1.mono H2.out.1.size⟩
           clear ho1 hx1)
        | (at_builtin; refine wpList_app0 x1 rfl _ _ rfl rfl a2 LL c2 _ rfl H3.out.2.1 (by omega) ?_; intro r2 d2 x2 ho2 hx2
           have H4 : Hid (Below w.heap.size w x2 ∧ OwnB x2 w.heap.size r1 ct d1 ((layP v l).take ct) ∧ OwnB x2 x1.heap.size r2 LL d2 (layP v l) ∧ x1.heap.size ≤ x2.heap.size ∧ w.heap.size ≤ x1.heap.size ∧ Below x1.heap.size x1 x2) := ⟨H3.out.1.trans (hx2.mono H3.out.1.size), H3.out.2.2.below hx2, ho2, hx2.size, H3.out.1.size, hx2⟩
           clear ho2 hx2)
        | (at_builtin; refine wpList_app x2 rfl _ _ rfl x1.heap.size r2 LL d2 _ rfl H4.out.2.2.1 am nm cm _ rfl (HM.out.below (Nat.le_refl _) H4.out.1) (by omega) H4.out.2.2.2.1 ?_; intro r3 d3 x3 ho3 hx3 _
           have H5 : Hid (Below w.heap.size w x3 ∧ OwnB x3 w.heap.size r1 ct d1 ((layP v l).take ct) ∧ OwnB x3 w.heap.size r3 (LL + nm) d3 (layP v l ++ bm)) := ⟨H4.out.1.trans (hx3.mono H4.out.2.2.2.2.1), H3.out.2.2.below (H4.out.2.2.2.2.2.trans hx3), ho3.mono H4.out.2.2.2.2.1⟩
           clear ho3 hx3))
      have HT : Hid (TW w (x3.alloc (.cells #[.slice r1 ct d1, .slice r3 (LL + nm) d3] 24)) x3.heap.size r1 ct d1 ((layP v l).take ct) r3 (LL + nm) d3 (layP v l ++ bm)) := ⟨H5.out.1.alloc H5.out.1.size _, Box.new _ _ _, H5.out.2.1.alloc _, H5.out.2.2.alloc _⟩
      generalize (layP v l).take ct = by1 at HT
      generalize layP v l ++ bm = by2 at HT
      obtain ⟨m2, hm2⟩ : ∃ m, LL + nm = m := ⟨_, rfl⟩
      have hm2b : m2 ≤ 3000000 := by omega
      have hctb : ct ≤ 3000000 := by omega
      have HM2 : Hid (LL + nm = m2) := hm2
      rw [HM2.out] at HT ⊢
      clear hm2 H5
      generalize x3.alloc (.cells #[.slice r1 ct d1, .slice r3 m2 d3] 24) = y0 at HT ⊢
      generalize x3.heap.size = tb at HT ⊢
      go_loopw [13] (fun x wr => ∃ i : Nat, i ≤ 2 ∧ x = .int .i64 (i : Int) ∧ Hid (TW w wr tb r1 ct d1 by1 r3 m2 d3 by2)) (fun x _ => 2 - (intOf x).toNat)
      case atStart => exact ⟨0, by omega, rfl, HT.out⟩
      case round =>
        obtain ⟨i, hi, rfl, HR⟩ := hrel
        by_cases hin : i < 2
        · obtain ⟨ai, ni, ci, bi, hni, hpk⟩ := pick_tw w tb r1 ct d1 by1 r3 m2 d3 by2 hctb hm2b i hin
          have HPK : Hid (∀ W, TW w W tb r1 ct d1 by1 r3 m2 d3 by2 → W.cell? ⟨tb, i, none⟩ = some (.slice ai ni ci) ∧ BsAt W ai ni ci bi) := hpk
          clear hpk
          have x0 := (HPK.out wr HR.out).1
          have hidx := fun W => idxBs tb (n := 2) (c := 2) hin W
          have hop := open_any ai ni ci bi wr (HPK.out wr HR.out).2 (by omega)
          have HBL : Hid (bi.length = ni) := (HPK.out wr HR.out).2.size
          go_wp2_with fail
          refine hop.mono ?_
          rintro _ v1 ⟨hb1, ⟨hno, rfl⟩ | ⟨ss, ls, p, hop2, rfl, hbk⟩⟩
          · have H1 : Hid (TW w v1 tb r1 ct d1 by1 r3 m2 d3 by2) := HR.out.below hb1
            clear hb1 hno hop x0
            go_wp2
            go_roundw
            case rel => exact ⟨i + 1, hin, by go_num, H1.out⟩
            case measure => simp only [intOf]; omega
          · obtain ⟨_, hu1, hu16, hck, hlay, _, _⟩ := open_some hop2
            have hgb := gb_of hop2 hbk (by rw [HBL.out]; omega)
            have hml := lay_ge hu1 ls.flatten
            rw [← hlay, HBL.out] at hml
            generalize ls.flatten = m at hck hlay hgb hml
            generalize ivOf bi = u at hu1 hu16 hlay hgb hml
            obtain ⟨mn, HMN⟩ : ∃ k, Hid (m.length = k) := ⟨_, rfl⟩
            rw [HMN.out] at hml
            have HM1 : Hid (chkL m = 0 ∧ bi = layP u m ∧ WfL m) := ⟨hck, hlay, fun e he => by
              have h1 := (chkL_zero.1 hck).1 e he
              have := err_le h1.1
              have := h1.2
              omega⟩
            have H1 : Hid (TW w v1 tb r1 ct d1 by1 r3 m2 d3 by2 ∧ GB v1 wr.heap.size p u m) := ⟨HR.out.below hb1, hgb⟩
            clear hb1 hop x0 hbk hop2 hlay hck hgb
            generalize wr.heap.size = Bo at H1
            go_wp2_with fail
            go_loopw [16, 17] (fun x16 x wr => ∃ (k cg : Nat) (ag : Option Addr), k ≤ mn ∧ x = .int .i64 (k : Int) ∧ x16 = .slice ag k cg ∧ Hid (TW w wr tb r1 ct d1 by1 r3 m2 d3 by2 ∧ GB wr Bo p u m ∧ OwnK wr w.heap.size ag k cg (m.take k))) (fun _ x _ => mn - (intOf x).toNat)
            case atStart => exact ⟨0, 0, none, Nat.zero_le _, rfl, rfl, H1.out.1, H1.out.2, OwnK.nil _ _⟩
            case round =>
              obtain ⟨k, cg, ag, hk, rfl, rfl, HQ⟩ := hrel
              have hln := len_any HQ.out.2.1.bk
              rw [HMN.out] at hln
              by_cases hkn : k < mn
              · have hkl : k < m.length := by rw [HMN.out]; exact hkn
                have HAT := at_yes HQ.out.2.1 (i := k) hkl
                have HTK : Hid (m.take (k + 1) = m.take k ++ [m[k]]) := List.take_succ_eq_append_getElem hkl
                generalize m[k] = e at HAT HTK
                have HAT2 : Hid (Calls Try.prog 18 #[at_ p, .int .i64 (k : Int)] wr fun r w' => r = .returned (.tuple #[.agg #[.string e.1.user, .int .u64 (e.1.seq : Int), .int .i64 e.1.kind, .string e.2], .int .i64 0]) ∧ Below wr.heap.size wr w') := HAT
                clear HAT
                go_wp2_with fail
                refine hln.mono ?_
                rintro _ vx ⟨rfl, hvx⟩
                obtain rfl : wr = vx := hvx
                go_wp2_with fail
                refine HAT2.out.mono ?_
                rintro _ z1 ⟨rfl, hz1⟩
                have hz2 : Below wr.heap.size wr (z1.alloc (.cells #[.string e.1.user, .int .u64 (e.1.seq : Int), .int .i64 e.1.kind, .string e.2] 42)) := hz1.trans ((Below.refl _ _).alloc hz1.size _)
                have H2z : Hid (TW w (z1.alloc (.cells #[.string e.1.user, .int .u64 (e.1.seq : Int), .int .i64 e.1.kind, .string e.2] 42)) tb r1 ct d1 by1 r3 m2 d3 by2 ∧ GB (z1.alloc (.cells #[.string e.1.user, .int .u64 (e.1.seq : Int), .int .i64 e.1.kind, .string e.2] 42)) Bo p u m ∧ OwnK (z1.alloc (.cells #[.string e.1.user, .int .u64 (e.1.seq : Int), .int .i64 e.1.kind, .string e.2] 42)) w.heap.size ag k cg (m.take k)) := ⟨HQ.out.1.below hz2, HQ.out.2.1.below hz2, HQ.out.2.2.below hz2⟩
                clear hz1 hz2 hln HAT2
                have HBz : Hid (Box (z1.alloc (.cells #[.string e.1.user, .int .u64 (e.1.seq : Int), .int .i64 e.1.kind, .string e.2] 42)) z1.heap.size TKV #[.string e.1.user, .int .u64 (e.1.seq : Int), .int .i64 e.1.kind, .string e.2]) := Box.new _ _ _
                go_upto_if 92 with fail
                generalize z1.alloc (.cells #[.string e.1.user, .int .u64 (e.1.seq : Int), .int .i64 e.1.kind, .string e.2] 42) = z2 at H2z HBz ⊢
                generalize z1.heap.size = yb at HBz ⊢
                have y0 : z2.cell? ⟨yb, 0, none⟩ = some (.string e.1.user) := HBz.out.cell 0
                have y1 : z2.cell? ⟨yb, 1, none⟩ = some (.int .u64 (e.1.seq : Int)) := HBz.out.cell 1
                have y2 : z2.cell? ⟨yb, 2, none⟩ = some (.int .i64 e.1.kind) := HBz.out.cell 2
                have y3 : z2.cell? ⟨yb, 3, none⟩ = some (.string e.2) := HBz.out.cell 3
                go_wp2_with (first
                  | (at_builtin; refine wpList_pushK z2 rfl _ _ rfl w.heap.size ag k cg _ rfl H2z.out.2.2 e #[.string e.1.user, .int .u64 (e.1.seq : Int), .int .i64 e.1.kind, .string e.2] rfl rfl (by omega) H2z.out.1.base.size ?_; intro a5 c5 z5 ho5 hb5 hg5
                     have H5z : Hid (TW w z5 tb r1 ct d1 by1 r3 m2 d3 by2 ∧ GB z5 Bo p u m ∧ OwnK z5 w.heap.size a5 (k + 1) c5 (m.take (k + 1))) := by
                       have ho := oth_push H2z.out.2.2 _ hg5
                       exact ⟨H2z.out.1.oth ho hb5, H2z.out.2.1.oth ho, by rw [HTK.out]; exact ho5⟩
                     clear ho5 hb5 hg5))
                go_roundw
                case rel => exact ⟨k + 1, c5, a5, hkn, by go_num, rfl, H5z.out⟩
                case measure => simp only [intOf]; omega
              · obtain rfl : k = mn := by omega
                have H3 : Hid (TW w wr tb r1 ct d1 by1 r3 m2 d3 by2 ∧ OwnK wr w.heap.size ag k cg m) := by
                  refine ⟨HQ.out.1, ?_⟩
                  have := HQ.out.2.2
                  rw [List.take_of_length_le (by rw [HMN.out]; exact Nat.le_refl _)] at this
                  exact this
                go_wp2_with fail
                refine hln.mono ?_
                rintro _ vx ⟨rfl, hvx⟩
                obtain rfl : wr = vx := hvx
                clear hln HQ H1
                go_wp2_with fail
                go_loopw [20, 21] (fun x20 x wr => ∃ (j : Nat) (ag' : Bool), 1 ≤ j ∧ j ≤ 17 ∧ x = .int .i64 (j : Int) ∧ x20 = .bool ag' ∧ Hid ((u < j → ag' = true) ∧ TW w wr tb r1 ct d1 by1 r3 m2 d3 by2 ∧ OwnK wr w.heap.size ag k cg m)) (fun _ x _ => 17 - (intOf x).toNat)
                case atStart => exact ⟨1, false, Nat.le_refl _, by omega, rfl, rfl, fun h => absurd h (by omega), H3.out.1, H3.out.2⟩
                case round =>
                  obtain ⟨j, ag', hj1, hj17, rfl, rfl, HJ⟩ := hrel
                  by_cases hj : j ≤ 16
                  · have hbu := build_yes ag k cg m j hj1 hj wr HJ.out.2.2.ks HJ.out.2.2.spot.1 HJ.out.2.2.spot.2 (by omega) HM1.out.2.2 HM1.out.1
                    have HE : Hid (u = j → strOf (layP j m) = strOf bi) := fun h => by rw [← h, ← HM1.out.2.1]
                    generalize (layP j m).length = lj at hbu
                    go_wp2_with fail
                    refine hbu.mono ?_
                    rintro _ z1 ⟨aj, cj, rfl, hoj, hbj⟩
                    have H4 : Hid (TW w z1 tb r1 ct d1 by1 r3 m2 d3 by2 ∧ OwnK z1 w.heap.size ag k cg m ∧ BsAt z1 aj lj cj (layP j m)) := ⟨HJ.out.2.1.below hbj, HJ.out.2.2.below hbj, hoj.bs⟩
                    clear hoj hbj hbu
                    have s1 : ∀ d, (convert 24 9 (.slice aj lj cj)).run Try.prog (z1.drewN d) = .ok (.string (strOf (layP j m))) (z1.drewN d) := fun d => str_at (H4.out.2.2.below (Nat.le_refl _) (Below.drewM (Below.refl _ _) d))
                    have s2 : ∀ d, (convert 24 9 (.slice ai ni ci)).run Try.prog (z1.drewN d) = .ok (.string (strOf bi)) (z1.drewN d) := fun d => str_at ((HPK.out _ H4.out.1).2.below (Nat.le_refl _) (Below.drewM (Below.refl _ _) d))
                    have y0 := (HPK.out _ H4.out.1).1
                    generalize strOf (layP j m) = sA at s1 HE
                    generalize strOf bi = sB at s2 HE
                    have HV : Hid (u = j → (sA.toList == sB.toList) = true) := fun h => by rw [HE.out h]; simp
                    generalize hve : (sA.toList == sB.toList) = ve at HV
                    cases ve with
                    | false =>
                      go_wp2_with fail
                      go_quiet (fail)
                      go_wp2
                      go_roundw
                      case rel =>
                        have hd := Below.drewM (Below.refl z1.heap.size z1) nq
                        refine ⟨j + 1, ag', by omega, by omega, by go_num, rfl, fun h => ?_, H4.out.1.below hd, H4.out.2.1.below hd⟩
                        by_cases huj : u = j
                        · exact absurd (HV.out huj) (by decide)
                        · exact HJ.out.1 (by omega)
                      case measure => simp only [intOf]; omega
                    | true =>
                      go_wp2_with fail
                      go_quiet (fail)
                      go_wp2
                      go_roundw
                      case rel =>
                        have hd := Below.drewM (Below.refl z1.heap.size z1) nq
                        exact ⟨j + 1, true, by omega, by omega, by go_num, rfl, fun _ => rfl, H4.out.1.below hd, H4.out.2.1.below hd⟩
                      case measure => simp only [intOf]; omega
                  · obtain rfl : ag' = true := HJ.out.1 (by omega)
                    go_wp2
                    go_roundw
                    case rel => exact ⟨i + 1, hin, by go_num, HJ.out.2.1⟩
                    case measure => simp only [intOf]; omega
        · go_wp2
          go_ret
          exact ⟨ret1 rfl, HR.out.base⟩
end Go.Proofs.Ytjlmjgbkeibaiaa
