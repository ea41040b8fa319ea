/- The contract of the document's own Build. -/
import Derived.Test.YtgegjcnjlibfdaaGreatQa23
import Derived.Test.YtgegjcnjlibfdaaGreatR11BuildA
import Derived.Test.YtgegjcnjlibfdaaGreatR10Build
import Derived.Test.YtgegjcnjlibfdaaGreatT12TabA
import Derived.Deep.DeepCutAuto
namespace Go.Proofs.YtgegjcnjlibfdaaGreat
set_option maxRecDepth 100000
open Go.RowKit
set_option linter.unusedVariables false
set_option linter.unusedSimpArgs false
theorem bldE_1 {bl iv : Int} {bits : Nat} {l : List KV} (h : ¬ ((1 ≤ bl ∧ bl ≤ 65536) ∧ 1 ≤ iv ∧ iv ≤ 16)) : bldE bl iv bits l = some 1 := by unfold bldE; rw [if_pos h]
theorem bldE_2 {bl iv : Int} {bits : Nat} {l : List KV} (h : (1 ≤ bl ∧ bl ≤ 65536) ∧ 1 ≤ iv ∧ iv ≤ 16) (h2 : okB bits = false) : bldE bl iv bits l = some 100 := by unfold bldE; rw [if_neg (fun k => k h), if_pos h2]
theorem bldE_3 {bl iv : Int} {bits : Nat} {l : List KV} (h : (1 ≤ bl ∧ bl ≤ 65536) ∧ 1 ≤ iv ∧ iv ≤ 16) (h2 : okB bits = true) (h3 : l = []) : bldE bl iv bits l = some 120 := by unfold bldE; rw [if_neg (fun k => k h), if_neg (by rw [h2]; simp), if_pos h3]
theorem bldE_4 {bl iv : Int} {bits : Nat} {l : List KV} (h : (1 ≤ bl ∧ bl ≤ 65536) ∧ 1 ≤ iv ∧ iv ≤ 16) (h2 : okB bits = true) (h3 : l ≠ []) (h4 : chkL l ≠ 0) : bldE bl iv bits l = some ((chkL l : Nat) : Int) := by unfold bldE; rw [if_neg (fun k => k h), if_neg (by rw [h2]; simp), if_neg h3, if_pos h4]
theorem bldE_5 {bl iv : Int} {bits : Nat} {l : List KV} (h : (1 ≤ bl ∧ bl ≤ 65536) ∧ 1 ≤ iv ∧ iv ≤ 16) (h2 : okB bits = true) (h3 : l ≠ []) (h4 : chkL l = 0) : bldE bl iv bits l = none := by unfold bldE; rw [if_neg (fun k => k h), if_neg (by rw [h2]; simp), if_neg h3, if_neg (fun k => k h4)]
theorem ks_mid2 {w0 : World} {l0 : List KV} {a : Option Addr} {n c : Nat} (h : KsAt w0 a n c l0) (lo hi : Nat) (h1 : lo < hi) (h2 : hi ≤ n) :
    ∃ a', (∀ W : World, (Instr.slice TKs (.slice a n c) (some (.int .i64 (lo : Int))) (some (.int .i64 (hi : Int))) none).run Tryz.prog W = .ok (.slice a' (hi - lo) (c - lo)) W) ∧
      (∀ (W : World) (l : List KV), KsAt W a n c l → KsAt W a' (hi - lo) (c - lo) ((l.drop lo).take (hi - lo))) := by
  have hle := h.le
  have hmx := h.max
  obtain ⟨b, off, rfl, _⟩ := h.here (by omega)
  have hzz : ∀ W, (sizeOf (Tryz.prog.elem TKs)).run Tryz.prog W = .ok 4 W := fun W => by kernel_rfl
  refine ⟨some ⟨b, off + lo * 4, none⟩, fun W => ?_, fun W l hl => ?_⟩
  · have hz2 := hzz W
    have g1 : hi ≤ c := by omega
    have g2 : lo ≤ hi := by omega
    have g3 : ¬ (c - lo = 0) := by omega
    have g4 : ¬ c ≤ lo := by omega
    have g5 : lo ≠ c := by omega
    have g6 : ((hi : Int) - (lo : Int)).toNat = hi - lo := by omega
    have g7 : ((c : Int) - (lo : Int)).toNat = c - lo := by omega
    simp [Instr.slice, run_underlying Tryz.underlying23, go_sem, hz2, g1, g2, g3, g4, g5, g6, g7, Addr.add_lit]
    try omega
  · have hs := hl.size
    refine ⟨by rw [List.length_take, List.length_drop]; omega, by omega, by omega, fun hp => ⟨b, off + lo * 4, rfl, fun j hj => ?_⟩⟩
    obtain ⟨b', off', e, hc⟩ := hl.here (by omega)
    cases e
    rw [Nat.add_assoc, hc (lo * 4 + j) (by omega)]
    have hq : j / 4 < ((l.drop lo).take (hi - lo)).length := by rw [List.length_take, List.length_drop]; omega
    have e1 := cellsKV_get l (lo + j / 4) (j % 4) (by omega) (by omega)
    have e2 := cellsKV_get ((l.drop lo).take (hi - lo)) (j / 4) (j % 4) hq (by omega)
    rw [show (lo + j / 4) * 4 + j % 4 = lo * 4 + j by omega] at e1
    rw [show j / 4 * 4 + j % 4 = j by omega] at e2
    rw [e1, e2]
    simp [List.getElem_take, List.getElem_drop]
/-- What the document's own Build keeps in its loop. -/
structure RB (w wr : World) (op : Array Value) (af : Option Addr) (nf cf : Nat) (fl : List UInt8) (ao : Option Addr) (no co : Nat) (lo : List UInt8) (ai : Option Addr) (ni ci : Nat) (li : List KV) : Prop where
  base : Below w.heap.size w wr
  opt : Box wr w.heap.size TOp op
  ff : OwnB wr w.heap.size af nf cf fl
  oo : OwnB wr w.heap.size ao no co lo
  oi : OwnK wr w.heap.size ai ni ci li
  ap : ∀ k, blkOf ao = some k → blkOf af ≠ some k
theorem RG.small {iv bl : Nat} (hi : 1 ≤ iv) {l : List KV} (hc : chkL l = 0) {i fr : Nat} {gs : List (List KV)} (h : RG iv bl l i fr gs) : (bodyT (tdOf iv gs)).length ≤ 1115 * fr ∧ gs.length ≤ fr ∧ (∀ g ∈ gs, g ≠ []) := by
  have h0 : ∀ g ∈ gs, g ≠ [] := fun g hg => (grps_mem iv bl l g (by rw [h.gr]; exact List.mem_append_left _ hg)).1
  have hfl : gs.flatten ++ (grps iv bl (l.drop fr)).flatten = l := by rw [← List.flatten_append, ← h.gr, grps_flat]
  have h1 := congrArg List.length hfl
  rw [grps_flat, List.length_append, List.length_drop] at h1
  have h2 := h.le
  have h3 := h.top
  have h4 := bodyT_le hi gs h0 (fun g hg e he => (chkL_zero.1 hc).1 e (by rw [← hfl]; exact List.mem_append_left _ (List.mem_flatten.2 ⟨g, hg, he⟩)))
  have h5 : ∀ gs : List (List KV), (∀ g ∈ gs, g ≠ []) → gs.length ≤ gs.flatten.length := by
    intro gs
    induction gs with
    | nil => simp
    | cons g r ih =>
      intro hg
      have := ih fun x hx => hg x (List.mem_cons_of_mem _ hx)
      have := List.length_pos_iff.2 (hg g List.mem_cons_self)
      rw [List.flatten_cons, List.length_append, List.length_cons]
      omega
  have h6 := h5 gs h0
  exact ⟨by omega, by omega, h0⟩
section
variable {w wr w' : World} {op : Array Value} {af : Option Addr} {nf cf : Nat} {fl : List UInt8} {ao : Option Addr} {no co : Nat} {lo : List UInt8} {ai : Option Addr} {ni ci : Nat} {li : List KV}
theorem RB.call (h : RB w wr op af nf cf fl ao no co lo ai ni ci li) (hb : Below wr.heap.size wr w') : RB w w' op af nf cf fl ao no co lo ai ni ci li :=
  ⟨h.base.trans (hb.mono h.base.size), h.opt.kept (hb.block _ h.opt.lt), h.ff.below hb, h.oo.below hb, h.oi.below hb, h.ap⟩
theorem RB.app (h : RB w wr op af nf cf fl ao no co lo ai ni ci li) {ao' : Option Addr} {no' co' : Nat} {lo' : List UInt8} (ho : OwnB w' w.heap.size ao' no' co' lo') (hb : Below w.heap.size wr w') (hg : wr.grownBy w' (blkOf ao)) (hl : blkOf ao' = blkOf ao ∨ blkOf ao' = some wr.heap.size) : RB w w' op af nf cf fl ao' no' co' lo' ai ni ci li := by
  refine ⟨h.base.trans hb, h.opt.kept (hg.block _ h.opt.lt (fun e => ?_)), h.ff.kept (fun k hk => hg.block k (tag_lt (h.ff.tag hk)) (fun e => h.ap k e.symm hk)), ho, h.oi.kept (fun k hk => hg.block k (tag_lt (h.oi.tag hk)) (fun e => ?_)), fun k hk hk2 => ?_⟩
  · have h1 := h.oo.tag e.symm
    rw [h.opt.tag] at h1
    exact absurd (Option.some.inj h1) (by decide)
  · have h1 := h.oo.tag e.symm
    rw [h.oi.tag hk] at h1
    exact absurd (Option.some.inj h1) (by decide)
  · rcases hl with hl | hl
    · exact h.ap k (by rw [← hl]; exact hk) hk2
    · rw [hl] at hk
      have h1 := tag_lt (h.ff.tag hk2)
      have : wr.heap.size = k := Option.some.inj hk
      omega
theorem RB.push (h : RB w wr op af nf cf fl ao no co lo ai ni ci li) (o : Obj) {ai' : Option Addr} {ni' ci' : Nat} {li' : List KV} (ho : OwnK w' w.heap.size ai' ni' ci' li') (hb : Below w.heap.size wr w') (hg : (wr.alloc o).grownBy w' (blkOf ai)) : RB w w' op af nf cf fl ao no co lo ai' ni' ci' li' := by
  have hot := oth_push h.oi o hg
  exact ⟨h.base.trans hb, h.opt.oth hot (by decide), h.ff.oth hot, h.oo.oth hot, ho, h.ap⟩
end
theorem rpf4 (a : Option Addr) (t c : Nat) (bs : List UInt8) (n : Nat) (V : World) (h : BsAt V a t c bs) (hn : n < 4294967296) (ht : t ≤ 1000) : Calls Tryz.prog 31 #[.slice a t c, .int .u64 (n : Int), .int .i64 4] V fun e w' => ∃ a' c', e = .returned (.slice a' (t + 4) c') ∧ OwnB w' V.heap.size a' (t + 4) c' (bs ++ fxEnc n 4) ∧ Below V.heap.size V w' := by
  have := rputFixed_any a t c bs n 4 V h (by omega) (by omega)
  have e : fxPut n 4 = fxEnc n 4 := by unfold fxPut; rw [if_neg (by omega)]; rfl
  rw [e, fxEnc_length] at this
  exact this
/-- Behind the loop: the filter, the blocks, the index, the last bytes. -/
structure RT (w wr : World) (af : Option Addr) (nf cf : Nat) (fl : List UInt8) (ao : Option Addr) (no co : Nat) (lo : List UInt8) (ax : Option Addr) (nx cx : Nat) (lx : List UInt8) (at0 : Option Addr) (nt ct : Nat) (lt : List UInt8) : Prop where
  base : Below w.heap.size w wr
  ff : OwnB wr w.heap.size af nf cf fl
  oo : OwnB wr w.heap.size ao no co lo
  xx : OwnB wr w.heap.size ax nx cx lx
  tt : OwnB wr w.heap.size at0 nt ct lt
  ap : ∀ k, blkOf ao = some k → blkOf af ≠ some k ∧ blkOf ax ≠ some k ∧ blkOf at0 ≠ some k
section
variable {w wr w' : World} {af : Option Addr} {nf cf : Nat} {fl : List UInt8} {ao : Option Addr} {no co : Nat} {lo : List UInt8} {ax : Option Addr} {nx cx : Nat} {lx : List UInt8} {at0 : Option Addr} {nt ct : Nat} {lt : List UInt8}
theorem RT.call (h : RT w wr af nf cf fl ao no co lo ax nx cx lx at0 nt ct lt) (hb : Below wr.heap.size wr w') : RT w w' af nf cf fl ao no co lo ax nx cx lx at0 nt ct lt :=
  ⟨h.base.trans (hb.mono h.base.size), h.ff.below hb, h.oo.below hb, h.xx.below hb, h.tt.below hb, h.ap⟩
theorem RT.tail (h : RT w wr af nf cf fl ao no co lo ax nx cx lx at0 nt ct lt) (hb : Below wr.heap.size wr w') {at' : Option Addr} {nt' ct' : Nat} {lt' : List UInt8} (ho : OwnB w' wr.heap.size at' nt' ct' lt') : RT w w' af nf cf fl ao no co lo ax nx cx lx at' nt' ct' lt' := by
  refine ⟨h.base.trans (hb.mono h.base.size), h.ff.below hb, h.oo.below hb, h.xx.below hb, ho.mono h.base.size, fun k hk => ⟨(h.ap k hk).1, (h.ap k hk).2.1, fun e => ?_⟩⟩
  have h1 := tag_lt (h.oo.tag hk)
  have h2 := ho.ge e
  omega
theorem RT.app (h : RT w wr af nf cf fl ao no co lo ax nx cx lx at0 nt ct lt) {ao' : Option Addr} {no' co' : Nat} {lo' : List UInt8} (ho : OwnB w' w.heap.size ao' no' co' lo') (hb : Below w.heap.size wr w') (hg : wr.grownBy w' (blkOf ao)) (hl : blkOf ao' = blkOf ao ∨ blkOf ao' = some wr.heap.size) : RT w w' af nf cf fl ao' no' co' lo' ax nx cx lx at0 nt ct lt := by
  refine ⟨h.base.trans hb, h.ff.kept (fun k hk => hg.block k (tag_lt (h.ff.tag hk)) (fun e => (h.ap k e.symm).1 hk)), ho, h.xx.kept (fun k hk => hg.block k (tag_lt (h.xx.tag hk)) (fun e => (h.ap k e.symm).2.1 hk)), h.tt.kept (fun k hk => hg.block k (tag_lt (h.tt.tag hk)) (fun e => (h.ap k e.symm).2.2 hk)), fun k hk => ?_⟩
  rcases hl with hl | hl
  · exact h.ap k (by rw [← hl]; exact hk)
  · rw [hl] at hk
    have : wr.heap.size = k := Option.some.inj hk
    refine ⟨fun e => ?_, fun e => ?_, fun e => ?_⟩
    · have := tag_lt (h.ff.tag e); omega
    · have := tag_lt (h.xx.tag e); omega
    · have := tag_lt (h.tt.tag e); omega
end
set_option maxHeartbeats 16000000 in
theorem rbuild12 {a : Option Addr} {n c : Nat} {bl iv : Int} {bits : Nat} {l : List KV} {w : World} (h : KsAt w a n c l) (hw : WfL l) (hus : ∀ s ∈ usersL l, s.size ≤ 140737488351232) (hn : n ≤ 1000) :
    Calls Tryz.prog 11 #[.slice a n c, .agg #[.int .i64 bl, .int .i64 iv, .float .f64 bits]] w fun r w' => Below w.heap.size w w' ∧ ((∃ er, bldE bl iv bits l = some er ∧ r = .returned (.tuple #[.slice none 0 0, .int .i64 er])) ∨ (bldE bl iv bits l = none ∧ ∃ a' c', r = .returned (.tuple #[.slice a' (tblB iv.toNat bl.toNat bits l).length c', .int .i64 0]) ∧ BsAt w' a' (tblB iv.toNat bl.toNat bits l).length c' (tblB iv.toNat bl.toNat bits l))) := by
  have hmix : Tryz.prog.follows Departure.mixedOrders = true := by kernel_rfl
  have HK : Hid (KsAt w a n c l ∧ WfL l ∧ l.length = n ∧ ∀ s ∈ usersL l, s.size ≤ 140737488351232) := ⟨h, hw, h.size, hus⟩
  have hcm := h.max
  have hle := h.le
  unfold maxLen at hcm
  have H0 : Hid (Below w.heap.size w (w.alloc (.cells #[.int .i64 bl, .int .i64 iv, .float .f64 bits] TOp)) ∧ Box (w.alloc (.cells #[.int .i64 bl, .int .i64 iv, .float .f64 bits] TOp)) w.heap.size TOp #[.int .i64 bl, .int .i64 iv, .float .f64 bits]) := ⟨(Below.refl _ _).alloc (Nat.le_refl _) _, Box.new _ _ _⟩
  clear h hw hus
  go_enter Tryz.func11, Tryz.ntmps11
  by_cases hr : (1 ≤ bl ∧ bl ≤ 65536) ∧ 1 ≤ iv ∧ iv ≤ 16
  rotate_left
  · have HE : Hid (bldE bl iv bits l = some 1) := bldE_1 hr
    have hc : bl < 1 ∨ (¬ bl < 1 ∧ 65536 < bl) ∨ (¬ bl < 1 ∧ ¬ 65536 < bl ∧ iv < 1) ∨ (¬ bl < 1 ∧ ¬ 65536 < bl ∧ ¬ iv < 1 ∧ 16 < iv) := by omega
    clear hr
    rcases hc with h1 | ⟨h1, h2⟩ | ⟨h1, h2, h3⟩ | ⟨h1, h2, h3, h4⟩
    · go_wp2
      go_ret2
      exact ⟨H0.out.1, .inl ⟨1, HE.out, ret2 rfl rfl⟩⟩
    · go_wp2
      go_ret2
      exact ⟨H0.out.1, .inl ⟨1, HE.out, ret2 rfl rfl⟩⟩
    · go_wp2
      go_ret2
      exact ⟨H0.out.1, .inl ⟨1, HE.out, ret2 rfl rfl⟩⟩
    · go_wp2
      go_ret2
      exact ⟨H0.out.1, .inl ⟨1, HE.out, ret2 rfl rfl⟩⟩
  have HRG : Hid ((1 ≤ bl ∧ bl ≤ 65536) ∧ 1 ≤ iv ∧ iv ≤ 16) := hr
  obtain ⟨v, rfl⟩ : ∃ v : Nat, iv = (v : Int) := ⟨iv.toNat, by omega⟩
  obtain ⟨vb, rfl⟩ : ∃ v : Nat, bl = (v : Int) := ⟨bl.toNat, by omega⟩
  have n1 : ¬ (vb : Int) < 1 := by omega
  have n2 : ¬ (65536 : Int) < (vb : Int) := by omega
  have n3 : ¬ (v : Int) < 1 := by omega
  have n4 : ¬ (16 : Int) < (v : Int) := by omega
  have hv1 : 1 ≤ v := by omega
  have hv16 : v ≤ 16 := by omega
  have hvb1 : 1 ≤ vb := by omega
  have hvb2 : vb ≤ 65536 := by omega
  simp only [Int.toNat_natCast]
  clear hr
  go_wp2_with fail
  clear n1 n2 n3 n4
  go_loopw [6, 7] (fun us x wr => ∃ (k cu : Nat) (au : Option Addr), k ≤ n ∧ x = .int .i64 (k : Int) ∧ us = .slice au k cu ∧ Hid (Below w.heap.size w wr ∧ Box wr w.heap.size TOp #[.int .i64 (vb : Int), .int .i64 (v : Int), .float .f64 bits] ∧ OwnS wr w.heap.size au k cu (usersL (l.take k)))) (fun _ x _ => n - (intOf x).toNat)
  case atStart => exact ⟨0, 0, none, Nat.zero_le _, rfl, rfl, H0.out.1, H0.out.2, OwnS.nil _ _⟩
  case round =>
    obtain ⟨k, cu, au, hk, rfl, rfl, HR⟩ := hrel
    by_cases hkn : k < n
    · have hkl : k < l.length := by rw [HK.out.2.2.1]; exact hkn
      obtain ⟨b, off, hab, hcs⟩ := (HK.out.1.below HR.out.1).cells4 (by omega)
      obtain ⟨d0, d1, d2, d3⟩ := hcs k hkl
      have hidx := fun W => idxKV W (a := a) (b := b) (off := off) (n := n) (c := c) hab hkn
      have HU : Hid (usersL (l.take (k + 1)) = usersL (l.take k) ++ [l[k].1.user]) := by
        unfold Hid usersL
        rw [List.take_succ_eq_append_getElem hkl, List.map_append]
        rfl
      generalize l[k] = e at d0 d1 d2 d3 HU
      clear hcs hab d1 d2 d3
      go_wp2_with (first
        | (at_builtin; refine wpList_pushS wr rfl _ _ rfl w.heap.size au k cu _ rfl HR.out.2.2 e.1.user rfl (by omega) HR.out.1.size ?_
           intro g5 c5 w5 ho5 hg5
           have H5 : Hid (Below w.heap.size w w5 ∧ Box w5 w.heap.size TOp #[.int .i64 (vb : Int), .int .i64 (v : Int), .float .f64 bits] ∧ OwnS w5 w.heap.size (some ⟨g5, 0, none⟩) (k + 1) c5 (usersL (l.take (k + 1)))) := by
             rw [HU.out]
             refine ⟨(HR.out.1.alloc HR.out.1.size _).grown hg5 (by have := HR.out.1.size; simp; omega) (fun j e => HR.out.2.2.ge e), ?_, ho5⟩
             refine (HR.out.2.1.alloc _).kept (hg5.block _ (HR.out.2.1.alloc _).lt (fun e => ?_))
             have h1 := HR.out.2.2.tag e.symm
             rw [HR.out.2.1.tag] at h1
             exact absurd (Option.some.inj h1) (by decide)
           clear ho5 hg5))
      go_roundw
      case rel => exact ⟨k + 1, c5, some ⟨g5, 0, none⟩, hkn, by go_num, rfl, H5.out⟩
      case measure => simp only [intOf]; omega
    · obtain rfl : k = n := by omega
      have H1 : Hid (Below w.heap.size w wr ∧ Box wr w.heap.size TOp #[.int .i64 (vb : Int), .int .i64 (v : Int), .float .f64 bits] ∧ StAt wr au k cu (usersL l)) := ⟨HR.out.1, HR.out.2.1, by have := HR.out.2.2.st; rw [List.take_of_length_le (by rw [HK.out.2.2.1]; exact Nat.le_refl _)] at this; exact this⟩
      have y2 : wr.cell? ⟨w.heap.size, 2, none⟩ = some (.float .f64 bits) := H1.out.2.1.cell 2
      clear HR H0
      cases hok : okB bits with
      | false =>
        have HE : Hid (bldE (vb : Int) (v : Int) bits l = some 100) := bldE_2 HRG.out hok
        have hb := rbloom_no au k cu bits wr hok
        clear hok
        go_wp2_with fail
        refine hb.mono ?_
        rintro _ w2 ⟨rfl, rfl⟩
        go_wp2
        go_ret2
        exact ⟨H1.out.1, .inl ⟨100, HE.out, ret2 rfl rfl⟩⟩
      | true =>
        have HOK : Hid (okB bits = true) := hok
        have hb := rbloom_yes au k cu bits (usersL l) wr H1.out.2.2 HK.out.2.2.2 (by omega) hok
        clear hok
        go_wp2_with fail
        refine hb.mono ?_
        rintro _ w2 ⟨af, cf, rfl, hof, hb2⟩
        have hsz := szN_le HOK.out (n := k) hn
        have H2 : Hid (Below w.heap.size w w2 ∧ Box w2 w.heap.size TOp #[.int .i64 (vb : Int), .int .i64 (v : Int), .float .f64 bits] ∧ OwnB w2 w.heap.size af (szN bits k + 1) cf (fltN bits l)) := ⟨H1.out.1.trans (hb2.mono H1.out.1.size), H1.out.2.1.kept (hb2.block _ H1.out.2.1.lt), by unfold fltN; rw [HK.out.2.2.1]; exact hof.mono H1.out.1.size⟩
        obtain ⟨nf, HNF⟩ : ∃ nf, Hid (szN bits k + 1 = nf) := ⟨_, (rfl : szN bits k + 1 = szN bits k + 1)⟩
        rw [HNF.out] at H2 ⊢
        have hnf : nf ≤ 12601 ∧ 1 ≤ nf := by have := HNF.out; omega
        clear hof hb2 hb y2 H1 hsz
        by_cases hk0 : k = 0
        · subst hk0
          have HE : Hid (bldE (vb : Int) (v : Int) bits l = some 120) := bldE_3 HRG.out HOK.out (List.eq_nil_of_length_eq_zero HK.out.2.2.1)
          go_wp2
          go_ret2
          exact ⟨H2.out.1, .inl ⟨120, HE.out, ret2 rfl rfl⟩⟩
        have hkz : ((k : Int) == 0) = false := by rw [beq_eq_false_iff_ne]; omega
        have HNE : Hid (l ≠ []) := by
          intro e
          have := HK.out.2.2.1
          rw [e] at this
          simp at this
          omega
        have hck := rcheck11_any a k c l w2 (HK.out.1.below H2.out.1) HK.out.2.1
        go_wp2_with fail
        refine hck.mono ?_
        rintro _ w3 ⟨rfl, hb3⟩
        have H3 : Hid (RB w w3 #[.int .i64 (vb : Int), .int .i64 (v : Int), .float .f64 bits] af nf cf (fltN bits l) none 0 0 [] none 0 0 []) := ⟨H2.out.1.trans (hb3.mono H2.out.1.size), H2.out.2.1.kept (hb3.block _ H2.out.2.1.lt), H2.out.2.2.below hb3, OwnB.nil _ _, OwnK.nil _ _, fun k e => by cases e⟩
        clear hb3 H2 hck
        by_cases hch : chkL l = 0
        rotate_left
        · have HE : Hid (bldE (vb : Int) (v : Int) bits l = some ((chkL l : Nat) : Int)) := bldE_4 HRG.out HOK.out HNE.out hch
          have hcz : (((chkL l : Nat) : Int) != 0) = true := by rw [bne_iff_ne]; omega
          clear hch
          go_wp2
          go_ret2
          exact ⟨H3.out.base, .inl ⟨_, HE.out, ret2 rfl rfl⟩⟩
        have HE : Hid (bldE (vb : Int) (v : Int) bits l = none ∧ chkL l = 0) := ⟨bldE_5 HRG.out HOK.out HNE.out hch, hch⟩
        rw [hch]
        clear hch HRG
        go_wp2_with fail
        go_loopw [11, 12, 13, 14] (fun o ix fr x wr => ∃ (i f no co ni ci : Nat) (ao ai : Option Addr), i ≤ k ∧ f ≤ i ∧ no ≤ 1115000 ∧ ni ≤ 1000 ∧ x = .int .i64 (i : Int) ∧ fr = .int .i64 (f : Int) ∧ o = .slice ao no co ∧ ix = .slice ai ni ci ∧ Hid (∃ gs, RG v vb l i f gs ∧ RB w wr #[.int .i64 (vb : Int), .int .i64 (v : Int), .float .f64 bits] af nf cf (fltN bits l) ao no co (bodyT (tdOf v gs)) ai ni ci (ixE 0 (tdOf v gs)))) (fun _ _ _ x _ => k - (intOf x).toNat)
        case atStart => exact ⟨0, 0, 0, 0, 0, 0, none, none, Nat.zero_le _, Nat.le_refl _, by omega, by omega, rfl, rfl, rfl, rfl, [], RG.start v vb HNE.out, H3.out⟩
        case round =>
          obtain ⟨i, f, no, co, ni, ci, ao, ai, hi, hfi, hno, hni, rfl, rfl, rfl, rfl, HR⟩ := hrel
          obtain ⟨gs, hrg, hrb⟩ := HR.out
          by_cases hik : i < k
          · skip
            have hil : i < l.length := by rw [HK.out.2.2.1]; exact hik
            have H4 : Hid (RG v vb l i f gs ∧ RB w wr #[.int .i64 (vb : Int), .int .i64 (v : Int), .float .f64 bits] af nf cf (fltN bits l) ao no co (bodyT (tdOf v gs)) ai ni ci (ixE 0 (tdOf v gs))) := ⟨hrg, hrb⟩
            have hsmall := hrg.small hv1 HE.out.2
            obtain ⟨a5, hs5, hq5⟩ := ks_mid2 HK.out.1 f (i + 1) (by omega) (by omega)
            rw [show ((i + 1 : Nat) : Int) = (i : Int) + 1 by omega] at hs5
            have hmc : chkL ((l.drop f).take (i + 1 - f)) = 0 := chk_take (chk_drop HE.out.2 f) _
            have hmn := mid_ne hfi hil
            have hml : ((l.drop f).take (i + 1 - f)).length = i + 1 - f := by rw [List.length_take, List.length_drop, HK.out.2.2.1]; omega
            have HLK : Hid (lastK ((l.drop f).take (i + 1 - f)) = l[i].1) := getLast_take hfi hil
            have HCL : Hid ((fullN v vb (l.drop f) (i + 1 - f) = true ∨ i + 1 = l.length) → RG v vb l (i + 1) (i + 1) (gs ++ [(l.drop f).take (i + 1 - f)])) := H4.out.1.close hil
            have HGO : Hid (fullN v vb (l.drop f) (i + 1 - f) = false → i + 1 ≠ l.length → RG v vb l (i + 1) f gs) := H4.out.1.go hil
            have HFU : Hid (fullN v vb (l.drop f) (i + 1 - f) = decide (vb ≤ (layP v ((l.drop f).take (i + 1 - f))).length)) := rfl
            have HBU : Hid (∀ V, Below w.heap.size w V → Calls Tryz.prog 28 #[.slice a5 (i + 1 - f) (c - f), .int .i64 (v : Int)] V fun r w' => ∃ a' c', r = .returned (.tuple #[.slice a' (layP v ((l.drop f).take (i + 1 - f))).length c', .int .i64 0]) ∧ OwnB w' V.heap.size a' (layP v ((l.drop f).take (i + 1 - f))).length c' (layP v ((l.drop f).take (i + 1 - f))) ∧ Below V.heap.size V w') := fun V hV => rbuild_own a5 (i + 1 - f) (c - f) _ v hv1 hv16 V (hq5 V _ (HK.out.1.below hV)) (by omega) (wfl_ok hmc) hmc
            have hbl := lay_le12 hv1 _ (chkL_zero.1 hmc).1
            rw [hml] at hbl
            obtain ⟨b, off, hab, hcs⟩ := HK.out.1.cells4 (by omega)
            obtain ⟨d0, d1, d2, _⟩ := hcs i hil
            have HKC : Hid (∀ V, Below w.heap.size w V → V.cell? ⟨b, off + i * 4, none⟩ = some (.string l[i].1.user) ∧ V.cell? ⟨b, off + i * 4 + 1, none⟩ = some (.int .u64 (l[i].1.seq : Int)) ∧ V.cell? ⟨b, off + i * 4 + 2, none⟩ = some (.int .i64 l[i].1.kind)) := fun V hV => by
              have tr : ∀ {a : Addr} {v : Value}, w.cell? a = some v → V.cell? a = some v := fun {a v} hv => by rw [hV.cell (World.block_lt_of_cell? w _ hv)]; exact hv
              exact ⟨tr d0, tr d1, tr d2⟩
            have hidx := fun W => idxKV W (a := a) (b := b) (off := off) (n := k) (c := c) hab hik
            have HBT : Hid (bodyT (tdOf v (gs ++ [(l.drop f).take (i + 1 - f)])) = bodyT (tdOf v gs) ++ partB (layP v ((l.drop f).take (i + 1 - f))) ∧ ixE 0 (tdOf v (gs ++ [(l.drop f).take (i + 1 - f)])) = ixE 0 (tdOf v gs) ++ [(l[i].1, strOf (plV (bodyT (tdOf v gs)).length (layP v ((l.drop f).take (i + 1 - f))).length))]) := by
              refine ⟨by rw [tdOf_snoc, bodyT_snoc], ?_⟩
              rw [tdOf_snoc, ixE_snoc, HLK.out, Nat.zero_add]
              dsimp only
              rw [partB_len, Nat.add_sub_cancel]
            have HNO : Hid ((bodyT (tdOf v gs)).length = no ∧ (ixE 0 (tdOf v gs)).length = ni) := ⟨hrb.oo.size, hrb.oi.size⟩
            have HSL : Hid ((layP v ((l.drop f).take (i + 1 - f))).length = (layP v ((l.drop f).take (i + 1 - f))).length) := rfl
            clear d0 d1 d2 hcs hab hq5 hmc hmn hml hrg hrb HR HLK
            generalize l[i].1 = ek at HKC HBT
            generalize (l.drop f).take (i + 1 - f) = md at *
            generalize layP v md = lb at *
            obtain ⟨bn, HBN⟩ : ∃ bn, Hid (lb.length = bn) := ⟨_, (rfl : lb.length = lb.length)⟩
            rw [HBN.out] at HBU hbl HFU HBT
            rw [HNO.out.1] at HBT
            generalize hlo : bodyT (tdOf v gs) = lo at *
            generalize hli : ixE 0 (tdOf v gs) = li at *
            have HLO : Hid (bodyT (tdOf v gs) = lo ∧ ixE 0 (tdOf v gs) = li) := ⟨hlo, hli⟩
            clear hlo hli
            have hwi : IntKind.i64.wrap ((i : Int) + 1) = (i : Int) + 1 := by
              have := i64_wrap (i + 1) (by omega)
              rwa [show ((i + 1 : Nat) : Int) = (i : Int) + 1 by omega] at this
            have o1 : wr.drew.cell? ⟨w.heap.size, 1, none⟩ = some (.int .i64 (v : Int)) := H4.out.2.opt.cell 1
            go_wp2_with fail
            go_region_held3 (fun V => V.cell? ⟨w.heap.size, 1, none⟩ = some (.int .i64 (v : Int))) (first | with_reducible exact o1 | go_keep)
              (first
               | (go_at_call 28; refine (HBU.out _ H4.out.2.base.drew).mono ?_; rintro _ w5 ⟨a6, c6, rfl, ho6, hb6⟩
                  have H5 : Hid (RB w w5 #[.int .i64 (vb : Int), .int .i64 (v : Int), .float .f64 bits] af nf cf (fltN bits l) ao no co lo ai ni ci li ∧ OwnB w5 wr.heap.size a6 bn c6 lb) := ⟨H4.out.2.call ((Below.refl _ _).drew.trans hb6), ho6⟩
                  have o1 : w5.cell? ⟨w.heap.size, 1, none⟩ = some (.int .i64 (v : Int)) := H5.out.1.opt.cell 1
                  clear ho6 hb6))
            have o0 : w5.cell? ⟨w.heap.size, 0, none⟩ = some (.int .i64 (vb : Int)) := H5.out.1.opt.cell 0
            have hcn := conv_int_u64 no (by omega)
            have hcb := conv_int_u64 bn (by omega)
            clear o1 HBU hs5
            by_cases hfu : vb ≤ bn
            · have hge : (vb : Int) ≤ (bn : Int) := by omega
              have HNX := HCL.out (.inl (by rw [HFU.out]; exact decide_eq_true hfu))
              have HRG2 : Hid (RG v vb l (i + 1) (i + 1) (gs ++ [md])) := HNX
              clear HNX HCL HGO HFU
              go_wp2_with fail
              refine (rputUv_nil no _ (by omega)).mono ?_
              rintro _ w6 ⟨a7, c7, rfl, ho7, hb7⟩
              have H6 : Hid (RB w w6 #[.int .i64 (vb : Int), .int .i64 (v : Int), .float .f64 bits] af nf cf (fltN bits l) ao no co lo ai ni ci li ∧ OwnB w6 wr.heap.size a6 bn c6 lb ∧ BsAt w6 a7 (uvEnc no).length c7 (uvEnc no)) := ⟨H5.out.1.call hb7, H5.out.2.below hb7, ho7⟩
              have hu1 := uvEnc_length no
              have hu2 := uvEnc_length bn
              clear ho7 hb7 o0 H5
              go_wp2_with fail
              refine (rputUvarint_any a7 (uvEnc no).length c7 (uvEnc no) bn _ H6.out.2.2 (by omega) (by omega)).mono ?_
              rintro _ w7 ⟨a8, c8, rfl, ho8, hb8⟩
              have H7 : Hid (RB w w7 #[.int .i64 (vb : Int), .int .i64 (v : Int), .float .f64 bits] af nf cf (fltN bits l) ao no co lo ai ni ci li ∧ OwnB w7 wr.heap.size a6 bn c6 lb ∧ OwnB w7 w6.heap.size a8 ((uvEnc no).length + (uvEnc bn).length) c8 (plV no bn)) := ⟨H6.out.1.call hb8, H6.out.2.1.below hb8, ho8⟩
              clear ho8 hb8 H6
              generalize (uvEnc no).length + (uvEnc bn).length = pn at *
              obtain ⟨k0, k1, k2⟩ := HKC.out w7.drew H7.out.1.base.drew
              go_wp2_with fail
              refine wp_region_noPanic ?_
              refine wp_region_held_drew (S := fun V => V.cell? ⟨b, off + i * 4, none⟩ = some (.string ek.user) ∧ V.cell? ⟨b, off + i * 4 + 1, none⟩ = some (.int .u64 (ek.seq : Int)) ∧ V.cell? ⟨b, off + i * 4 + 2, none⟩ = some (.int .i64 ek.kind) ∧ BsAt V a8 pn c8 (plV no bn)) hmix ⟨k0, k1, k2, H7.out.2.2.bs.below (Nat.le_refl _) (Below.refl _ _).drew⟩ (fun hHeld => ?_)
              refine wpAnyH_take (i := 0) (v := ?_) rfl (by kernel_rfl) (by kernel_rfl) (by kernel_rfl) (fun _ _ _ h => h) (Or.inl ⟨by rfl, ?_⟩) hHeld ?_
              rotate_left
              · intro w hSw
                try dsimp only at hSw
                go_simp
                try with_reducible rfl
              try simp only [Act.put, List.getElem_toArray, List.getElem_cons_succ, List.getElem_cons_zero, Array.getInternal_eq_getElem, List.setIfInBounds_toArray, List.set_cons_zero, List.set_cons_succ]
              refine wpAnyH_take (i := 1) (v := ?_) rfl (by kernel_rfl) (by kernel_rfl) (by kernel_rfl) (fun _ _ _ h => h) (Or.inl ⟨by rfl, ?_⟩) hHeld ?_
              rotate_left
              · intro w hSw
                try dsimp only at hSw
                go_simp
                try with_reducible rfl
              try simp only [Act.put, List.getElem_toArray, List.getElem_cons_succ, List.getElem_cons_zero, Array.getInternal_eq_getElem, List.setIfInBounds_toArray, List.set_cons_zero, List.set_cons_succ]
              refine wpAnyH_take (i := 2) (v := ?_) rfl (by kernel_rfl) (by kernel_rfl) (by kernel_rfl) (fun _ _ _ h => h) (Or.inl ⟨by rfl, ?_⟩) hHeld ?_
              rotate_left
              · intro w hSw
                try dsimp only at hSw
                go_simp
                try with_reducible rfl
              try simp only [Act.put, List.getElem_toArray, List.getElem_cons_succ, List.getElem_cons_zero, Array.getInternal_eq_getElem, List.setIfInBounds_toArray, List.set_cons_zero, List.set_cons_succ]
              refine wpAnyH_take (i := 3) (v := ?_) rfl (by kernel_rfl) (by kernel_rfl) (by kernel_rfl) (fun _ _ _ h => h) (Or.inl ⟨by rfl, ?_⟩) hHeld ?_
              rotate_left
              · intro w hSw
                try dsimp only at hSw
                go_simp
                try with_reducible rfl
              try simp only [Act.put, List.getElem_toArray, List.getElem_cons_succ, List.getElem_cons_zero, Array.getInternal_eq_getElem, List.setIfInBounds_toArray, List.set_cons_zero, List.set_cons_succ]
              refine wpAnyH_take (i := 4) (v := ?_) rfl (by kernel_rfl) (by kernel_rfl) (by kernel_rfl) (fun _ _ _ h => h) (Or.inl ⟨by rfl, ?_⟩) hHeld ?_
              rotate_left
              · intro w hSw
                try dsimp only at hSw
                go_simp
                try with_reducible rfl
              try simp only [Act.put, List.getElem_toArray, List.getElem_cons_succ, List.getElem_cons_zero, Array.getInternal_eq_getElem, List.setIfInBounds_toArray, List.set_cons_zero, List.set_cons_succ]
              refine wpAnyH_take (i := 5) (v := ?_) rfl (by kernel_rfl) (by kernel_rfl) (by kernel_rfl) (fun _ _ _ h => h) (Or.inl ⟨by rfl, ?_⟩) hHeld ?_
              rotate_left
              · intro w hSw
                try dsimp only at hSw
                go_simp
                try with_reducible rfl
              try simp only [Act.put, List.getElem_toArray, List.getElem_cons_succ, List.getElem_cons_zero, Array.getInternal_eq_getElem, List.setIfInBounds_toArray, List.set_cons_zero, List.set_cons_succ]
              refine wpAnyH_take (i := 6) (v := ?_) rfl (by kernel_rfl) (by kernel_rfl) (by kernel_rfl) (fun _ _ _ h => h) (Or.inl ⟨by rfl, ?_⟩) hHeld ?_
              rotate_left
              · intro w hSw
                try dsimp only at hSw
                go_simp
                try with_reducible rfl
              try simp only [Act.put, List.getElem_toArray, List.getElem_cons_succ, List.getElem_cons_zero, Array.getInternal_eq_getElem, List.setIfInBounds_toArray, List.set_cons_zero, List.set_cons_succ]
              refine wpAnyH_take (i := 7) (v := .string (strOf (plV no bn))) rfl (by kernel_rfl) (by kernel_rfl) (by kernel_rfl) (fun _ _ _ h => h) (Or.inl ⟨by rfl, ?_⟩) hHeld ?_
              · intro w hSw
                have hcs := hSw.2.2.2.asStr Tryz.underlying27 Tryz.underlying5 Tryz.underlying9
                clear hSw
                go_simp
                try with_reducible rfl
              try simp only [Act.put, List.getElem_toArray, List.getElem_cons_succ, List.getElem_cons_zero, Array.getInternal_eq_getElem, List.setIfInBounds_toArray, List.set_cons_zero, List.set_cons_succ]
              refine wpAnyH_take (i := 8) (v := ?_) rfl (by kernel_rfl) (by kernel_rfl) (by kernel_rfl) (fun _ _ _ h => h) (Or.inl ⟨by rfl, ?_⟩) hHeld ?_
              rotate_left
              · intro w hSw
                try dsimp only at hSw
                go_simp
                try with_reducible rfl
              try simp only [Act.put, List.getElem_toArray, List.getElem_cons_succ, List.getElem_cons_zero, Array.getInternal_eq_getElem, List.setIfInBounds_toArray, List.set_cons_zero, List.set_cons_succ]
              refine wpAnyH_ready (rs := [9]) (by kernel_rfl) (by simp) ?_
              refine AllReadyH.cons rfl (fun K hK => ?_) (AllReadyH.nil)
              go_simp
              have hA : Below w7.heap.size w7 (w7.drew.alloc (.cells #[.string ek.user, .int .u64 (ek.seq : Int), .int .i64 ek.kind, .string (strOf (plV no bn))] TKV)) := (Below.refl _ _).drew.alloc (Nat.le_refl _) _
              obtain ⟨k0, k1, k2⟩ := HKC.out _ (H7.out.1.call hA).base
              have q3 := H7.out.2.2.bs.below (Nat.le_refl _) hA
              clear hHeld
              refine hK.out _ _ ⟨k0, k1, k2, q3⟩ (fun hHeld => ?_)
              clear hK K
              try simp only [Act.put, List.getElem_toArray, List.getElem_cons_succ, List.getElem_cons_zero, Array.getInternal_eq_getElem, List.setIfInBounds_toArray, List.set_cons_zero, List.set_cons_succ]
              refine wpAnyH_ready (rs := [10]) (by kernel_rfl) (by simp) ?_
              refine AllReadyH.cons rfl (fun K hK => ?_) (AllReadyH.nil)
              refine step_pushK w7.drew rfl (.tmp 110) (.tmp 119) rfl w.heap.size ai ni ci li (by simp [Act.eval]) (H7.out.1.call (Below.refl _ _).drew).oi (ek, strOf (plV no bn)) _ rfl w7.drew.heap.size rfl (by simp [Act.eval]) (by omega) H7.out.1.base.size ?_
              intro a9 c9 w8 ho9 hb9 hg9
              have hot := oth_push (H7.out.1.call (Below.refl _ _).drew).oi _ hg9
              have H8 : Hid (RB w w8 #[.int .i64 (vb : Int), .int .i64 (v : Int), .float .f64 bits] af nf cf (fltN bits l) ao no co lo a9 (ni + 1) c9 (li ++ [(ek, strOf (plV no bn))]) ∧ OwnB w8 wr.heap.size a6 bn c6 lb ∧ BsAt w8 a8 pn c8 (plV no bn)) := ⟨(H7.out.1.call (Below.refl _ _).drew).push _ ho9 hb9 hg9, (H7.out.2.1.below (Below.refl _ _).drew).oth hot, ((H7.out.2.2.below (Below.refl _ _).drew).oth hot).bs⟩
              obtain ⟨k0, k1, k2⟩ := HKC.out _ H8.out.1.base
              clear ho9 hb9 hg9 hHeld hot
              refine hK.out _ _ ⟨k0, k1, k2, H8.out.2.2⟩ (fun hHeld => ?_)
              clear hK K
              try simp only [Act.put, List.getElem_toArray, List.getElem_cons_succ, List.getElem_cons_zero, Array.getInternal_eq_getElem, List.setIfInBounds_toArray, List.set_cons_zero, List.set_cons_succ]
              refine wpAnyH_take (i := 11) (v := ?_) rfl (by kernel_rfl) (by kernel_rfl) (by kernel_rfl) (fun _ _ _ h => h) (Or.inl ⟨by rfl, ?_⟩) hHeld ?_
              rotate_left
              · intro w hSw
                try dsimp only at hSw
                go_simp
                try with_reducible rfl
              try simp only [Act.put, List.getElem_toArray, List.getElem_cons_succ, List.getElem_cons_zero, Array.getInternal_eq_getElem, List.setIfInBounds_toArray, List.set_cons_zero, List.set_cons_succ]
              refine wpAnyH_done (by kernel_rfl) (NoPanic.normal ?_) _
              have hsm := rsummed_any a6 bn c6 lb w8 H8.out.2.1.bs (by omega)
              clear k0 k1 k2
              go_wp2_with fail
              refine hsm.mono ?_
              rintro _ w9 ⟨a10, c10, rfl, ho10, hb10⟩
              have H9 : Hid (RB w w9 #[.int .i64 (vb : Int), .int .i64 (v : Int), .float .f64 bits] af nf cf (fltN bits l) ao no co lo a9 (ni + 1) c9 (li ++ [(ek, strOf (plV no bn))]) ∧ BsAt w9 a10 (bn + 4) c10 (partB lb)) := ⟨H8.out.1.call hb10, ho10.bs⟩
              clear ho10 hb10 hsm H8 H7
              go_wp2_with (first | (at_builtin; refine wpList_appAt w9 rfl _ _ rfl w.heap.size ao no co _ rfl H9.out.1.oo a10 (bn + 4) c10 _ rfl H9.out.2 (by omega) H9.out.1.base.size ?_; intro a11 c11 w10 ho11 hb11 hg11 hl11
                                    have H10 : Hid (RB w w10 #[.int .i64 (vb : Int), .int .i64 (v : Int), .float .f64 bits] af nf cf (fltN bits l) a11 (no + (bn + 4)) c11 (lo ++ partB lb) a9 (ni + 1) c9 (li ++ [(ek, strOf (plV no bn))])) := H9.out.1.app ho11 hb11 hg11 hl11
                                    clear ho11 hb11 hg11 hl11))
              have hsm2 := HRG2.out.small hv1 HE.out.2
              rw [HBT.out.1, List.length_append, partB_len, HBN.out, HNO.out.1] at hsm2
              have hni2 : ni + 1 ≤ 1000 := by
                have := congrArg List.length HBT.out.2
                rw [List.length_append, HNO.out.2, ixE_len, tdOf, List.length_map] at this
                simp at this
                have := hsm2.2.1
                simp at this
                omega
              go_roundw
              case rel => exact ⟨i + 1, i + 1, no + (bn + 4), c11, ni + 1, c9, a11, a9, hik, Nat.le_refl _, by omega, by omega, by go_num, by go_num, rfl, rfl, gs ++ [md], HRG2.out, by rw [HBT.out.1, HBT.out.2]; exact H10.out⟩
              case measure => simp only [intOf]; omega
            · have hge : ¬ (vb : Int) ≤ (bn : Int) := by omega
              have hwk : IntKind.i64.wrap ((k : Int) - 1) = (k : Int) - 1 := by
                have := i64_wrap (k - 1) (by omega)
                rwa [show ((k - 1 : Nat) : Int) = (k : Int) - 1 by omega] at this
              by_cases hla : i + 1 = k
              · have hlq : ((i : Int) == (k : Int) - 1) = true := by rw [beq_iff_eq]; omega
                have HNX := HCL.out (.inr (by rw [HK.out.2.2.1]; exact hla))
                have HRG2 : Hid (RG v vb l (i + 1) (i + 1) (gs ++ [md])) := HNX
                clear HNX HCL HGO HFU
                go_wp2_with fail
                refine (rputUv_nil no _ (by omega)).mono ?_
                rintro _ w6 ⟨a7, c7, rfl, ho7, hb7⟩
                have H6 : Hid (RB w w6 #[.int .i64 (vb : Int), .int .i64 (v : Int), .float .f64 bits] af nf cf (fltN bits l) ao no co lo ai ni ci li ∧ OwnB w6 wr.heap.size a6 bn c6 lb ∧ BsAt w6 a7 (uvEnc no).length c7 (uvEnc no)) := ⟨H5.out.1.call hb7, H5.out.2.below hb7, ho7⟩
                have hu1 := uvEnc_length no
                have hu2 := uvEnc_length bn
                clear ho7 hb7 o0 H5
                go_wp2_with fail
                refine (rputUvarint_any a7 (uvEnc no).length c7 (uvEnc no) bn _ H6.out.2.2 (by omega) (by omega)).mono ?_
                rintro _ w7 ⟨a8, c8, rfl, ho8, hb8⟩
                have H7 : Hid (RB w w7 #[.int .i64 (vb : Int), .int .i64 (v : Int), .float .f64 bits] af nf cf (fltN bits l) ao no co lo ai ni ci li ∧ OwnB w7 wr.heap.size a6 bn c6 lb ∧ OwnB w7 w6.heap.size a8 ((uvEnc no).length + (uvEnc bn).length) c8 (plV no bn)) := ⟨H6.out.1.call hb8, H6.out.2.1.below hb8, ho8⟩
                clear ho8 hb8 H6
                generalize (uvEnc no).length + (uvEnc bn).length = pn at *
                obtain ⟨k0, k1, k2⟩ := HKC.out w7.drew H7.out.1.base.drew
                go_wp2_with fail
                refine wp_region_noPanic ?_
                refine wp_region_held_drew (S := fun V => V.cell? ⟨b, off + i * 4, none⟩ = some (.string ek.user) ∧ V.cell? ⟨b, off + i * 4 + 1, none⟩ = some (.int .u64 (ek.seq : Int)) ∧ V.cell? ⟨b, off + i * 4 + 2, none⟩ = some (.int .i64 ek.kind) ∧ BsAt V a8 pn c8 (plV no bn)) hmix ⟨k0, k1, k2, H7.out.2.2.bs.below (Nat.le_refl _) (Below.refl _ _).drew⟩ (fun hHeld => ?_)
                refine wpAnyH_take (i := 0) (v := ?_) rfl (by kernel_rfl) (by kernel_rfl) (by kernel_rfl) (fun _ _ _ h => h) (Or.inl ⟨by rfl, ?_⟩) hHeld ?_
                rotate_left
                · intro w hSw
                  try dsimp only at hSw
                  go_simp
                  try with_reducible rfl
                try simp only [Act.put, List.getElem_toArray, List.getElem_cons_succ, List.getElem_cons_zero, Array.getInternal_eq_getElem, List.setIfInBounds_toArray, List.set_cons_zero, List.set_cons_succ]
                refine wpAnyH_take (i := 1) (v := ?_) rfl (by kernel_rfl) (by kernel_rfl) (by kernel_rfl) (fun _ _ _ h => h) (Or.inl ⟨by rfl, ?_⟩) hHeld ?_
                rotate_left
                · intro w hSw
                  try dsimp only at hSw
                  go_simp
                  try with_reducible rfl
                try simp only [Act.put, List.getElem_toArray, List.getElem_cons_succ, List.getElem_cons_zero, Array.getInternal_eq_getElem, List.setIfInBounds_toArray, List.set_cons_zero, List.set_cons_succ]
                refine wpAnyH_take (i := 2) (v := ?_) rfl (by kernel_rfl) (by kernel_rfl) (by kernel_rfl) (fun _ _ _ h => h) (Or.inl ⟨by rfl, ?_⟩) hHeld ?_
                rotate_left
                · intro w hSw
                  try dsimp only at hSw
                  go_simp
                  try with_reducible rfl
                try simp only [Act.put, List.getElem_toArray, List.getElem_cons_succ, List.getElem_cons_zero, Array.getInternal_eq_getElem, List.setIfInBounds_toArray, List.set_cons_zero, List.set_cons_succ]
                refine wpAnyH_take (i := 3) (v := ?_) rfl (by kernel_rfl) (by kernel_rfl) (by kernel_rfl) (fun _ _ _ h => h) (Or.inl ⟨by rfl, ?_⟩) hHeld ?_
                rotate_left
                · intro w hSw
                  try dsimp only at hSw
                  go_simp
                  try with_reducible rfl
                try simp only [Act.put, List.getElem_toArray, List.getElem_cons_succ, List.getElem_cons_zero, Array.getInternal_eq_getElem, List.setIfInBounds_toArray, List.set_cons_zero, List.set_cons_succ]
                refine wpAnyH_take (i := 4) (v := ?_) rfl (by kernel_rfl) (by kernel_rfl) (by kernel_rfl) (fun _ _ _ h => h) (Or.inl ⟨by rfl, ?_⟩) hHeld ?_
                rotate_left
                · intro w hSw
                  try dsimp only at hSw
                  go_simp
                  try with_reducible rfl
                try simp only [Act.put, List.getElem_toArray, List.getElem_cons_succ, List.getElem_cons_zero, Array.getInternal_eq_getElem, List.setIfInBounds_toArray, List.set_cons_zero, List.set_cons_succ]
                refine wpAnyH_take (i := 5) (v := ?_) rfl (by kernel_rfl) (by kernel_rfl) (by kernel_rfl) (fun _ _ _ h => h) (Or.inl ⟨by rfl, ?_⟩) hHeld ?_
                rotate_left
                · intro w hSw
                  try dsimp only at hSw
                  go_simp
                  try with_reducible rfl
                try simp only [Act.put, List.getElem_toArray, List.getElem_cons_succ, List.getElem_cons_zero, Array.getInternal_eq_getElem, List.setIfInBounds_toArray, List.set_cons_zero, List.set_cons_succ]
                refine wpAnyH_take (i := 6) (v := ?_) rfl (by kernel_rfl) (by kernel_rfl) (by kernel_rfl) (fun _ _ _ h => h) (Or.inl ⟨by rfl, ?_⟩) hHeld ?_
                rotate_left
                · intro w hSw
                  try dsimp only at hSw
                  go_simp
                  try with_reducible rfl
                try simp only [Act.put, List.getElem_toArray, List.getElem_cons_succ, List.getElem_cons_zero, Array.getInternal_eq_getElem, List.setIfInBounds_toArray, List.set_cons_zero, List.set_cons_succ]
                refine wpAnyH_take (i := 7) (v := .string (strOf (plV no bn))) rfl (by kernel_rfl) (by kernel_rfl) (by kernel_rfl) (fun _ _ _ h => h) (Or.inl ⟨by rfl, ?_⟩) hHeld ?_
                · intro w hSw
                  have hcs := hSw.2.2.2.asStr Tryz.underlying27 Tryz.underlying5 Tryz.underlying9
                  clear hSw
                  go_simp
                  try with_reducible rfl
                try simp only [Act.put, List.getElem_toArray, List.getElem_cons_succ, List.getElem_cons_zero, Array.getInternal_eq_getElem, List.setIfInBounds_toArray, List.set_cons_zero, List.set_cons_succ]
                refine wpAnyH_take (i := 8) (v := ?_) rfl (by kernel_rfl) (by kernel_rfl) (by kernel_rfl) (fun _ _ _ h => h) (Or.inl ⟨by rfl, ?_⟩) hHeld ?_
                rotate_left
                · intro w hSw
                  try dsimp only at hSw
                  go_simp
                  try with_reducible rfl
                try simp only [Act.put, List.getElem_toArray, List.getElem_cons_succ, List.getElem_cons_zero, Array.getInternal_eq_getElem, List.setIfInBounds_toArray, List.set_cons_zero, List.set_cons_succ]
                refine wpAnyH_ready (rs := [9]) (by kernel_rfl) (by simp) ?_
                refine AllReadyH.cons rfl (fun K hK => ?_) (AllReadyH.nil)
                go_simp
                have hA : Below w7.heap.size w7 (w7.drew.alloc (.cells #[.string ek.user, .int .u64 (ek.seq : Int), .int .i64 ek.kind, .string (strOf (plV no bn))] TKV)) := (Below.refl _ _).drew.alloc (Nat.le_refl _) _
                obtain ⟨k0, k1, k2⟩ := HKC.out _ (H7.out.1.call hA).base
                have q3 := H7.out.2.2.bs.below (Nat.le_refl _) hA
                clear hHeld
                refine hK.out _ _ ⟨k0, k1, k2, q3⟩ (fun hHeld => ?_)
                clear hK K
                try simp only [Act.put, List.getElem_toArray, List.getElem_cons_succ, List.getElem_cons_zero, Array.getInternal_eq_getElem, List.setIfInBounds_toArray, List.set_cons_zero, List.set_cons_succ]
                refine wpAnyH_ready (rs := [10]) (by kernel_rfl) (by simp) ?_
                refine AllReadyH.cons rfl (fun K hK => ?_) (AllReadyH.nil)
                refine step_pushK w7.drew rfl (.tmp 110) (.tmp 119) rfl w.heap.size ai ni ci li (by simp [Act.eval]) (H7.out.1.call (Below.refl _ _).drew).oi (ek, strOf (plV no bn)) _ rfl w7.drew.heap.size rfl (by simp [Act.eval]) (by omega) H7.out.1.base.size ?_
                intro a9 c9 w8 ho9 hb9 hg9
                have hot := oth_push (H7.out.1.call (Below.refl _ _).drew).oi _ hg9
                have H8 : Hid (RB w w8 #[.int .i64 (vb : Int), .int .i64 (v : Int), .float .f64 bits] af nf cf (fltN bits l) ao no co lo a9 (ni + 1) c9 (li ++ [(ek, strOf (plV no bn))]) ∧ OwnB w8 wr.heap.size a6 bn c6 lb ∧ BsAt w8 a8 pn c8 (plV no bn)) := ⟨(H7.out.1.call (Below.refl _ _).drew).push _ ho9 hb9 hg9, (H7.out.2.1.below (Below.refl _ _).drew).oth hot, ((H7.out.2.2.below (Below.refl _ _).drew).oth hot).bs⟩
                obtain ⟨k0, k1, k2⟩ := HKC.out _ H8.out.1.base
                clear ho9 hb9 hg9 hHeld hot
                refine hK.out _ _ ⟨k0, k1, k2, H8.out.2.2⟩ (fun hHeld => ?_)
                clear hK K
                try simp only [Act.put, List.getElem_toArray, List.getElem_cons_succ, List.getElem_cons_zero, Array.getInternal_eq_getElem, List.setIfInBounds_toArray, List.set_cons_zero, List.set_cons_succ]
                refine wpAnyH_take (i := 11) (v := ?_) rfl (by kernel_rfl) (by kernel_rfl) (by kernel_rfl) (fun _ _ _ h => h) (Or.inl ⟨by rfl, ?_⟩) hHeld ?_
                rotate_left
                · intro w hSw
                  try dsimp only at hSw
                  go_simp
                  try with_reducible rfl
                try simp only [Act.put, List.getElem_toArray, List.getElem_cons_succ, List.getElem_cons_zero, Array.getInternal_eq_getElem, List.setIfInBounds_toArray, List.set_cons_zero, List.set_cons_succ]
                refine wpAnyH_done (by kernel_rfl) (NoPanic.normal ?_) _
                have hsm := rsummed_any a6 bn c6 lb w8 H8.out.2.1.bs (by omega)
                clear k0 k1 k2
                go_wp2_with fail
                refine hsm.mono ?_
                rintro _ w9 ⟨a10, c10, rfl, ho10, hb10⟩
                have H9 : Hid (RB w w9 #[.int .i64 (vb : Int), .int .i64 (v : Int), .float .f64 bits] af nf cf (fltN bits l) ao no co lo a9 (ni + 1) c9 (li ++ [(ek, strOf (plV no bn))]) ∧ BsAt w9 a10 (bn + 4) c10 (partB lb)) := ⟨H8.out.1.call hb10, ho10.bs⟩
                clear ho10 hb10 hsm H8 H7
                go_wp2_with (first | (at_builtin; refine wpList_appAt w9 rfl _ _ rfl w.heap.size ao no co _ rfl H9.out.1.oo a10 (bn + 4) c10 _ rfl H9.out.2 (by omega) H9.out.1.base.size ?_; intro a11 c11 w10 ho11 hb11 hg11 hl11
                                      have H10 : Hid (RB w w10 #[.int .i64 (vb : Int), .int .i64 (v : Int), .float .f64 bits] af nf cf (fltN bits l) a11 (no + (bn + 4)) c11 (lo ++ partB lb) a9 (ni + 1) c9 (li ++ [(ek, strOf (plV no bn))])) := H9.out.1.app ho11 hb11 hg11 hl11
                                      clear ho11 hb11 hg11 hl11))
                have hsm2 := HRG2.out.small hv1 HE.out.2
                rw [HBT.out.1, List.length_append, partB_len, HBN.out, HNO.out.1] at hsm2
                have hni2 : ni + 1 ≤ 1000 := by
                  have := congrArg List.length HBT.out.2
                  rw [List.length_append, HNO.out.2, ixE_len, tdOf, List.length_map] at this
                  simp at this
                  have := hsm2.2.1
                  simp at this
                  omega
                go_roundw
                case rel => exact ⟨i + 1, i + 1, no + (bn + 4), c11, ni + 1, c9, a11, a9, hik, Nat.le_refl _, by omega, by omega, by go_num, by go_num, rfl, rfl, gs ++ [md], HRG2.out, by rw [HBT.out.1, HBT.out.2]; exact H10.out⟩
                case measure => simp only [intOf]; omega
              · have hlq : ((i : Int) == (k : Int) - 1) = false := by rw [beq_eq_false_iff_ne]; omega
                have HNX := HGO.out (by rw [HFU.out]; exact decide_eq_false hfu) (by rw [HK.out.2.2.1]; exact hla)
                have HRG2 : Hid (RG v vb l (i + 1) f gs) := HNX
                clear HNX HCL HGO HFU
                go_wp2_with fail
                go_roundw
                case rel => exact ⟨i + 1, f, no, co, ni, ci, ao, ai, hik, by omega, hno, hni, by go_num, rfl, rfl, rfl, gs, HRG2.out, by rw [HLO.out.1, HLO.out.2]; exact H5.out.1⟩
                case measure => simp only [intOf]; omega
          · obtain rfl : i = k := by omega
            have hgs := hrg.done HK.out.2.2.1.symm
            have hsm := hrg.small hv1 HE.out.2
            subst hgs
            have hgg := gs_ok hv1 hv16 vb HE.out.2 (by rw [HK.out.2.2.1]; exact hn)
            have hix : chkL (ixE 0 (tdOf v (grps v vb l))) = 0 := ix_chk (fun x hx => (tdOf_ok hgg x hx).1) (tdOf_rises _ hgg) 0
            have hnl : (ixE 0 (tdOf v (grps v vb l))).length = ni := hrb.oi.size
            have hxl := lay_le12 (Nat.le_refl 1) _ (chkL_zero.1 hix).1
            rw [hnl] at hxl
            have hbu := rbuild_own ai ni ci (ixE 0 (tdOf v (grps v vb l))) 1 (Nat.le_refl 1) (by omega) wr hrb.oi.ks (by omega) (wfl_ok hix) hix
            have HRB : Hid (RB w wr #[.int .i64 (vb : Int), .int .i64 (v : Int), .float .f64 bits] af nf cf (fltN bits l) ao no co (bodyT (tdOf v (grps v vb l))) ai ni ci (ixE 0 (tdOf v (grps v vb l)))) := hrb
            have HT : Hid (∀ nf' , nf' = nf → bodyT (tdOf v (grps v vb l)) ++ partB (fltN bits l) ++ partB (ixB (tdOf v (grps v vb l))) ++ ((((fxEnc no 4 ++ fxEnc nf 4) ++ fxEnc (no + (nf + 4)) 4) ++ fxEnc (ixB (tdOf v (grps v vb l))).length 4) ++ fxEnc i 4) ++ wordB = tblB v vb bits l) := by
              intro _ _
              have e1 : (bodyT (tdOf v (grps v vb l))).length = no := hrb.oo.size
              have e2 : (fltN bits l).length = nf := hrb.ff.size
              unfold tblB tabB footB
              rw [e1, e2, HK.out.2.2.1, Nat.add_assoc no nf 4]
              simp only [List.append_assoc]
            have HXE : Hid (layP 1 (ixE 0 (tdOf v (grps v vb l))) = ixB (tdOf v (grps v vb l))) := rfl
            rw [HXE.out] at hbu hxl
            clear hgg hix hnl hrb hrg HR
            generalize ixB (tdOf v (grps v vb l)) = lx at *
            generalize bodyT (tdOf v (grps v vb l)) = lo at *
            generalize hxn : lx.length = xn at *
            have HXN : Hid (lx.length = xn) := hxn
            clear hxn
            go_wp2_with fail
            refine hbu.mono ?_
            rintro _ w4 ⟨ax, cx, rfl, hox, hb4⟩
            have T4 : Hid (RT w w4 af nf cf (fltN bits l) ao no co lo ax xn cx lx none 0 0 []) := by
              have h1 := HRB.out.call hb4
              refine ⟨h1.base, h1.ff, h1.oo, hox.mono HRB.out.base.size, OwnB.nil _ _, fun k hk => ⟨h1.ap k hk, fun e => ?_, fun e => by cases e⟩⟩
              have h2 := tag_lt (HRB.out.oo.tag hk)
              have h3 := hox.ge e
              omega
            clear hox hb4 hbu HRB
            have hc1 := conv_int_u64 no (by omega)
            have hc2 := conv_int_u64 nf (by omega)
            have hc3 := conv_int_u64 (no + (nf + 4)) (by omega)
            have hc4 := conv_int_u64 xn (by omega)
            have hc5 := conv_int_u64 i (by omega)
            rw [show ((no + (nf + 4) : Nat) : Int) = (no : Int) + ((nf : Int) + 4) by omega] at hc3
            go_wp2_with fail
            refine (rpf4 none 0 0 [] no _ T4.out.tt.bs (by omega) (by omega)).mono ?_
            rintro _ w5 ⟨a5, c5, rfl, ho5, hb5⟩
            have T5 : Hid (RT w w5 af nf cf (fltN bits l) ao no co lo ax xn cx lx a5 4 c5 (fxEnc no 4)) := T4.out.tail hb5 ho5
            clear ho5 hb5 T4
            go_wp2_with fail
            refine (rpf4 a5 4 c5 _ nf _ T5.out.tt.bs (by omega) (by omega)).mono ?_
            rintro _ w6 ⟨a6, c6, rfl, ho6, hb6⟩
            have T6 : Hid (RT w w6 af nf cf (fltN bits l) ao no co lo ax xn cx lx a6 8 c6 (fxEnc no 4 ++ fxEnc nf 4)) := T5.out.tail hb6 ho6
            clear ho6 hb6 T5
            have hs7 := rsummed_any af nf cf (fltN bits l) w6 T6.out.ff.bs (by omega)
            go_wp2_with fail
            refine hs7.mono ?_
            rintro _ w7 ⟨a7, c7, rfl, ho7, hb7⟩
            have T7 : Hid (RT w w7 af nf cf (fltN bits l) ao no co lo ax xn cx lx a6 8 c6 (fxEnc no 4 ++ fxEnc nf 4) ∧ BsAt w7 a7 (nf + 4) c7 (partB (fltN bits l))) := ⟨T6.out.call hb7, ho7.bs⟩
            clear ho7 hb7 T6 hs7
            go_wp2_with (first | (at_builtin; refine wpList_appAt w7 rfl _ _ rfl w.heap.size ao no co _ rfl T7.out.1.oo a7 (nf + 4) c7 _ rfl T7.out.2 (by omega) T7.out.1.base.size ?_; intro a8 c8 w8 ho8 hb8 hg8 hl8
                                  have T8 : Hid (RT w w8 af nf cf (fltN bits l) a8 (no + (nf + 4)) c8 (lo ++ partB (fltN bits l)) ax xn cx lx a6 8 c6 (fxEnc no 4 ++ fxEnc nf 4)) := T7.out.1.app ho8 hb8 hg8 hl8
                                  clear ho8 hb8 hg8 hl8 T7) | fail)
            have hp9 := rpf4 a6 8 c6 _ (no + (nf + 4)) w8 T8.out.tt.bs (by omega) (by omega)
            rw [show ((no + (nf + 4) : Nat) : Int) = (no : Int) + ((nf : Int) + 4) by omega] at hp9
            refine hp9.mono ?_
            rintro _ w9 ⟨a9, c9, rfl, ho9, hb9⟩
            have T9 : Hid (RT w w9 af nf cf (fltN bits l) a8 (no + (nf + 4)) c8 (lo ++ partB (fltN bits l)) ax xn cx lx a9 12 c9 (fxEnc no 4 ++ fxEnc nf 4 ++ fxEnc (no + (nf + 4)) 4)) := T8.out.tail hb9 ho9
            clear ho9 hb9 T8 hp9
            go_wp2_with fail
            refine (rpf4 a9 12 c9 _ xn _ T9.out.tt.bs (by omega) (by omega)).mono ?_
            rintro _ w10 ⟨a10, c10, rfl, ho10, hb10⟩
            have T10 : Hid (RT w w10 af nf cf (fltN bits l) a8 (no + (nf + 4)) c8 (lo ++ partB (fltN bits l)) ax xn cx lx a10 16 c10 (fxEnc no 4 ++ fxEnc nf 4 ++ fxEnc (no + (nf + 4)) 4 ++ fxEnc xn 4)) := T9.out.tail hb10 ho10
            clear ho10 hb10 T9
            have hs11 := rsummed_any ax xn cx lx w10 T10.out.xx.bs (by omega)
            go_wp2_with fail
            refine hs11.mono ?_
            rintro _ w11 ⟨a11, c11, rfl, ho11, hb11⟩
            have T11 : Hid (RT w w11 af nf cf (fltN bits l) a8 (no + (nf + 4)) c8 (lo ++ partB (fltN bits l)) ax xn cx lx a10 16 c10 (fxEnc no 4 ++ fxEnc nf 4 ++ fxEnc (no + (nf + 4)) 4 ++ fxEnc xn 4) ∧ BsAt w11 a11 (xn + 4) c11 (partB lx)) := ⟨T10.out.call hb11, ho11.bs⟩
            clear ho11 hb11 T10 hs11
            go_wp2_with (first | (at_builtin; refine wpList_appAt w11 rfl _ _ rfl w.heap.size a8 (no + (nf + 4)) c8 _ rfl T11.out.1.oo a11 (xn + 4) c11 _ rfl T11.out.2 (by omega) T11.out.1.base.size ?_; intro a12 c12 w12 ho12 hb12 hg12 hl12
                                  have T12 : Hid (RT w w12 af nf cf (fltN bits l) a12 (no + (nf + 4) + (xn + 4)) c12 (lo ++ partB (fltN bits l) ++ partB lx) ax xn cx lx a10 16 c10 (fxEnc no 4 ++ fxEnc nf 4 ++ fxEnc (no + (nf + 4)) 4 ++ fxEnc xn 4)) := T11.out.1.app ho12 hb12 hg12 hl12
                                  clear ho12 hb12 hg12 hl12 T11) | fail)
            refine (rpf4 a10 16 c10 _ i _ T12.out.tt.bs (by omega) (by omega)).mono ?_
            rintro _ w13 ⟨a13, c13, rfl, ho13, hb13⟩
            have T13 : Hid (RT w w13 af nf cf (fltN bits l) a12 (no + (nf + 4) + (xn + 4)) c12 (lo ++ partB (fltN bits l) ++ partB lx) ax xn cx lx a13 20 c13 (fxEnc no 4 ++ fxEnc nf 4 ++ fxEnc (no + (nf + 4)) 4 ++ fxEnc xn 4 ++ fxEnc i 4)) := T12.out.tail hb13 ho13
            clear ho13 hb13 T12
            go_wp2_with (first
              | (at_builtin; refine wpList_appAt w13 rfl _ _ rfl w.heap.size a12 (no + (nf + 4) + (xn + 4)) c12 _ rfl T13.out.oo a13 20 c13 _ rfl T13.out.tt.bs (by omega) T13.out.base.size ?_; intro a14 c14 w14 ho14 hb14 hg14 hl14
                 have T14 : Hid (Below w.heap.size w w14 ∧ OwnB w14 w.heap.size a14 (no + (nf + 4) + (xn + 4) + 20) c14 (lo ++ partB (fltN bits l) ++ partB lx ++ (fxEnc no 4 ++ fxEnc nf 4 ++ fxEnc (no + (nf + 4)) 4 ++ fxEnc xn 4 ++ fxEnc i 4))) := ⟨T13.out.base.trans hb14, ho14⟩
                 clear ho14 hb14 hg14 hl14 T13
                 have hcl := run_conv_lit w14 #[.int .u8 115, .int .u8 116, .int .u8 97, .int .u8 100, .int .u8 100, .int .u8 108, .int .u8 101, .int .u8 49] w14.heap.size 8 8 rfl)
              | (at_builtin; refine wpList_app _ rfl _ _ rfl w.heap.size a14 (no + (nf + 4) + (xn + 4) + 20) c14 _ rfl (T14.out.2.alloc _) (some ⟨w14.heap.size, 0, none⟩) 8 8 wordB rfl (BsAt.lit w14 _ _ _ wordB 8 rfl rfl (by unfold maxLen; omega)) (by omega) (by have := T14.out.1.size; simp; omega) ?_; intro a15 c15 w15 ho15 hb15 _
                 have T15 : Hid (BsAt w15 a15 (no + (nf + 4) + (xn + 4) + 20 + 8) c15 (tblB v vb bits l) ∧ Below w.heap.size w w15) := by
                   refine ⟨?_, (T14.out.1.alloc T14.out.1.size _).trans hb15⟩
                   have h1 := ho15.bs
                   rw [HT.out nf rfl] at h1
                   exact h1
                 clear ho15 hb15))
            have HLN : Hid ((tblB v vb bits l).length = no + (nf + 4) + (xn + 4) + 20 + 8) := T15.out.1.size
            go_ret2
            refine ⟨T15.out.2, .inr ⟨HE.out.1, a15, c15, ?_, ?_⟩⟩
            · rw [HLN.out]
              exact ret2 rfl rfl
            · rw [HLN.out]
              exact T15.out.1
end Go.Proofs.YtgegjcnjlibfdaaGreat
