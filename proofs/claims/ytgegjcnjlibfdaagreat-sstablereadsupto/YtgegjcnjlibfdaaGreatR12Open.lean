/- The contract of the document's own Open. -/
import Derived.Test.YtgegjcnjlibfdaaGreatQa26
import Derived.Test.YtgegjcnjlibfdaaGreatR11ReadA
import Derived.Deep.DeepCutAuto
namespace Go.Proofs.YtgegjcnjlibfdaaGreat
set_option maxRecDepth 100000
open Go.RowKit
set_option linter.unusedVariables false
set_option linter.unusedSimpArgs false
theorem footOk_is {b : List UInt8} {n : Nat} (hn : b.length = n) (h28 : 28 ≤ n) (hw : b.drop (n - 8) = wordB) : footOk b = decide (num4 b (n - 28) + num4 b (n - 24) + 4 = num4 b (n - 20) ∧ num4 b (n - 20) + num4 b (n - 16) + 4 = n - 28) := by
  subst hn
  unfold footOk ftAt
  dsimp only
  rw [Bool.eq_iff_iff]
  simp [h28, hw]
/-- What the loop of the document's own Open keeps. -/
structure RO (w wr : World) (q : Nat) (ab : Option Addr) (nb cb : Nat) (af : Option Addr) (fn cf : Nat) (cnt : Nat) (al : Option Addr) (nl cl : Nat) (pl : List PlR) (ag : Option Addr) (m cg : Nat) (l : List KV) : Prop where
  base : Below w.heap.size w wr
  ge : w.heap.size ≤ q
  bx : Box wr q TRT #[.slice ab nb cb, .slice af fn cf, .slice al nl cl, .int .u64 (cnt : Int)]
  ow : OwnP wr w.heap.size al nl cl pl
  ks : OwnK wr w.heap.size ag m cg l
section
variable {w wr w' : World} {q : Nat} {ab : Option Addr} {nb cb : Nat} {af : Option Addr} {fn cf : Nat} {cnt : Nat} {al : Option Addr} {nl cl : Nat} {pl : List PlR} {ag : Option Addr} {m cg : Nat} {l : List KV}
theorem RO.call (h : RO w wr q ab nb cb af fn cf cnt al nl cl pl ag m cg l) (hb : Below wr.heap.size wr w') : RO w w' q ab nb cb af fn cf cnt al nl cl pl ag m cg l :=
  ⟨h.base.trans (hb.mono h.base.size), h.ge, h.bx.kept (hb.block _ h.bx.lt), h.ow.below hb, h.ks.below hb⟩
theorem RO.push (h : RO w wr q ab nb cb af fn cf cnt al nl cl pl ag m cg l) (o : Obj) {al' : Option Addr} {nl' cl' : Nat} {pl' : List PlR} (ho : OwnP w' w.heap.size al' nl' cl' pl') (hb : Below w.heap.size wr w') (hg : (wr.alloc o).grownBy w' (blkOf al)) : Box w' q TRT #[.slice ab nb cb, .slice af fn cf, .slice al nl cl, .int .u64 (cnt : Int)] ∧ RO w (w'.setCell ⟨q, 2, none⟩ (.slice al' nl' cl')) q ab nb cb af fn cf cnt al' nl' cl' pl' ag m cg l := by
  have kp : ∀ k t, tag wr k = some t → t ≠ TRP → w'.heap[k]? = wr.heap[k]? := fun k t hk ht => by
    have hl := tag_lt hk
    rw [hg.block k (by simp; omega) (fun e => by have h1 := h.ow.tag e.symm; rw [hk] at h1; exact ht (Option.some.inj h1))]
    exact Below.heap_alloc wr o k hl
  have hbx := h.bx.kept (kp q _ h.bx.tag (by decide))
  have hks : OwnK w' w.heap.size ag m cg l := h.ks.kept fun k e => kp k _ (h.ks.tag e) (by decide)
  refine ⟨hbx, (h.base.trans hb).setCell (p := ⟨q, 2, none⟩) h.ge _, h.ge, (hbx.set 2 _).eq (by simp), ?_, ?_⟩
  · exact ho.kept fun k e => Below.heap_setCell _ _ _ _ (tag_ne (ho.tag e) hbx.tag (by decide))
  · exact hks.kept fun k e => Below.heap_setCell _ _ _ _ (tag_ne (hks.tag e) hbx.tag (by decide))
end
theorem OwnK.mono12 {w : World} {B B' : Nat} {a : Option Addr} {n c : Nat} {l : List KV} (h : OwnK w B a n c l) (hB : B' ≤ B) : OwnK w B' a n c l := by
  refine ⟨h.size, h.row.1, ?_⟩
  rcases h.row.2 with hn | ⟨g, c, cur, hv, hb, rest⟩
  · exact .inl hn
  · exact .inr ⟨g, c, cur, hv, Nat.le_trans hB hb, rest⟩
theorem plBl_take {b : List UInt8} {fa : Nat} (hf : fa ≤ b.length) {pl : List PlR} (h : ∀ d ∈ pl, d.p + d.s + 4 ≤ (b.take fa).length) : plBl (b.take fa) pl = plBl b pl := by
  unfold plBl
  refine List.map_congr_left fun d hd => ?_
  have h1 := h d hd
  rw [List.length_take] at h1
  have : segB (b.take fa) d.p (d.s + 4) = segB b d.p (d.s + 4) := by
    unfold segB
    rw [List.drop_take, List.take_take, Nat.min_eq_left (by omega)]
  rw [this]
set_option maxHeartbeats 16000000 in
theorem ropen12 {a : Option Addr} {n c : Nat} {b : List UInt8} {w : World} (h : BsAt w a n c b) (hn : n ≤ 3000000) :
    Calls Tryz.prog 14 #[.slice a n c] w fun r w' => Below w.heap.size w w' ∧ ((∃ er, openT b = .error er ∧ r = .returned (.tuple #[.pointer none, .int .i64 ((er : Nat) : Int)])) ∨ ∃ T q fa pl, openT b = .ok T ∧ r = .returned (.tuple #[at_ q, .int .i64 0]) ∧ RTb w' w.heap.size q a n c b fa T.filter.length T.told pl ∧ T.filter = segB b fa T.filter.length ∧ T.blocks = plBl b pl ∧ ∀ d ∈ pl, d.p + d.s + 4 ≤ n) := by
  have hmix : Tryz.prog.follows Departure.mixedOrders = true := by kernel_rfl
  have hsz := h.size
  have HB : Hid (BsAt w a n c b ∧ b.length = n) := ⟨h, hsz⟩
  have hcm := h.max
  have hle := h.le
  unfold maxLen at hcm
  go_enter Tryz.func14, Tryz.ntmps14
  by_cases h28 : n < 28
  · have hz : (n : Int) < 28 := by omega
    have HE : Hid (openT b = .error 121) := openT_1 (footOk_no (fun hh => by omega))
    clear hsz h
    go_wp2
    go_ret2
    exact ⟨Below.refl _ _, .inl ⟨121, HE.out, ret2 rfl rfl⟩⟩
  have hz : ¬ (n : Int) < 28 := by omega
  obtain ⟨a8, hs8, hq8⟩ := slice_any h (n - 8) (by omega)
  rw [show ((n - 8 : Nat) : Int) = (n : Int) - 8 by omega] at hs8
  have hcv := (hq8 _ _ h).asStr Tryz.underlying27 Tryz.underlying5 Tryz.underlying9
  have hwn := word_neq (b.drop (n - 8))
  by_cases hw8 : b.drop (n - 8) = wordB
  case neg =>
    have HE : Hid (openT b = .error 121) := openT_1 (footOk_no (fun hh => hw8 (by rw [← hsz]; exact hh.2)))
    rw [decide_eq_false hw8] at hwn
    clear hsz h hq8 hw8
    go_wp2
    go_ret2
    exact ⟨Below.refl _ _, .inl ⟨121, HE.out, ret2 rfl rfl⟩⟩
  rw [decide_eq_true hw8] at hwn
  have HF := footOk_is hsz (by omega) hw8
  have HN : Hid (∀ j : Nat, 12 ≤ j → j ≤ 28 → ∀ V, BsAt V a n c b → Calls Tryz.prog 37 #[.slice a n c, .int .i64 ((n : Int) - (j : Int))] V fun e w' => e = .returned (.int .u64 ((num4 b (n - j) : Nat) : Int)) ∧ w' = V) := fun j h1 h2 V hV => by
    have := rnumber_any a n c b (n - j) V hV (by omega)
    rwa [show ((n - j : Nat) : Int) = (n : Int) - (j : Int) by omega] at this
  have l1 := num4_lt b (n - 28)
  have l2 := num4_lt b (n - 24)
  have l3 := num4_lt b (n - 20)
  have l4 := num4_lt b (n - 16)
  have l5 := num4_lt b (n - 12)
  have HFT : Hid (ftAt b = ⟨num4 b (n - 28), num4 b (n - 24), num4 b (n - 20), num4 b (n - 16), num4 b (n - 12)⟩) := by
    unfold Hid ftAt
    rw [hsz]
  have N28 : Hid (Calls Tryz.prog 37 #[.slice a n c, .int .i64 ((n : Int) - 28)] w fun e w' => e = .returned (.int .u64 ((num4 b (n - 28) : Nat) : Int)) ∧ w' = w) := HN.out 28 (by omega) (by omega) w h
  have N24 : Hid (Calls Tryz.prog 37 #[.slice a n c, .int .i64 ((n : Int) - 24)] w fun e w' => e = .returned (.int .u64 ((num4 b (n - 24) : Nat) : Int)) ∧ w' = w) := HN.out 24 (by omega) (by omega) w h
  have N20 : Hid (Calls Tryz.prog 37 #[.slice a n c, .int .i64 ((n : Int) - 20)] w fun e w' => e = .returned (.int .u64 ((num4 b (n - 20) : Nat) : Int)) ∧ w' = w) := HN.out 20 (by omega) (by omega) w h
  have N16 : Hid (Calls Tryz.prog 37 #[.slice a n c, .int .i64 ((n : Int) - 16)] w fun e w' => e = .returned (.int .u64 ((num4 b (n - 16) : Nat) : Int)) ∧ w' = w) := HN.out 16 (by omega) (by omega) w h
  have N12 : Hid (∀ V, BsAt V a n c b → Calls Tryz.prog 37 #[.slice a n c, .int .i64 ((n : Int) - 12)] V fun e w' => e = .returned (.int .u64 ((num4 b (n - 12) : Nat) : Int)) ∧ w' = V) := fun V hV => HN.out 12 (by omega) (by omega) V hV
  generalize num4 b (n - 28) = fa at *
  generalize num4 b (n - 24) = fn at *
  generalize num4 b (n - 20) = xa at *
  generalize num4 b (n - 16) = xn at *
  generalize num4 b (n - 12) = cnt at *
  have hce := conv_int_u64 (n - 28) (by omega)
  rw [show ((n - 28 : Nat) : Int) = (n : Int) - 28 by omega] at hce
  clear HN hq8 hw8 hsz h
  go_wp2_with fail
  refine N28.out.mono ?_
  rintro _ w1 ⟨rfl, hw1⟩
  obtain rfl : w = w1 := hw1.symm
  go_wp2_with fail
  refine N24.out.mono ?_
  rintro _ w1 ⟨rfl, hw1⟩
  obtain rfl : w = w1 := hw1.symm
  go_wp2_with fail
  refine N20.out.mono ?_
  rintro _ w1 ⟨rfl, hw1⟩
  obtain rfl : w = w1 := hw1.symm
  go_wp2_with fail
  refine N16.out.mono ?_
  rintro _ w1 ⟨rfl, hw1⟩
  obtain rfl : w = w1 := hw1.symm
  clear hcv hwn hs8 N28 N24 N20 N16 hce
  by_cases e12 : fa + fn + 4 = xa ∧ xa + xn + 4 = n - 28
  case neg =>
    have HE : Hid (openT b = .error 121) := openT_1 (by rw [HF]; exact decide_eq_false e12)
    clear HF
    by_cases e1 : fa + fn + 4 = xa
    · have e2 : ¬ (xa + xn + 4 = n - 28) := fun h2 => e12 ⟨e1, h2⟩
      have q1 : ((fa : Int) + (fn : Int) + 4 != (xa : Int)) = false := by rw [bne_eq_false_iff_eq]; omega
      have q2 : ((xa : Int) + (xn : Int) + 4 != (n : Int) - 28) = true := by rw [bne_iff_ne]; omega
      clear e12 e1 e2
      go_wp2
      go_ret2
      exact ⟨Below.refl _ _, .inl ⟨121, HE.out, ret2 rfl rfl⟩⟩
    · have q1 : ((fa : Int) + (fn : Int) + 4 != (xa : Int)) = true := by rw [bne_iff_ne]; omega
      clear e12 e1
      go_wp2
      go_ret2
      exact ⟨Below.refl _ _, .inl ⟨121, HE.out, ret2 rfl rfl⟩⟩
  have HFO : Hid (footOk b = true) := by rw [HF]; exact decide_eq_true e12
  obtain ⟨e1, e2⟩ := e12
  have q1 : ((fa : Int) + (fn : Int) + 4 != (xa : Int)) = false := by rw [bne_eq_false_iff_eq]; omega
  have q2 : ((xa : Int) + (xn : Int) + 4 != (n : Int) - 28) = false := by rw [bne_eq_false_iff_eq]; omega
  have b1 : fa + fn + 4 ≤ n := by omega
  have b2 : xa + xn + 4 ≤ n := by omega
  have cf1 := conv_u64_int fa (by omega)
  have cf2 := conv_u64_int fn (by omega)
  have cf3 := conv_u64_int xa (by omega)
  have cf4 := conv_u64_int xn (by omega)
  have HE2 : Hid (okP (segB b fa (fn + 4)) = false → openT b = .error 122) := by
    have := openT_2 HFO.out
    rw [HFT.out] at this
    exact this
  have HE3 : Hid (okP (segB b fa (fn + 4)) = true → okP (segB b xa (xn + 4)) = false → openT b = .error 122) := by
    have := openT_3 HFO.out
    rw [HFT.out] at this
    exact this
  have HE4 : Hid (okP (segB b fa (fn + 4)) = true → okP (segB b xa (xn + 4)) = true → openT b = match idxT (b.take fa) (segB b xa xn) with
      | none => .error 121
      | some bl => .ok ⟨segB b fa fn, bl, cnt⟩) := by
    have := openT_45 HFO.out
    rw [HFT.out] at this
    exact this
  have hr1 := rright_any a n c b fa fn w HB.out.1 b1
  clear HF HFT e1 e2
  go_wp2_with fail
  refine hr1.mono ?_
  rintro _ w1 ⟨rfl, d1, hd1⟩
  have H1 : Hid (Below w.heap.size w w1) := by rw [hd1]; exact below_drewN (Below.refl _ _) d1
  clear hr1 hd1
  have hr2 := rright_any a n c b xa xn w1 (HB.out.1.below (Nat.le_refl _) H1.out) b2
  go_wp2_with fail
  refine hr2.mono ?_
  rintro _ w2 ⟨rfl, d2, hd2⟩
  have H2 : Hid (Below w.heap.size w w2) := by rw [hd2]; exact below_drewN H1.out d2
  clear hr2 hd2 q1 q2
  cases hk1 : okP (segB b fa (fn + 4)) with
  | false =>
    have HR : Hid (openT b = .error 122) := HE2.out hk1
    clear hk1
    go_wp2
    go_ret2
    exact ⟨H2.out, .inl ⟨122, HR.out, ret2 rfl rfl⟩⟩
  | true =>
    cases hk2 : okP (segB b xa (xn + 4)) with
    | false =>
      have HR : Hid (openT b = .error 122) := HE3.out hk1 hk2
      clear hk1 hk2
      go_wp2
      go_ret2
      exact ⟨H2.out, .inl ⟨122, HR.out, ret2 rfl rfl⟩⟩
    | true =>
      have HR0 := HE4.out hk1 hk2
      have HR : Hid (openT b = match idxT (b.take fa) (segB b xa xn) with
        | none => .error 121
        | some bl => .ok ⟨segB b fa fn, bl, cnt⟩) := HR0
      clear hk1 hk2 HR0 HE2 HE3 HE4
      obtain ⟨ax, hsx, hqx⟩ := slice_mid HB.out.1 xa (xa + xn) (by omega) (by omega)
      rw [Nat.add_sub_cancel_left] at hsx
      rw [show ((xa + xn : Nat) : Int) = (xa : Int) + (xn : Int) by omega] at hsx
      have HX : Hid (∀ V, Below w.heap.size w V → BsAt V ax xn (c - xa) (segB b xa xn)) := fun V hV => by
        have := hqx V _ (HB.out.1.below (Nat.le_refl _) hV)
        rw [Nat.add_sub_cancel_left] at this
        exact this
      have hrd := rread_own ax xn (c - xa) (segB b xa xn) w2 (HX.out w2 H2.out) (by omega)
      have hro := readP_open (segB b xa xn) (by have : (segB b xa xn).length ≤ xn := (by unfold segB; rw [List.length_take]; omega); omega)
      clear hqx
      go_wp2_with fail
      refine hrd.mono ?_
      rintro _ w3 ⟨hb3, ⟨hno, rfl⟩ | ⟨l, ag, cg, hyes, rfl, hol⟩⟩
      · have H3 : Hid (Below w.heap.size w w3 ∧ openT b = .error 121) := by
          refine ⟨H2.out.trans (hb3.mono H2.out.size), ?_⟩
          rw [HR.out]
          rcases hro with ⟨_, h2⟩ | ⟨l, ss, ls, h1, h2, h3⟩
          · unfold idxT
            rw [h2]
          · rw [hno] at h1
            cases h1
        have hbn := rbuild_yes none 0 0 [] 1 (Nat.le_refl 1) (by omega) w3 (KsAt.nil w3) (by omega) (fun e he => by cases he) rfl
        clear hb3 hno hrd hro
        generalize (layP 1 []).length = ln at hbn
        go_wp2_with fail
        refine hbn.mono ?_
        rintro _ w4 ⟨a4, c4, rfl, _, hb4⟩
        have H4 : Hid (Below w.heap.size w w4) := H3.out.1.trans (hb4.mono H3.out.1.size)
        clear hb4 hbn
        go_wp2
        go_ret2
        exact ⟨H4.out, .inl ⟨121, H3.out.2, ret2 rfl rfl⟩⟩
      · obtain ⟨ss, ls, hop, hfl, hck, hlx⟩ : ∃ ss ls, openP (segB b xa xn) = some (ss, ls) ∧ ls.flatten = l ∧ chkL l = 0 ∧ 3 * l.length ≤ xn := by
          rcases hro with ⟨h1, _⟩ | ⟨l2, ss, ls, h1, h2, h3⟩
          · rw [hyes] at h1
            cases h1
          · rw [hyes] at h1
            obtain rfl := Option.some.inj h1
            obtain ⟨_, g1, _, g3, g4, _⟩ := open_some h2
            rw [h3] at g3 g4
            have g5 := lay_ge g1 l
            rw [← g4] at g5
            have g6 : (segB b xa xn).length ≤ xn := by unfold segB; rw [List.length_take]; omega
            exact ⟨ss, ls, h2, h3, g3, by omega⟩
        have HIX : Hid (idxT (b.take fa) (segB b xa xn) = if l = [] ∨ layP 1 l ≠ segB b xa xn then none else idxGo (b.take fa) 0 l) := by
          unfold Hid idxT
          rw [hop]
          dsimp only
          rw [hfl]
        have HCK : Hid (chkL l = 0) := hck
        have H3 : Hid (Below w.heap.size w w3 ∧ OwnK w3 w.heap.size ag l.length cg l) := ⟨H2.out.trans (hb3.mono H2.out.size), hol.mono12 H2.out.size⟩
        have hbu := rbuild_own ag l.length cg l 1 (Nat.le_refl 1) (by omega) w3 hol.ks (by omega) (wfl_ok hck) hck
        obtain ⟨m, HM⟩ : ∃ m, Hid (l.length = m) := ⟨_, (rfl : l.length = l.length)⟩
        rw [HM.out] at hbu H3 hlx ⊢
        clear hb3 hrd hro hop hfl hyes hol hck ss ls
        generalize hla : (layP 1 l).length = la at hbu
        go_wp2_with fail
        refine hbu.mono ?_
        rintro _ w4 ⟨a4, c4, rfl, ho4, hb4⟩
        have H4 : Hid (Below w.heap.size w w4 ∧ OwnK w4 w.heap.size ag m cg l ∧ BsAt w4 a4 la c4 (layP 1 l)) := ⟨H3.out.1.trans (hb4.mono H3.out.1.size), H3.out.2.below hb4, ho4.bs⟩
        have y1 := H4.out.2.2.asStr Tryz.underlying27 Tryz.underlying5 Tryz.underlying9
        have y2 := (HX.out w4 H4.out.1).asStr Tryz.underlying27 Tryz.underlying5 Tryz.underlying9
        clear ho4 hb4 hbu hla
        have HQ : Hid ((strOf (layP 1 l)).toList = (strOf (segB b xa xn)).toList ↔ layP 1 l = segB b xa xn) := by
          unfold Hid strOf
          rw [ByteArray.toList_eq, ByteArray.toList_eq]
        generalize strOf (layP 1 l) = sA at y1 HQ
        generalize strOf (segB b xa xn) = sB at y2 HQ
        by_cases hm0 : m = 0
        · subst hm0
          have HE : Hid (openT b = .error 121) := by
            unfold Hid
            rw [HR.out, HIX.out, if_pos (.inl (List.eq_nil_of_length_eq_zero HM.out))]
          go_wp2
          go_ret2
          exact ⟨H4.out.1, .inl ⟨121, HE.out, ret2 rfl rfl⟩⟩
        have hmz : ((m : Int) == 0) = false := by rw [beq_eq_false_iff_ne]; omega
        have HLNE : Hid (l ≠ []) := by
          intro e
          have := HM.out
          rw [e] at this
          simp at this
          omega
        by_cases hq : sA.toList = sB.toList
        case neg =>
          have HE : Hid (openT b = .error 121) := by
            unfold Hid
            rw [HR.out, HIX.out, if_pos (.inr (fun e => hq (HQ.out.2 e)))]
          have hqq : (sA.toList == sB.toList) = false := by simpa using hq
          clear hq HQ
          go_wp2
          go_ret2
          exact ⟨H4.out.1, .inl ⟨121, HE.out, ret2 rfl rfl⟩⟩
        have hqq : (sA.toList == sB.toList) = true := by simpa using hq
        have HR2 : Hid (openT b = match idxGo (b.take fa) 0 l with
          | none => .error 121
          | some bl => .ok ⟨segB b fa fn, bl, cnt⟩) := by
          unfold Hid
          rw [HR.out, HIX.out, if_neg]
          rintro (h1 | h1)
          · exact HLNE.out h1
          · exact h1 (HQ.out.1 hq)
        clear hq HQ HR HIX
        obtain ⟨af, hsf, hqf⟩ := slice_mid HB.out.1 fa (fa + fn) (by omega) (by omega)
        rw [Nat.add_sub_cancel_left] at hsf
        rw [show ((fa + fn : Nat) : Int) = (fa : Int) + (fn : Int) by omega] at hsf
        have HFL : Hid (∀ V, BsAt V a n c b → BsAt V af fn (c - fa) (segB b fa fn)) := fun V hV => by
          have := hqf V _ hV
          rw [Nat.add_sub_cancel_left] at this
          exact this
        have hwf : IntKind.i64.wrap ((fa : Int) + (fn : Int)) = (fa : Int) + (fn : Int) := by
          have := i64_wrap (fa + fn) (by omega)
          rwa [show ((fa + fn : Nat) : Int) = (fa : Int) + (fn : Int) by omega] at this
        have hw12 : IntKind.i64.wrap ((n : Int) - 12) = (n : Int) - 12 := by
          have := i64_wrap (n - 12) (by omega)
          rwa [show ((n - 12 : Nat) : Int) = (n : Int) - 12 by omega] at this
        clear hqf
        go_wp2_with fail
        clear y1 y2
        go_region_held3 (fun V => True) (first | trivial | go_keep)
          (first
           | (go_at_call 37; refine (N12.out _ (HB.out.1.below (Nat.le_refl _) H4.out.1.drew)).mono ?_; rintro _ v1 ⟨rfl, rfl⟩))
        go_wp2_with fail
        have H5 : Hid (RO w (w4.drew.alloc (.cells #[.slice a n c, .slice af fn (c - fa), .slice none 0 0, .int .u64 (cnt : Int)] TRT)) w4.heap.size a n c af fn (c - fa) cnt none 0 0 [] ag m cg l) := by
          have hA : Below w4.heap.size w4 (w4.drew.alloc (.cells #[.slice a n c, .slice af fn (c - fa), .slice none 0 0, .int .u64 (cnt : Int)] TRT)) := (Below.refl _ _).drew.alloc (Nat.le_refl _) _
          exact ⟨H4.out.1.trans (hA.mono H4.out.1.size), H4.out.1.size, Box.new _ _ _, ⟨rfl, World.ownsRow_nil _ _ _ 5⟩, H4.out.2.1.below hA⟩
        generalize w4.heap.size = q at *
        clear cf3 cf4 hsx hsf hwf hw12 HX
        go_loopw [17, 18] (fun x17 x18 wr => ∃ (k at0 nl cl : Nat) (al : Option Addr), k ≤ m ∧ at0 ≤ 3000004000000 ∧ nl ≤ k ∧ x17 = .int .u64 (at0 : Int) ∧ x18 = .int .i64 (k : Int) ∧ Hid (∃ pl, RI (b.take fa) n l k at0 pl ∧ RO w wr q a n c af fn (c - fa) cnt al nl cl pl ag m cg l)) (fun _ x _ => m - (intOf x).toNat)
        case atStart => exact ⟨0, 0, 0, 0, none, Nat.zero_le _, by omega, Nat.le_refl _, rfl, rfl, [], RI.start _ _ _, H5.out⟩
        case round =>
          obtain ⟨k, at0, nl, cl, al, hk, hat, hnl, rfl, rfl, HRR⟩ := hrel
          obtain ⟨pl, hri, hro⟩ := HRR.out
          by_cases hkm : k < m
          · have hkl : k < l.length := by rw [HM.out]; exact hkm
            have HI : Hid (RI (b.take fa) n l k at0 pl ∧ RO w wr q a n c af fn (c - fa) cnt al nl cl pl ag m cg l) := ⟨hri, hro⟩
            have HNO : Hid ((∀ y, plOf l[k].2.data.toList = some (at0, y) → n < y) → openT b = .error 121) := fun hh => by
              rw [HR2.out, HI.out.1.no hkl (by rw [List.length_take, HB.out.2]; omega) hh]
            have HYS : Hid (∀ y, plOf l[k].2.data.toList = some (at0, y) → y ≤ n → RI (b.take fa) n l (k + 1) (at0 + y + 4) (pl ++ [⟨l[k].1, at0, y⟩])) := fun y h1 h2 => HI.out.1.yes hkl h1 h2
            have hev : l[k].2.size ≤ 1000 := ((chkL_zero.1 HCK.out).1 _ (List.getElem_mem hkl)).2
            obtain ⟨bb, off, hab, hjunk⟩ := hro.ks.ks.cells4 (by omega)
            clear hjunk
            have HKC : Hid (∀ V, OwnK V w.heap.size ag m cg l → V.cell? ⟨bb, off + k * 4, none⟩ = some (.string l[k].1.user) ∧ V.cell? ⟨bb, off + k * 4 + 1, none⟩ = some (.int .u64 (l[k].1.seq : Int)) ∧ V.cell? ⟨bb, off + k * 4 + 2, none⟩ = some (.int .i64 l[k].1.kind) ∧ V.cell? ⟨bb, off + k * 4 + 3, none⟩ = some (.string l[k].2)) := fun V hV => by
              obtain ⟨b', off', hab', hc⟩ := hV.ks.cells4 (by omega)
              rw [hab] at hab'
              cases hab'
              exact hc k hkl
            have hidx := fun W => idxKV W (a := ag) (b := bb) (off := off) (n := m) (c := cg) hab hkm
            clear hri hro HRR hab
            generalize l[k] = le at *
            obtain ⟨ek, ev⟩ := le
            dsimp only at HKC HNO HYS hev
            have hcv : ∀ W : World, (convert 9 27 (.string ev)).run Tryz.prog W = .ok (.slice (some ⟨W.heap.size, 0, none⟩) ev.size (grownCap W ev.size 0 5))
                (W.drew.alloc (.cells (bytesRow ev (grownCap W ev.size 0 5)) 5 ((bytesRow ev (grownCap W ev.size 0 5)).size, (bytesRow ev (grownCap W ev.size 0 5)).size + 1))) :=
              fun W => run_bytes_of_string W 9 27 5 ev Tryz.underlying9 Tryz.underlying27 Tryz.underlying5
            obtain ⟨x, kk, er, hr1⟩ : ∃ x k er, uvRead ev.data.toList = (x, k, er) := ⟨_, _, _, rfl⟩
            obtain ⟨y, mm, er2, hr2⟩ : ∃ y m er2, uvRead (ev.data.toList.drop kk) = (y, m, er2) := ⟨_, _, _, rfl⟩
            have hl : ev.data.toList.length = ev.size := by rw [Array.length_toList]; rfl
            obtain ⟨hx, hkk, _⟩ := uv_bounds hr1
            obtain ⟨hy, hmm, _⟩ := uv_bounds hr2
            rw [hl] at hkk
            rw [List.length_drop, hl] at hmm
            have HP : Hid (plOf ev.data.toList = if plV x y = ev.data.toList then some (x, y) else none) := by
              unfold Hid plOf
              rw [hr1]
              dsimp only
              rw [hr2]
            have HPV : Hid (plV x y = ev.data.toList → er = 0 ∧ er2 = 0 ∧ kk + mm = ev.size) := fun hh => by
              obtain ⟨g1, g2⟩ := plV_read hx hy
              rw [hh, hr1] at g1
              simp only [Prod.mk.injEq] at g1
              obtain ⟨_, g3, g4⟩ := g1
              rw [← g3, hh, hr2] at g2
              simp only [Prod.mk.injEq] at g2
              obtain ⟨_, g5, g6⟩ := g2
              have g7 := congrArg List.length hh
              rw [plV, List.length_append, hl] at g7
              exact ⟨g4, g6, by omega⟩
            have HB0 : Hid (BsAt ((wr.alloc (.cells (bytesRow ev (grownCap wr ev.size 0 5)) 5 ((bytesRow ev (grownCap wr ev.size 0 5)).size, (bytesRow ev (grownCap wr ev.size 0 5)).size + 1))).drew) (some ⟨wr.heap.size, 0, none⟩) ev.size (grownCap wr ev.size 0 5) ev.data.toList ∧ RO w ((wr.alloc (.cells (bytesRow ev (grownCap wr ev.size 0 5)) 5 ((bytesRow ev (grownCap wr ev.size 0 5)).size, (bytesRow ev (grownCap wr ev.size 0 5)).size + 1))).drew) q a n c af fn (c - fa) cnt al nl cl pl ag m cg l) := by
              have h1 := BsAt.ofStr wr ev (grownCap wr ev.size 0 5) ((bytesRow ev (grownCap wr ev.size 0 5)).size, (bytesRow ev (grownCap wr ev.size 0 5)).size + 1) (grownCap_ge _ _ _ _) (grownCap_le_maxLen _ _ _ _ (by unfold maxLen; omega))
              exact ⟨h1, HI.out.2.call ((Below.refl _ _).alloc (Nat.le_refl _) _).drew⟩
            have x3 : wr.cell? ⟨bb, off + k * 4 + 3, none⟩ = some (.string ev) := (HKC.out wr HI.out.2.ks).2.2.2
            clear hl
            go_wp2_with fail
            generalize (wr.alloc (.cells (bytesRow ev (grownCap wr ev.size 0 5)) 5 ((bytesRow ev (grownCap wr ev.size 0 5)).size, (bytesRow ev (grownCap wr ev.size 0 5)).size + 1))).drew = W1 at *
            generalize grownCap wr ev.size 0 5 = cp at *
            generalize wr.heap.size = gb at *
            clear hcv x3
            refine (ruvarint_eq HB0.out.1 hr1).mono ?_
            rintro _ v1 ⟨rfl, hw⟩
            obtain rfl : W1 = v1 := hw.symm
            obtain ⟨a2, hsl, hbs⟩ := slice_any HB0.out.1 kk hkk
            have hc2 := ruvarint_eq (hbs _ _ HB0.out.1) hr2
            clear hbs
            go_wp2_with fail
            refine hc2.mono ?_
            rintro _ v1 ⟨rfl, hw⟩
            obtain rfl : W1 = v1 := hw.symm
            clear hc2 hr1 hr2 hsl
            go_wp2_with fail
            refine (rputUv_nil x _ hx).mono ?_
            rintro _ W2 ⟨a3, c3, rfl, ho3, hb3⟩
            have H6 : Hid (RO w W2 q a n c af fn (c - fa) cnt al nl cl pl ag m cg l ∧ BsAt W2 a3 (uvEnc x).length c3 (uvEnc x)) := ⟨HB0.out.2.call hb3, ho3⟩
            have hu1 := uvEnc_length x
            clear ho3 hb3 HB0
            go_wp2_with fail
            refine (rputUvarint_any a3 (uvEnc x).length c3 (uvEnc x) y _ H6.out.2 hy (by omega)).mono ?_
            rintro _ W3 ⟨a5, c5, rfl, ho5, hb5⟩
            have H7 : Hid (RO w W3 q a n c af fn (c - fa) cnt al nl cl pl ag m cg l ∧ BsAt W3 a5 ((uvEnc x).length + (uvEnc y).length) c5 (plV x y)) := ⟨H6.out.1.call hb5, ho5.bs⟩
            clear ho5 hb5 H6
            have hps : ∀ d, (convert 27 9 (.slice a5 ((uvEnc x).length + (uvEnc y).length) c5)).run Tryz.prog (W3.drewN d) = .ok (.string (strOf (plV x y))) (W3.drewN d) := fun d => (H7.out.2.below (Nat.le_refl _) (below_drewN (Below.refl _ _) d)).asStr Tryz.underlying27 Tryz.underlying5 Tryz.underlying9
            generalize (uvEnc x).length + (uvEnc y).length = pn at *
            have hseq := str_eq ev (plV x y)
            have x3 : W3.cell? ⟨bb, off + k * 4 + 3, none⟩ = some (.string ev) := (HKC.out W3 H7.out.1.ks).2.2.2
            have hcn := conv_int_u64 n (by omega)
            have HNN : Hid (∀ d, Below w.heap.size w (W3.drewN d)) := fun d => below_drewN H7.out.1.base d
            generalize strOf (plV x y) = sP at hps hseq
            go_wp2_with fail
            by_cases hpv : plV x y = ev.data.toList
            case neg =>
              have hsf : (sP.toList == ev.toList) = false := by rw [hseq]; exact decide_eq_false hpv
              have HPN : Hid (∀ y', plOf ev.data.toList = some (at0, y') → n < y') := fun y' h1 => by
                rw [HP.out, if_neg hpv] at h1
                cases h1
              clear hseq hpv
              by_cases he1 : er = 0
              case neg =>
                have g1 : ((er : Int) != 0) = true := by rw [bne_iff_ne]; omega
                clear he1
                have HE : Hid (openT b = .error 121) := HNO.out (HPN.out)
                go_quiet (fail)
                go_wp2
                go_ret2
                exact ⟨HNN.out _, .inl ⟨121, HE.out, ret2 rfl rfl⟩⟩
              subst he1
              by_cases he2 : er2 = 0
              case neg =>
                have g1 : ((er2 : Int) != 0) = true := by rw [bne_iff_ne]; omega
                clear he2
                have HE : Hid (openT b = .error 121) := HNO.out (HPN.out)
                go_quiet (fail)
                go_wp2
                go_ret2
                exact ⟨HNN.out _, .inl ⟨121, HE.out, ret2 rfl rfl⟩⟩
              subst he2
              by_cases he3 : kk + mm = ev.size
              case neg =>
                have g1 : ((kk : Int) + (mm : Int) != (ev.size : Int)) = true := by rw [bne_iff_ne]; omega
                clear he3
                have HE : Hid (openT b = .error 121) := HNO.out (HPN.out)
                go_quiet (fail)
                go_wp2
                go_ret2
                exact ⟨HNN.out _, .inl ⟨121, HE.out, ret2 rfl rfl⟩⟩
              have g1 : ((kk : Int) + (mm : Int) != (ev.size : Int)) = false := by rw [bne_eq_false_iff_eq]; omega
              clear he3
              have HE : Hid (openT b = .error 121) := HNO.out (HPN.out)
              go_quiet (fail)
              go_wp2
              go_ret2
              exact ⟨HNN.out _, .inl ⟨121, HE.out, ret2 rfl rfl⟩⟩
            have hsf : (sP.toList == ev.toList) = true := by rw [hseq]; exact decide_eq_true hpv
            obtain ⟨he1, he2, he3⟩ := HPV.out hpv
            subst he1 he2
            have g1 : ((kk : Int) + (mm : Int) != (ev.size : Int)) = false := by rw [bne_eq_false_iff_eq]; omega
            have HPY : Hid (plOf ev.data.toList = some (x, y)) := by unfold Hid; rw [HP.out, if_pos hpv]
            clear hseq hpv he3 HP HPV
            by_cases hxa : x = at0
            case neg =>
              have g2 : ((x : Int) != (at0 : Int)) = true := by rw [bne_iff_ne]; omega
              have HPN : Hid (∀ y', plOf ev.data.toList = some (at0, y') → n < y') := fun y' h1 => by
                rw [HPY.out] at h1
                cases h1
                exact absurd rfl hxa
              clear hxa
              have HE : Hid (openT b = .error 121) := HNO.out (HPN.out)
              go_quiet (fail)
              go_wp2
              go_ret2
              exact ⟨HNN.out _, .inl ⟨121, HE.out, ret2 rfl rfl⟩⟩
            subst hxa
            have g2 : ((x : Int) != (x : Int)) = false := by simp
            by_cases hyn : y ≤ n
            case neg =>
              have g3 : (n : Int) < (y : Int) := by omega
              have HPN : Hid (∀ y', plOf ev.data.toList = some (x, y') → n < y') := fun y' h1 => by
                rw [HPY.out] at h1
                cases h1
                omega
              have HE : Hid (openT b = .error 121) := HNO.out (HPN.out)
              go_quiet (fail)
              go_wp2
              go_ret2
              exact ⟨HNN.out _, .inl ⟨121, HE.out, ret2 rfl rfl⟩⟩
            have g3 : ¬ (n : Int) < (y : Int) := by omega
            have HRI : Hid (RI (b.take fa) n l (k + 1) (x + y + 4) (pl ++ [⟨ek, x, y⟩])) := HYS.out y HPY.out hyn
            have htop : x + y + 4 ≤ 3000004000000 := by
              have h1 := HRI.out.top
              have h2 : (n + 4) * (k + 1) ≤ 3000004 * 1000000 := Nat.mul_le_mul (by omega) (by omega)
              omega
            have hcx := conv_u64_int x (by omega)
            have hcy := conv_u64_int y (by omega)
            clear HPY HNO HYS
            go_quiet (fail)
            have H8 : Hid (RO w (W3.drewN nq) q a n c af fn (c - fa) cnt al nl cl pl ag m cg l) := H7.out.1.call (below_drewN (Below.refl _ _) nq)
            generalize W3.drewN nq = W4 at *
            clear hps x3 H7 HNN hcn hsf
            go_wp2_with fail
            obtain ⟨k0, k1, k2, _⟩ := HKC.out W4.drew (H8.out.call (Below.refl _ _).drew).ks
            have z2 : W4.drew.cell? ⟨q, 2, none⟩ = some (.slice al nl cl) := H8.out.bx.cell 2
            have z4 : W4.cell? ⟨q, 2, none⟩ = some (.slice al nl cl) := H8.out.bx.cell 2
            have hqw : q < W4.heap.size := H8.out.bx.lt
            have HCV : Hid ((#[.string ek.user, .int .u64 (ek.seq : Int), .int .i64 ek.kind, .int .i64 (x : Int), .int .i64 (y : Int)] : Array Value).toList = prc ⟨ek, x, y⟩) := rfl
            refine wp_region_noPanic ?_
            refine wp_region_held_drew (S := fun V => V.cell? ⟨bb, off + k * 4, none⟩ = some (.string ek.user) ∧ V.cell? ⟨bb, off + k * 4 + 1, none⟩ = some (.int .u64 (ek.seq : Int)) ∧ V.cell? ⟨bb, off + k * 4 + 2, none⟩ = some (.int .i64 ek.kind)) hmix ⟨k0, k1, k2⟩ (fun hHeld => ?_)
            refine wpAnyH_take (i := 0) (v := ?_) rfl (by kernel_rfl) (by kernel_rfl) (by kernel_rfl) (fun _ _ _ h => h) (Or.inl ⟨by rfl, ?_⟩) hHeld ?_
            rotate_left
            · intro w hSw
              try dsimp only at hSw
              go_simp
              try with_reducible rfl
            try simp only [Act.put, List.getElem_toArray, List.getElem_cons_succ, List.getElem_cons_zero, Array.getInternal_eq_getElem, List.setIfInBounds_toArray, List.set_cons_zero, List.set_cons_succ]
            refine wpAnyH_take (i := 1) (v := ?_) rfl (by kernel_rfl) (by kernel_rfl) (by kernel_rfl) (fun _ _ _ h => h) (Or.inl ⟨by rfl, ?_⟩) hHeld ?_
            rotate_left
            · intro w hSw
              try dsimp only at hSw
              go_simp
              try with_reducible rfl
            try simp only [Act.put, List.getElem_toArray, List.getElem_cons_succ, List.getElem_cons_zero, Array.getInternal_eq_getElem, List.setIfInBounds_toArray, List.set_cons_zero, List.set_cons_succ]
            refine wpAnyH_take (i := 2) (v := ?_) rfl (by kernel_rfl) (by kernel_rfl) (by kernel_rfl) (fun _ _ _ h => h) (Or.inl ⟨by rfl, ?_⟩) hHeld ?_
            rotate_left
            · intro w hSw
              try dsimp only at hSw
              go_simp
              try with_reducible rfl
            try simp only [Act.put, List.getElem_toArray, List.getElem_cons_succ, List.getElem_cons_zero, Array.getInternal_eq_getElem, List.setIfInBounds_toArray, List.set_cons_zero, List.set_cons_succ]
            refine wpAnyH_take (i := 3) (v := ?_) rfl (by kernel_rfl) (by kernel_rfl) (by kernel_rfl) (fun _ _ _ h => h) (Or.inl ⟨by rfl, ?_⟩) hHeld ?_
            rotate_left
            · intro w hSw
              try dsimp only at hSw
              go_simp
              try with_reducible rfl
            try simp only [Act.put, List.getElem_toArray, List.getElem_cons_succ, List.getElem_cons_zero, Array.getInternal_eq_getElem, List.setIfInBounds_toArray, List.set_cons_zero, List.set_cons_succ]
            refine wpAnyH_take (i := 5) (v := ?_) rfl (by kernel_rfl) (by kernel_rfl) (by kernel_rfl) (fun _ _ _ h => h) (Or.inl ⟨by rfl, ?_⟩) hHeld ?_
            rotate_left
            · intro w hSw
              try dsimp only at hSw
              go_simp
              try with_reducible rfl
            try simp only [Act.put, List.getElem_toArray, List.getElem_cons_succ, List.getElem_cons_zero, Array.getInternal_eq_getElem, List.setIfInBounds_toArray, List.set_cons_zero, List.set_cons_succ]
            refine wpAnyH_take (i := 6) (v := ?_) rfl (by kernel_rfl) (by kernel_rfl) (by kernel_rfl) (fun _ _ _ h => h) (Or.inl ⟨by rfl, ?_⟩) hHeld ?_
            rotate_left
            · intro w hSw
              try dsimp only at hSw
              go_simp
              try with_reducible rfl
            try simp only [Act.put, List.getElem_toArray, List.getElem_cons_succ, List.getElem_cons_zero, Array.getInternal_eq_getElem, List.setIfInBounds_toArray, List.set_cons_zero, List.set_cons_succ]
            refine wpAnyH_take (i := 7) (v := ?_) rfl (by kernel_rfl) (by kernel_rfl) (by kernel_rfl) (fun _ _ _ h => h) (Or.inl ⟨by rfl, ?_⟩) hHeld ?_
            rotate_left
            · intro w hSw
              try dsimp only at hSw
              go_simp
              try with_reducible rfl
            try simp only [Act.put, List.getElem_toArray, List.getElem_cons_succ, List.getElem_cons_zero, Array.getInternal_eq_getElem, List.setIfInBounds_toArray, List.set_cons_zero, List.set_cons_succ]
            refine wpAnyH_take (i := 8) (v := ?_) rfl (by kernel_rfl) (by kernel_rfl) (by kernel_rfl) (fun _ _ _ h => h) (Or.inl ⟨by rfl, ?_⟩) hHeld ?_
            rotate_left
            · intro w hSw
              try dsimp only at hSw
              go_simp
              try with_reducible rfl
            try simp only [Act.put, List.getElem_toArray, List.getElem_cons_succ, List.getElem_cons_zero, Array.getInternal_eq_getElem, List.setIfInBounds_toArray, List.set_cons_zero, List.set_cons_succ]
            refine wpAnyH_take (i := 9) (v := ?_) rfl (by kernel_rfl) (by kernel_rfl) (by kernel_rfl) (fun _ _ _ h => h) (Or.inl ⟨by rfl, ?_⟩) hHeld ?_
            rotate_left
            · intro w hSw
              try dsimp only at hSw
              go_simp
              try with_reducible rfl
            try simp only [Act.put, List.getElem_toArray, List.getElem_cons_succ, List.getElem_cons_zero, Array.getInternal_eq_getElem, List.setIfInBounds_toArray, List.set_cons_zero, List.set_cons_succ]
            refine wpAnyH_take (i := 10) (v := ?_) rfl (by kernel_rfl) (by kernel_rfl) (by kernel_rfl) (fun _ _ _ h => h) (Or.inl ⟨by rfl, ?_⟩) hHeld ?_
            rotate_left
            · intro w hSw
              try dsimp only at hSw
              go_simp
              try with_reducible rfl
            try simp only [Act.put, List.getElem_toArray, List.getElem_cons_succ, List.getElem_cons_zero, Array.getInternal_eq_getElem, List.setIfInBounds_toArray, List.set_cons_zero, List.set_cons_succ]
            refine wpAnyH_take (i := 11) (v := ?_) rfl (by kernel_rfl) (by kernel_rfl) (by kernel_rfl) (fun _ _ _ h => h) (Or.inl ⟨by rfl, ?_⟩) hHeld ?_
            rotate_left
            · intro w hSw
              try dsimp only at hSw
              go_simp
              try with_reducible rfl
            try simp only [Act.put, List.getElem_toArray, List.getElem_cons_succ, List.getElem_cons_zero, Array.getInternal_eq_getElem, List.setIfInBounds_toArray, List.set_cons_zero, List.set_cons_succ]
            refine wpAnyH_take (i := 12) (v := ?_) rfl (by kernel_rfl) (by kernel_rfl) (by kernel_rfl) (fun _ _ _ h => h) (Or.inl ⟨by rfl, ?_⟩) hHeld ?_
            rotate_left
            · intro w hSw
              try dsimp only at hSw
              go_simp
              try with_reducible rfl
            try simp only [Act.put, List.getElem_toArray, List.getElem_cons_succ, List.getElem_cons_zero, Array.getInternal_eq_getElem, List.setIfInBounds_toArray, List.set_cons_zero, List.set_cons_succ]
            refine wpAnyH_take (i := 13) (v := ?_) rfl (by kernel_rfl) (by kernel_rfl) (by kernel_rfl) (fun _ _ _ h => h) (Or.inl ⟨by rfl, ?_⟩) hHeld ?_
            rotate_left
            · intro w hSw
              try dsimp only at hSw
              go_simp
              try with_reducible rfl
            try simp only [Act.put, List.getElem_toArray, List.getElem_cons_succ, List.getElem_cons_zero, Array.getInternal_eq_getElem, List.setIfInBounds_toArray, List.set_cons_zero, List.set_cons_succ]
            refine wpAnyH_take (i := 14) (v := ?_) rfl (by kernel_rfl) (by kernel_rfl) (by kernel_rfl) (fun _ _ _ h => h) (Or.inl ⟨by rfl, ?_⟩) hHeld ?_
            rotate_left
            · intro w hSw
              try dsimp only at hSw
              go_simp
              try with_reducible rfl
            try simp only [Act.put, List.getElem_toArray, List.getElem_cons_succ, List.getElem_cons_zero, Array.getInternal_eq_getElem, List.setIfInBounds_toArray, List.set_cons_zero, List.set_cons_succ]
            refine wpAnyH_ready (rs := [4, 15]) (by kernel_rfl) (by simp) ?_
            refine AllReadyH.cons rfl (fun K hK => ?_) ?_
            · skip
              go_simp
              refine hK.out _ _ ⟨k0, k1, k2⟩ (fun hHeld => ?_)
              clear hK K
              try simp only [Act.put, List.getElem_toArray, List.getElem_cons_succ, List.getElem_cons_zero, Array.getInternal_eq_getElem, List.setIfInBounds_toArray, List.set_cons_zero, List.set_cons_succ]
              refine wpAnyH_ready (rs := [15]) (by kernel_rfl) (by simp) ?_
              refine AllReadyH.cons rfl (fun K hK => ?_) (AllReadyH.nil)
              go_simp
              have hA : Below W4.heap.size W4 (W4.drew.alloc (.cells #[.string ek.user, .int .u64 (ek.seq : Int), .int .i64 ek.kind, .int .i64 (x : Int), .int .i64 (y : Int)] TRP)) := (Below.refl _ _).drew.alloc (Nat.le_refl _) _
              obtain ⟨k0, k1, k2, _⟩ := HKC.out _ (H8.out.call hA).ks
              have z2 : (W4.drew.alloc (.cells #[.string ek.user, .int .u64 (ek.seq : Int), .int .i64 ek.kind, .int .i64 (x : Int), .int .i64 (y : Int)] TRP)).cell? ⟨q, 2, none⟩ = some (.slice al nl cl) := (H8.out.call hA).bx.cell 2
              clear hA hHeld
              refine hK.out _ _ ⟨k0, k1, k2⟩ (fun hHeld => ?_)
              clear hK K
              try simp only [Act.put, List.getElem_toArray, List.getElem_cons_succ, List.getElem_cons_zero, Array.getInternal_eq_getElem, List.setIfInBounds_toArray, List.set_cons_zero, List.set_cons_succ]
              refine wpAnyH_ready (rs := [16]) (by kernel_rfl) (by simp) ?_
              refine AllReadyH.cons rfl (fun K hK => ?_) (AllReadyH.nil)
              refine step_pushP W4.drew rfl (.tmp 215) (.tmp 226) rfl w.heap.size al nl cl pl (by simp [Act.eval]) (H8.out.call (Below.refl _ _).drew).ow ⟨ek, x, y⟩ _ HCV.out W4.drew.heap.size rfl (by simp [Act.eval]) (by omega) H8.out.base.size ?_
              intro a9 c9 w9 ho9 hb9 hg9
              have HU : Hid (Box w9 q TRT #[.slice a n c, .slice af fn (c - fa), .slice al nl cl, .int .u64 (cnt : Int)] ∧ RO w (w9.setCell ⟨q, 2, none⟩ (.slice a9 (nl + 1) c9)) q a n c af fn (c - fa) cnt a9 (nl + 1) c9 (pl ++ [⟨ek, x, y⟩]) ag m cg l ∧ OwnK w9 w.heap.size ag m cg l) := by
                obtain ⟨h1, h2⟩ := (H8.out.call (Below.refl _ _).drew).push _ ho9 hb9 hg9
                refine ⟨h1, h2, (H8.out.call (Below.refl _ _).drew).ks.kept fun j e => ?_⟩
                have ht := (H8.out.call (Below.refl _ _).drew).ks.tag e
                have hl := tag_lt ht
                rw [hg9.block j (by simp at hl ⊢; omega) (fun e => by have h1 := (H8.out.call (Below.refl _ _).drew).ow.tag e.symm; rw [ht] at h1; cases h1)]
                exact Below.heap_alloc _ _ j hl
              obtain ⟨k0, k1, k2, _⟩ := HKC.out w9 HU.out.2.2
              have b9 : w9.cell? ⟨q, 2, none⟩ = some (.slice al nl cl) := HU.out.1.cell 2
              have f9 := HU.out.1.soft 2
              clear ho9 hb9 hg9 hHeld
              refine hK.out _ _ ⟨k0, k1, k2⟩ (fun hHeld => ?_)
              clear hK K
              try simp only [Act.put, List.getElem_toArray, List.getElem_cons_succ, List.getElem_cons_zero, Array.getInternal_eq_getElem, List.setIfInBounds_toArray, List.set_cons_zero, List.set_cons_succ]
              refine wpAnyH_take (i := 17) (v := ?_) rfl (by kernel_rfl) (by kernel_rfl) (by kernel_rfl) (fun _ _ _ h => h) (Or.inl ⟨by rfl, ?_⟩) hHeld ?_
              rotate_left
              · intro w hSw
                try dsimp only at hSw
                go_simp
                try with_reducible rfl
              try simp only [Act.put, List.getElem_toArray, List.getElem_cons_succ, List.getElem_cons_zero, Array.getInternal_eq_getElem, List.setIfInBounds_toArray, List.set_cons_zero, List.set_cons_succ]
              refine wpAnyH_take (i := 18) (v := ?_) rfl (by kernel_rfl) (by kernel_rfl) (by kernel_rfl) (fun _ _ _ h => h) (Or.inl ⟨by rfl, ?_⟩) hHeld ?_
              rotate_left
              · intro w hSw
                try dsimp only at hSw
                go_simp
                try with_reducible rfl
              try simp only [Act.put, List.getElem_toArray, List.getElem_cons_succ, List.getElem_cons_zero, Array.getInternal_eq_getElem, List.setIfInBounds_toArray, List.set_cons_zero, List.set_cons_succ]
              refine wpAnyH_ready (rs := [19]) (by kernel_rfl) (by simp) ?_
              refine AllReadyH.cons rfl (fun K hK => ?_) (AllReadyH.nil)
              go_simp
              generalize w9.setCell ⟨q, 2, none⟩ (.slice a9 (nl + 1) c9) = W5 at *
              obtain ⟨k0, k1, k2, _⟩ := HKC.out W5 HU.out.2.1.ks
              clear hHeld b9 f9
              refine hK.out _ _ ⟨k0, k1, k2⟩ (fun hHeld => ?_)
              clear hK K
              try simp only [Act.put, List.getElem_toArray, List.getElem_cons_succ, List.getElem_cons_zero, Array.getInternal_eq_getElem, List.setIfInBounds_toArray, List.set_cons_zero, List.set_cons_succ]
              refine wpAnyH_done (by kernel_rfl) (NoPanic.normal ?_) _
              have HZ : Hid (RO w W5 q a n c af fn (c - fa) cnt a9 (nl + 1) c9 (pl ++ [⟨ek, x, y⟩]) ag m cg l) := HU.out.2.1
              clear HU k0 k1 k2 hHeld
              go_wp2_with fail
              go_roundw
              case rel => exact ⟨k + 1, x + y + 4, nl + 1, c9, a9, hkm, htop, by omega, by go_num, by go_num, _, HRI.out, HZ.out⟩
              case measure => simp only [intOf]; omega
            refine AllReadyH.cons rfl (fun K hK => ?_) (AllReadyH.nil)
            · skip
              go_simp
              have hA : Below W4.heap.size W4 (W4.drew.alloc (.cells #[.string ek.user, .int .u64 (ek.seq : Int), .int .i64 ek.kind, .int .i64 (x : Int), .int .i64 (y : Int)] TRP)) := (Below.refl _ _).drew.alloc (Nat.le_refl _) _
              obtain ⟨k0, k1, k2, _⟩ := HKC.out _ (H8.out.call hA).ks
              have z2 : (W4.drew.alloc (.cells #[.string ek.user, .int .u64 (ek.seq : Int), .int .i64 ek.kind, .int .i64 (x : Int), .int .i64 (y : Int)] TRP)).cell? ⟨q, 2, none⟩ = some (.slice al nl cl) := (H8.out.call hA).bx.cell 2
              clear hA hHeld
              refine hK.out _ _ ⟨k0, k1, k2⟩ (fun hHeld => ?_)
              clear hK K
              try simp only [Act.put, List.getElem_toArray, List.getElem_cons_succ, List.getElem_cons_zero, Array.getInternal_eq_getElem, List.setIfInBounds_toArray, List.set_cons_zero, List.set_cons_succ]
              refine wpAnyH_ready (rs := [4]) (by kernel_rfl) (by simp) ?_
              refine AllReadyH.cons rfl (fun K hK => ?_) (AllReadyH.nil)
              go_simp
              refine hK.out _ _ ⟨k0, k1, k2⟩ (fun hHeld => ?_)
              clear hK K
              try simp only [Act.put, List.getElem_toArray, List.getElem_cons_succ, List.getElem_cons_zero, Array.getInternal_eq_getElem, List.setIfInBounds_toArray, List.set_cons_zero, List.set_cons_succ]
              refine wpAnyH_ready (rs := [16]) (by kernel_rfl) (by simp) ?_
              refine AllReadyH.cons rfl (fun K hK => ?_) (AllReadyH.nil)
              refine step_pushP W4.drew rfl (.tmp 215) (.tmp 226) rfl w.heap.size al nl cl pl (by simp [Act.eval]) (H8.out.call (Below.refl _ _).drew).ow ⟨ek, x, y⟩ _ HCV.out W4.drew.heap.size rfl (by simp [Act.eval]) (by omega) H8.out.base.size ?_
              intro a9 c9 w9 ho9 hb9 hg9
              have HU : Hid (Box w9 q TRT #[.slice a n c, .slice af fn (c - fa), .slice al nl cl, .int .u64 (cnt : Int)] ∧ RO w (w9.setCell ⟨q, 2, none⟩ (.slice a9 (nl + 1) c9)) q a n c af fn (c - fa) cnt a9 (nl + 1) c9 (pl ++ [⟨ek, x, y⟩]) ag m cg l ∧ OwnK w9 w.heap.size ag m cg l) := by
                obtain ⟨h1, h2⟩ := (H8.out.call (Below.refl _ _).drew).push _ ho9 hb9 hg9
                refine ⟨h1, h2, (H8.out.call (Below.refl _ _).drew).ks.kept fun j e => ?_⟩
                have ht := (H8.out.call (Below.refl _ _).drew).ks.tag e
                have hl := tag_lt ht
                rw [hg9.block j (by simp at hl ⊢; omega) (fun e => by have h1 := (H8.out.call (Below.refl _ _).drew).ow.tag e.symm; rw [ht] at h1; cases h1)]
                exact Below.heap_alloc _ _ j hl
              obtain ⟨k0, k1, k2, _⟩ := HKC.out w9 HU.out.2.2
              have b9 : w9.cell? ⟨q, 2, none⟩ = some (.slice al nl cl) := HU.out.1.cell 2
              have f9 := HU.out.1.soft 2
              clear ho9 hb9 hg9 hHeld
              refine hK.out _ _ ⟨k0, k1, k2⟩ (fun hHeld => ?_)
              clear hK K
              try simp only [Act.put, List.getElem_toArray, List.getElem_cons_succ, List.getElem_cons_zero, Array.getInternal_eq_getElem, List.setIfInBounds_toArray, List.set_cons_zero, List.set_cons_succ]
              refine wpAnyH_take (i := 17) (v := ?_) rfl (by kernel_rfl) (by kernel_rfl) (by kernel_rfl) (fun _ _ _ h => h) (Or.inl ⟨by rfl, ?_⟩) hHeld ?_
              rotate_left
              · intro w hSw
                try dsimp only at hSw
                go_simp
                try with_reducible rfl
              try simp only [Act.put, List.getElem_toArray, List.getElem_cons_succ, List.getElem_cons_zero, Array.getInternal_eq_getElem, List.setIfInBounds_toArray, List.set_cons_zero, List.set_cons_succ]
              refine wpAnyH_take (i := 18) (v := ?_) rfl (by kernel_rfl) (by kernel_rfl) (by kernel_rfl) (fun _ _ _ h => h) (Or.inl ⟨by rfl, ?_⟩) hHeld ?_
              rotate_left
              · intro w hSw
                try dsimp only at hSw
                go_simp
                try with_reducible rfl
              try simp only [Act.put, List.getElem_toArray, List.getElem_cons_succ, List.getElem_cons_zero, Array.getInternal_eq_getElem, List.setIfInBounds_toArray, List.set_cons_zero, List.set_cons_succ]
              refine wpAnyH_ready (rs := [19]) (by kernel_rfl) (by simp) ?_
              refine AllReadyH.cons rfl (fun K hK => ?_) (AllReadyH.nil)
              go_simp
              generalize w9.setCell ⟨q, 2, none⟩ (.slice a9 (nl + 1) c9) = W5 at *
              obtain ⟨k0, k1, k2, _⟩ := HKC.out W5 HU.out.2.1.ks
              clear hHeld b9 f9
              refine hK.out _ _ ⟨k0, k1, k2⟩ (fun hHeld => ?_)
              clear hK K
              try simp only [Act.put, List.getElem_toArray, List.getElem_cons_succ, List.getElem_cons_zero, Array.getInternal_eq_getElem, List.setIfInBounds_toArray, List.set_cons_zero, List.set_cons_succ]
              refine wpAnyH_done (by kernel_rfl) (NoPanic.normal ?_) _
              have HZ : Hid (RO w W5 q a n c af fn (c - fa) cnt a9 (nl + 1) c9 (pl ++ [⟨ek, x, y⟩]) ag m cg l) := HU.out.2.1
              clear HU k0 k1 k2 hHeld
              go_wp2_with fail
              go_roundw
              case rel => exact ⟨k + 1, x + y + 4, nl + 1, c9, a9, hkm, htop, by omega, by go_num, by go_num, _, HRI.out, HZ.out⟩
              case measure => simp only [intOf]; omega
          · obtain rfl : k = m := by omega
            have hdn := hri.done HM.out.symm
            have hbl : (b.take fa).length = fa := by rw [List.length_take, HB.out.2]; omega
            rw [hbl] at hdn
            by_cases hfa : at0 = fa
            · subst hfa
              have hg : ((at0 : Int) != (at0 : Int)) = false := by simp
              have hpl : pl.length = nl := hro.ow.size
              rw [if_pos rfl, plBl_take (by rw [HB.out.2]; omega) (hri.inb (by omega))] at hdn
              have hsl : (segB b at0 fn).length = fn := by unfold segB; rw [List.length_take, List.length_drop, HB.out.2]; omega
              have HE : Hid (openT b = .ok ⟨segB b at0 fn, plBl b pl, cnt⟩ ∧ RTb wr w.heap.size q a n c b at0 (segB b at0 fn).length cnt pl ∧ ∀ d ∈ pl, d.p + d.s + 4 ≤ n) := by
                refine ⟨by rw [HR2.out, hdn], ⟨hro.ge, af, al, c - at0, cl, ?_, ?_, ?_⟩, fun d hd => ?_⟩
                · rw [hsl, hpl]
                  exact hro.bx
                · rw [hpl]
                  exact hro.ow
                · rw [hsl]
                  exact HFL.out
                · have := hri.inb (by omega) d hd
                  omega
              have HB9 : Hid (Below w.heap.size w wr) := hro.base
              clear hri hro HRR hdn hsl hpl hbl
              go_wp2
              go_ret2
              exact ⟨HB9.out, .inr ⟨⟨segB b at0 fn, plBl b pl, cnt⟩, q, at0, pl, HE.out.1, ret2 rfl rfl, HE.out.2.1, by rw [show (segB b at0 fn).length = fn by unfold segB; rw [List.length_take, List.length_drop, HB.out.2]; omega], rfl, HE.out.2.2⟩⟩
            · have hg : ((at0 : Int) != (fa : Int)) = true := by rw [bne_iff_ne]; omega
              have HE : Hid (openT b = .error 121) := by
                unfold Hid
                rw [HR2.out, hdn, if_neg hfa]
              have HB9 : Hid (Below w.heap.size w wr) := hro.base
              clear hri hro HRR hdn hfa hbl
              go_wp2
              go_ret2
              exact ⟨HB9.out, .inl ⟨121, HE.out, ret2 rfl rfl⟩⟩
end Go.Proofs.YtgegjcnjlibfdaaGreat
