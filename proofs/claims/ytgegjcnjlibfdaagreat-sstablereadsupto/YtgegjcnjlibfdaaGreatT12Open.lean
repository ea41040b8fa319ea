/- A table in memory; the contract of sstable's Open. -/
import Derived.Test.YtgegjcnjlibfdaaGreatT12StoredB
import Derived.Test.YtgegjcnjlibfdaaGreatT12FootOf
namespace Go.Proofs.YtgegjcnjlibfdaaGreat
set_option maxRecDepth 100000
open Go.RowKit
set_option linter.unusedVariables false
set_option linter.unusedSimpArgs false
theorem OwnD.less {w : World} {B : Nat} {a : Option Addr} {n c : Nat} {l : List SD} (h : OwnD w B a n c l) {B' : Nat} (hB : B' ≤ B) : OwnD w B' a n c l := by
  refine ⟨h.size, h.row.1, ?_⟩
  rcases h.row.2 with hn | ⟨g, c, cur, hv, hb, rest⟩
  · exact .inl hn
  · exact .inr ⟨g, c, cur, hv, Nat.le_trans hB hb, rest⟩
abbrev TTb : TypeId := 81
structure TbAt (W : World) (B p : Nat) (T : TD) : Prop where
  ge : B ≤ p
  here : ∃ (ab af ar : Option Addr) (nb cb cf cr : Nat) (body : List UInt8) (ds : List SD), Box W p TTb #[.slice af T.filter.length cf, .slice ar T.blocks.length cr, .int .u64 (T.told : Int)] ∧ OwnB W B af T.filter.length cf T.filter ∧ OwnB W B ab nb cb body ∧ OwnD W B ar T.blocks.length cr ds ∧ blsOf ds = T.blocks ∧ (∀ d ∈ ds, 4 ≤ d.p.length ∧ Part ab nb cb body d.a d.p.length d.p.length d.p) ∧ nb ≤ 3000000
  rise : T.blocks.Pairwise (fun x y => x.2.cmp y.2 < 0)
  told : T.told < 4294967296
  small : T.filter.length ≤ 3000000 ∧ T.blocks.length ≤ 750000
  parts : ∀ x ∈ T.blocks, x.1.length ≤ 3000000
theorem TbAt.keep {W W' : World} {B p : Nat} {T : TD} (h : TbAt W B p T) (hk : ∀ k, B ≤ k → k < W.heap.size → W'.heap[k]? = W.heap[k]?) : TbAt W' B p T := by
  obtain ⟨ab, af, ar, nb, cb, cf, cr, body, ds, h1, h2, h3, h4, h5, h6, h7⟩ := h.here
  exact ⟨h.ge, ⟨ab, af, ar, nb, cb, cf, cr, body, ds, h1.kept (hk _ h.ge h1.lt), h2.kept (fun k e => hk k (h2.ge e) (tag_lt (h2.tag e))), h3.kept (fun k e => hk k (h3.ge e) (tag_lt (h3.tag e))), h4.kept (fun k e => hk k (h4.ge e) (tag_lt (h4.tag e))), h5, h6, h7⟩, h.rise, h.told, h.small, h.parts⟩
theorem TbAt.below {W W' : World} {B p : Nat} {T : TD} (h : TbAt W B p T) (hb : Below W.heap.size W W') : TbAt W' B p T := h.keep fun k _ hk => hb.block k hk
theorem idx_len : ∀ (l : List KV) (body : List UInt8) (at0 : Nat) (bl : List (List UInt8 × IK)), idxGo body at0 l = some bl → at0 + 4 * bl.length ≤ body.length
  | [], body, at0, bl, h => by
    unfold idxGo at h
    split at h
    · cases h
      simp
      omega
    · cases h
  | e :: r, body, at0, bl, h => by
    unfold idxGo at h
    split at h
    · cases h
    · split at h
      · obtain ⟨bl2, h2, rfl⟩ := Option.map_eq_some_iff.1 h
        have := idx_len r body _ bl2 h2
        simp
        omega
      · cases h
theorem idxT_len {body ix : List UInt8} {bl : List (List UInt8 × IK)} (h : idxT body ix = some bl) : 4 * bl.length ≤ body.length := by
  unfold idxT at h
  split at h
  · cases h
  · split at h
    · cases h
    · have := idx_len _ _ _ _ h
      omega
theorem idx_small : ∀ (l : List KV) (body : List UInt8) (at0 : Nat) (bl : List (List UInt8 × IK)), idxGo body at0 l = some bl → ∀ x ∈ bl, x.1.length ≤ body.length
  | [], body, at0, bl, h => by
    unfold idxGo at h
    split at h
    · cases h
      simp
    · cases h
  | e :: r, body, at0, bl, h => by
    unfold idxGo at h
    split at h
    · cases h
    · split at h
      · obtain ⟨bl2, h2, rfl⟩ := Option.map_eq_some_iff.1 h
        intro x hx
        rcases List.mem_cons.1 hx with rfl | hx
        · simp [segB]
          omega
        · exact idx_small r body _ bl2 h2 x hx
      · cases h
theorem idxT_small {body ix : List UInt8} {bl : List (List UInt8 × IK)} (h : idxT body ix = some bl) : ∀ x ∈ bl, x.1.length ≤ body.length := by
  unfold idxT at h
  split at h
  · cases h
  · split at h
    · cases h
    · exact idx_small _ _ _ _ h
theorem openT_1 {b : List UInt8} (h : footOk b = false) : openT b = .error 121 := by unfold openT; rw [if_pos h]
theorem openT_2 {b : List UInt8} (h : footOk b = true) (h2 : okP (segB b (ftAt b).fa ((ftAt b).fn + 4)) = false) : openT b = .error 122 := by unfold openT; rw [if_neg (by rw [h]; simp), if_pos h2]
theorem openT_3 {b : List UInt8} (h : footOk b = true) (h2 : okP (segB b (ftAt b).fa ((ftAt b).fn + 4)) = true) (h3 : okP (segB b (ftAt b).xa ((ftAt b).xn + 4)) = false) : openT b = .error 122 := by unfold openT; rw [if_neg (by rw [h]; simp), if_neg (by rw [h2]; simp), if_pos h3]
theorem openT_45 {b : List UInt8} (h : footOk b = true) (h2 : okP (segB b (ftAt b).fa ((ftAt b).fn + 4)) = true) (h3 : okP (segB b (ftAt b).xa ((ftAt b).xn + 4)) = true) :
    openT b = match idxT (b.take (ftAt b).fa) (segB b (ftAt b).xa (ftAt b).xn) with
      | none => .error 121
      | some bl => .ok ⟨segB b (ftAt b).fa (ftAt b).fn, bl, (ftAt b).cnt⟩ := by
  unfold openT idxT
  rw [if_neg (by rw [h]; simp), if_neg (by rw [h2]; simp), if_neg (by rw [h3]; simp)]
  cases openP (segB b (ftAt b).xa (ftAt b).xn) with
  | none => rfl
  | some z =>
    dsimp only
    split <;> rfl
theorem seg_body {b : List UInt8} {i n : Nat} (h : i + n + 4 ≤ b.length) : bodyB (segB b i (n + 4)) = segB b i n := by
  unfold bodyB segB
  rw [List.length_take, List.length_drop, List.take_take, Nat.min_eq_left (by omega : n + 4 ≤ b.length - i), Nat.add_sub_cancel, Nat.min_eq_left (by omega)]
set_option maxHeartbeats 8000000 in
theorem open12_any {a : Option Addr} {n c : Nat} {b : List UInt8} {w : World} (h : BsAt w a n c b) (hn : n ≤ 3000000) :
    Calls Tryz.prog 13 #[.slice a n c] w fun r w' => Below w.heap.size w w' ∧ ((∃ er, openT b = .error er ∧ r = .returned (.tuple #[.pointer none, .int .i64 ((er : Nat) : Int)])) ∨ ∃ T p, openT b = .ok T ∧ r = .returned (.tuple #[at_ p, .int .i64 0]) ∧ TbAt w' w.heap.size p T) := by
  have HB : Hid (BsAt w a n c b ∧ b.length = n) := ⟨h, h.size⟩
  have hfo := footOf_any h (by omega)
  clear h
  go_enter Tryz.func13, Tryz.ntmps13
  go_wp2_with fail
  refine hfo.mono ?_
  rintro _ w1 ⟨f, rfl, hf, hb1⟩
  unfold fv
  clear hfo
  cases hok : footOk b with
  | false =>
    have H1 : Hid (Below w.heap.size w w1 ∧ footOk b = false) := ⟨hb1, hok⟩
    clear hf hok hb1
    go_wp2
    go_ret2
    exact ⟨H1.out.1.alloc H1.out.1.size _, .inl ⟨121, openT_1 H1.out.2, ret2 rfl rfl⟩⟩
  | true =>
    have HOK : Hid (footOk b = true) := hok
    have hfe := hf hok
    have hfo2 : (ftAt b).fa + (ftAt b).fn + 4 = (ftAt b).xa ∧ (ftAt b).xa + (ftAt b).xn + 4 = n - 28 ∧ 28 ≤ n := by
      have := of_decide_eq_true hok
      rw [HB.out.2] at this
      exact ⟨this.2.2.1, this.2.2.2, this.1⟩
    have HT : Hid ((ftAt b).cnt < 4294967296) := num4_lt _ _
    have HO : Hid (∀ y, openT b = y ↔ openT b = y) := fun y => Iff.rfl
    have HE2 : Hid (okP (segB b (ftAt b).fa ((ftAt b).fn + 4)) = false → openT b = .error 122) := openT_2 hok
    have HE3 : Hid (okP (segB b (ftAt b).fa ((ftAt b).fn + 4)) = true → okP (segB b (ftAt b).xa ((ftAt b).xn + 4)) = false → openT b = .error 122) := openT_3 hok
    have HE4 : Hid (okP (segB b (ftAt b).fa ((ftAt b).fn + 4)) = true → okP (segB b (ftAt b).xa ((ftAt b).xn + 4)) = true → openT b = match idxT (b.take (ftAt b).fa) (segB b (ftAt b).xa (ftAt b).xn) with
      | none => .error 121
      | some bl => .ok ⟨segB b (ftAt b).fa (ftAt b).fn, bl, (ftAt b).cnt⟩) := openT_45 hok
    rw [← hfe] at HE2 HE3 HE4 HT hfo2
    clear hf hfe hok HO
    obtain ⟨fa, fn, xa, xn, cnt⟩ := f
    dsimp only at HE2 HE3 HE4 HT hfo2 ⊢
    obtain ⟨e1, e2, e3⟩ := hfo2
    have l1 : fa + fn + 4 ≤ n := by omega
    have l2 : xa + xn + 4 ≤ n := by omega
    have lfa : fa ≤ n := by omega
    have lfn : fn ≤ n := by omega
    have lxn : xn ≤ n := by omega
    clear e1 e2 e3
    have H1 : Hid (Below w.heap.size w (w1.alloc (.cells #[.int .u64 (fa : Int), .int .u64 (fn : Int), .int .u64 (xa : Int), .int .u64 (xn : Int), .int .u64 (cnt : Int)] TFt)) ∧ Box (w1.alloc (.cells #[.int .u64 (fa : Int), .int .u64 (fn : Int), .int .u64 (xa : Int), .int .u64 (xn : Int), .int .u64 (cnt : Int)] TFt)) w1.heap.size TFt #[.int .u64 (fa : Int), .int .u64 (fn : Int), .int .u64 (xa : Int), .int .u64 (xn : Int), .int .u64 (cnt : Int)]) := ⟨hb1.alloc hb1.size _, Box.new _ _ _⟩
    clear hb1
    go_wp2_with fail
    generalize w1.alloc (.cells #[.int .u64 (fa : Int), .int .u64 (fn : Int), .int .u64 (xa : Int), .int .u64 (xn : Int), .int .u64 (cnt : Int)] TFt) = W1 at *
    generalize w1.heap.size = g at *
    refine (part_any fa fn (HB.out.1.below (Nat.le_refl _) H1.out.1) l1).mono ?_
    rintro _ w2 ⟨a2, rfl, hp2, hb2⟩
    have H2 : Hid (Below w.heap.size w w2 ∧ Box w2 g TFt #[.int .u64 (fa : Int), .int .u64 (fn : Int), .int .u64 (xa : Int), .int .u64 (xn : Int), .int .u64 (cnt : Int)] ∧ Part a n c b a2 (fn + 4) (fn + 4) (segB b fa (fn + 4))) := ⟨H1.out.1.trans (hb2.mono H1.out.1.size), H1.out.2.kept (hb2.block _ H1.out.2.lt), hp2⟩
    clear hp2 hb2
    go_wp2_with fail
    refine (body_any (H2.out.2.2 _ (HB.out.1.below (Nat.le_refl _) H2.out.1)) (by omega)).mono ?_
    rintro _ w3 ⟨a3, rfl, hp3, hb3⟩
    rw [Nat.add_sub_cancel] at hp3
    have H3 : Hid (Below w.heap.size w w3 ∧ Box w3 g TFt #[.int .u64 (fa : Int), .int .u64 (fn : Int), .int .u64 (xa : Int), .int .u64 (xn : Int), .int .u64 (cnt : Int)] ∧ ∀ V, Below w.heap.size w V → BsAt V a3 fn fn (segB b fa fn)) := by
      refine ⟨H2.out.1.trans (hb3.mono H2.out.1.size), H2.out.2.1.kept (hb3.block _ H2.out.2.1.lt), fun V hV => ?_⟩
      have := hp3 V (H2.out.2.2 V (HB.out.1.below (Nat.le_refl _) hV))
      rw [seg_body (by rw [HB.out.2]; exact l1)] at this
      exact this
    clear hp3 hb3
    simp only [Nat.add_sub_cancel]
    cases hk1 : okP (segB b fa (fn + 4)) with
    | false =>
      have HR : Hid (openT b = .error 122) := HE2.out hk1
      clear hk1
      go_wp2
      go_ret2
      exact ⟨H3.out.1, .inl ⟨122, HR.out, ret2 rfl rfl⟩⟩
    | true =>
      have HK1 : Hid (okP (segB b fa (fn + 4)) = true) := hk1
      clear hk1
      have c2 : w3.cell? ⟨g, 2, none⟩ = some (.int .u64 (xa : Int)) := H3.out.2.1.cell 2
      have c3 : w3.cell? ⟨g, 3, none⟩ = some (.int .u64 (xn : Int)) := H3.out.2.1.cell 3
      go_wp2_with fail
      refine (part_any xa xn (HB.out.1.below (Nat.le_refl _) H3.out.1) l2).mono ?_
      rintro _ w4 ⟨a4, rfl, hp4, hb4⟩
      have H4 : Hid (Below w.heap.size w w4 ∧ Box w4 g TFt #[.int .u64 (fa : Int), .int .u64 (fn : Int), .int .u64 (xa : Int), .int .u64 (xn : Int), .int .u64 (cnt : Int)] ∧ Part a n c b a4 (xn + 4) (xn + 4) (segB b xa (xn + 4))) := ⟨H3.out.1.trans (hb4.mono H3.out.1.size), H3.out.2.1.kept (hb4.block _ H3.out.2.1.lt), hp4⟩
      clear hp4 hb4 c2 c3
      go_wp2_with fail
      refine (body_any (H4.out.2.2 _ (HB.out.1.below (Nat.le_refl _) H4.out.1)) (by omega)).mono ?_
      rintro _ w5 ⟨a5, rfl, hp5, hb5⟩
      rw [Nat.add_sub_cancel] at hp5
      have H5 : Hid (Below w.heap.size w w5 ∧ Box w5 g TFt #[.int .u64 (fa : Int), .int .u64 (fn : Int), .int .u64 (xa : Int), .int .u64 (xn : Int), .int .u64 (cnt : Int)] ∧ ∀ V, Below w.heap.size w V → BsAt V a5 xn xn (segB b xa xn)) := by
        refine ⟨H4.out.1.trans (hb5.mono H4.out.1.size), H4.out.2.1.kept (hb5.block _ H4.out.2.1.lt), fun V hV => ?_⟩
        have := hp5 V (H4.out.2.2 V (HB.out.1.below (Nat.le_refl _) hV))
        rw [seg_body (by rw [HB.out.2]; exact l2)] at this
        exact this
      clear hp5 hb5
      simp only [Nat.add_sub_cancel]
      cases hk2 : okP (segB b xa (xn + 4)) with
      | false =>
        have HR : Hid (openT b = .error 122) := HE3.out HK1.out hk2
        clear hk2
        go_wp2
        go_ret2
        exact ⟨H5.out.1, .inl ⟨122, HR.out, ret2 rfl rfl⟩⟩
      | true =>
        have HR4 := HE4.out HK1.out hk2
        have HRR : Hid (openT b = match idxT (b.take fa) (segB b xa xn) with
          | none => .error 121
          | some bl => .ok ⟨segB b fa fn, bl, cnt⟩) := HR4
        clear HR4 hk2 HE2 HE3 HE4
        obtain ⟨a6, hs6, hq6⟩ := slice_to_u HB.out.1 fa lfa
        have hcl := clone_any a6 fa c (b.take fa) w5 ((hq6 _ _ HB.out.1).below (Nat.le_refl _) H5.out.1) (by omega)
        have c0 : w5.cell? ⟨g, 0, none⟩ = some (.int .u64 (fa : Int)) := H5.out.2.1.cell 0
        clear hq6
        go_wp2_with fail
        refine hcl.mono ?_
        rintro _ w6 ⟨a7, c7, rfl, ho6, hb6⟩
        have H6 : Hid (Below w.heap.size w w6 ∧ Box w6 g TFt #[.int .u64 (fa : Int), .int .u64 (fn : Int), .int .u64 (xa : Int), .int .u64 (xn : Int), .int .u64 (cnt : Int)] ∧ OwnB w6 w.heap.size a7 fa c7 (b.take fa)) := ⟨H5.out.1.trans (hb6.mono H5.out.1.size), H5.out.2.1.kept (hb6.block _ H5.out.2.1.lt), ho6.mono H5.out.1.size⟩
        clear hcl ho6 hb6 c0
        go_wp2_with fail
        refine (stored_any H6.out.2.2.bs (H5.out.2.2 _ H6.out.1) (by omega) (by omega)).mono ?_
        rintro _ w7 ⟨hb7, ⟨hno, v, rfl⟩ | ⟨bl, a8, c8, ds, hyes, rfl, ho7, hds, hpa, hri⟩⟩
        · have H7 : Hid (Below w.heap.size w w7 ∧ openT b = .error 121) := ⟨H6.out.1.trans (hb7.mono H6.out.1.size), by rw [HRR.out, hno]⟩
          clear hno hb7
          go_wp2
          go_ret2
          exact ⟨H7.out.1, .inl ⟨121, H7.out.2, ret2 rfl rfl⟩⟩
        · have H7 : Hid (Below w.heap.size w w7 ∧ Box w7 g TFt #[.int .u64 (fa : Int), .int .u64 (fn : Int), .int .u64 (xa : Int), .int .u64 (xn : Int), .int .u64 (cnt : Int)] ∧ OwnB w7 w.heap.size a7 fa c7 (b.take fa) ∧ openT b = .ok ⟨segB b fa fn, bl, cnt⟩ ∧ OwnD w7 w.heap.size a8 bl.length c8 ds ∧ blsOf ds = bl ∧ (∀ d ∈ ds, 4 ≤ d.p.length ∧ Part a7 fa c7 (b.take fa) d.a d.p.length d.p.length d.p) ∧ bl.Pairwise (fun x y => x.2.cmp y.2 < 0)) := ⟨H6.out.1.trans (hb7.mono H6.out.1.size), H6.out.2.1.kept (hb7.block _ H6.out.2.1.lt), H6.out.2.2.below hb7, by rw [HRR.out, hyes], ho7.less H6.out.1.size, hds, hpa, hri⟩
          have HBL0 : Hid (4 * bl.length ≤ fa) := by
            have h1 := idxT_len hyes
            rw [List.length_take, HB.out.2] at h1
            unfold Hid
            omega
          have HSM : Hid (∀ x ∈ bl, x.1.length ≤ 3000000) := fun x hx => by
            have h1 := idxT_small hyes x hx
            rw [List.length_take, HB.out.2] at h1
            omega
          clear hyes hb7 ho7 hds hpa hri
          have HCL : Hid (∀ V, Below w.heap.size w V → Calls Tryz.prog 36 #[.slice a3 fn fn] V fun e w' => ∃ a' c', e = .returned (.slice a' fn c') ∧ OwnB w' V.heap.size a' fn c' (segB b fa fn) ∧ Below V.heap.size V w') := fun V hV => clone_any a3 fn fn (segB b fa fn) V (H3.out.2.2 V hV) (by omega)
          go_wp2_with fail
          have HSG : Hid ((segB b fa fn).length = fn) := by
            unfold Hid segB
            rw [List.length_take, List.length_drop, HB.out.2]
            omega
          have HBLE : Hid (bl.length ≤ 750000) := by
            unfold Hid
            have := HBL0.out
            omega
          have c4 : w7.drew.cell? ⟨g, 4, none⟩ = some (.int .u64 (cnt : Int)) := H7.out.2.1.cell 4
          go_region_held3 (fun V => V.cell? ⟨g, 4, none⟩ = some (.int .u64 (cnt : Int))) (first | with_reducible exact c4 | go_keep)
            (first
             | (go_at_call 36; refine (HCL.out _ H7.out.1.drew).mono ?_; rintro _ w8 ⟨a9, c9, rfl, ho8, hb80⟩
                have hb8 : Below w7.heap.size w7 w8 := (Below.refl _ _).drew.trans hb80
                have H8 : Hid (Below w.heap.size w w8 ∧ Box w8 g TFt #[.int .u64 (fa : Int), .int .u64 (fn : Int), .int .u64 (xa : Int), .int .u64 (xn : Int), .int .u64 (cnt : Int)] ∧ OwnB w8 w.heap.size a7 fa c7 (b.take fa) ∧ OwnD w8 w.heap.size a8 bl.length c8 ds ∧ OwnB w8 w.heap.size a9 fn c9 (segB b fa fn)) := ⟨H7.out.1.trans (hb8.mono H7.out.1.size), H7.out.2.1.kept (hb8.block _ H7.out.2.1.lt), H7.out.2.2.1.below hb8, H7.out.2.2.2.2.1.below hb8, ho8.mono H7.out.1.size⟩
                have c4 : w8.cell? ⟨g, 4, none⟩ = some (.int .u64 (cnt : Int)) := H8.out.2.1.cell 4
                clear hb8 hb80 ho8))
          go_wp2
          go_ret2
          refine ⟨H8.out.1.alloc H8.out.1.size _, .inr ⟨⟨segB b fa fn, bl, cnt⟩, w8.heap.size, H7.out.2.2.2.1, ret2 rfl rfl, H8.out.1.size, ⟨a7, a9, a8, fa, c7, c9, c8, b.take fa, ds, ?_, ?_, H8.out.2.2.1.alloc _, H8.out.2.2.2.1.alloc _, H7.out.2.2.2.2.2.1, H7.out.2.2.2.2.2.2.1, by omega⟩, H7.out.2.2.2.2.2.2.2, HT.out, (by rw [HSG.out]; exact ⟨by omega, HBLE.out⟩), HSM.out⟩⟩
          · dsimp only
            rw [HSG.out]
            exact Box.new _ _ _
          · dsimp only
            rw [HSG.out]
            exact H8.out.2.2.2.2.alloc _
end Go.Proofs.YtgegjcnjlibfdaaGreat
