/- The contract of the document's own reading of a block of a table. -/
import Derived.Test.YtgegjcnjlibfdaaGreatR12Open
import Derived.Deep.DeepCutAuto
namespace Go.Proofs.YtgegjcnjlibfdaaGreat
set_option maxRecDepth 100000
open Go.RowKit
set_option linter.unusedVariables false
set_option linter.unusedSimpArgs false
theorem RTb.cells {W : World} {B q : Nat} {a : Option Addr} {n c : Nat} {b : List UInt8} {fa fn cnt : Nat} {pl : List PlR} (h : RTb W B q a n c b fa fn cnt pl) : ∃ (af al : Option Addr) (cf cl : Nat), W.cell? ⟨q, 0, none⟩ = some (.slice a n c) ∧ W.cell? ⟨q, 1, none⟩ = some (.slice af fn cf) ∧ W.cell? ⟨q, 2, none⟩ = some (.slice al pl.length cl) ∧ W.cell? ⟨q, 3, none⟩ = some (.int .u64 (cnt : Int)) ∧ OwnP W B al pl.length cl pl ∧ (∀ V, BsAt V a n c b → BsAt V af fn cf (segB b fa fn)) ∧ q < W.heap.size := by
  obtain ⟨af, al, cf, cl, h1, h2, h3⟩ := h.here
  exact ⟨af, al, cf, cl, h1.cell 0, h1.cell 1, h1.cell 2, h1.cell 3, h2, h3, h1.lt⟩
set_option maxHeartbeats 8000000 in
theorem rread12 {W : World} {B q : Nat} {a : Option Addr} {n c : Nat} {b : List UInt8} {fa fn cnt : Nat} {pl : List PlR} (h : RTb W B q a n c b fa fn cnt pl) (hb : BsAt W a n c b) (hn : n ≤ 3000000) {i : Nat} (hi : i < pl.length) (hin : ∀ d ∈ pl, d.p + d.s + 4 ≤ n) :
    Calls Tryz.prog 44 #[at_ q, .int .i64 (i : Int)] W fun r w' => Below W.heap.size W w' ∧ ((∃ er, readS (segB b pl[i].p (pl[i].s + 4)) pl[i].k = .error er ∧ er ≠ 0 ∧ r = .returned (.tuple #[.slice none 0 0, .int .i64 ((er : Nat) : Int)])) ∨ ∃ l a' c', readS (segB b pl[i].p (pl[i].s + 4)) pl[i].k = .ok l ∧ 0 < l.length ∧ 3 * l.length ≤ n ∧ r = .returned (.tuple #[.slice a' l.length c', .int .i64 0]) ∧ KsAt w' a' l.length c' l ∧ chkL l = 0) := by
  have hsz := hb.size
  have hcm := hb.max
  have hle := hb.le
  unfold maxLen at hcm
  obtain ⟨af, al, cf, cl, t0, _, t2, _, how, _, hql⟩ := h.cells
  obtain ⟨g, hal, d0, d1, d2, d3, d4⟩ := how.cells5 hi
  have hix := fun V => idxP V (a := al) (b := g) (n := pl.length) (c := cl) hal hi
  have hd := hin pl[i] (List.getElem_mem hi)
  obtain ⟨m, HM⟩ : ∃ m, Hid (pl.length = m) := ⟨_, (rfl : pl.length = pl.length)⟩
  have HR : Hid (RTb W B q a n c b fa fn cnt pl ∧ BsAt W a n c b ∧ b.length = n) := ⟨h, hb, hsz⟩
  rw [HM.out] at t2 hix
  generalize pl[i] = d at *
  obtain ⟨dk, dp, ds⟩ := d
  dsimp only at d0 d1 d2 d3 d4 hd ⊢
  have hgl : g < W.heap.size := World.block_lt_of_cell? W _ d0
  have H0 : Hid (Below W.heap.size W (W.alloc (.cells #[.string dk.user, .int .u64 (dk.seq : Int), .int .i64 dk.kind, .int .i64 (dp : Int), .int .i64 (ds : Int)] TRP)) ∧ Box (W.alloc (.cells #[.string dk.user, .int .u64 (dk.seq : Int), .int .i64 dk.kind, .int .i64 (dp : Int), .int .i64 (ds : Int)] TRP)) W.heap.size TRP #[.string dk.user, .int .u64 (dk.seq : Int), .int .i64 dk.kind, .int .i64 (dp : Int), .int .i64 (ds : Int)]) := ⟨(Below.refl _ _).alloc (Nat.le_refl _) _, Box.new _ _ _⟩
  have HBX : Hid (∀ V, Below W.heap.size W V → V.cell? ⟨q, 0, none⟩ = some (.slice a n c)) := fun V hV => by rw [hV.cell hql]; exact t0
  clear h hb how hsz hal
  go_enter Tryz.func44, Tryz.ntmps44
  go_wp2_with fail
  clear d0 d1 d2 d3 d4 hix t2 t0
  generalize W.alloc (.cells #[.string dk.user, .int .u64 (dk.seq : Int), .int .i64 dk.kind, .int .i64 (dp : Int), .int .i64 (ds : Int)] TRP) = W1 at *
  have s0 : W1.drew.cell? ⟨q, 0, none⟩ = some (.slice a n c) := HBX.out _ H0.out.1.drew
  have s3 : W1.drew.cell? ⟨W.heap.size, 3, none⟩ = some (.int .i64 (dp : Int)) := H0.out.2.cell 3
  have s4 : W1.drew.cell? ⟨W.heap.size, 4, none⟩ = some (.int .i64 (ds : Int)) := H0.out.2.cell 4
  have HRT : Hid (∀ V, Below W.heap.size W V → Calls Tryz.prog 38 #[.slice a n c, .int .i64 (dp : Int), .int .i64 (ds : Int)] V fun e w' => e = .returned (.bool (okP (segB b dp (ds + 4)))) ∧ ∃ d, w' = V.drewN d) := fun V hV => rright_any a n c b dp ds V (HR.out.2.1.below (Nat.le_refl _) hV) hd
  go_region_held3 (fun V => V.cell? ⟨q, 0, none⟩ = some (.slice a n c) ∧ V.cell? ⟨W.heap.size, 3, none⟩ = some (.int .i64 (dp : Int)) ∧ V.cell? ⟨W.heap.size, 4, none⟩ = some (.int .i64 (ds : Int))) (first | with_reducible exact ⟨s0, s3, s4⟩ | go_keep)
    (first
     | (go_at_call 38; refine (HRT.out _ H0.out.1.drew).mono ?_; rintro _ W2 ⟨rfl, dd, hdd⟩
        have H2 : Hid (Below W.heap.size W W2 ∧ Box W2 W.heap.size TRP #[.string dk.user, .int .u64 (dk.seq : Int), .int .i64 dk.kind, .int .i64 (dp : Int), .int .i64 (ds : Int)]) := by
          rw [hdd]
          exact ⟨below_drewN H0.out.1.drew dd, H0.out.2⟩
        have s0 : W2.cell? ⟨q, 0, none⟩ = some (.slice a n c) := HBX.out _ H2.out.1
        have s3 : W2.cell? ⟨W.heap.size, 3, none⟩ = some (.int .i64 (dp : Int)) := H2.out.2.cell 3
        have s4 : W2.cell? ⟨W.heap.size, 4, none⟩ = some (.int .i64 (ds : Int)) := H2.out.2.cell 4
        clear hdd))
  clear HRT s0 s3 s4
  cases hok : okP (segB b dp (ds + 4)) with
  | false =>
    have HE : Hid (readS (segB b dp (ds + 4)) dk = .error 122) := by unfold readS; exact if_pos hok
    clear hok
    go_wp2
    go_ret2
    exact ⟨H2.out.1, .inl ⟨122, HE.out, by omega, ret2 rfl rfl⟩⟩
  | true =>
    have HS : Hid (readS (segB b dp (ds + 4)) dk = match openP (segB b dp ds) with
      | none => .error 121
      | some (_, ls) => if lastIs ls.flatten dk = true then .ok ls.flatten else .error 121) := by
      unfold Hid readS
      rw [if_neg (by rw [hok]; simp), seg_body (by rw [HR.out.2.2]; exact hd)]
      cases openP (segB b dp ds) <;> rfl
    clear hok
    obtain ⟨ax, hsx, hqx⟩ := slice_mid HR.out.2.1 dp (dp + ds) (by omega) (by omega)
    rw [Nat.add_sub_cancel_left] at hsx
    rw [show ((dp + ds : Nat) : Int) = (dp : Int) + (ds : Int) by omega] at hsx
    have HX : Hid (∀ V, Below W.heap.size W V → BsAt V ax ds (c - dp) (segB b dp ds)) := fun V hV => by
      have := hqx V _ (HR.out.2.1.below (Nat.le_refl _) hV)
      rw [Nat.add_sub_cancel_left] at this
      exact this
    have hro := readP_open (segB b dp ds) (by have : (segB b dp ds).length ≤ ds := (by unfold segB; rw [List.length_take]; omega); omega)
    have HRO : Hid ((readP (segB b dp ds) = none ∧ openP (segB b dp ds) = none) ∨ ∃ l ss ls, readP (segB b dp ds) = some l ∧ openP (segB b dp ds) = some (ss, ls) ∧ ls.flatten = l) := hro
    have HRD : Hid (∀ V, Below W.heap.size W V → Calls Tryz.prog 39 #[.slice ax ds (c - dp)] V fun r w' => Below V.heap.size V w' ∧ ((readP (segB b dp ds) = none ∧ r = .returned (.tuple #[.slice none 0 0, .int .i64 111])) ∨ ∃ l a' c', readP (segB b dp ds) = some l ∧ r = .returned (.tuple #[.slice a' l.length c', .int .i64 0]) ∧ KsAt w' a' l.length c' l)) := fun V hV => rread_any ax ds (c - dp) _ V (HX.out V hV) (by omega)
    have hwd : IntKind.i64.wrap ((dp : Int) + (ds : Int)) = (dp : Int) + (ds : Int) := by
      have := i64_wrap (dp + ds) (by omega)
      rwa [show ((dp + ds : Nat) : Int) = (dp : Int) + (ds : Int) by omega] at this
    clear hqx hro
    go_wp2_with fail
    have s0 : W2.drew.cell? ⟨q, 0, none⟩ = some (.slice a n c) := HBX.out _ H2.out.1.drew
    have s3 : W2.drew.cell? ⟨W.heap.size, 3, none⟩ = some (.int .i64 (dp : Int)) := H2.out.2.cell 3
    have s4 : W2.drew.cell? ⟨W.heap.size, 4, none⟩ = some (.int .i64 (ds : Int)) := H2.out.2.cell 4
    rcases HRO.out with ⟨hno, hop⟩ | ⟨l, ss, ls, hyes, hop, hfl⟩
    · have HE : Hid (readS (segB b dp (ds + 4)) dk = .error 121) := by unfold Hid; rw [HS.out, hop]
      have HR1 : Hid (∀ V, Below W.heap.size W V → Calls Tryz.prog 39 #[.slice ax ds (c - dp)] V fun r w' => Below V.heap.size V w' ∧ r = .returned (.tuple #[.slice none 0 0, .int .i64 111])) := fun V hV => (HRD.out V hV).mono fun r w' ⟨h1, h2⟩ => ⟨h1, by
        rcases h2 with ⟨_, h2⟩ | ⟨l, a', c', h3, _⟩
        · exact h2
        · rw [hno] at h3
          cases h3⟩
      clear HRD hno hop HS
      go_region_held3 (fun V => V.cell? ⟨q, 0, none⟩ = some (.slice a n c) ∧ V.cell? ⟨W.heap.size, 3, none⟩ = some (.int .i64 (dp : Int)) ∧ V.cell? ⟨W.heap.size, 4, none⟩ = some (.int .i64 (ds : Int))) (first | with_reducible exact ⟨s0, s3, s4⟩ | go_keep)
        (first
         | (go_at_call 39; refine (HR1.out _ H2.out.1.drew).mono ?_; rintro _ W3 ⟨hb3, rfl⟩
            have H3 : Hid (Below W.heap.size W W3 ∧ Box W3 W.heap.size TRP #[.string dk.user, .int .u64 (dk.seq : Int), .int .i64 dk.kind, .int .i64 (dp : Int), .int .i64 (ds : Int)]) := ⟨H2.out.1.drew.trans (hb3.mono H2.out.1.size), H2.out.2.kept (hb3.block _ H2.out.2.lt)⟩
            have s0 : W3.cell? ⟨q, 0, none⟩ = some (.slice a n c) := HBX.out _ H3.out.1
            have s3 : W3.cell? ⟨W.heap.size, 3, none⟩ = some (.int .i64 (dp : Int)) := H3.out.2.cell 3
            have s4 : W3.cell? ⟨W.heap.size, 4, none⟩ = some (.int .i64 (ds : Int)) := H3.out.2.cell 4
            clear hb3))
      go_wp2_with fail
      go_quiet (fail)
      go_wp2
      go_ret2
      exact ⟨below_drewN H3.out.1 _, .inl ⟨121, HE.out, by omega, ret2 rfl rfl⟩⟩
    · obtain ⟨_, g1, _, g3, g4, _⟩ := open_some hop
      rw [hfl] at g3 g4
      have g5 := lay_ge g1 l
      rw [← g4] at g5
      have g6 : (segB b dp ds).length ≤ ds := by unfold segB; rw [List.length_take]; omega
      have HL : Hid (readS (segB b dp (ds + 4)) dk = (if lastIs l dk = true then .ok l else .error 121) ∧ chkL l = 0) := by
        refine ⟨?_, g3⟩
        rw [HS.out, hop]
        dsimp only
        rw [hfl]
      obtain ⟨m2, HM2⟩ : ∃ m2, Hid (l.length = m2) := ⟨_, (rfl : l.length = l.length)⟩
      have hm2 : 3 * m2 ≤ ds := by rw [← HM2.out]; omega
      have HR1 : Hid (∀ V, Below W.heap.size W V → Calls Tryz.prog 39 #[.slice ax ds (c - dp)] V fun r w' => Below V.heap.size V w' ∧ ∃ a' c', r = .returned (.tuple #[.slice a' m2 c', .int .i64 0]) ∧ KsAt w' a' m2 c' l) := fun V hV => (HRD.out V hV).mono fun r w' ⟨h1, h2⟩ => ⟨h1, by
        rcases h2 with ⟨h3, _⟩ | ⟨l2, a', c', h3, h4, h5⟩
        · rw [hyes] at h3
          cases h3
        · rw [hyes] at h3
          obtain rfl := Option.some.inj h3
          rw [HM2.out] at h4 h5
          exact ⟨a', c', h4, h5⟩⟩
      clear HRD hyes hop HS g1 g3 g4 g5 g6 hfl
      go_region_held3 (fun V => V.cell? ⟨q, 0, none⟩ = some (.slice a n c) ∧ V.cell? ⟨W.heap.size, 3, none⟩ = some (.int .i64 (dp : Int)) ∧ V.cell? ⟨W.heap.size, 4, none⟩ = some (.int .i64 (ds : Int))) (first | with_reducible exact ⟨s0, s3, s4⟩ | go_keep)
        (first
         | (go_at_call 39; refine (HR1.out _ H2.out.1.drew).mono ?_; rintro _ W3 ⟨hb3, a5, c5, rfl, hk5⟩
            have H3 : Hid (Below W.heap.size W W3 ∧ Box W3 W.heap.size TRP #[.string dk.user, .int .u64 (dk.seq : Int), .int .i64 dk.kind, .int .i64 (dp : Int), .int .i64 (ds : Int)] ∧ KsAt W3 a5 m2 c5 l) := ⟨H2.out.1.drew.trans (hb3.mono H2.out.1.size), H2.out.2.kept (hb3.block _ H2.out.2.lt), hk5⟩
            have s0 : W3.cell? ⟨q, 0, none⟩ = some (.slice a n c) := HBX.out _ H3.out.1
            have s3 : W3.cell? ⟨W.heap.size, 3, none⟩ = some (.int .i64 (dp : Int)) := H3.out.2.1.cell 3
            have s4 : W3.cell? ⟨W.heap.size, 4, none⟩ = some (.int .i64 (ds : Int)) := H3.out.2.1.cell 4
            clear hb3 hk5))
      clear s0 s3 s4
      go_wp2_with fail
      have k0 : W3.cell? ⟨W.heap.size, 0, none⟩ = some (.string dk.user) := H3.out.2.1.cell 0
      have k1 : W3.cell? ⟨W.heap.size, 1, none⟩ = some (.int .u64 (dk.seq : Int)) := H3.out.2.1.cell 1
      have k2 : W3.cell? ⟨W.heap.size, 2, none⟩ = some (.int .i64 dk.kind) := H3.out.2.1.cell 2
      by_cases hm0 : m2 = 0
      · subst hm0
        have HE : Hid (readS (segB b dp (ds + 4)) dk = .error 121) := by
          unfold Hid
          rw [HL.out.1, List.eq_nil_of_length_eq_zero HM2.out]
          rfl
        go_quiet (fail)
        go_wp2
        go_ret2
        exact ⟨below_drewN H3.out.1 _, .inl ⟨121, HE.out, by omega, ret2 rfl rfl⟩⟩
      have hmz : ((m2 : Int) == 0) = false := by rw [beq_eq_false_iff_ne]; omega
      have hl1 : m2 - 1 < l.length := by rw [HM2.out]; omega
      obtain ⟨bb, off, hab, hcs⟩ := H3.out.2.2.cells4 (by omega)
      obtain ⟨e0, e1, e2, _⟩ := hcs (m2 - 1) hl1
      have hix := fun V => idxKV V (a := a5) (b := bb) (off := off) (n := m2) (c := c5) (i := m2 - 1) hab (by omega)
      rw [show ((m2 - 1 : Nat) : Int) = (m2 : Int) - 1 by omega] at hix
      have HLI : Hid (lastIs l dk = sameK l[m2 - 1].1 dk) := by
        have := lastIs_at (k := dk) (show 0 < l.length by omega)
        unfold Hid
        rw [this]
        congr 2
        simp only [HM2.out]
      generalize l[m2 - 1].1 = lk at e0 e1 e2 HLI
      have hnq := fun V => run_neq_ik lk dk V
      have hwm : IntKind.i64.wrap ((m2 : Int) - 1) = (m2 : Int) - 1 := by
        have := i64_wrap (m2 - 1) (by omega)
        rwa [show ((m2 - 1 : Nat) : Int) = (m2 : Int) - 1 by omega] at this
      obtain ⟨ko, hko⟩ : ∃ ko, off + (m2 - 1) * 4 = ko := ⟨_, rfl⟩
      rw [hko] at e0 e1 e2 hix
      clear hcs hab hko
      cases hsk : sameK lk dk with
      | false =>
        have HE : Hid (readS (segB b dp (ds + 4)) dk = .error 121) := by
          unfold Hid
          rw [HL.out.1, HLI.out, hsk]
          rfl
        rw [hsk] at hnq
        clear hsk
        go_quiet (fail)
        go_wp2
        go_ret2
        exact ⟨below_drewN H3.out.1 _, .inl ⟨121, HE.out, by omega, ret2 rfl rfl⟩⟩
      | true =>
        have HE : Hid (readS (segB b dp (ds + 4)) dk = .ok l) := by
          unfold Hid
          rw [HL.out.1, HLI.out, hsk]
          rfl
        rw [hsk] at hnq
        clear hsk
        go_quiet (fail)
        go_wp2
        go_ret2
        exact ⟨below_drewN H3.out.1 _, .inr ⟨l, a5, c5, HE.out, by rw [HM2.out]; omega, by rw [HM2.out]; omega, ret2 (by rw [HM2.out]; rfl) rfl, by rw [HM2.out]; exact H3.out.2.2.below (below_drewN (Below.refl _ _) _), HL.out.2⟩⟩
end Go.Proofs.YtgegjcnjlibfdaaGreat
