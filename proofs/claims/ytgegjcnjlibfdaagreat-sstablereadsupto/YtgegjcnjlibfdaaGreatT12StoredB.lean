/- The contract of sstable's storedIn. -/
import Derived.Test.YtgegjcnjlibfdaaGreatQa17
namespace Go.Proofs.YtgegjcnjlibfdaaGreat
set_option maxRecDepth 100000
open Go.RowKit
set_option linter.unusedVariables false
set_option linter.unusedSimpArgs false
theorem idxT_1 {body ix : List UInt8} (h : openP ix = none) : idxT body ix = none := by unfold idxT; rw [h]
theorem idxT_2 {body ix : List UInt8} {ss : List (List UInt8)} {ls : List (List KV)} (h : openP ix = some (ss, ls)) (h2 : ls.flatten = [] ∨ layP 1 ls.flatten ≠ ix) : idxT body ix = none := by unfold idxT; rw [h]; exact if_pos h2
theorem idxT_3 {body ix : List UInt8} {ss : List (List UInt8)} {ls : List (List KV)} (h : openP ix = some (ss, ls)) (h2 : ¬ (ls.flatten = [] ∨ layP 1 ls.flatten ≠ ix)) : idxT body ix = idxGo body 0 ls.flatten := by unfold idxT; rw [h]; exact if_neg h2
theorem idx_keys : ∀ (l : List KV) (body : List UInt8) (at0 : Nat) (bl : List (List UInt8 × IK)), idxGo body at0 l = some bl → bl.map (·.2) = l.map (·.1)
  | [], body, at0, bl, h => by
    unfold idxGo at h
    split at h
    · cases h
      rfl
    · cases h
  | e :: r, body, at0, bl, h => by
    unfold idxGo at h
    split at h
    · cases h
    · split at h
      · obtain ⟨bl2, h2, rfl⟩ := Option.map_eq_some_iff.1 h
        have := idx_keys r body _ bl2 h2
        simp [this]
      · cases h
theorem idx_rises {l : List KV} {body : List UInt8} {at0 : Nat} {bl : List (List UInt8 × IK)} (h : idxGo body at0 l = some bl) (hr : Rises l) : bl.Pairwise (fun x y => x.2.cmp y.2 < 0) := by
  have hk := idx_keys l body at0 bl h
  have h1 : (l.map (·.1)).Pairwise (fun x y => IK.cmp x y < 0) := List.pairwise_map.2 hr
  rw [← hk] at h1
  exact List.pairwise_map.1 h1
set_option maxHeartbeats 8000000 in
theorem stored_any {ab ai : Option Addr} {nb cb ni ci : Nat} {body ix : List UInt8} {w : World} (h : BsAt w ab nb cb body) (hi : BsAt w ai ni ci ix) (hn : nb ≤ 1000000000) (hni : ni ≤ 3000000) :
    Calls Tryz.prog 35 #[.slice ab nb cb, .slice ai ni ci] w fun r w' => Below w.heap.size w w' ∧ ((idxT body ix = none ∧ ∃ v, r = .returned (.tuple #[v, .bool false])) ∨ ∃ bl a' c' ds, idxT body ix = some bl ∧ r = .returned (.tuple #[.slice a' bl.length c', .bool true]) ∧ OwnD w' w.heap.size a' bl.length c' ds ∧ blsOf ds = bl ∧ (∀ d ∈ ds, 4 ≤ d.p.length ∧ Part ab nb cb body d.a d.p.length d.p.length d.p) ∧ bl.Pairwise (fun x y => x.2.cmp y.2 < 0)) := by
  have HB : Hid (BsAt w ab nb cb body ∧ BsAt w ai ni ci ix ∧ body.length = nb ∧ ix.length = ni) := ⟨h, hi, h.size, hi.size⟩
  have ho := open_any ai ni ci ix w hi (by omega)
  clear h hi
  go_enter Tryz.func35, Tryz.ntmps35
  go_wp2_with fail
  refine ho.mono ?_
  rintro _ w1 ⟨hb1, ⟨hno, rfl⟩ | ⟨ss, ls, q, hop, rfl, hbk⟩⟩
  · have H1 : Hid (Below w.heap.size w w1 ∧ openP ix = none) := ⟨hb1, hno⟩
    clear hno hb1 ho
    go_wp2
    go_ret2
    exact ⟨H1.out.1, .inl ⟨idxT_1 H1.out.2, _, ret2 rfl rfl⟩⟩
  have H1 : Hid (Below w.heap.size w w1 ∧ openP ix = some (ss, ls) ∧ GB w1 w.heap.size q (ivOf ix) ls.flatten) := ⟨hb1, hop, gb_of hop hbk (by have := HB.out.2.2.2; omega)⟩
  have HL3 : Hid (3 * ls.flatten.length ≤ ni) := by
    have h2 := open_some hop
    have h3 := lay_ge h2.2.1 ls.flatten
    rw [← h2.2.2.2.2.1] at h3
    have := HB.out.2.2.2
    unfold Hid
    omega
  clear hb1 ho hbk hop
  obtain ⟨l, HL⟩ : ∃ l, Hid (ls.flatten = l) := ⟨_, (rfl : ls.flatten = ls.flatten)⟩
  rw [HL.out] at H1 HL3
  have hlen := len_any H1.out.2.2.bk
  have hll : l.length ≤ 1000000 := by have := HL3.out; omega
  have HEN : Hid (∀ V, Below w1.heap.size w1 V → Calls Tryz.prog 42 #[at_ q] V fun e w' => ∃ a' c', e = .returned (.slice a' l.length c') ∧ OwnK w' V.heap.size a' l.length c' l ∧ Below V.heap.size V w') := fun V hV => entries12 (H1.out.2.2.below hV) (by omega)
  have HOK : Hid (chkL l = 0) := H1.out.2.2.ok
  by_cases h0 : l.length = 0
  · have hnil := List.eq_nil_of_length_eq_zero h0
    rw [h0] at hlen
    have H2 : Hid (idxT body ix = none) := idxT_2 H1.out.2.1 (.inl (by rw [HL.out]; exact hnil))
    clear hnil h0 HEN
    go_wp2_with fail
    refine hlen.mono ?_
    rintro _ w2 ⟨rfl, hw⟩
    obtain rfl : w1 = w2 := hw
    clear hlen
    go_wp2
    go_ret2
    exact ⟨H1.out.1, .inl ⟨H2.out, _, ret2 rfl rfl⟩⟩
  have h0b : ((l.length : Int) == 0) = false := by rw [beq_eq_false_iff_ne]; omega
  obtain ⟨nl, HNL⟩ : ∃ nl, Hid (l.length = nl) := ⟨_, (rfl : l.length = l.length)⟩
  rw [HNL.out] at hlen HEN h0b hll h0
  go_wp2_with fail
  refine hlen.mono ?_
  rintro _ w2 ⟨rfl, hw⟩
  obtain rfl : w1 = w2 := hw
  clear hlen
  go_wp2_with fail
  refine (HEN.out _ (Below.refl _ _)).mono ?_
  rintro _ w3 ⟨al, cl, rfl, hol, hb3⟩
  have H3 : Hid (Below w.heap.size w w3 ∧ OwnK w3 w.heap.size al nl cl l) := ⟨H1.out.1.trans (hb3.mono H1.out.1.size), hol.less H1.out.1.size⟩
  clear hol hb3 HEN
  have hbl := blk_yes al nl cl l 1 (by omega) (by omega) w3 H3.out.2.ks H3.out.2.spot.1 H3.out.2.spot.2 hll HOK.out
  go_wp2_with fail
  refine hbl.mono ?_
  rintro _ w4 ⟨a4, c4, rfl, ho4, hb4⟩
  have H4 : Hid (Below w.heap.size w w4 ∧ OwnK w4 w.heap.size al nl cl l ∧ BsAt w4 a4 (layP 1 l).length c4 (layP 1 l)) := ⟨H3.out.1.trans (hb4.mono H3.out.1.size), H3.out.2.below hb4, ho4.bs⟩
  clear ho4 hb4 hbl
  have heq := equal_any a4 ai (layP 1 l).length c4 ni ci (layP 1 l) ix w4 H4.out.2.2 (HB.out.2.1.below (Nat.le_refl _) H4.out.1)
  go_wp2_with fail
  refine heq.mono ?_
  rintro _ w5 ⟨rfl, hw⟩
  obtain rfl : w4 = w5 := hw
  clear heq
  by_cases hix : layP 1 l = ix
  case neg =>
    rw [decide_eq_false hix]
    have H2 : Hid (idxT body ix = none) := idxT_2 H1.out.2.1 (.inr (by rw [HL.out]; exact hix))
    clear hix
    go_wp2
    go_ret2
    exact ⟨H4.out.1, .inl ⟨H2.out, _, ret2 rfl rfl⟩⟩
  rw [decide_eq_true hix]
  have HGO : Hid (idxT body ix = idxGo body 0 l) := by
    have hne : ¬ (ls.flatten = [] ∨ layP 1 ls.flatten ≠ ix) := by
      rw [HL.out]
      rintro (e | e)
      · apply h0
        rw [← HNL.out, e]
        rfl
      · exact e hix
    have := idxT_3 (body := body) H1.out.2.1 hne
    rw [HL.out] at this
    exact this
  have HSI : Hid (SI w w4 ab nb cb body al nl cl l 0 0 none 0 0 []) := ⟨H4.out.1, OwnD.nil _ _, H4.out.2.1, rfl, Nat.zero_le _, by simp [blsOf], fun d hd => by cases hd⟩
  have hcv := conv_int_u64 nb (by omega)
  clear hix
  go_wp2_with fail
  clear hcv h0b h0
  have HBL : Hid (body.length = nb) := HB.out.2.2.1
  go_loopw [4, 9, 39] (fun s4 s9 s39 wr => ∃ (k at0 nr cr : Nat) (ar : Option Addr), k ≤ nl ∧ s39 = .int .i64 (k : Int) ∧ s9 = .int .u64 (at0 : Int) ∧ s4 = .slice ar nr cr ∧ at0 ≤ nb ∧ nr ≤ 1000000 ∧ Hid (∃ ds, SI w wr ab nb cb body al nl cl l k at0 ar nr cr ds)) (fun _ _ s39 _ => nl - (intOf s39).toNat)
  case atStart => exact ⟨0, 0, 0, 0, none, Nat.zero_le _, rfl, rfl, rfl, Nat.zero_le _, by omega, [], HSI.out⟩
  case round =>
    obtain ⟨k, at0, nr, cr, ar, hk, rfl, rfl, rfl, hat, hnr, HR⟩ := hrel
    obtain ⟨ds, hsi⟩ := HR.out
    have HS : Hid (SI w wr ab nb cb body al nl cl l k at0 ar nr cr ds) := hsi
    clear hsi HR
    by_cases hkn : k < nl
    · have hkl : k < l.length := by rw [HNL.out]; exact hkn
      obtain ⟨b, off, hab, hc⟩ := HS.out.told.ks.cells4 (by omega)
      obtain ⟨c0, c1, c2, c3⟩ := hc k hkl
      have hidx := fun W => idxKV W (a := al) (b := b) (off := off) (n := nl) (c := cl) hab hkn
      have HD : Hid (l.drop k = l[k] :: l.drop (k + 1)) := List.drop_eq_getElem_cons hkl
      have HEO : Hid (EOk l[k]) := (chkL_zero.1 HOK.out).1 _ (List.getElem_mem _)
      have HPU : Hid (∀ (w' : World) (y : Nat) (a2 ar' : Option Addr) (cr' : Nat) (V : World) (o : Obj), SI w V ab nb cb body al nl cl l k at0 ar nr cr ds → plOf l[k].2.data.toList = some (at0, y) → at0 + y + 4 ≤ nb → Part ab nb cb body a2 (y + 4) (y + 4) (segB body at0 (y + 4)) → OwnD w' w.heap.size ar' (nr + 1) cr' (ds ++ [⟨a2, segB body at0 (y + 4), l[k].1⟩]) → Below w.heap.size V w' → (V.alloc o).grownBy w' (blkOf ar) → SI w w' ab nb cb body al nl cl l (k + 1) (at0 + y + 4) ar' (nr + 1) cr' (ds ++ [⟨a2, segB body at0 (y + 4), l[k].1⟩])) := fun w' y a2 ar' cr' V o hV hp hle hpt ho hb hg => hV.push hkl hp hle HBL.out hpt ho hb o hg
      generalize l[k] = e at c0 c1 c2 c3 HD HEO HPU
      have HEV : Hid (e.2.size ≤ 140737488351232) := by have := HEO.out.2; unfold Hid; omega
      have hpo := placeOf_any e.2 HEV.out
      have H5 : Hid (SI w (wr.alloc (.cells #[.string e.1.user, .int .u64 (e.1.seq : Int), .int .i64 e.1.kind, .string e.2] TKV)) ab nb cb body al nl cl l k at0 ar nr cr ds ∧ Box (wr.alloc (.cells #[.string e.1.user, .int .u64 (e.1.seq : Int), .int .i64 e.1.kind, .string e.2] TKV)) wr.heap.size TKV #[.string e.1.user, .int .u64 (e.1.seq : Int), .int .i64 e.1.kind, .string e.2]) := ⟨HS.out.call ((Below.refl _ _).alloc (Nat.le_refl _) _), Box.new _ _ _⟩
      clear hc hab
      go_wp2_with fail
      generalize wr.alloc (.cells #[.string e.1.user, .int .u64 (e.1.seq : Int), .int .i64 e.1.kind, .string e.2] TKV) = W5 at *
      refine (hpo _).mono ?_
      rintro _ w6 ⟨x, y, ok, rfl, hx, hy, hpl, hb6⟩
      have HPL : Hid (plOf e.2.data.toList = if ok = true then some (x, y) else none) := hpl
      have H6 : Hid (SI w (w6.alloc (.cells #[.int .u64 (x : Int), .int .u64 (y : Int)] TPl)) ab nb cb body al nl cl l k at0 ar nr cr ds ∧ Box (w6.alloc (.cells #[.int .u64 (x : Int), .int .u64 (y : Int)] TPl)) wr.heap.size TKV #[.string e.1.user, .int .u64 (e.1.seq : Int), .int .i64 e.1.kind, .string e.2] ∧ Box (w6.alloc (.cells #[.int .u64 (x : Int), .int .u64 (y : Int)] TPl)) w6.heap.size TPl #[.int .u64 (x : Int), .int .u64 (y : Int)]) := ⟨(H5.out.1.call hb6).call ((Below.refl _ _).alloc (Nat.le_refl _) _), (H5.out.2.kept (hb6.block _ H5.out.2.lt)).alloc _, Box.new _ _ _⟩
      have hg6 : wr.heap.size < w6.heap.size := Nat.lt_of_lt_of_le H5.out.2.lt hb6.size
      clear hpl hb6 hpo H5 c0 c1 c2 c3 hidx
      cases ok with
      | false =>
        have HNO : Hid (idxT body ix = none) := by
          unfold Hid
          rw [HGO.out, HS.out.go, HD.out, idx_step_no1 (by rw [HPL.out]; simp)]
          rfl
        go_wp2
        go_ret2
        exact ⟨H6.out.1.base, .inl ⟨HNO.out, _, ret2 rfl rfl⟩⟩
      | true =>
        have HPL2 : Hid (plOf e.2.data.toList = some (x, y)) := by have := HPL.out; unfold Hid; simpa using this
        by_cases hbad : ¬ (x = at0 ∧ at0 + y + 4 ≤ nb)
        · have HNO : Hid (idxT body ix = none) := by
            unfold Hid
            rw [HGO.out, HS.out.go, HD.out, idx_step_no2 HPL2.out (by rw [HBL.out]; exact hbad)]
            rfl
          by_cases hxa : x = at0
          · subst hxa
            by_cases hyn : nb < y
            · have hyn' : (nb : Int) < (y : Int) := by omega
              clear hbad
              go_wp2
              go_ret2
              exact ⟨H6.out.1.base, .inl ⟨HNO.out, _, ret2 rfl rfl⟩⟩
            · have hyn' : ¬ (nb : Int) < (y : Int) := by omega
              have hen := end_any x y (by omega)
              have hgt : (nb : Int) < (x : Int) + (y : Int) + 4 := by omega
              clear hbad
              go_wp2_with fail
              refine (hen _).mono ?_
              rintro _ w7 ⟨rfl, hb7⟩
              have H7 : Hid (Below w.heap.size w w7) := H6.out.1.base.trans (hb7.mono H6.out.1.base.size)
              clear hb7 hen
              go_wp2
              go_ret2
              exact ⟨H7.out, .inl ⟨HNO.out, _, ret2 rfl rfl⟩⟩
          · have hxa' : ((x : Int) != (at0 : Int)) = true := by rw [bne_iff_ne]; omega
            clear hbad
            go_wp2
            go_ret2
            exact ⟨H6.out.1.base, .inl ⟨HNO.out, _, ret2 rfl rfl⟩⟩
        · obtain ⟨rfl, hle⟩ : x = at0 ∧ at0 + y + 4 ≤ nb := Decidable.not_not.1 hbad
          have hyn' : ¬ (nb : Int) < (y : Int) := by omega
          have hgt : ¬ (nb : Int) < (x : Int) + (y : Int) + 4 := by omega
          have hen := end_any x y (by omega)
          have HEN : Hid (∀ V, Calls Tryz.prog 75 #[.agg #[.int .u64 (x : Int), .int .u64 (y : Int)]] V fun e w' => e = .returned (.int .u64 ((x + y + 4 : Nat) : Int)) ∧ Below V.heap.size V w') := hen
          clear hbad hen
          go_wp2_with fail
          generalize w6.alloc (.cells #[.int .u64 (x : Int), .int .u64 (y : Int)] TPl) = W6 at *
          refine (HEN.out _).mono ?_
          rintro _ w7 ⟨rfl, hb7⟩
          have H7 : Hid (SI w w7 ab nb cb body al nl cl l k x ar nr cr ds ∧ Box w7 wr.heap.size TKV #[.string e.1.user, .int .u64 (e.1.seq : Int), .int .i64 e.1.kind, .string e.2] ∧ Box w7 w6.heap.size TPl #[.int .u64 (x : Int), .int .u64 (y : Int)]) := ⟨H6.out.1.call hb7, H6.out.2.1.kept (hb7.block _ H6.out.2.1.lt), H6.out.2.2.kept (hb7.block _ H6.out.2.2.lt)⟩
          clear hb7
          go_wp2_with fail
          have HSL : Hid ((segB body x (y + 4)).length = y + 4) := by
            unfold Hid segB
            rw [List.length_take, List.length_drop]
            have := HBL.out
            omega
          have HCV : Hid (∀ a8 : Option Addr, (#[.slice a8 (y + 4) (y + 4), .string e.1.user, .int .u64 (e.1.seq : Int), .int .i64 e.1.kind] : Array Value).toList = sdc ⟨a8, segB body x (y + 4), e.1⟩) := fun a8 => by
            unfold sdc
            rw [HSL.out]
          have c0 : w7.drew.cell? ⟨w6.heap.size, 0, none⟩ = some (.int .u64 (x : Int)) := H7.out.2.2.cell 0
          have c1 : w7.drew.cell? ⟨w6.heap.size, 1, none⟩ = some (.int .u64 (y : Int)) := H7.out.2.2.cell 1
          have k0 : w7.drew.cell? ⟨wr.heap.size, 0, none⟩ = some (.string e.1.user) := H7.out.2.1.cell 0
          have k1 : w7.drew.cell? ⟨wr.heap.size, 1, none⟩ = some (.int .u64 (e.1.seq : Int)) := H7.out.2.1.cell 1
          have k2 : w7.drew.cell? ⟨wr.heap.size, 2, none⟩ = some (.int .i64 e.1.kind) := H7.out.2.1.cell 2
          have HPA : Hid (∀ V, Below w.heap.size w V → Calls Tryz.prog 34 #[.agg #[.int .u64 (x : Int), .int .u64 (y : Int)], .slice ab nb cb] V fun e w' => ∃ a', e = .returned (.slice a' (y + 4) (y + 4)) ∧ Part ab nb cb body a' (y + 4) (y + 4) (segB body x (y + 4)) ∧ Below V.heap.size V w') := fun V hV => part_any x y (HB.out.1.below (Nat.le_refl _) hV) hle
          go_region_held3 (fun V => V.cell? ⟨w6.heap.size, 0, none⟩ = some (.int .u64 (x : Int)) ∧ V.cell? ⟨w6.heap.size, 1, none⟩ = some (.int .u64 (y : Int)) ∧ V.cell? ⟨wr.heap.size, 0, none⟩ = some (.string e.1.user) ∧ V.cell? ⟨wr.heap.size, 1, none⟩ = some (.int .u64 (e.1.seq : Int)) ∧ V.cell? ⟨wr.heap.size, 2, none⟩ = some (.int .i64 e.1.kind)) (first | with_reducible exact ⟨c0, c1, k0, k1, k2⟩ | go_keep)
            (first
             | (go_at_call 34; refine (HPA.out _ H7.out.1.base.drew).mono ?_; rintro _ w8 ⟨a8, rfl, hpt, hb80⟩
                have hb8 : Below w7.heap.size w7 w8 := (Below.refl _ _).drew.trans hb80
                have H8 : Hid (SI w w8 ab nb cb body al nl cl l k x ar nr cr ds ∧ Box w8 wr.heap.size TKV #[.string e.1.user, .int .u64 (e.1.seq : Int), .int .i64 e.1.kind, .string e.2] ∧ Box w8 w6.heap.size TPl #[.int .u64 (x : Int), .int .u64 (y : Int)] ∧ Part ab nb cb body a8 (y + 4) (y + 4) (segB body x (y + 4))) := ⟨H7.out.1.call hb8, H7.out.2.1.kept (hb8.block _ H7.out.2.1.lt), H7.out.2.2.kept (hb8.block _ H7.out.2.2.lt), hpt⟩
                have c0 : w8.cell? ⟨w6.heap.size, 0, none⟩ = some (.int .u64 (x : Int)) := H8.out.2.2.1.cell 0
                have c1 : w8.cell? ⟨w6.heap.size, 1, none⟩ = some (.int .u64 (y : Int)) := H8.out.2.2.1.cell 1
                have k0 : w8.cell? ⟨wr.heap.size, 0, none⟩ = some (.string e.1.user) := H8.out.2.1.cell 0
                have k1 : w8.cell? ⟨wr.heap.size, 1, none⟩ = some (.int .u64 (e.1.seq : Int)) := H8.out.2.1.cell 1
                have k2 : w8.cell? ⟨wr.heap.size, 2, none⟩ = some (.int .i64 e.1.kind) := H8.out.2.1.cell 2
                clear hb8 hb80 hpt)
             | (refine step_pushD w8 rfl (.tmp 69) (.tmp 76) rfl w.heap.size ar nr cr ds (by simp [Act.eval]) H8.out.1.row ⟨a8, segB body x (y + 4), e.1⟩ _ (HCV.out a8) w8.heap.size rfl (by simp [Act.eval]) (by omega) H8.out.1.base.size ?_
                intro a9 c9 w9 ho9 hb9 hg9
                have H9 : Hid (SI w w9 ab nb cb body al nl cl l (k + 1) (x + y + 4) a9 (nr + 1) c9 (ds ++ [⟨a8, segB body x (y + 4), e.1⟩]) ∧ Box w9 wr.heap.size TKV #[.string e.1.user, .int .u64 (e.1.seq : Int), .int .i64 e.1.kind, .string e.2] ∧ Box w9 w6.heap.size TPl #[.int .u64 (x : Int), .int .u64 (y : Int)]) := by
                  have ht : ∀ {q : Nat} {t : TypeId} {arr : Array Value}, Box w8 q t arr → t ≠ TSt → Box w9 q t arr := fun {q t arr} hq hne => hq.kept (by
                    rw [hg9.block q (by have := hq.lt; simp; omega) (fun e => by have h8 := H8.out.1.row.tag e.symm; rw [hq.tag] at h8; exact hne (Option.some.inj h8))]
                    exact Below.heap_alloc w8 _ q hq.lt)
                  exact ⟨HPU.out w9 y a8 a9 c9 w8 _ H8.out.1 HPL2.out hle H8.out.2.2.2 ho9 hb9 hg9, ht H8.out.2.1 (by decide), ht H8.out.2.2.1 (by decide)⟩
                have c0 : w9.cell? ⟨w6.heap.size, 0, none⟩ = some (.int .u64 (x : Int)) := H9.out.2.2.cell 0
                have c1 : w9.cell? ⟨w6.heap.size, 1, none⟩ = some (.int .u64 (y : Int)) := H9.out.2.2.cell 1
                have k0 : w9.cell? ⟨wr.heap.size, 0, none⟩ = some (.string e.1.user) := H9.out.2.1.cell 0
                have k1 : w9.cell? ⟨wr.heap.size, 1, none⟩ = some (.int .u64 (e.1.seq : Int)) := H9.out.2.1.cell 1
                have k2 : w9.cell? ⟨wr.heap.size, 2, none⟩ = some (.int .i64 e.1.kind) := H9.out.2.1.cell 2
                clear ho9 hb9 hg9))
          clear k0 k1 k2
          go_wp2_with fail
          refine (HEN.out _).mono ?_
          rintro _ w10 ⟨rfl, hb10⟩
          have H10 : Hid (SI w w10 ab nb cb body al nl cl l (k + 1) (x + y + 4) a9 (nr + 1) c9 (ds ++ [⟨a8, segB body x (y + 4), e.1⟩])) := H9.out.1.call hb10
          clear hb10
          go_wp2
          go_roundw
          case rel => exact ⟨k + 1, x + y + 4, nr + 1, c9, a9, hkn, by go_num, by go_num, rfl, hle, by have := H10.out.cnt; omega, _, H10.out⟩
          case measure => simp only [intOf]; omega
    · obtain rfl : k = nl := by omega
      have HGE : Hid (idxT body ix = if at0 = nb then some (blsOf ds) else none) := by
        unfold Hid
        rw [HGO.out, HS.out.go, List.drop_eq_nil_of_le (by rw [HNL.out]; omega)]
        unfold idxGo
        rw [HBL.out]
        split <;> simp
      by_cases hend : at0 = nb
      · have HGT : Hid (idxT body ix = some (blsOf ds)) := by
          have := HGE.out
          rw [if_pos hend] at this
          exact this
        subst hend
        clear HGE
        go_wp2
        go_ret2
        have hr := HGT.out
        have hlen : (blsOf ds).length = nr := by rw [blsOf, List.length_map]; exact HS.out.row.size
        refine ⟨HS.out.base, .inr ⟨blsOf ds, ar, cr, ds, hr, ret2 (by rw [hlen]; rfl) rfl, by rw [hlen]; exact HS.out.row, rfl, HS.out.parts, ?_⟩⟩
        rw [HGO.out] at hr
        exact idx_rises hr (chkL_zero.1 HOK.out).2
      · have hne : ((at0 : Int) == (nb : Int)) = false := by rw [beq_eq_false_iff_ne]; omega
        have HEND : Hid (¬ at0 = nb) := hend
        clear hend
        go_wp2
        go_ret2
        have hr := HGE.out
        rw [if_neg HEND.out] at hr
        exact ⟨HS.out.base, .inl ⟨hr, _, ret2 rfl rfl⟩⟩
end Go.Proofs.YtgegjcnjlibfdaaGreat
