/- The walk of MergePlays, by what is asked of merge's iterator. -/
import Derived.Test.YtfijibengmgegaaQa08
import Derived.Test.YtfijibengmgegaaM16WHolds
namespace Go.Proofs.Ytfijibengmgegaa
open Go.RowKit
set_option linter.unusedVariables false
set_option linter.unusedSimpArgs false
def wayC (g : Int × IK) : List Value := [.int .i64 g.1, .string g.2.user, .int .u64 (g.2.seq : Int), .int .i64 g.2.kind]
/-- The slice value reads as ways to go. -/
structure WsAt (w : World) (a : Option Addr) (n c : Nat) (l : List (Int × IK)) : Prop where
  size : l.length = n
  here : 0 < n → ∃ b off, a = some ⟨b, off, none⟩ ∧ ∀ i (hi : i < l.length), ∀ r, r < 4 → w.cell? ⟨b, off + i * 4 + r, none⟩ = (wayC l[i])[r]?
set_option maxRecDepth 100000 in
theorem idxGo (w : World) {b off n c i : Nat} (hi : i < n) : (Instr.indexAt 24 (.slice (some ⟨b, off, none⟩) n c) (.int .i64 (i : Int))).run Try.prog w = .ok (.pointer (some ⟨b, off + i * 4, none⟩)) w := by
  have h1 : (0 : Int) ≤ (i : Int) ∧ (i : Int) < (n : Int) := by omega
  have hsz : (sizeOf (Try.prog.elem 24)).run Try.prog w = .ok 4 w := by kernel_rfl
  rw [run_indexAt_slice (P := Try.prog) (h := (by kernel_rfl : Try.prog.underlying 24 = some (.slice (Try.prog.elem 24)))), if_pos h1, hsz]
  simp [Result.andThen, Addr.add_lit]
theorem WsAt.at {w : World} {a : Option Addr} {n c : Nat} {l : List (Int × IK)} (h : WsAt w a n c l) {i : Nat} (hi : i < n) : ∃ (b o : Nat) (kind : Int) (k : IK), (∀ V : World, (Instr.indexAt 24 (.slice a n c) (.int .i64 (i : Int))).run Try.prog V = .ok (.pointer (some ⟨b, o, none⟩)) V) ∧
    ∀ W, Below w.heap.size w W → W.cell? ⟨b, o, none⟩ = some (.int .i64 kind) ∧ W.cell? ⟨b, o + 1, none⟩ = some (.string k.user) ∧ W.cell? ⟨b, o + 2, none⟩ = some (.int .u64 (k.seq : Int)) ∧ W.cell? ⟨b, o + 3, none⟩ = some (.int .i64 k.kind) := by
  obtain ⟨b, off, rfl, hc⟩ := h.here (by omega)
  have hil : i < l.length := by have := h.size; omega
  have h0 : w.cell? ⟨b, off + i * 4, none⟩ = some (.int .i64 l[i].1) := hc i hil 0 (by omega)
  have h1 : w.cell? ⟨b, off + i * 4 + 1, none⟩ = some (.string l[i].2.user) := hc i hil 1 (by omega)
  have h2 : w.cell? ⟨b, off + i * 4 + 2, none⟩ = some (.int .u64 (l[i].2.seq : Int)) := hc i hil 2 (by omega)
  have h3 : w.cell? ⟨b, off + i * 4 + 3, none⟩ = some (.int .i64 l[i].2.kind) := hc i hil 3 (by omega)
  have hb : b < w.heap.size := World.block_lt_of_cell? w _ h0
  exact ⟨b, off + i * 4, l[i].1, l[i].2, fun V => idxGo V hi, fun W hW => ⟨by rw [hW.cell hb]; exact h0, by rw [hW.cell hb]; exact h1, by rw [hW.cell hb]; exact h2, by rw [hW.cell hb]; exact h3⟩⟩
/-- What New gave, and keeps while what was lent is turned to nothing. -/
def XS (D : MgRel) (w2 W : World) (H : Nat) (L : List (List KV)) (vx ve : Value) : Prop :=
  (RiseL L ∧ ∃ p R, vx = at_ p ∧ ve = .int .i64 0 ∧ MgS D w2 w2.heap.size W R p L none (fun k => w2.heap.size ≤ k ∧ k < H)) ∨ (¬ RiseL L ∧ vx = nilIt ∧ ve = .int .i64 160)
theorem XS.set {D : MgRel} (F : MgOk D) {w2 W : World} {H : Nat} {L : List (List KV)} {vx ve : Value} (h : XS D w2 W H L vx ve) {b : Nat} (h1 : w2.heap.size ≤ b) (h2 : b < H) (j : Nat) (x : Value) : XS D w2 (W.setCell ⟨b, j, none⟩ x) H L vx ve := by
  rcases h with ⟨hr, p, R, hx, he, hm⟩ | h
  · exact .inl ⟨hr, p, R, hx, he, hm.chg F (Q := fun q => q = b) ((Chg.refl (fun q => q = b) W).set (fun _ => rfl) j x) fun k hk => by subst hk; exact ⟨⟨h1, h2⟩, h1⟩⟩
  · exact .inr h
set_option maxRecDepth 100000 in
set_option maxHeartbeats 8000000 in
theorem mergePlays_of {D : MgRel} (F : MgOk D) (a : Option Addr) (n c : Nat) (L0 : List (List KV)) (aw : Option Addr) (nw cw : Nat) (ways : List (Int × IK)) (w : World) (h : LsAt w a n c L0) (hw : WsAt w aw nw cw ways) (hnw : nw ≤ 9223372036854775807) :
    Calls Try.prog 4 #[.slice a n c, .slice aw nw cw] w fun e w' => e = .returned (.bool true) ∧ Below w.heap.size w w' := by
  have H0 : Hid (LsAt w a n c L0 ∧ WsAt w aw nw cw ways) := ⟨h, hw⟩
  clear h hw
  go_enter Try.func4, Try.ntmps4
  go_wp2_with fail
  refine (awake16 F w).mono ?_
  rintro _ w1 ⟨rfl, hb1⟩
  have H1 : Hid (Below w.heap.size w w1) := hb1
  clear hb1
  go_wp2_with fail
  refine (few_any a n c L0 w1 (H0.out.1.below H1.out)).mono ?_
  rintro _ w2 ⟨a2, c2, rfl, hl2, hb2⟩
  have HF : Hid (FewL (fewL L0)) := fewL_ok L0
  have HA8 : Hid ((allL (fewL L0)).length ≤ 8000) := fewL_all L0
  have HE2L : Hid (∀ i, lenL (fewL L0) i ≤ 200) := fewL_each L0
  generalize fewL L0 = L at hl2 HF HA8 HE2L ⊢
  have H2 : Hid (Below w.heap.size w w2 ∧ LsAt w2 a2 L.length c2 L) := ⟨H1.out.trans (hb2.mono H1.out.size), hl2⟩
  clear hl2 hb2 H1
  have HL40 : L.length ≤ 1000 := HF.out.1
  obtain ⟨N, hN⟩ : ∃ N, N = L.length := ⟨_, rfl⟩
  rw [← hN] at HL40 ⊢
  have HN : Hid (N = L.length ∧ LsAt w2 a2 N c2 L) := ⟨hN, by rw [hN]; exact H2.out.2⟩
  clear hN
  go_wp2_with fail
  go_loopw [6, 7] (fun s6 s7 wr => ∃ (i : Nat) (a' : Option Addr) (c' : Nat), i ≤ N ∧ s7 = .int .i64 (i : Int) ∧ s6 = .slice a' i c' ∧ Hid (Below w2.heap.size w2 wr ∧ ∃ vs, OwnSl wr w2.heap.size a' i c' vs ∧ ∀ j, j < i → ∃ aj cj, vs[j]? = some (.slice aj (lenL L j) cj) ∧ OwnK wr w2.heap.size aj (lenL L j) cj (rowL L j))) (fun _ s7 _ => N - (intOf s7).toNat)
  case atStart => exact ⟨0, none, 0, Nat.zero_le _, rfl, rfl, Below.refl _ _, [], OwnSl.nil _ _, fun j hj => absurd hj (Nat.not_lt_zero _)⟩
  case round =>
    obtain ⟨i, a3, c3, hiN, rfl, rfl, HI⟩ := hrel
    by_cases hi : i < N
    · have hiI : (i : Int) < (N : Int) := by omega
      obtain ⟨vs, ho, hvs⟩ := HI.out.2
      have HO : Hid (Below w2.heap.size w2 wr ∧ OwnSl wr w2.heap.size a3 i c3 vs ∧ ∀ j, j < i → ∃ aj cj, vs[j]? = some (.slice aj (lenL L j) cj) ∧ OwnK wr w2.heap.size aj (lenL L j) cj (rowL L j)) := ⟨HI.out.1, ho, hvs⟩
      clear HI ho hvs
      obtain ⟨bL, oL, v, hxL, ⟨ai, ci, rfl, hks, hbs⟩, hcl0⟩ := HN.out.2.row hi
      have hcl := hcl0 (wr.alloc (.cells #[] TKV)) (HO.out.1.alloc HO.out.1.size _)
      have HKS : Hid (KsAt w2 ai (rowL L i).length ci (rowL L i) ∧ (ai = none → ci = 0)) := ⟨hks, hbs⟩
      have hll : (rowL L i).length ≤ 200 := HE2L.out i
      clear hks hbs hcl0
      go_wp2_with (first
        | (at_builtin; refine wpList_appK (wr.alloc (.cells #[] TKV)) rfl (.tmp 31) (.tmp 35) rfl wr.heap.size (some ⟨wr.heap.size, 0, none⟩) 0 0 [] rfl (OwnK.madeE wr) ai (rowL L i).length ci (rowL L i) rfl (HKS.out.1.below (HO.out.1.alloc HO.out.1.size _)) HKS.out.2 (by omega) (by simp) ?_
           intro a4 c4 w4 ho4 hb4 hg4
           have H4 : Hid (Below w2.heap.size w2 w4 ∧ OwnSl w4 w2.heap.size a3 i c3 vs ∧ (∀ j, j < i → ∃ aj cj, vs[j]? = some (.slice aj (lenL L j) cj) ∧ OwnK w4 w2.heap.size aj (lenL L j) cj (rowL L j)) ∧ OwnK w4 w2.heap.size a4 (rowL L i).length c4 (rowL L i)) := by
             rw [Nat.zero_add] at ho4
             have hb5 : Below wr.heap.size wr w4 := ((Below.refl _ _).alloc (Nat.le_refl _) _).trans hb4
             refine ⟨HO.out.1.trans (hb5.mono HO.out.1.size), HO.out.2.1.below hb5, fun j hj => ?_, (by simpa using ho4.less HO.out.1.size)⟩
             obtain ⟨aj, cj, h1, h2⟩ := HO.out.2.2 j hj
             exact ⟨aj, cj, h1, h2.below hb5⟩
           clear ho4 hb4 hg4 HO)
        | (at_builtin; refine wpList_pushR w4 rfl (.tmp 30) (.tmp 37) rfl w2.heap.size a3 i c3 vs rfl H4.out.2.1 (.slice a4 (rowL L i).length c4) rfl w4.heap.size rfl rfl (by omega) H4.out.1.size ?_
           intro a5 c5 w5 ho5 hb5 hg5
           have H5 : Hid (Below w2.heap.size w2 w5 ∧ OwnSl w5 w2.heap.size a5 (i + 1) c5 (vs ++ [.slice a4 (rowL L i).length c4]) ∧ (∀ j, j < i → ∃ aj cj, vs[j]? = some (.slice aj (lenL L j) cj) ∧ OwnK w5 w2.heap.size aj (lenL L j) cj (rowL L j)) ∧ OwnK w5 w2.heap.size a4 (rowL L i).length c4 (rowL L i)) := by
             have hkk : ∀ {aj : Option Addr} {nj cj : Nat} {lj : List KV}, OwnK w4 w2.heap.size aj nj cj lj → OwnK w5 w2.heap.size aj nj cj lj := fun {aj nj cj lj} h => h.kept fun k e => by
               rw [hg5.block k (by have := tag_lt (h.tag e); simp; omega) (fun e2 => by
                 have e3 := H4.out.2.1.tag e2.symm
                 rw [h.tag e] at e3
                 exact absurd (Option.some.inj e3) (by decide))]
               exact Below.heap_alloc w4 _ k (tag_lt (h.tag e))
             refine ⟨H4.out.1.trans hb5, ho5, fun j hj => ?_, hkk H4.out.2.2.2⟩
             obtain ⟨aj, cj, h1, h2⟩ := H4.out.2.2.1 j hj
             exact ⟨aj, cj, h1, hkk h2⟩
           clear ho5 hb5 hg5 H4))
      go_roundw
      case rel =>
        refine ⟨i + 1, a5, c5, by omega, by go_num, rfl, H5.out.1, _, H5.out.2.1, fun j hj => ?_⟩
        have hvl : vs.length = i := by
          have := H5.out.2.1.size
          rw [List.length_append] at this
          simpa using this
        by_cases e : j = i
        · subst e
          refine ⟨a4, c4, ?_, ?_⟩
          · rw [List.getElem?_append_right (by omega), hvl, Nat.sub_self]
            rfl
          · exact H5.out.2.2.2
        · obtain ⟨aj, cj, h1, h2⟩ := H5.out.2.2.1 j (by omega)
          exact ⟨aj, cj, by rw [List.getElem?_append_left (by omega)]; exact h1, h2⟩
      case measure => simp only [intOf]; omega
    · obtain rfl : i = N := by omega
      obtain ⟨vs, ho, hvs⟩ := HI.out.2
      have HLS : Hid (LsAt wr a3 i c3 L) := ho.ls HN.out.1.symm (fun j hj => by
        obtain ⟨aj, cj, h1, h2⟩ := hvs j hj
        exact ⟨_, h1, aj, cj, rfl, h2.ks, h2.spot.1⟩)
      have HLT : Hid (Lent16 wr w2.heap.size wr.heap.size a3 i c3 (lenL L)) := ⟨vs, ho, fun k e => tag_lt (ho.tag e), fun j hj => by
        obtain ⟨aj, cj, h1, h2⟩ := hvs j hj
        exact ⟨_, h1, h2.rowX (Nat.le_refl _)⟩⟩
      have HB3 : Hid (Below w2.heap.size w2 wr) := HI.out.1
      clear HI ho hvs
      go_wp2_with fail
      refine (F.new a3 i c3 L wr HLS.out HF.out).mono ?_
      rintro e4 w4 ⟨hb4, hcase⟩
      have HX : ∃ vx ve, e4 = .returned (.tuple #[vx, ve]) ∧ XS D w2 w4 wr.heap.size L vx ve := by
        rcases hcase with ⟨hr, p, R, rfl, hd, hR⟩ | ⟨hno, rfl⟩
        · exact ⟨_, _, rfl, .inl ⟨hr, p, R, rfl, rfl, HB3.out.trans (hb4.mono HB3.out.size), Nat.le_trans HB3.out.size hb4.size, hd, fun k hk => Nat.le_trans HB3.out.size (hR k hk), fun k hk => ⟨Nat.lt_of_lt_of_le hk.2 hb4.size, fun hr => by have := hR k hr; omega⟩⟩⟩
        · exact ⟨_, _, rfl, .inr ⟨hno, rfl, rfl⟩⟩
      obtain ⟨vx, ve, rfl, hxs⟩ := HX
      have S4 : Hid (XS D w2 w4 wr.heap.size L vx ve ∧ Below w2.heap.size w2 w4 ∧ Lent16 w4 w2.heap.size wr.heap.size a3 i c3 (lenL L)) := ⟨hxs, HB3.out.trans (hb4.mono HB3.out.size), HLT.out.kept fun k _ hk => hb4.block k hk⟩
      clear hxs hb4 hcase HLT HLS HB3
      go_upto_region 9 with fail
      generalize wr.heap.size = HH at S4
      go_wp2_with fail
      go_loopw [10] (fun s10 wz => ∃ (j : Nat), j ≤ i ∧ s10 = .int .i64 (j : Int) ∧ Hid (XS D w2 wz HH L vx ve ∧ Below w2.heap.size w2 wz ∧ Lent16 wz w2.heap.size HH a3 i c3 (lenL L))) (fun s10 _ => i - (intOf s10).toNat)
      case atStart => exact ⟨0, Nat.zero_le _, rfl, S4.out⟩
      case round =>
        clear S4
        obtain ⟨j, hji, rfl, HJ⟩ := hrel
        by_cases hj : j < i
        · have hjI : (j : Int) < (i : Int) := by omega
          have hll := HE2L.out j
          go_wp2_with fail
          go_loopw [11] (fun s11 wz => ∃ (k : Nat), k ≤ lenL L j ∧ s11 = .int .i64 (k : Int) ∧ Hid (XS D w2 wz HH L vx ve ∧ Below w2.heap.size w2 wz ∧ Lent16 wz w2.heap.size HH a3 i c3 (lenL L))) (fun s11 _ => lenL L j - (intOf s11).toNat)
          case atStart => exact ⟨0, Nat.zero_le _, rfl, HJ.out⟩
          case round =>
            clear HJ
            obtain ⟨k, hkl, rfl, HK⟩ := hrel
            obtain ⟨g, ad, ci, hxg, hcg, hrow⟩ := HK.out.2.2.at hj
            by_cases hk : k < lenL L j
            · have hkI : (k : Int) < (lenL L j : Int) := by omega
              obtain ⟨b, arr, rfl, hMb, hbH, hbox, hsz⟩ := hrow (by omega)
              have HBX : Hid (Box wr b TKV arr ∧ w2.heap.size ≤ b ∧ b < HH) := ⟨hbox, hMb, hbH⟩
              have hidx2 := fun W => idxKV W (a := some ⟨b, 0, none⟩) (b := b) (off := 0) (n := lenL L j) (c := ci) rfl hk
              simp only [Nat.zero_add] at hidx2
              have q0 := hbox.soft (k * 4)
              have q1 := hbox.soft (k * 4 + 1)
              have q2 := hbox.soft (k * 4 + 2)
              have q3 := hbox.soft (k * 4 + 3)
              obtain ⟨x0, m0⟩ : ∃ x, wr.cell? ⟨b, k * 4, none⟩ = some x := ⟨arr[k * 4]'(by omega), by rw [hbox.cell]; simp⟩
              obtain ⟨x1, m1⟩ : ∃ x, wr.cell? ⟨b, k * 4 + 1, none⟩ = some x := ⟨arr[k * 4 + 1]'(by omega), by rw [hbox.cell]; simp⟩
              obtain ⟨x2, m2⟩ : ∃ x, wr.cell? ⟨b, k * 4 + 2, none⟩ = some x := ⟨arr[k * 4 + 2]'(by omega), by rw [hbox.cell]; simp⟩
              obtain ⟨x3, m3⟩ : ∃ x, wr.cell? ⟨b, k * 4 + 3, none⟩ = some x := ⟨arr[k * 4 + 3]'(by omega), by rw [hbox.cell]; simp⟩
              clear hrow hbox hsz
              generalize lenL L j = ll at *
              go_wp2
              go_roundw
              case rel =>
                refine ⟨k + 1, by omega, by go_num, ?_, ?_, ?_⟩
                · exact (((HK.out.1.set F HBX.out.2.1 HBX.out.2.2 _ _).set F HBX.out.2.1 HBX.out.2.2 _ _).set F HBX.out.2.1 HBX.out.2.2 _ _).set F HBX.out.2.1 HBX.out.2.2 _ _
                · exact (((HK.out.2.1.setCell (p := ⟨b, _, none⟩) hMb _).setCell (p := ⟨b, _, none⟩) hMb _).setCell (p := ⟨b, _, none⟩) hMb _).setCell (p := ⟨b, _, none⟩) hMb _
                · exact (((HK.out.2.2.set HBX.out.1 _ _).set (HBX.out.1.set _ _) _ _).set ((HBX.out.1.set _ _).set _ _) _ _).set (((HBX.out.1.set _ _).set _ _).set _ _) _ _
              case measure => simp only [intOf]; omega
            · have hkI : ¬ (k : Int) < (lenL L j : Int) := by omega
              clear hrow
              generalize lenL L j = ll at *
              go_wp2
              go_roundw
              case rel => exact ⟨j + 1, by omega, by go_num, HK.out⟩
              case measure => simp only [intOf]; omega
        · have hjI : ¬ (j : Int) < (i : Int) := by omega
          have HNEW := rnew_any a2 i c2 L wr (HN.out.2.below HJ.out.2.1) (by omega) (fun q => by have := HE2L.out q; omega) (by have := HA8.out; omega)
          have HNW : Hid (Calls Try.prog 12 #[.slice a2 i c2] wr fun e w' => Below wr.heap.size wr w' ∧ ((RiseL L ∧ ∃ p, e = .returned (.tuple #[at_ p, .int .i64 0]) ∧ Rf w' wr.heap.size w'.heap.size p (allL L) none) ∨ (¬ RiseL L ∧ e = .returned (.tuple #[nilIt, .int .i64 160])))) := HNEW
          clear HNEW
          go_wp2_with fail
          refine HNW.out.mono ?_
          rintro e6 w6 ⟨hb6, hcase6⟩
          rcases hcase6 with ⟨hr, pr, rfl, hrf⟩ | ⟨hno, rfl⟩
          · rcases HJ.out.1 with ⟨_, p, R, rfl, rfl, hm⟩ | ⟨hn2, _⟩
            case inr => exact absurd hr hn2
            have S6 : Hid (MgS D w2 w2.heap.size w6 R p L none (fun k => wr.heap.size ≤ k ∧ k < w6.heap.size) ∧ Rf w6 wr.heap.size w6.heap.size pr (allL L) none) := ⟨hm.more F (hm.below F hb6) fun k hk => .inr hk, hrf⟩
            have HMB : Hid (w2.heap.size ≤ wr.heap.size) := HJ.out.2.1.size
            clear hm hrf hb6 hr HJ HNW
            generalize wr.heap.size = B6 at S6 HMB
            generalize hM6 : w6.heap.size = M6 at S6
            clear hM6
            have HT0 : Hid (∀ (W : World) (R : Nat → Prop), D W R p L none → Calls Try.prog 13 #[at_ p] W fun e w' => e = .returned (.tuple #[.agg #[.string ⟨#[]⟩, .int .u64 0, .int .i64 0, .string ⟨#[]⟩], .bool false]) ∧ MgPost D R p L none W w') := fun W R hd => F.at' hd
            go_wp2_with fail
            refine (HT0.out _ _ S6.out.1.it).mono ?_
            rintro _ w7 ⟨rfl, hp7⟩
            obtain ⟨R7, h7, k7, z7⟩ := S6.out.1.step hp7
            have S7 : Hid (MgS D w2 w2.heap.size (w7.alloc (.cells #[.string ⟨#[]⟩, .int .u64 0, .int .i64 0, .string ⟨#[]⟩] TKV)) R7 p L none (fun k => B6 ≤ k ∧ k < M6) ∧ Rf (w7.alloc (.cells #[.string ⟨#[]⟩, .int .u64 0, .int .i64 0, .string ⟨#[]⟩] TKV)) B6 M6 pr (allL L) none) := ⟨(h7.alloc F _).less fun k hk => .inl hk, (S6.out.2.kept z7 fun k h1 h2 => k7 k ⟨h1, h2⟩).below ((Below.refl _ _).alloc (Nat.le_refl _) _)⟩
            clear h7 k7 z7 hp7 S6 HT0
            go_upto_region 24 with fail
            generalize w7.alloc (.cells #[.string ⟨#[]⟩, .int .u64 0, .int .i64 0, .string ⟨#[]⟩] TKV) = w8 at S7 ⊢
            go_wp2_with fail
            go_loopw [16] (fun s16 wr => ∃ (j : Nat), j ≤ nw ∧ s16 = .int .i64 (j : Int) ∧ Hid (∃ R o, MgS D w2 w2.heap.size wr R p L o (fun k => B6 ≤ k ∧ k < M6) ∧ Rf wr B6 M6 pr (allL L) o)) (fun s16 _ => nw - (intOf s16).toNat)
            case atStart => exact ⟨0, Nat.zero_le _, rfl, R7, none, S7.out⟩
            case round =>
              clear S7
              obtain ⟨j, hjn, rfl, HI⟩ := hrel
              obtain ⟨R9, o9, h9⟩ := HI.out
              have S9 : Hid (MgS D w2 w2.heap.size wr R9 p L o9 (fun k => B6 ≤ k ∧ k < M6) ∧ Rf wr B6 M6 pr (allL L) o9) := h9
              clear HI h9
              by_cases hj : j < nw
              · have hjI : (j : Int) < (nw : Int) := by omega
                obtain ⟨bw, ow, kind, kk, hxw, hcw⟩ := H0.out.2.at hj
                have HWC : Hid (∀ W, Below w2.heap.size w2 W → W.cell? ⟨bw, ow, none⟩ = some (.int .i64 kind) ∧ W.cell? ⟨bw, ow + 1, none⟩ = some (.string kk.user) ∧ W.cell? ⟨bw, ow + 2, none⟩ = some (.int .u64 (kk.seq : Int)) ∧ W.cell? ⟨bw, ow + 3, none⟩ = some (.int .i64 kk.kind)) := fun W hW => hcw W (H2.out.1.trans (hW.mono H2.out.1.size))
                obtain ⟨d0, d1, d2, d3⟩ := HWC.out _ S9.out.1.low
                clear hcw
                go_wp2_with fail
                refine (gone_any F S9.out.1.it kind kk).mono ?_
                rintro _ wA ⟨rfl, hpA⟩
                obtain ⟨RA, hA, kA, zA⟩ := S9.out.1.step hpA
                have SA : Hid (MgS D w2 w2.heap.size wA RA p L (goneO (allL L) kind kk o9) (fun k => B6 ≤ k ∧ k < M6) ∧ Rf wA B6 M6 pr (allL L) o9) := ⟨hA, S9.out.2.kept zA fun k h1 h2 => kA k ⟨h1, h2⟩⟩
                clear hA kA zA hpA S9 d0 d1 d2 d3
                obtain ⟨d0, d1, d2, d3⟩ := HWC.out _ SA.out.1.low
                by_cases hk : 1 ≤ kind ∧ kind ≤ 5
                · obtain ⟨gk, rfl⟩ : ∃ gk : Nat, kind = (gk : Int) := ⟨kind.toNat, by omega⟩
                  rw [goneO_nat (by omega)] at SA
                  have hk1 : (1 : Int) ≤ (gk : Int) := hk.1
                  have hk5 : (gk : Int) ≤ 5 := hk.2
                  have HGO : Hid (∀ W, Rf W B6 M6 pr (allL L) o9 → Calls Try.prog 15 #[at_ pr, .int .i64 (gk : Int), keyV kk] W fun e w' => e = .returned (.tuple #[]) ∧ Rf w' B6 M6 pr (allL L) (goP (allL L) gk kk o9) ∧ Chg (fun q => q = pr) W w') := fun W hW => rgo_any hW gk (by omega) kk (by have := HA8.out; omega)
                  clear hk
                  go_upto_region 29 with fail
                  have SB : Hid (MgS D w2 w2.heap.size wA.drew RA p L (goP (allL L) gk kk o9) (fun k => B6 ≤ k ∧ k < M6) ∧ Rf wA.drew B6 M6 pr (allL L) o9) := ⟨SA.out.1.drew F, SA.out.2.below (Below.refl _ _).drew⟩
                  clear SA d0 d1 d2 d3
                  obtain ⟨d0, d1, d2, d3⟩ := HWC.out _ SB.out.1.low
                  go_region_held3 (fun V => V.cell? ⟨bw, ow, none⟩ = some (.int .i64 (gk : Int)) ∧ V.cell? ⟨bw, ow + 1, none⟩ = some (.string kk.user) ∧ V.cell? ⟨bw, ow + 2, none⟩ = some (.int .u64 (kk.seq : Int)) ∧ V.cell? ⟨bw, ow + 3, none⟩ = some (.int .i64 kk.kind)) (first | exact ⟨d0, d1, d2, d3⟩ | go_keep)
                    (first
                     | (go_at_call 15; refine (HGO.out _ SB.out.2).mono ?_; rintro _ wS ⟨rfl, hrS, hcS⟩
                        have SS : Hid (MgS D w2 w2.heap.size wS RA p L (goP (allL L) gk kk o9) (fun k => B6 ≤ k ∧ k < M6) ∧ Rf wS B6 M6 pr (allL L) (goP (allL L) gk kk o9)) := ⟨SB.out.1.chg F hcS fun k hk => by subst hk; exact ⟨⟨hrS.ge, hrS.lt⟩, Nat.le_trans HMB.out hrS.ge⟩, hrS⟩
                        obtain ⟨d0, d1, d2, d3⟩ := HWC.out _ SS.out.1.low
                        clear hrS hcS))
                  obtain ⟨RS, hRS⟩ : ∃ RS, RS = RA := ⟨_, rfl⟩
                  rw [← hRS] at SS
                  clear hRS
                  go_wp2_with fail
                  have hA : Calls Try.prog 13 #[at_ p] wS fun e w' => e = .returned (.tuple #[kvV (told16 (allL L) (goP (allL L) gk kk o9)).1, .bool (told16 (allL L) (goP (allL L) gk kk o9)).2]) ∧ MgPost D RS p L (goP (allL L) gk kk o9) wS w' := F.at' SS.out.1.it
                  have HTD : Hid (∀ W, Rf W B6 M6 pr (allL L) (goP (allL L) gk kk o9) → Calls Try.prog 16 #[at_ pr] W fun e w' => e = .returned (.tuple #[.agg (kvc (told16 (allL L) (goP (allL L) gk kk o9)).1).toArray, .bool (told16 (allL L) (goP (allL L) gk kk o9)).2]) ∧ Below W.heap.size W w') := fun W hW => rtold_any hW
                  obtain ⟨e, hE⟩ : ∃ e, e = (told16 (allL L) (goP (allL L) gk kk o9)).1 := ⟨_, rfl⟩
                  obtain ⟨f, hF⟩ : ∃ f, f = (told16 (allL L) (goP (allL L) gk kk o9)).2 := ⟨_, rfl⟩
                  rw [← hE, ← hF] at hA HTD
                  clear hE hF
                  have heq := run_neq_kv16 e e
                  rw [show eqKV e e = true from eqKV_iff.2 rfl] at heq
                  rw [show (!true) = false from rfl] at heq
                  unfold kvV kvc at heq
                  have hbb : (f != f) = false := by cases f <;> rfl
                  have hA2 : Calls Try.prog 13 #[at_ p] wS fun r w' => r = .returned (.tuple #[.agg #[.string e.1.user, .int .u64 (e.1.seq : Int), .int .i64 e.1.kind, .string e.2], .bool f]) ∧ MgPost D RS p L (goP (allL L) gk kk o9) wS w' := hA
                  have HTD2 : Hid (∀ W, Rf W B6 M6 pr (allL L) (goP (allL L) gk kk o9) → Calls Try.prog 16 #[at_ pr] W fun r w' => r = .returned (.tuple #[.agg #[.string e.1.user, .int .u64 (e.1.seq : Int), .int .i64 e.1.kind, .string e.2], .bool f]) ∧ Below W.heap.size W w') := HTD
                  clear hA HTD
                  refine hA2.mono ?_
                  rintro _ wT ⟨rfl, hpT⟩
                  obtain ⟨RT, hT, kT, zT⟩ := SS.out.1.step hpT
                  have ST : Hid (MgS D w2 w2.heap.size (wT.alloc (.cells #[.string e.1.user, .int .u64 (e.1.seq : Int), .int .i64 e.1.kind, .string e.2] TKV)) RT p L (goP (allL L) gk kk o9) (fun k => (B6 ≤ k ∧ k < M6) ∨ k = wT.heap.size) ∧ Rf (wT.alloc (.cells #[.string e.1.user, .int .u64 (e.1.seq : Int), .int .i64 e.1.kind, .string e.2] TKV)) B6 M6 pr (allL L) (goP (allL L) gk kk o9) ∧ Box (wT.alloc (.cells #[.string e.1.user, .int .u64 (e.1.seq : Int), .int .i64 e.1.kind, .string e.2] TKV)) wT.heap.size TKV #[.string e.1.user, .int .u64 (e.1.seq : Int), .int .i64 e.1.kind, .string e.2]) := ⟨hT.alloc F _, (SS.out.2.kept zT fun k h1 h2 => kT k ⟨h1, h2⟩).below ((Below.refl _ _).alloc (Nat.le_refl _) _), Box.new _ _ _⟩
                  clear hT kT zT hpT SS hA2
                  go_upto_region 31 with fail
                  generalize wT.alloc (.cells #[.string e.1.user, .int .u64 (e.1.seq : Int), .int .i64 e.1.kind, .string e.2] TKV) = wU at ST ⊢
                  generalize wT.heap.size = eu at ST ⊢
                  go_wp2_with fail
                  refine (HTD2.out _ ST.out.2.1).mono ?_
                  rintro _ wV ⟨rfl, hbV⟩
                  have SV : Hid (MgS D w2 w2.heap.size (wV.alloc (.cells #[.string e.1.user, .int .u64 (e.1.seq : Int), .int .i64 e.1.kind, .string e.2] TKV)) RT p L (goP (allL L) gk kk o9) (fun k => B6 ≤ k ∧ k < M6) ∧ Rf (wV.alloc (.cells #[.string e.1.user, .int .u64 (e.1.seq : Int), .int .i64 e.1.kind, .string e.2] TKV)) B6 M6 pr (allL L) (goP (allL L) gk kk o9) ∧ Box (wV.alloc (.cells #[.string e.1.user, .int .u64 (e.1.seq : Int), .int .i64 e.1.kind, .string e.2] TKV)) eu TKV #[.string e.1.user, .int .u64 (e.1.seq : Int), .int .i64 e.1.kind, .string e.2] ∧ Box (wV.alloc (.cells #[.string e.1.user, .int .u64 (e.1.seq : Int), .int .i64 e.1.kind, .string e.2] TKV)) wV.heap.size TKV #[.string e.1.user, .int .u64 (e.1.seq : Int), .int .i64 e.1.kind, .string e.2]) := ⟨((ST.out.1.below F hbV).alloc F _).less fun k hk => .inl (.inl hk), (ST.out.2.1.below hbV).below ((Below.refl _ _).alloc (Nat.le_refl _) _), (ST.out.2.2.kept (hbV.block _ ST.out.2.2.lt)).alloc _, Box.new _ _ _⟩
                  clear hbV ST HTD2
                  go_upto_region 32 with fail
                  generalize wV.alloc (.cells #[.string e.1.user, .int .u64 (e.1.seq : Int), .int .i64 e.1.kind, .string e.2] TKV) = wX at SV ⊢
                  generalize wV.heap.size = ev at SV ⊢
                  have g0 := SV.out.2.2.1.cell 0
                  have g1 := SV.out.2.2.1.cell 1
                  have g2 := SV.out.2.2.1.cell 2
                  have g3 := SV.out.2.2.1.cell 3
                  have u0 := SV.out.2.2.2.cell 0
                  have u1 := SV.out.2.2.2.cell 1
                  have u2 := SV.out.2.2.2.cell 2
                  have u3 := SV.out.2.2.2.cell 3
                  go_wp2
                  go_roundw
                  case rel => exact ⟨j + 1, by omega, by go_num, RT, (goP (allL L) gk kk o9), SV.out.1, SV.out.2.1⟩
                  case measure => simp only [intOf]; omega
                · rw [show goneO (allL L) kind kk o9 = o9 from if_neg hk] at SA
                  obtain ⟨RS, hRS⟩ : ∃ RS, RS = RA := ⟨_, rfl⟩
                  obtain ⟨wS, hwS⟩ : ∃ wS, wS = wA := ⟨_, rfl⟩
                  rw [← hRS, ← hwS] at SA
                  rw [← hwS] at d0 d1 d2 d3 ⊢
                  have SS : Hid (MgS D w2 w2.heap.size wS RS p L o9 (fun k => B6 ≤ k ∧ k < M6) ∧ Rf wS B6 M6 pr (allL L) o9) := SA.out
                  clear hRS hwS SA
                  by_cases hk1 : 1 ≤ kind
                  · have hk5 : ¬ kind ≤ 5 := fun x => hk ⟨hk1, x⟩
                    clear hk
                    go_wp2_with fail
                    have hA : Calls Try.prog 13 #[at_ p] wS fun e w' => e = .returned (.tuple #[kvV (told16 (allL L) o9).1, .bool (told16 (allL L) o9).2]) ∧ MgPost D RS p L o9 wS w' := F.at' SS.out.1.it
                    have HTD : Hid (∀ W, Rf W B6 M6 pr (allL L) o9 → Calls Try.prog 16 #[at_ pr] W fun e w' => e = .returned (.tuple #[.agg (kvc (told16 (allL L) o9).1).toArray, .bool (told16 (allL L) o9).2]) ∧ Below W.heap.size W w') := fun W hW => rtold_any hW
                    obtain ⟨e, hE⟩ : ∃ e, e = (told16 (allL L) o9).1 := ⟨_, rfl⟩
                    obtain ⟨f, hF⟩ : ∃ f, f = (told16 (allL L) o9).2 := ⟨_, rfl⟩
                    rw [← hE, ← hF] at hA HTD
                    clear hE hF
                    have heq := run_neq_kv16 e e
                    rw [show eqKV e e = true from eqKV_iff.2 rfl] at heq
                    rw [show (!true) = false from rfl] at heq
                    unfold kvV kvc at heq
                    have hbb : (f != f) = false := by cases f <;> rfl
                    have hA2 : Calls Try.prog 13 #[at_ p] wS fun r w' => r = .returned (.tuple #[.agg #[.string e.1.user, .int .u64 (e.1.seq : Int), .int .i64 e.1.kind, .string e.2], .bool f]) ∧ MgPost D RS p L o9 wS w' := hA
                    have HTD2 : Hid (∀ W, Rf W B6 M6 pr (allL L) o9 → Calls Try.prog 16 #[at_ pr] W fun r w' => r = .returned (.tuple #[.agg #[.string e.1.user, .int .u64 (e.1.seq : Int), .int .i64 e.1.kind, .string e.2], .bool f]) ∧ Below W.heap.size W w') := HTD
                    clear hA HTD
                    refine hA2.mono ?_
                    rintro _ wT ⟨rfl, hpT⟩
                    obtain ⟨RT, hT, kT, zT⟩ := SS.out.1.step hpT
                    have ST : Hid (MgS D w2 w2.heap.size (wT.alloc (.cells #[.string e.1.user, .int .u64 (e.1.seq : Int), .int .i64 e.1.kind, .string e.2] TKV)) RT p L o9 (fun k => (B6 ≤ k ∧ k < M6) ∨ k = wT.heap.size) ∧ Rf (wT.alloc (.cells #[.string e.1.user, .int .u64 (e.1.seq : Int), .int .i64 e.1.kind, .string e.2] TKV)) B6 M6 pr (allL L) o9 ∧ Box (wT.alloc (.cells #[.string e.1.user, .int .u64 (e.1.seq : Int), .int .i64 e.1.kind, .string e.2] TKV)) wT.heap.size TKV #[.string e.1.user, .int .u64 (e.1.seq : Int), .int .i64 e.1.kind, .string e.2]) := ⟨hT.alloc F _, (SS.out.2.kept zT fun k h1 h2 => kT k ⟨h1, h2⟩).below ((Below.refl _ _).alloc (Nat.le_refl _) _), Box.new _ _ _⟩
                    clear hT kT zT hpT SS hA2
                    go_upto_region 31 with fail
                    generalize wT.alloc (.cells #[.string e.1.user, .int .u64 (e.1.seq : Int), .int .i64 e.1.kind, .string e.2] TKV) = wU at ST ⊢
                    generalize wT.heap.size = eu at ST ⊢
                    go_wp2_with fail
                    refine (HTD2.out _ ST.out.2.1).mono ?_
                    rintro _ wV ⟨rfl, hbV⟩
                    have SV : Hid (MgS D w2 w2.heap.size (wV.alloc (.cells #[.string e.1.user, .int .u64 (e.1.seq : Int), .int .i64 e.1.kind, .string e.2] TKV)) RT p L o9 (fun k => B6 ≤ k ∧ k < M6) ∧ Rf (wV.alloc (.cells #[.string e.1.user, .int .u64 (e.1.seq : Int), .int .i64 e.1.kind, .string e.2] TKV)) B6 M6 pr (allL L) o9 ∧ Box (wV.alloc (.cells #[.string e.1.user, .int .u64 (e.1.seq : Int), .int .i64 e.1.kind, .string e.2] TKV)) eu TKV #[.string e.1.user, .int .u64 (e.1.seq : Int), .int .i64 e.1.kind, .string e.2] ∧ Box (wV.alloc (.cells #[.string e.1.user, .int .u64 (e.1.seq : Int), .int .i64 e.1.kind, .string e.2] TKV)) wV.heap.size TKV #[.string e.1.user, .int .u64 (e.1.seq : Int), .int .i64 e.1.kind, .string e.2]) := ⟨((ST.out.1.below F hbV).alloc F _).less fun k hk => .inl (.inl hk), (ST.out.2.1.below hbV).below ((Below.refl _ _).alloc (Nat.le_refl _) _), (ST.out.2.2.kept (hbV.block _ ST.out.2.2.lt)).alloc _, Box.new _ _ _⟩
                    clear hbV ST HTD2
                    go_upto_region 32 with fail
                    generalize wV.alloc (.cells #[.string e.1.user, .int .u64 (e.1.seq : Int), .int .i64 e.1.kind, .string e.2] TKV) = wX at SV ⊢
                    generalize wV.heap.size = ev at SV ⊢
                    have g0 := SV.out.2.2.1.cell 0
                    have g1 := SV.out.2.2.1.cell 1
                    have g2 := SV.out.2.2.1.cell 2
                    have g3 := SV.out.2.2.1.cell 3
                    have u0 := SV.out.2.2.2.cell 0
                    have u1 := SV.out.2.2.2.cell 1
                    have u2 := SV.out.2.2.2.cell 2
                    have u3 := SV.out.2.2.2.cell 3
                    go_wp2
                    go_roundw
                    case rel => exact ⟨j + 1, by omega, by go_num, RT, o9, SV.out.1, SV.out.2.1⟩
                    case measure => simp only [intOf]; omega
                  · clear hk
                    go_wp2_with fail
                    have hA : Calls Try.prog 13 #[at_ p] wS fun e w' => e = .returned (.tuple #[kvV (told16 (allL L) o9).1, .bool (told16 (allL L) o9).2]) ∧ MgPost D RS p L o9 wS w' := F.at' SS.out.1.it
                    have HTD : Hid (∀ W, Rf W B6 M6 pr (allL L) o9 → Calls Try.prog 16 #[at_ pr] W fun e w' => e = .returned (.tuple #[.agg (kvc (told16 (allL L) o9).1).toArray, .bool (told16 (allL L) o9).2]) ∧ Below W.heap.size W w') := fun W hW => rtold_any hW
                    obtain ⟨e, hE⟩ : ∃ e, e = (told16 (allL L) o9).1 := ⟨_, rfl⟩
                    obtain ⟨f, hF⟩ : ∃ f, f = (told16 (allL L) o9).2 := ⟨_, rfl⟩
                    rw [← hE, ← hF] at hA HTD
                    clear hE hF
                    have heq := run_neq_kv16 e e
                    rw [show eqKV e e = true from eqKV_iff.2 rfl] at heq
                    rw [show (!true) = false from rfl] at heq
                    unfold kvV kvc at heq
                    have hbb : (f != f) = false := by cases f <;> rfl
                    have hA2 : Calls Try.prog 13 #[at_ p] wS fun r w' => r = .returned (.tuple #[.agg #[.string e.1.user, .int .u64 (e.1.seq : Int), .int .i64 e.1.kind, .string e.2], .bool f]) ∧ MgPost D RS p L o9 wS w' := hA
                    have HTD2 : Hid (∀ W, Rf W B6 M6 pr (allL L) o9 → Calls Try.prog 16 #[at_ pr] W fun r w' => r = .returned (.tuple #[.agg #[.string e.1.user, .int .u64 (e.1.seq : Int), .int .i64 e.1.kind, .string e.2], .bool f]) ∧ Below W.heap.size W w') := HTD
                    clear hA HTD
                    refine hA2.mono ?_
                    rintro _ wT ⟨rfl, hpT⟩
                    obtain ⟨RT, hT, kT, zT⟩ := SS.out.1.step hpT
                    have ST : Hid (MgS D w2 w2.heap.size (wT.alloc (.cells #[.string e.1.user, .int .u64 (e.1.seq : Int), .int .i64 e.1.kind, .string e.2] TKV)) RT p L o9 (fun k => (B6 ≤ k ∧ k < M6) ∨ k = wT.heap.size) ∧ Rf (wT.alloc (.cells #[.string e.1.user, .int .u64 (e.1.seq : Int), .int .i64 e.1.kind, .string e.2] TKV)) B6 M6 pr (allL L) o9 ∧ Box (wT.alloc (.cells #[.string e.1.user, .int .u64 (e.1.seq : Int), .int .i64 e.1.kind, .string e.2] TKV)) wT.heap.size TKV #[.string e.1.user, .int .u64 (e.1.seq : Int), .int .i64 e.1.kind, .string e.2]) := ⟨hT.alloc F _, (SS.out.2.kept zT fun k h1 h2 => kT k ⟨h1, h2⟩).below ((Below.refl _ _).alloc (Nat.le_refl _) _), Box.new _ _ _⟩
                    clear hT kT zT hpT SS hA2
                    go_upto_region 31 with fail
                    generalize wT.alloc (.cells #[.string e.1.user, .int .u64 (e.1.seq : Int), .int .i64 e.1.kind, .string e.2] TKV) = wU at ST ⊢
                    generalize wT.heap.size = eu at ST ⊢
                    go_wp2_with fail
                    refine (HTD2.out _ ST.out.2.1).mono ?_
                    rintro _ wV ⟨rfl, hbV⟩
                    have SV : Hid (MgS D w2 w2.heap.size (wV.alloc (.cells #[.string e.1.user, .int .u64 (e.1.seq : Int), .int .i64 e.1.kind, .string e.2] TKV)) RT p L o9 (fun k => B6 ≤ k ∧ k < M6) ∧ Rf (wV.alloc (.cells #[.string e.1.user, .int .u64 (e.1.seq : Int), .int .i64 e.1.kind, .string e.2] TKV)) B6 M6 pr (allL L) o9 ∧ Box (wV.alloc (.cells #[.string e.1.user, .int .u64 (e.1.seq : Int), .int .i64 e.1.kind, .string e.2] TKV)) eu TKV #[.string e.1.user, .int .u64 (e.1.seq : Int), .int .i64 e.1.kind, .string e.2] ∧ Box (wV.alloc (.cells #[.string e.1.user, .int .u64 (e.1.seq : Int), .int .i64 e.1.kind, .string e.2] TKV)) wV.heap.size TKV #[.string e.1.user, .int .u64 (e.1.seq : Int), .int .i64 e.1.kind, .string e.2]) := ⟨((ST.out.1.below F hbV).alloc F _).less fun k hk => .inl (.inl hk), (ST.out.2.1.below hbV).below ((Below.refl _ _).alloc (Nat.le_refl _) _), (ST.out.2.2.kept (hbV.block _ ST.out.2.2.lt)).alloc _, Box.new _ _ _⟩
                    clear hbV ST HTD2
                    go_upto_region 32 with fail
                    generalize wV.alloc (.cells #[.string e.1.user, .int .u64 (e.1.seq : Int), .int .i64 e.1.kind, .string e.2] TKV) = wX at SV ⊢
                    generalize wV.heap.size = ev at SV ⊢
                    have g0 := SV.out.2.2.1.cell 0
                    have g1 := SV.out.2.2.1.cell 1
                    have g2 := SV.out.2.2.1.cell 2
                    have g3 := SV.out.2.2.1.cell 3
                    have u0 := SV.out.2.2.2.cell 0
                    have u1 := SV.out.2.2.2.cell 1
                    have u2 := SV.out.2.2.2.cell 2
                    have u3 := SV.out.2.2.2.cell 3
                    go_wp2
                    go_roundw
                    case rel => exact ⟨j + 1, by omega, by go_num, RT, o9, SV.out.1, SV.out.2.1⟩
                    case measure => simp only [intOf]; omega
              · have hjI : ¬ (j : Int) < (nw : Int) := by omega
                have HX : Hid (Below w.heap.size w wr) := H2.out.1.trans (S9.out.1.low.mono H2.out.1.size)
                clear S9
                go_wp2
                go_ret
                exact ⟨ret1 rfl, HX.out⟩
          · rcases HJ.out.1 with ⟨hr2, _⟩ | ⟨_, rfl, rfl⟩
            · exact absurd hr2 hno
            have HX : Hid (Below w.heap.size w w6) := H2.out.1.trans ((HJ.out.2.1.trans (hb6.mono HJ.out.2.1.size)).mono H2.out.1.size)
            clear HJ HNW hb6
            go_wp2
            go_ret
            exact ⟨ret1 rfl, HX.out⟩
end Go.Proofs.Ytfijibengmgegaa
