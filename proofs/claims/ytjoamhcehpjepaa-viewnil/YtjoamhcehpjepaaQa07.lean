/- The walk of ViewPlays, by what is asked of view's own. -/
import Derived.Test.YtjoamhcehpjepaaQa06
import Derived.Test.YtjoamhcehpjepaaQa04
namespace Go.Proofs.Ytjoamhcehpjepaa
open Go.RowKit
set_option linter.unusedVariables false
set_option linter.unusedSimpArgs false
def wayC17 (g : Int × ByteArray) : List Value := [.int .i64 g.1, .string g.2]
/-- The slice value reads as ways to go. -/
structure WsAt17 (w : World) (a : Option Addr) (n c : Nat) (l : List (Int × ByteArray)) : Prop where
  size : l.length = n
  here : 0 < n → ∃ b off, a = some ⟨b, off, none⟩ ∧ ∀ i (hi : i < l.length), ∀ r, r < 2 → w.cell? ⟨b, off + i * 2 + r, none⟩ = (wayC17 l[i])[r]?
set_option maxRecDepth 100000 in
theorem idxGo17 (w : World) {b off n c i : Nat} (hi : i < n) : (Instr.indexAt 24 (.slice (some ⟨b, off, none⟩) n c) (.int .i64 (i : Int))).run Try.prog w = .ok (.pointer (some ⟨b, off + i * 2, none⟩)) w := by
  have h1 : (0 : Int) ≤ (i : Int) ∧ (i : Int) < (n : Int) := by omega
  have hsz : (sizeOf (Try.prog.elem 24)).run Try.prog w = .ok 2 w := by kernel_rfl
  rw [run_indexAt_slice (P := Try.prog) (h := (by kernel_rfl : Try.prog.underlying 24 = some (.slice (Try.prog.elem 24)))), if_pos h1, hsz]
  simp [Result.andThen, Addr.add_lit]
theorem WsAt17.at {w : World} {a : Option Addr} {n c : Nat} {l : List (Int × ByteArray)} (h : WsAt17 w a n c l) {i : Nat} (hi : i < n) : ∃ (b o : Nat) (kind : Int) (k : ByteArray), (∀ V : World, (Instr.indexAt 24 (.slice a n c) (.int .i64 (i : Int))).run Try.prog V = .ok (.pointer (some ⟨b, o, none⟩)) V) ∧
    ∀ W, Below w.heap.size w W → W.cell? ⟨b, o, none⟩ = some (.int .i64 kind) ∧ W.cell? ⟨b, o + 1, none⟩ = some (.string k) := by
  obtain ⟨b, off, rfl, hc⟩ := h.here (by omega)
  have hil : i < l.length := by have := h.size; omega
  have h0 : w.cell? ⟨b, off + i * 2, none⟩ = some (.int .i64 l[i].1) := hc i hil 0 (by omega)
  have h1 : w.cell? ⟨b, off + i * 2 + 1, none⟩ = some (.string l[i].2) := hc i hil 1 (by omega)
  have hb : b < w.heap.size := World.block_lt_of_cell? w _ h0
  exact ⟨b, off + i * 2, l[i].1, l[i].2, fun V => idxGo17 V hi, fun W hW => ⟨by rw [hW.cell hb]; exact h0, by rw [hW.cell hb]; exact h1⟩⟩
/-- A view and the document's own, side by side. -/
structure Pl17 (D : VwRel) (Wn : World) (M : Nat) (W : World) (R : Nat → Prop) (p : Nat) (I : List It17) (o o2 : Option Nat) (B6 M6 pr : Nat) : Prop where
  vw : VwS D Wn M W R p I o (fun k => B6 ≤ k ∧ k < M6)
  rv : Rv W B6 M6 pr I o2
  low : M ≤ B6
section
variable {D : VwRel} {Wn W W' : World} {M B6 M6 pr p : Nat} {R : Nat → Prop} {I : List It17} {o o' o2 : Option Nat}
theorem Pl17.step (h : Pl17 D Wn M W R p I o o2 B6 M6 pr) (hp : VwPost D R p I o' W W') : ∃ R', Pl17 D Wn M W' R' p I o' o2 B6 M6 pr := by
  obtain ⟨R', h1, h2, h3⟩ := h.vw.step hp
  exact ⟨R', h1, h.rv.kept h3 fun k a b => h2 k ⟨a, b⟩, h.low⟩
theorem Pl17.below (F : VwOk D) (h : Pl17 D Wn M W R p I o o2 B6 M6 pr) (hb : Below W.heap.size W W') : Pl17 D Wn M W' R p I o o2 B6 M6 pr := ⟨h.vw.below F hb, h.rv.below hb, h.low⟩
theorem Pl17.ref (F : VwOk D) (h : Pl17 D Wn M W R p I o o2 B6 M6 pr) (hr : Rv W' B6 M6 pr I o') (hc : Chg (fun q => q = pr) W W') : Pl17 D Wn M W' R p I o o' B6 M6 pr := ⟨h.vw.chg F hc fun k hk => by subst hk; exact ⟨⟨hr.ge, hr.lt⟩, Nat.le_trans h.low hr.ge⟩, hr, h.low⟩
end
set_option maxRecDepth 100000 in
set_option maxHeartbeats 3000000 in
theorem viewPlays_of {D : VwRel} (F : VwOk D) (a : Option Addr) (n c : Nat) (L0 : List (List KV)) (s : Nat) (aw : Option Addr) (nw cw : Nat) (ways : List (Int × ByteArray)) (w : World) (h : LsAt w a n c L0) (hwf : WfLs L0) (hs : s < 18446744073709551616) (hw : WsAt17 w aw nw cw ways) (hnw : nw ≤ 9223372036854775807) :
    Calls Try.prog 3 #[.slice a n c, .int .u64 (s : Int), .slice aw nw cw] w fun e w' => e = .returned (.bool true) ∧ Below w.heap.size w w' := by
  have HWF : Hid (WfLs L0) := hwf
  clear hwf
  have H0 : Hid (LsAt w a n c L0 ∧ WsAt17 w aw nw cw ways) := ⟨h, hw⟩
  clear h hw
  go_enter Try.func3, Try.ntmps3
  go_wp2_with fail
  refine (awake17 F w).mono ?_
  rintro _ w1 ⟨rfl, hb1⟩
  have H1 : Hid (Below w.heap.size w w1) := hb1
  clear hb1
  go_wp2_with fail
  refine (few_any a n c L0 w1 (H0.out.1.below H1.out)).mono ?_
  rintro _ w2 ⟨a2, c2, rfl, hl2, hb2⟩
  have HF : Hid (FewV (fewL L0)) := fewL_ok HWF.out
  have HA8 : Hid ((allL (fewL L0)).length ≤ 8000) := fewL_all L0
  have HE2L : Hid (∀ i, lenL (fewL L0) i ≤ 200) := fewL_each L0
  generalize fewL L0 = L at hl2 HF HA8 HE2L ⊢
  have H2 : Hid (Below w.heap.size w w2 ∧ LsAt w2 a2 L.length c2 L) := ⟨H1.out.trans (hb2.mono H1.out.size), hl2⟩
  clear hl2 hb2 H1
  have HL40 : L.length ≤ 1000 := HF.out.1
  go_wp2_with fail
  refine (F.new a2 L.length c2 L s w2 H2.out.2 HF.out hs).mono ?_
  rintro _ w3 ⟨hb3, hcase⟩
  have HNW : Hid (∀ W, Below w2.heap.size w2 W → Calls Try.prog 12 #[.slice a2 L.length c2, .int .u64 (s : Int)] W fun e w' => Below W.heap.size W w' ∧ ((RiseL L ∧ ∃ p, e = .returned (.tuple #[at_ p, .int .i64 0]) ∧ Rv w' W.heap.size w'.heap.size p (seenL s (allL L)) none) ∨ (¬ RiseL L ∧ e = .returned (.tuple #[.pointer none, .int .i64 160])))) := fun W hW => vnew_any a2 L.length c2 L W (H2.out.2.below hW) (by omega) (fun i => by have := HE2L.out i; omega) (by have := HA8.out; omega) s
  have HI8 : Hid ((seenL s (allL L)).length ≤ 1000000) := Nat.le_trans (seen_le _ _) (by have := HA8.out; omega)
  rcases hcase with ⟨hr, p, R3, rfl, hd3, hR3⟩ | ⟨hno, rfl⟩
  · have S3 : Hid (VwS D w2 w2.heap.size w3 R3 p (seenL s (allL L)) none (fun _ => False) ∧ RiseL L) := ⟨VwS.made hd3 hb3 hb3.size hR3, hr⟩
    clear hd3 hb3 hR3 hr
    go_wp2_with fail
    refine (HNW.out _ S3.out.1.low).mono ?_
    rintro e4 w4 ⟨hb4, ⟨_, pr, rfl, hrv⟩ | ⟨hno, _⟩⟩
    case inr => exact absurd S3.out.2 hno
    have S4 : Hid (Pl17 D w2 w2.heap.size w4 R3 p (seenL s (allL L)) none none w3.heap.size w4.heap.size pr) := ⟨S3.out.1.more F (S3.out.1.below F hb4) fun k hk => .inr hk, hrv, S3.out.1.top⟩
    clear hb4 hrv S3 HNW
    generalize seenL s (allL L) = I at S4 HI8
    generalize w3.heap.size = B6 at S4
    generalize hM6 : w4.heap.size = M6 at S4
    clear hM6
    have hA : Calls Try.prog 13 #[at_ p] w4 fun e w' => e = .returned (.tuple #[.agg #[.string ⟨#[]⟩, .string ⟨#[]⟩], .bool false]) ∧ VwPost D R3 p I none w4 w' := F.at' S4.out.vw.it
    go_wp2_with fail
    refine hA.mono ?_
    rintro _ w7 ⟨rfl, hp7⟩
    obtain ⟨R7, h7⟩ := S4.out.step hp7
    have S7 : Hid (Pl17 D w2 w2.heap.size (w7.alloc (.cells #[.string ⟨#[]⟩, .string ⟨#[]⟩] TItm)) R7 p I none none B6 M6 pr) := h7.below F ((Below.refl _ _).alloc (Nat.le_refl _) _)
    clear hp7 h7 hA S4
    go_wp2_with fail
    generalize w7.alloc (.cells #[.string ⟨#[]⟩, .string ⟨#[]⟩] TItm) = w8 at S7 ⊢
    go_loopw [14] (fun s14 wr => ∃ (j : Nat), j ≤ nw ∧ s14 = .int .i64 (j : Int) ∧ Hid (∃ R o, Pl17 D w2 w2.heap.size wr R p I o o B6 M6 pr)) (fun s14 _ => nw - (intOf s14).toNat)
    case atStart => exact ⟨0, Nat.zero_le _, rfl, R7, none, S7.out⟩
    case round =>
      clear S7
      obtain ⟨j, hjn, rfl, HI⟩ := hrel
      obtain ⟨R9, o9, h9⟩ := HI.out
      have S9 : Hid (Pl17 D w2 w2.heap.size wr R9 p I o9 o9 B6 M6 pr) := h9
      clear HI h9
      by_cases hj : j < nw
      · have hjI : (j : Int) < (nw : Int) := by omega
        obtain ⟨bw, ow, kind, kk, hxw, hcw⟩ := H0.out.2.at hj
        have HWC : Hid (∀ W, Below w2.heap.size w2 W → W.cell? ⟨bw, ow, none⟩ = some (.int .i64 kind) ∧ W.cell? ⟨bw, ow + 1, none⟩ = some (.string kk)) := fun W hW => hcw W (H2.out.1.trans (hW.mono H2.out.1.size))
        obtain ⟨d0, d1⟩ := HWC.out _ S9.out.vw.low
        clear hcw
        go_wp2_with fail
        refine (gone_any F S9.out.vw.it kind kk).mono ?_
        rintro _ wA ⟨rfl, hpA⟩
        obtain ⟨RA, hA⟩ := S9.out.step hpA
        have SA : Hid (Pl17 D w2 w2.heap.size wA RA p I (gone7 I kind kk o9) o9 B6 M6 pr) := hA
        clear hA hpA S9 d0 d1
        obtain ⟨d0, d1⟩ := HWC.out _ SA.out.vw.low
        by_cases hk : 1 ≤ kind ∧ kind ≤ 5
        · obtain ⟨gk, rfl⟩ : ∃ gk : Nat, kind = (gk : Int) := ⟨kind.toNat, by omega⟩
          have hk1 : (1 : Int) ≤ (gk : Int) := hk.1
          have hk5 : (gk : Int) ≤ 5 := hk.2
          rw [gone7_nat (by omega)] at SA
          have HGO : Hid (∀ W, Rv W B6 M6 pr I o9 → Calls Try.prog 15 #[at_ pr, .int .i64 (gk : Int), .string kk] W fun e w' => e = .returned (.tuple #[]) ∧ Rv w' B6 M6 pr I (go7 I gk kk o9) ∧ Chg (fun q => q = pr) W w') := fun W hW => vgo_any hW gk (by omega) kk HI8.out
          clear hk
          generalize go7 I gk kk o9 = oS at SA HGO
          go_upto_region 17 with fail
          have SB : Hid (Pl17 D w2 w2.heap.size wA.drew RA p I oS o9 B6 M6 pr) := SA.out.below F (Below.refl _ _).drew
          clear SA d0 d1
          obtain ⟨d0, d1⟩ := HWC.out _ SB.out.vw.low
          go_region_held3 (fun V => V.cell? ⟨bw, ow, none⟩ = some (.int .i64 (gk : Int)) ∧ V.cell? ⟨bw, ow + 1, none⟩ = some (.string kk)) (first | exact ⟨d0, d1⟩ | go_keep)
            (first
             | (go_at_call 15; refine (HGO.out _ SB.out.rv).mono ?_; rintro _ wS ⟨rfl, hrS, hcS⟩
                have SS0 : Hid (Pl17 D w2 w2.heap.size wS RA p I oS oS B6 M6 pr) := SB.out.ref F hrS hcS
                obtain ⟨d0, d1⟩ := HWC.out _ SS0.out.vw.low
                clear hrS hcS))
          obtain ⟨RS, hRS⟩ : ∃ RS, RS = RA := ⟨_, rfl⟩
          rw [← hRS] at SS0
          have SS : Hid (Pl17 D w2 w2.heap.size wS RS p I oS oS B6 M6 pr) := SS0.out
          clear hRS SS0 SB HGO
          have hA : Calls Try.prog 13 #[at_ p] wS fun x w' => x = .returned (.tuple #[.agg #[.string (told7 I oS).1.1, .string (told7 I oS).1.2], .bool (told7 I oS).2]) ∧ VwPost D RS p I oS wS w' := F.at' SS.out.vw.it
          have HTD : Hid (∀ W, Rv W B6 M6 pr I oS → Calls Try.prog 16 #[at_ pr] W fun x w' => x = .returned (.tuple #[.agg #[.string (told7 I oS).1.1, .string (told7 I oS).1.2], .bool (told7 I oS).2]) ∧ Below W.heap.size W w') := fun W hW => vtold_any hW
          generalize (told7 I oS).1 = e at hA HTD
          generalize (told7 I oS).2 = f at hA HTD
          have heq := run_neq_it e e
          rw [show eqI e e = true from decide_eq_true rfl, show (!true) = false from rfl] at heq
          unfold itA at heq
          have hbb : (f != f) = false := by cases f <;> rfl
          clear d0 d1
          go_wp2_with fail
          refine hA.mono ?_
          rintro _ wT ⟨rfl, hpT⟩
          obtain ⟨RT, hT⟩ := SS.out.step hpT
          have ST : Hid (Pl17 D w2 w2.heap.size (wT.alloc (.cells #[.string e.1, .string e.2] TItm)) RT p I oS oS B6 M6 pr ∧ Box (wT.alloc (.cells #[.string e.1, .string e.2] TItm)) wT.heap.size TItm #[.string e.1, .string e.2]) := ⟨hT.below F ((Below.refl _ _).alloc (Nat.le_refl _) _), Box.new _ _ _⟩
          clear hT hpT SS hA
          go_upto_region 19 with fail
          generalize wT.alloc (.cells #[.string e.1, .string e.2] TItm) = wU at ST ⊢
          generalize wT.heap.size = eu at ST ⊢
          go_wp2_with fail
          refine (HTD.out _ ST.out.1.rv).mono ?_
          rintro _ wV ⟨rfl, hbV⟩
          have SV : Hid (Pl17 D w2 w2.heap.size (wV.alloc (.cells #[.string e.1, .string e.2] TItm)) RT p I oS oS B6 M6 pr ∧ Box (wV.alloc (.cells #[.string e.1, .string e.2] TItm)) eu TItm #[.string e.1, .string e.2] ∧ Box (wV.alloc (.cells #[.string e.1, .string e.2] TItm)) wV.heap.size TItm #[.string e.1, .string e.2]) := ⟨(ST.out.1.below F hbV).below F ((Below.refl _ _).alloc (Nat.le_refl _) _), (ST.out.2.kept (hbV.block _ ST.out.2.lt)).alloc _, Box.new _ _ _⟩
          clear hbV ST HTD
          go_upto_region 20 with fail
          generalize wV.alloc (.cells #[.string e.1, .string e.2] TItm) = wX at SV ⊢
          generalize wV.heap.size = ev at SV ⊢
          have g0 := SV.out.2.1.cell 0
          have g1 := SV.out.2.1.cell 1
          have u0 := SV.out.2.2.cell 0
          have u1 := SV.out.2.2.cell 1
          simp only [List.getElem?_toArray, List.getElem?_cons_succ, List.getElem?_cons_zero] at g0 g1 u0 u1
          go_wp2
          go_roundw
          case rel => exact ⟨j + 1, by omega, by go_num, RT, oS, SV.out.1⟩
          case measure => simp only [intOf]; omega
        · rw [show gone7 I kind kk o9 = o9 from if_neg hk] at SA
          obtain ⟨RS, hRS⟩ : ∃ RS, RS = RA := ⟨_, rfl⟩
          obtain ⟨wS, hwS⟩ : ∃ wS, wS = wA := ⟨_, rfl⟩
          obtain ⟨oS, hoS⟩ : ∃ oS, oS = o9 := ⟨_, rfl⟩
          rw [← hRS, ← hwS, ← hoS] at SA
          rw [← hwS] at d0 d1 ⊢
          have SS : Hid (Pl17 D w2 w2.heap.size wS RS p I oS oS B6 M6 pr) := SA.out
          clear hRS hwS hoS SA
          by_cases hk1 : 1 ≤ kind
          · have hk5 : ¬ kind ≤ 5 := fun x => hk ⟨hk1, x⟩
            clear hk
            go_upto_region 18 with fail
            have hA : Calls Try.prog 13 #[at_ p] wS fun x w' => x = .returned (.tuple #[.agg #[.string (told7 I oS).1.1, .string (told7 I oS).1.2], .bool (told7 I oS).2]) ∧ VwPost D RS p I oS wS w' := F.at' SS.out.vw.it
            have HTD : Hid (∀ W, Rv W B6 M6 pr I oS → Calls Try.prog 16 #[at_ pr] W fun x w' => x = .returned (.tuple #[.agg #[.string (told7 I oS).1.1, .string (told7 I oS).1.2], .bool (told7 I oS).2]) ∧ Below W.heap.size W w') := fun W hW => vtold_any hW
            generalize (told7 I oS).1 = e at hA HTD
            generalize (told7 I oS).2 = f at hA HTD
            have heq := run_neq_it e e
            rw [show eqI e e = true from decide_eq_true rfl, show (!true) = false from rfl] at heq
            unfold itA at heq
            have hbb : (f != f) = false := by cases f <;> rfl
            clear d0 d1
            go_wp2_with fail
            refine hA.mono ?_
            rintro _ wT ⟨rfl, hpT⟩
            obtain ⟨RT, hT⟩ := SS.out.step hpT
            have ST : Hid (Pl17 D w2 w2.heap.size (wT.alloc (.cells #[.string e.1, .string e.2] TItm)) RT p I oS oS B6 M6 pr ∧ Box (wT.alloc (.cells #[.string e.1, .string e.2] TItm)) wT.heap.size TItm #[.string e.1, .string e.2]) := ⟨hT.below F ((Below.refl _ _).alloc (Nat.le_refl _) _), Box.new _ _ _⟩
            clear hT hpT SS hA
            go_upto_region 19 with fail
            generalize wT.alloc (.cells #[.string e.1, .string e.2] TItm) = wU at ST ⊢
            generalize wT.heap.size = eu at ST ⊢
            go_wp2_with fail
            refine (HTD.out _ ST.out.1.rv).mono ?_
            rintro _ wV ⟨rfl, hbV⟩
            have SV : Hid (Pl17 D w2 w2.heap.size (wV.alloc (.cells #[.string e.1, .string e.2] TItm)) RT p I oS oS B6 M6 pr ∧ Box (wV.alloc (.cells #[.string e.1, .string e.2] TItm)) eu TItm #[.string e.1, .string e.2] ∧ Box (wV.alloc (.cells #[.string e.1, .string e.2] TItm)) wV.heap.size TItm #[.string e.1, .string e.2]) := ⟨(ST.out.1.below F hbV).below F ((Below.refl _ _).alloc (Nat.le_refl _) _), (ST.out.2.kept (hbV.block _ ST.out.2.lt)).alloc _, Box.new _ _ _⟩
            clear hbV ST HTD
            go_upto_region 20 with fail
            generalize wV.alloc (.cells #[.string e.1, .string e.2] TItm) = wX at SV ⊢
            generalize wV.heap.size = ev at SV ⊢
            have g0 := SV.out.2.1.cell 0
            have g1 := SV.out.2.1.cell 1
            have u0 := SV.out.2.2.cell 0
            have u1 := SV.out.2.2.cell 1
            simp only [List.getElem?_toArray, List.getElem?_cons_succ, List.getElem?_cons_zero] at g0 g1 u0 u1
            go_wp2
            go_roundw
            case rel => exact ⟨j + 1, by omega, by go_num, RT, oS, SV.out.1⟩
            case measure => simp only [intOf]; omega
          · clear hk
            go_upto_region 18 with fail
            have hA : Calls Try.prog 13 #[at_ p] wS fun x w' => x = .returned (.tuple #[.agg #[.string (told7 I oS).1.1, .string (told7 I oS).1.2], .bool (told7 I oS).2]) ∧ VwPost D RS p I oS wS w' := F.at' SS.out.vw.it
            have HTD : Hid (∀ W, Rv W B6 M6 pr I oS → Calls Try.prog 16 #[at_ pr] W fun x w' => x = .returned (.tuple #[.agg #[.string (told7 I oS).1.1, .string (told7 I oS).1.2], .bool (told7 I oS).2]) ∧ Below W.heap.size W w') := fun W hW => vtold_any hW
            generalize (told7 I oS).1 = e at hA HTD
            generalize (told7 I oS).2 = f at hA HTD
            have heq := run_neq_it e e
            rw [show eqI e e = true from decide_eq_true rfl, show (!true) = false from rfl] at heq
            unfold itA at heq
            have hbb : (f != f) = false := by cases f <;> rfl
            clear d0 d1
            go_wp2_with fail
            refine hA.mono ?_
            rintro _ wT ⟨rfl, hpT⟩
            obtain ⟨RT, hT⟩ := SS.out.step hpT
            have ST : Hid (Pl17 D w2 w2.heap.size (wT.alloc (.cells #[.string e.1, .string e.2] TItm)) RT p I oS oS B6 M6 pr ∧ Box (wT.alloc (.cells #[.string e.1, .string e.2] TItm)) wT.heap.size TItm #[.string e.1, .string e.2]) := ⟨hT.below F ((Below.refl _ _).alloc (Nat.le_refl _) _), Box.new _ _ _⟩
            clear hT hpT SS hA
            go_upto_region 19 with fail
            generalize wT.alloc (.cells #[.string e.1, .string e.2] TItm) = wU at ST ⊢
            generalize wT.heap.size = eu at ST ⊢
            go_wp2_with fail
            refine (HTD.out _ ST.out.1.rv).mono ?_
            rintro _ wV ⟨rfl, hbV⟩
            have SV : Hid (Pl17 D w2 w2.heap.size (wV.alloc (.cells #[.string e.1, .string e.2] TItm)) RT p I oS oS B6 M6 pr ∧ Box (wV.alloc (.cells #[.string e.1, .string e.2] TItm)) eu TItm #[.string e.1, .string e.2] ∧ Box (wV.alloc (.cells #[.string e.1, .string e.2] TItm)) wV.heap.size TItm #[.string e.1, .string e.2]) := ⟨(ST.out.1.below F hbV).below F ((Below.refl _ _).alloc (Nat.le_refl _) _), (ST.out.2.kept (hbV.block _ ST.out.2.lt)).alloc _, Box.new _ _ _⟩
            clear hbV ST HTD
            go_upto_region 20 with fail
            generalize wV.alloc (.cells #[.string e.1, .string e.2] TItm) = wX at SV ⊢
            generalize wV.heap.size = ev at SV ⊢
            have g0 := SV.out.2.1.cell 0
            have g1 := SV.out.2.1.cell 1
            have u0 := SV.out.2.2.cell 0
            have u1 := SV.out.2.2.cell 1
            simp only [List.getElem?_toArray, List.getElem?_cons_succ, List.getElem?_cons_zero] at g0 g1 u0 u1
            go_wp2
            go_roundw
            case rel => exact ⟨j + 1, by omega, by go_num, RT, oS, SV.out.1⟩
            case measure => simp only [intOf]; omega
      · obtain rfl : j = nw := by omega
        have hjI : ¬ (j : Int) < (j : Int) := by omega
        have HB : Hid (Below w.heap.size w wr) := H2.out.1.trans (S9.out.vw.low.mono H2.out.1.size)
        go_wp2
        go_ret
        exact ⟨ret1 rfl, HB.out⟩
  · have H3 : Hid (Below w2.heap.size w2 w3 ∧ ¬ RiseL L) := ⟨hb3, hno⟩
    clear hb3 hno
    go_wp2_with fail
    refine (HNW.out _ H3.out.1).mono ?_
    rintro e4 w4 ⟨hb4, ⟨hr, _⟩ | ⟨_, rfl⟩⟩
    case inl => exact absurd hr H3.out.2
    have HB : Hid (Below w.heap.size w w4) := H2.out.1.trans ((H3.out.1.trans (hb4.mono H3.out.1.size)).mono H2.out.1.size)
    clear hb4
    go_wp2
    go_ret
    exact ⟨ret1 rfl, HB.out⟩
end Go.Proofs.Ytjoamhcehpjepaa
/- Ways to go, as arguments: what a reading of one gives. -/
namespace Go.Proofs.Ytjoamhcehpjepaa
set_option maxRecDepth 100000
open Go.ChangeShapes Go.WideShapes Go.RowKit
set_option linter.unusedVariables false
set_option linter.unusedSimpArgs false
theorem cells_go17 : Try.prog.cellsOf TGo = 2 := by kernel_rfl
section
variable {H : Type} {enc : TypeId × Value → H} {w : World} {base : Nat} {sp : Nat → Bool} {held : Bool}
theorem open_go17 {n : Nat} {cs : List Value} {y : DataW H × List MemPlace} (h : DataW.trod enc Try.prog w base sp held n TGo cs = some y) :
    ∃ g : Int × ByteArray, cs = wayC17 g := by
  obtain ⟨y0, y1, m, _, hl, h0, h1⟩ := trod_struct2 Try.underlying40 h
  rw [cells_go17] at hl
  match cs, hl with
  | [c0, c1], _ =>
  have cs1 : Try.prog.cellsOf 9 = 1 := by kernel_rfl
  simp [cells_i1, cs1] at h0 h1
  obtain ⟨k, e0, _, _⟩ := DataW.trod_int Try.underlying3 h0
  obtain ⟨q, e1, _, _⟩ := DataW.trod_string Try.underlying9 h1
  simp [cells_i1, cs1] at e0 e1
  subst e0
  subst e1
  exact ⟨(k, q), rfl⟩
theorem open_ways17 {fuel : Nat} {cs : List Value} {x : DataW H × List MemPlace} (h : DataW.trod enc Try.prog w base sp held fuel 24 cs = some x) :
    ∃ (a : Option Addr) (len cap : Nat) (l : List (Int × ByteArray)), cs = [.slice a len cap] ∧ WsAt17 w a len cap l ∧ len ≤ 9223372036854775807 := by
  rcases Go.Deep.open_slice Try.underlying24 h with ⟨h0, rfl⟩ | ⟨a, len, cap, m, n, D, Pl, rfl, hb, hl, hm, hmm, rfl, hx⟩
  · exact ⟨none, 0, 0, [], h0, ⟨rfl, fun h => absurd h (Nat.lt_irrefl _)⟩, Nat.zero_le _⟩
  have hlm : len ≤ m := by rw [hmm]; split <;> omega
  obtain ⟨l, hll, hall⟩ := collect (fun i (g : Int × ByteArray) => ∀ r, r < 2 → w.cell? (a.add (i * 2 + r)) = (wayC17 g)[r]?) len (fun i hi => by
    obtain ⟨cs', h1, h2⟩ := hx i (by omega)
    rw [show Try.prog.cellsOf 40 = 2 from cells_go17] at h1
    obtain ⟨_, _, hcell⟩ := World.cells?_some h1
    obtain ⟨g, rfl⟩ := open_go17 h2
    refine ⟨g, fun r hr => ?_⟩
    have e0 := hcell r hr
    rw [Go.Deep.add_add] at e0
    rw [e0])
  refine ⟨some a, len, cap, l, rfl, ⟨hll, fun hp => ?_⟩, by unfold maxLen at hm; omega⟩
  obtain ⟨b, off, spot⟩ := a
  have h0 := hall 0 (by omega) 0 (by omega)
  have hspot : spot = none := by
    have : w.cell? ((⟨b, off, spot⟩ : Addr).add (0 * 2 + 0)) = some (.int .i64 (l[0]'(by omega)).1) := h0
    simpa [Addr.add] using World.cell?_spot this
  subst hspot
  refine ⟨b, off, rfl, fun i hi r hr => ?_⟩
  have := hall i hi r hr
  rw [Addr.add_lit] at this
  rwa [Nat.add_assoc]
end
end Go.Proofs.Ytjoamhcehpjepaa
/- The contracts of the document's own Go and Told. -/
namespace Go.Proofs.Ytjoamhcehpjepaa
open Go.RowKit
set_option linter.unusedVariables false
set_option linter.unusedSimpArgs false
theorem normO_fit {l : List KV} {j i : Nat} (h : normO l j = some i) : i < l.length := by
  unfold normO at h
  split at h
  · cases h; assumption
  · cases h
theorem goP_fit {l : List KV} {g : Nat} {k : IK} {o : Option Nat} (ho : ∀ i, o = some i → i < l.length) {i : Nat} (h : goP l g k o = some i) : i < l.length := by
  unfold goP at h
  split at h
  · exact normO_fit h
  · split at h
    · cases h
    · cases h; omega
  · exact normO_fit h
  · cases o with
    | none => cases h
    | some j => exact normO_fit h
  · cases o with
    | none => cases h
    | some j =>
      have := ho j rfl
      simp only [Option.bind_some] at h
      split at h
      · cases h
      · cases h; omega
  · exact ho i h
theorem normO_enc (l : List KV) (i : Nat) : encI (normO l i) = if i < l.length then (i : Int) else -1 := by
  unfold normO
  split <;> rfl
/-- What a step keeps. -/
def KeyA (k : IK) : Array Value := #[.string k.user, .int .u64 (k.seq : Int), .int .i64 k.kind]
structure GoS (w W : World) (B M p : Nat) (l : List KV) (a : Option Addr) (c : Nat) (k : IK) (i : Int) : Prop where
  chg : Chg (fun q => q = p) w W
  ge : B ≤ p
  lt : p < w.heap.size
  top : p < M ∧ M ≤ w.heap.size ∧ ∀ q, blkOf a = some q → q < M
  box : Box W p TRI #[.slice a l.length c, .int .i64 i]
  own : OwnK W B a l.length c l
  key : Box W w.heap.size 45 (KeyA k)
theorem GoS.set {w W : World} {B M p : Nat} {l : List KV} {a : Option Addr} {c : Nat} {k : IK} {i : Int} (h : GoS w W B M p l a c k i) (j : Int) : GoS w (W.setCell ⟨p, 1, none⟩ (.int .i64 j)) B M p l a c k j := by
  have hne : ∀ q, blkOf a = some q → q ≠ p := fun q hq => tag_ne (h.own.tag hq) h.box.tag (by decide)
  exact ⟨h.chg.set (fun _ => rfl) 1 _, h.ge, h.lt, h.top, by simpa using h.box.set 1 (.int .i64 j), h.own.kept fun q hq => Below.heap_setCell _ _ _ _ (hne q hq), h.key.other (by have := h.lt; omega) 1 _⟩
theorem GoS.below {w W W' : World} {B M p : Nat} {l : List KV} {a : Option Addr} {c : Nat} {k : IK} {i : Int} (h : GoS w W B M p l a c k i) (hb : Below W.heap.size W W') : GoS w W' B M p l a c k i :=
  ⟨h.chg.andThen (Chg.of (R := fun _ => False) hb) (fun _ _ x => x.elim), h.ge, h.lt, h.top, h.box.kept (hb.block _ h.box.lt), h.own.below hb, h.key.kept (hb.block _ h.key.lt)⟩
theorem GoS.rf {w W : World} {B M p : Nat} {l : List KV} {a : Option Addr} {c : Nat} {k : IK} {i : Int} {o : Option Nat} (h : GoS w W B M p l a c k i) (e : i = encI o) (hf : ∀ j, o = some j → j < l.length) : Rf W B M p l o := ⟨h.ge, h.top.1, Nat.le_trans h.top.2.1 h.chg.size, ⟨a, c, by rw [← e]; exact h.box, h.own, h.top.2.2⟩, hf⟩
theorem GoS.cells {w W : World} {B M p : Nat} {l : List KV} {a : Option Addr} {c : Nat} {k : IK} {i : Int} (h : GoS w W B M p l a c k i) : W.cell? ⟨p, 0, none⟩ = some (.slice a l.length c) ∧ W.cell? ⟨p, 1, none⟩ = some (.int .i64 i) ∧ W.frozen? ⟨p, 1, none⟩ = false := ⟨h.box.cell 0, h.box.cell 1, h.box.soft 1⟩
theorem GoS.keys {w W : World} {B M p : Nat} {l : List KV} {a : Option Addr} {c : Nat} {k : IK} {i : Int} (h : GoS w W B M p l a c k i) : W.cell? ⟨w.heap.size, 0, none⟩ = some (.string k.user) ∧ W.cell? ⟨w.heap.size, 1, none⟩ = some (.int .u64 (k.seq : Int)) ∧ W.cell? ⟨w.heap.size, 2, none⟩ = some (.int .i64 k.kind) := ⟨h.key.cell 0, h.key.cell 1, h.key.cell 2⟩
theorem Rf.start {w : World} {B M p : Nat} {l : List KV} {o : Option Nat} (h : Rf w B M p l o) (k : IK) : ∃ a c, GoS w (w.alloc (.cells (KeyA k) 45)) B M p l a c k (encI o) := by
  obtain ⟨a, c, h1, h2, h3⟩ := h.here
  exact ⟨a, c, (Chg.refl _ w).alloc _, h.ge, h1.lt, ⟨h.lt, h.top, h3⟩, h1.alloc _, h2.alloc _, Box.new _ _ _⟩
abbrev keyV (k : IK) : Value := .agg #[.string k.user, .int .u64 (k.seq : Int), .int .i64 k.kind]
end Go.Proofs.Ytjoamhcehpjepaa
/- The contracts of the document's own Go by a key, and of Told. -/
namespace Go.Proofs.Ytjoamhcehpjepaa
open Go.RowKit
set_option linter.unusedVariables false
set_option linter.unusedSimpArgs false
theorem seekI_at {k : IK} : ∀ {l : List KV} {i : Nat}, i ≤ l.length → (∀ j (hj : j < l.length), j < i → l[j].1.cmp k < 0) → (∀ hi : i < l.length, ¬ l[i].1.cmp k < 0) → seekI l k = i
  | [], i, h, _, _ => by
    obtain rfl : i = 0 := by simpa using h
    rfl
  | e :: l, 0, _, _, h => by
    have := h (by simp)
    show (List.takeWhile _ (e :: l)).length = 0
    rw [List.takeWhile_cons_of_neg (by simpa using this)]
    rfl
  | e :: l, i + 1, h, h1, h2 => by
    have h0 := h1 0 (by simp) (by omega)
    show (List.takeWhile _ (e :: l)).length = i + 1
    rw [List.takeWhile_cons_of_pos (by simpa using h0)]
    have ih := seekI_at (k := k) (l := l) (i := i) (by simpa using h) (fun j hj hji => h1 (j + 1) (by simpa using hj) (by omega)) (fun hi => h2 (by simpa using hi))
    show (List.takeWhile _ l).length + 1 = i + 1
    unfold seekI at ih
    rw [ih]
def atOf (w : World) (p : Nat) : Nat := match w.cell? ⟨p, 1, none⟩ with
  | some (.int _ i) => i.toNat
  | _ => 0
theorem GoS.atOf {w W : World} {B M p : Nat} {l : List KV} {a : Option Addr} {c : Nat} {k : IK} {i : Nat} (h : GoS w W B M p l a c k (i : Int)) : Go.Proofs.Ytjoamhcehpjepaa.atOf W p = i := by
  unfold Go.Proofs.Ytjoamhcehpjepaa.atOf
  rw [h.cells.2.1]
  rfl
end Go.Proofs.Ytjoamhcehpjepaa
/- What the walks of the statements ask of merge's own iterator. -/
namespace Go.Proofs.Ytjoamhcehpjepaa
open Go.RowKit
set_option linter.unusedVariables false
set_option linter.unusedSimpArgs false
/-- A world, the blocks of the iterator, where it lies, its lists, where it is. -/
abbrev MgRel := World → (Nat → Prop) → Nat → List (List KV) → Option Nat → Prop
/-- Behind a call of a method. -/
def MgPost (D : MgRel) (R : Nat → Prop) (p : Nat) (L : List (List KV)) (o : Option Nat) (w w' : World) : Prop := ∃ R' : Nat → Prop, D w' R' p L o ∧ (∀ k, R' k → R k ∨ w.heap.size ≤ k) ∧ Chg R w w'
def FewL (L : List (List KV)) : Prop := L.length ≤ 1000 ∧ (allL L).length ≤ 2932031007317
abbrev nilIt : Value := .pointer none
abbrev kvV (e : KV) : Value := .agg (kvc e).toArray
structure MgOk (D : MgRel) : Prop where
  kept : ∀ {W W' : World} {R : Nat → Prop} {p : Nat} {L : List (List KV)} {o : Option Nat}, D W R p L o → W.heap.size ≤ W'.heap.size → (∀ k, R k → W'.heap[k]? = W.heap[k]?) → D W' R p L o
  lt : ∀ {W : World} {R : Nat → Prop} {p : Nat} {L : List (List KV)} {o : Option Nat}, D W R p L o → ∀ k, R k → k < W.heap.size
  fit : ∀ {W : World} {R : Nat → Prop} {p : Nat} {L : List (List KV)} {o : Option Nat}, D W R p L o → ∀ i, o = some i → i < (allL L).length
  new : ∀ (a : Option Addr) (n c : Nat) (L : List (List KV)) (w : World), LsAt w a n c L → FewL L → Calls Try.prog 26 #[.slice a n c] w fun e w' => Below w.heap.size w w' ∧ ((RiseL L ∧ ∃ p R, e = .returned (.tuple #[at_ p, .int .i64 0]) ∧ D w' R p L none ∧ ∀ k, R k → w.heap.size ≤ k) ∨ (¬ RiseL L ∧ e = .returned (.tuple #[nilIt, .int .i64 160])))
  first : ∀ {w : World} {R : Nat → Prop} {p : Nat} {L : List (List KV)} {o : Option Nat}, D w R p L o → Calls Try.prog 37 #[at_ p] w fun e w' => e = .returned (.tuple #[]) ∧ MgPost D R p L (goP (allL L) 1 kvZ.1 o) w w'
  last : ∀ {w : World} {R : Nat → Prop} {p : Nat} {L : List (List KV)} {o : Option Nat}, D w R p L o → Calls Try.prog 34 #[at_ p] w fun e w' => e = .returned (.tuple #[]) ∧ MgPost D R p L (goP (allL L) 2 kvZ.1 o) w w'
  seek : ∀ {w : World} {R : Nat → Prop} {p : Nat} {L : List (List KV)} {o : Option Nat} (k : IK), D w R p L o → Calls Try.prog 29 #[at_ p, keyV k] w fun e w' => e = .returned (.tuple #[]) ∧ MgPost D R p L (goP (allL L) 3 k o) w w'
  next : ∀ {w : World} {R : Nat → Prop} {p : Nat} {L : List (List KV)} {o : Option Nat}, D w R p L o → Calls Try.prog 46 #[at_ p] w fun e w' => e = .returned (.tuple #[]) ∧ MgPost D R p L (goP (allL L) 4 kvZ.1 o) w w'
  prev : ∀ {w : World} {R : Nat → Prop} {p : Nat} {L : List (List KV)} {o : Option Nat}, D w R p L o → Calls Try.prog 50 #[at_ p] w fun e w' => e = .returned (.tuple #[]) ∧ MgPost D R p L (goP (allL L) 5 kvZ.1 o) w w'
  at' : ∀ {w : World} {R : Nat → Prop} {p : Nat} {L : List (List KV)} {o : Option Nat}, D w R p L o → Calls Try.prog 61 #[at_ p] w fun e w' => e = .returned (.tuple #[kvV (told16 (allL L) o).1, .bool (told16 (allL L) o).2]) ∧ MgPost D R p L o w w'
/-- Of no iterator. -/
structure MgNil : Prop where
  first : ∀ w : World, Calls Try.prog 37 #[nilIt] w fun e w' => e = .returned (.tuple #[]) ∧ Below w.heap.size w w'
  last : ∀ w : World, Calls Try.prog 34 #[nilIt] w fun e w' => e = .returned (.tuple #[]) ∧ Below w.heap.size w w'
  seek : ∀ (k : IK) (w : World), Calls Try.prog 29 #[nilIt, keyV k] w fun e w' => e = .returned (.tuple #[]) ∧ Below w.heap.size w w'
  next : ∀ w : World, Calls Try.prog 46 #[nilIt] w fun e w' => e = .returned (.tuple #[]) ∧ Below w.heap.size w w'
  prev : ∀ w : World, Calls Try.prog 50 #[nilIt] w fun e w' => e = .returned (.tuple #[]) ∧ Below w.heap.size w w'
  at' : ∀ w : World, Calls Try.prog 61 #[nilIt] w fun e w' => e = .returned (.tuple #[kvV kvZ, .bool false]) ∧ Below w.heap.size w w'
end Go.Proofs.Ytjoamhcehpjepaa
