/- The contract of the shelf's put, also where the list is full. -/
import Derived.Test.YtnggajconglfcaaDoorM8Part
import Derived.Deep.RegionHeld3
namespace Go.Proofs.YtnggajconglfcaaDoor
open Go.RowKit
set_option linter.unusedVariables false
set_option linter.unusedSimpArgs false
section
variable {w w' : World} {ls : List LG} {la la' : Option Addr} {lc lc' : Nat} {t : ByteArray} {r p : Nat} {v1 v2 v3 : Value} {A B : LG}
/-- Behind part the text belongs into one of the two. -/
theorem place_parted (hp : Place ls t r) (hn : 0 < ls.length) {i : Nat} (hi : i < ls.length) (hii : min r (ls.length - 1) = i) (hsame : r < ls.length → B.last = ls[i].last) {r' : Nat} (hp' : Place (parted ls i A B) t r') :
    ∃ hj : min r' ((parted ls i A B).length - 1) < (parted ls i A B).length, (parted ls i A B)[min r' ((parted ls i A B).length - 1)] = A ∨ (parted ls i A B)[min r' ((parted ls i A B).length - 1)] = B := by
  have hlen : (parted ls i A B).length = ls.length + 1 := parted_len hi
  have hle' := hp'.le
  have eA : ∀ h, (parted ls i A B)[i]'h = A := fun h => by
    simp [parted, List.getElem_append, List.length_take, show min i ls.length = i by omega]
  have eB : ∀ h, (parted ls i A B)[i + 1]'h = B := fun h => by
    simp [parted, List.getElem_append, List.length_take, show min i ls.length = i by omega]
  have eO : ∀ j (h : j < (parted ls i A B).length) (hji : j < i), (parted ls i A B)[j] = ls[j]'(by omega) := fun j h hji => by
    simp [parted, List.getElem_append, List.length_take, show j < min i ls.length by omega]
  have hlo : i ≤ r' := by
    rcases Nat.lt_or_ge r' i with hlt | hge
    · have h1 := hp'.hi r' (by omega) (Nat.le_refl _)
      rw [eO r' (by omega) hlt] at h1
      have h2 := hp.lo r' (by omega) (by omega)
      rw [h2] at h1
      cases h1
    · exact hge
  have hhi : min r' ((parted ls i A B).length - 1) ≤ i + 1 := by
    by_cases hr : r < ls.length
    · rcases Nat.lt_or_ge (i + 1) r' with hlt | hge
      · have h1 := hp'.lo (i + 1) (by omega) hlt
        rw [eB, hsame hr] at h1
        have h2 := hp.hi i hi (by omega)
        rw [h2] at h1
        cases h1
      · omega
    · omega
  refine ⟨by omega, ?_⟩
  have h3 : min r' ((parted ls i A B).length - 1) = i ∨ min r' ((parted ls i A B).length - 1) = i + 1 := by omega
  rcases h3 with e | e
  · left
    simp only [e]
    exact eA _
  · right
    simp only [e]
    exact eB _
theorem split_of_same {i : Nat} (hi : i < ls.length) (h : texts (parted ls i A B) = texts ls) : ls[i].t = A.t ++ B.t := by
  rw [texts_split hi] at h
  have e : texts (parted ls i A B) = texts (ls.take i) ++ ((A.t ++ B.t) ++ texts (ls.drop (i + 1))) := by
    unfold parted texts
    rw [List.flatMap_append, List.flatMap_cons, List.flatMap_cons, List.append_assoc]
  rw [e] at h
  exact (List.append_cancel_right (List.append_cancel_left h)).symm
/-- The last text is the same. -/
theorem last_of_texts {w1 w2 : World} {C : LG} (hC : LiOk w1 C) (hB : LiOk w2 B) (h : C.t = A.t ++ B.t) : B.last = C.last := by
  have h1 := hC.last_eq
  have h2 := hB.last_eq
  rw [h, h2, ← List.append_assoc] at h1
  have h3 := congrArg List.getLast? h1
  simp only [List.getLast?_append, List.getLast?_singleton, Option.some_or] at h3
  exact Option.some.inj h3
theorem put_box {w2 w3 vx vy : World} {i j : Nat} {lc3 : Nat} {S4 : PS} {g4 : SG} (hP : PartIn w2 w3 p v1 v2 v3 ls i A B la la' lc3) (hb : Below w3.heap.size w3 vx) (hj : j < (parted ls i A B).length) (hl : LaidIn vx vy (parted ls i A B)[j].p (parted ls i A B)[j].S S4 (parted ls i A B)[j].g g4 t) : Box vy p TT #[.slice la' (parted ls i A B).length lc3, v1, v2, v3] := by
  have hbx : Box vx p TT #[.slice la' (parted ls i A B).length lc3, v1, v2, v3] := hP.box.kept (hb.block p hP.box.lt)
  have hnp : ¬ Foot (parted ls i A B)[j].p (parted ls i A B)[j].g p := fun hc => (hP.sh.below hb).not_p hbx (.inr ⟨_, List.getElem_mem hj, hc⟩)
  exact hbx.kept (hl.chg.block p hbx.lt hnp)
theorem put_cell {w2 w3 vx vy : World} {i j : Nat} {lc3 : Nat} {S4 : PS} {g4 : SG} (hP : PartIn w2 w3 p v1 v2 v3 ls i A B la la' lc3) (hb : Below w3.heap.size w3 vx) (hj : j < (parted ls i A B).length) (hl : LaidIn vx vy (parted ls i A B)[j].p (parted ls i A B)[j].S S4 (parted ls i A B)[j].g g4 t) : vy.cell? ⟨p, 0, none⟩ = some (.slice la' (parted ls i A B).length lc3) := (put_box hP hb hj hl).cell 0
theorem put_end {w2 w3 vx vy : World} {i j : Nat} {lc3 : Nat} {S4 : PS} {g4 : SG} (hb2 : Below w.heap.size w w2) (hP : PartIn w2 w3 p v1 v2 v3 ls i A B la la' lc3) (hb : Below w3.heap.size w3 vx) (hj : j < (parted ls i A B).length) (hl : LaidIn vx vy (parted ls i A B)[j].p (parted ls i A B)[j].S S4 (parted ls i A B)[j].g g4 t) (h1 : ∀ b ∈ texts ((parted ls i A B).take j), kl b t = true) (h2 : ∀ b ∈ texts ((parted ls i A B).drop (j + 1)), kl t b = true) :
    PutIn w vy p v1 v2 v3 ls ((parted ls i A B).set j ⟨(parted ls i A B)[j].p, S4, g4⟩) la la' lc3 t := by
  have s2 := hb2.size
  have s3 := hP.chg.size
  have sx := hb.size
  obtain ⟨y1, y2, y3⟩ := (hP.sh.below hb).turned hj hl h1 h2
  refine ⟨y1, by rw [List.length_set]; exact put_box hP hb hj hl, fun x => by rw [y2, hP.same], ?_, fun k hk => ?_⟩
  · have e1 : Chg (fun k => k = p ∨ ShFoot ls la k) w vx := ((Chg.of hb2).andThen hP.chg fun _ _ h => h).andThen (Chg.of (R := fun _ => False) hb) fun _ _ h => h.elim
    refine e1.andThen hl.chg fun k hk hf => ?_
    rcases hP.foot k (.inr ⟨_, List.getElem_mem hj, hf⟩) with h | h
    · exact .inr h
    · omega
  · rcases y3 k hk with h | h
    · rcases hP.foot k h with h | h
      · exact .inl h
      · exact .inr (by omega)
    · exact .inr (by omega)
set_option maxRecDepth 100000 in
set_option maxHeartbeats 2000000 in
theorem put_full (h : ShAt w ls la lc) (hb : Box w p TT #[.slice la ls.length lc, v1, v2, v3]) (hn0 : 0 < ls.length) (hn : ls.length + 1 ≤ 17592186044416) (hnt : t ∉ texts ls) (hz : t.size ≤ 9223372036854775807) {hh : Nat} (hh1 : 1 ≤ hh ∧ hh ≤ 8) (hg : Glob w) :
    Calls Tryd.prog 23 #[at_ p, .string t, .int .i64 (hh : Int)] w fun e w' => e = .returned (.tuple #[]) ∧ ∃ ls' la' lc', PutIn w w' p v1 v2 v3 ls ls' la la' lc' t := by
  have hp : w.cell? ⟨p, 0, none⟩ = some (.slice la ls.length lc) := hb.cell 0
  have HP := placeFor_at h t hp (by omega) hn0
  have HS : Hid (ShAt w ls la lc) := h
  have HB : Hid (Box w p TT #[.slice la ls.length lc, v1, v2, v3]) := hb
  have HT : Hid (t ∉ texts ls) := hnt
  have HG : Hid (Glob w) := hg
  have HN : Hid (ls.length + 1 ≤ 17592186044416 ∧ 0 < ls.length) := ⟨hn, hn0⟩
  have hll := h.len_le
  unfold maxLen at hll
  have hne : ((ls.length : Int) == 0) = false := beq_eq_false_iff_ne.2 (by omega)
  clear h hb hnt hg
  go_enter Tryd.func23, Tryd.ntmps23
  go_wp2_with fail
  refine HP.mono ?_
  rintro _ w1 ⟨r, rfl, hr, hb1⟩
  have S1 := HS.out.below hb1
  have hi : min r (ls.length - 1) < ls.length := by omega
  have har := HS.out.around hr hn0 HT.out
  have HR : Hid (Place ls t r) := hr
  generalize hii : min r (ls.length - 1) = i at hi har
  have HII : Hid (min r (ls.length - 1) = i) := hii
  obtain ⟨b, hla, hc⟩ := S1.cell hi
  have hli := S1.each _ (List.getElem_mem hi)
  have hnk : t ∉ ls[i].S.keys := fun hm => HT.out (mem_texts.2 ⟨ls[i], List.getElem_mem hi, (hli.at'.inv.lk_mem hli.all t).2 hm⟩)
  have hidx := fun W => idxList W (a := la) (b := b) (off := 0) (n := ls.length) (c := lc) hla hi
  simp only [Nat.zero_add] at hidx
  have hp1 : w1.cell? ⟨p, 0, none⟩ = some (.slice la ls.length lc) := by rw [hb1.cell HB.out.lt]; exact hp
  have HX : Hid (Below w.heap.size w w1 ∧ ShAt w1 ls la lc ∧ (∀ b ∈ texts (ls.take i), kl b t = true) ∧ ∀ b ∈ texts (ls.drop (i + 1)), kl t b = true) := ⟨hb1, S1, har⟩
  have HI : Hid (i < ls.length) := hi
  have hsz1 := hli.at'.inv.size
  have hrm := hli.room
  by_cases hfit : ls[i].S.ops.length < 1000
  · have HL := lay_new (h := hh) hli.at' hli.all hz hh1 hnk (by rw [hli.room]; exact hfit)
    clear HP hr hb1 S1 har hli hnk hsz1 hrm hfit
    generalize hpi : ls[i].p = pi at hc HL
    have HPI : Hid (ls[i].p = pi) := hpi
    clear hpi hii hla
    go_wp2_with fail
    refine HL.mono ?_
    rintro _ w2 ⟨rfl, S2, g2, hl2⟩
    have HE : Hid (∃ ls' la' lc', PutIn w w2 p v1 v2 v3 ls ls' la la' lc' t) := by
      obtain ⟨x1, x2, x3, x4⟩ := HX.out
      rw [← HPI.out] at hl2
      obtain ⟨y1, y2, y3⟩ := x2.turned HI.out hl2 x3 x4
      refine ⟨_, la, lc, y1, ?_, y2, ?_, fun k hk => ?_⟩
      · have hbx : Box w1 p TT #[.slice la ls.length lc, v1, v2, v3] := HB.out.kept (x1.block p HB.out.lt)
        have hnp : ¬ Foot ls[i].p ls[i].g p := fun hc => x2.not_p hbx (.inr ⟨ls[i], List.getElem_mem HI.out, hc⟩)
        rw [List.length_set]
        exact hbx.kept (hl2.chg.block p hbx.lt hnp)
      · exact (Chg.of x1).andThen hl2.chg fun k _ hk => .inr (.inr ⟨ls[i], List.getElem_mem HI.out, hk⟩)
      · rcases y3 k hk with h | h
        · exact .inl h
        · exact .inr (Nat.le_trans x1.size h)
    clear hl2 HL
    go_wp2
    go_returns
    exact ⟨rfl, HE.out⟩
  · have HL := lay_full (h := hh) hli.at' hz hh1 hnk (by rw [hli.room]; exact hfit)
    have hf1 : ls[i].S.ops.length = 1000 := by omega
    have HF : Hid (ls[i].S.ops.length = 1000) := hf1
    clear HP hr hb1 S1 har hli hnk hsz1 hrm hfit hf1
    generalize hpi : ls[i].p = pi at hc HL
    clear hpi hii hla
    go_wp2_with fail
    refine HL.mono ?_
    rintro _ w2 ⟨rfl, hb2⟩
    have hB2 : Below w.heap.size w w2 := HX.out.1.trans (hb2.mono HX.out.1.size)
    have HPt := part_at (HS.out.below hB2) (HB.out.kept (hB2.block p HB.out.lt)) HI.out HF.out HN.out.1 (HG.out.of_below0 hB2)
    have HB2 : Hid (Below w.heap.size w w2) := hB2
    clear hb2 hB2 HL hc hidx
    go_wp2_with fail
    refine HPt.mono ?_
    rintro _ w3 ⟨rfl, A, B, la3, lc3, hpt⟩
    have HPa : Hid (PartIn w2 w3 p v1 v2 v3 ls i A B la la3 lc3) := hpt
    clear HPt hpt
    have hA3 := HPa.out.sh
    have hpl := HPa.out.box.lt
    have HPf : Hid (∀ W : World, Below w3.heap.size w3 W → Calls Tryd.prog 34 #[at_ p, .string t] W fun e w' => ∃ r' : Nat, e = .returned (.int .i64 ((min r' ((parted ls i A B).length - 1) : Nat) : Int)) ∧ Place (parted ls i A B) t r' ∧ Below W.heap.size W w') := fun W hW => placeFor_at (HPa.out.sh.below hW) t (by rw [hW.cell HPa.out.box.lt]; exact HPa.out.box.cell 0) (by rw [parted_len HI.out]; have := HN.out.1; omega) (by rw [parted_len HI.out]; omega)
    have HPl : Hid (∀ r', Place (parted ls i A B) t r' → ∃ hj : min r' ((parted ls i A B).length - 1) < (parted ls i A B).length, (parted ls i A B)[min r' ((parted ls i A B).length - 1)] = A ∨ (parted ls i A B)[min r' ((parted ls i A B).length - 1)] = B) := fun r' hr' => place_parted HR.out HN.out.2 HI.out HII.out (fun hrl => last_of_texts (HS.out.each _ (List.getElem_mem HI.out)) (HPa.out.sh.each B (by unfold parted; simp)) (split_of_same HI.out HPa.out.same)) hr'
    have hln : (parted ls i A B).length = ls.length + 1 := parted_len HI.out
    have HB3 : Hid (Below w3.heap.size w3 w3.drew) := (Below.refl _ _).drew
    have c0 : w3.drew.cell? ⟨p, 0, none⟩ = some (.slice la3 (parted ls i A B).length lc3) := HPa.out.box.cell 0
    have hzz : Hid (t.size ≤ 9223372036854775807 ∧ (1 ≤ hh ∧ hh ≤ 8)) := ⟨hz, hh1⟩
    have hll3 := HPa.out.sh.len_le
    unfold maxLen at hll3
    rw [hln] at hll3
    have HLn : Hid ((parted ls i A B).length = ls.length + 1) := hln
    clear hA3 hpl hln hp hp1
    generalize hpn : (parted ls i A B).length = n3 at c0
    have HPn : Hid ((parted ls i A B).length = n3) := hpn
    have hll4 : n3 ≤ 17592186044416 := by rw [← hpn, HLn.out]; exact HN.out.1
    clear hpn hll3 hll hn hi
    go_wp2_with fail
    go_region_with (first
       | (go_at_call 34; refine (HPf.out _ HB3.out).mono ?_; rintro _ vx ⟨r', rfl, hr', hbx⟩
          have HBx : Hid (Below w3.heap.size w3 vx) := HB3.out.trans (hbx.mono HB3.out.size)
          obtain ⟨hj, hAB⟩ := HPl.out r' hr'
          have c0 : vx.cell? ⟨p, 0, none⟩ = some (.slice la3 n3 lc3) := by rw [HBx.out.cell HPa.out.box.lt, ← HPn.out]; exact HPa.out.box.cell 0
          have HAr : Hid ((∀ b ∈ texts ((parted ls i A B).take (min r' ((parted ls i A B).length - 1))), kl b t = true) ∧ ∀ b ∈ texts ((parted ls i A B).drop (min r' ((parted ls i A B).length - 1) + 1)), kl t b = true) := HPa.out.sh.around hr' (by rw [HLn.out]; omega) (by rw [HPa.out.same]; exact HT.out)
          generalize min r' ((parted ls i A B).length - 1) = j at hj hAB HAr ⊢
          have S3 := HPa.out.sh.below HBx.out
          obtain ⟨b3, hla3, hc3⟩ := S3.cell hj
          have hlj := S3.each _ (List.getElem_mem hj)
          have hnk3 : t ∉ ((parted ls i A B)[j]).S.keys := fun hm => HT.out (by rw [← HPa.out.same]; exact mem_texts.2 ⟨_, List.getElem_mem hj, (hlj.at'.inv.lk_mem hlj.all t).2 hm⟩)
          have hrm3 : ((parted ls i A B)[j]).S.ops.length < 1000 := by
            rcases hAB with e | e
            · rw [e]; exact HPa.out.roomA
            · rw [e]; exact HPa.out.roomB
          have HLy : Hid (Calls Tryd.prog 35 #[at_ ((parted ls i A B)[j]).p, .string t, .int .i64 (hh : Int)] vx _) := lay_new (h := hh) hlj.at' hlj.all hzz.out.1 hzz.out.2 hnk3 (by rw [hlj.room]; exact hrm3)
          have hj3 : j < n3 := by rw [← HPn.out]; exact hj
          have hidx3 := fun W => idxList W (a := la3) (b := b3) (off := 0) (n := n3) (c := lc3) hla3 hj3
          simp only [Nat.zero_add] at hidx3
          have HJ : Hid (j < (parted ls i A B).length) := hj
          generalize hpj : ((parted ls i A B)[j]).p = pj at HLy hc3
          have HPJ : Hid (((parted ls i A B)[j]'HJ.out).p = pj) := hpj
          clear hr' hbx hAB S3 hlj hnk3 hrm3 hpj hla3)
       | (go_at_call 35; refine HLy.out.mono ?_; rintro _ vy ⟨rfl, S4, g4, hl4⟩
          have HE : Hid (∃ ls' la' lc', PutIn w vy p v1 v2 v3 ls ls' la la' lc' t) := by
            rw [← HPJ.out] at hl4
            exact ⟨_, _, _, put_end HB2.out HPa.out HBx.out HJ.out hl4 HAr.out.1 HAr.out.2⟩
          have c0 : vy.cell? ⟨p, 0, none⟩ = some (.slice la3 n3 lc3) := by
            rw [← HPJ.out] at hl4
            rw [← HPn.out]
            exact put_cell HPa.out HBx.out HJ.out hl4
          clear hl4))
    all_goals go_wp2
    all_goals go_returns
    all_goals exact ⟨rfl, HE.out⟩
theorem put_any : PutSpec 17592186044416 := fun w ls la lc p v1 v2 v3 t hh h hb hnt hz hg h1 h2 hN => by
  by_cases h0 : 0 < ls.length
  · have hf := flat_len (la := la) (lc := lc) h.each
    exact put_full h hb h0 (by omega) hnt hz ⟨h1, h2⟩ hg
  · have e : ls = [] := List.length_eq_zero_iff.1 (by omega)
    subst e
    exact put_none h hb hz hg _
end
end Go.Proofs.YtnggajconglfcaaDoor
