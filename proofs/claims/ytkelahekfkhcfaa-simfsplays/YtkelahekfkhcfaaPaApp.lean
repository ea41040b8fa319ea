/- Bytes appended to the call's own, as a step of a region that draws its order. -/
import Derived.Test.YtkelahekfkhcfaaAp
import Derived.Test.YtkelahekfkhcfaaOwnSet
import Derived.Deep.RegionLaw
import Derived.Test.YtkelahekfkhcfaaPaFew
namespace Go.Proofs.Ytkelahekfkhcfaa
open Go.RowKit Go.Maps
theorem step_appB {ops : Array Oper} {o : Oper} {a : Act} {w : World} {K : Act → World → Prop} {Q : Exit → Act → World → Prop} {E : Prop} (hgd : o.guard = none) (s x : Operand)
    (ho : o.op = .call { callee := .builtin .append, args := #[s, x], argTypes := #[32, 32] })
    (B : Nat) (a1 : Option Addr) (n1 c1 : Nat) (bs : List UInt8) (hs : a.eval s = .slice a1 n1 c1) (hown : OwnB w B a1 n1 c1 bs)
    (a2 : Option Addr) (n2 c2 : Nat) (cs : List UInt8) (hx : a.eval x = .slice a2 n2 c2) (hsrc : BsAt w a2 n2 c2 cs)
    (hl : n1 + n2 ≤ 140737488355328) (hB : B ≤ w.heap.size)
    (h : ∀ a' c' w', OwnB w' B a' (n1 + n2) c' (bs ++ cs) → Below B w w' → K (a.put o.dst (.slice a' (n1 + n2) c')) w') :
    if Region.wanted o (yielded ops a.tmps) = true then Oper.wp Try.prog o a w K Q else E := by
  have hw : Region.wanted o (yielded ops a.tmps) = true := by simp [Region.wanted, hgd]
  rw [if_pos hw]
  obtain ⟨i, hi, hz0, hz1, hz2⟩ := info_parts infoU8
  have hsz := hsrc.size
  have hlt : ∀ k, (Value.slice a1 n1 c1).ownBlock = some k → B ≤ k := fun k hk => (hown.row.lt k hk).1
  cases a2 with
  | none =>
    have hc0 := hsrc.bare rfl
    have hle := hsrc.le
    obtain rfl : n2 = 0 := by omega
    subst hc0
    obtain rfl := List.eq_nil_of_length_eq_zero hsz
    have hrun := run_append_owned_none (P := Try.prog) (w := w) B 32 o.type 5 i 1 Try.underlying32 hi _ n1 _ hown.row
    unfold Oper.wp
    simp [execOp, ho, resolve, invoke, builtin, hs, hx, hrun, Result.andThen]
    exact h a1 c1 w (by simpa using hown) (Below.refl _ _)
  | some ad =>
    have hcell : ∀ j u, (cellsB cs)[j]? = some u → w.cell? (ad.add j) = some u := by
      intro j u hu
      have hj : j < cs.length := by have := (List.getElem?_eq_some_iff.1 hu).1; rwa [cellsB_length] at this
      obtain ⟨b, off, he, hc⟩ := hsrc.here (by omega)
      obtain rfl := Option.some.inj he
      rw [cellsB_get cs j hj] at hu
      obtain rfl := Option.some.inj hu
      rw [Addr.add_lit]
      exact hc j (by omega)
    obtain ⟨v', w', hr, h2, h3, h4, h5⟩ := run_append_own_at (P := Try.prog) w B 32 o.type 5 i (.int .u8 0) 1 1 Try.underlying32 hi hz0 hz1 hz2 rfl (by decide) _ n1 _ hown.row ad n2 c2 (cellsB cs) (by rw [cellsB_length]; omega) hcell (cellsB_one cs) (by unfold maxLen; omega) (by omega) hB
    unfold Oper.wp execOp
    simp only [ho, resolve, invoke, builtin, Sem.run_bind, Sem.run_pure, Result.andThen_ok, List.map_toArray, List.map_cons, List.map_nil, hs, hx, hr]
    rw [← cellsB_append] at h2
    obtain ⟨a', c', rfl, ho'⟩ := own_of_row h2
    exact h a' c' w' ho' ((Below.refl B w).grown h3 hB hlt)
theorem step_app0 {ops : Array Oper} {o : Oper} {a : Act} {K : Act → World → Prop} {Q : Exit → Act → World → Prop} {E : Prop} (w : World) (hgd : o.guard = none) (s x : Operand)
    (ho : o.op = .call { callee := .builtin .append, args := #[s, x], argTypes := #[32, 32] })
    (g : Nat) (hg : g = w.heap.size) (hs : a.eval s = .slice (some ⟨g, 0, none⟩) 0 0)
    (a2 : Option Addr) (n2 c2 : Nat) (cs : List UInt8) (hx : a.eval x = .slice a2 n2 c2) (hsrc : BsAt w a2 n2 c2 cs) (hl : n2 ≤ 140737488355328)
    (h : ∀ a' c' w', OwnB w' g a' n2 c' cs → Below g w w' → K (a.put o.dst (.slice a' n2 c')) w') :
    if Region.wanted o (yielded ops a.tmps) = true then Oper.wp Try.prog o a (w.alloc (.cells #[] 5)) K Q else E := by
  subst hg
  refine step_appB hgd s x ho w.heap.size _ 0 0 [] hs (OwnB.made w) a2 n2 c2 cs hx (hsrc.alloc _) (by omega) (by simp) ?_
  intro a' c' w' h1 h2
  rw [Nat.zero_add] at h1 ⊢
  exact h a' c' w' h1 (((Below.refl _ _).alloc (Nat.le_refl _) _).trans h2)
end Go.Proofs.Ytkelahekfkhcfaa
/- The contract of the document's own Append. -/
namespace Go.Proofs.Ytkelahekfkhcfaa
open Go.RowKit
theorem RB.noByte {w : World} {p : Nat} {c : RC} (h : RB w p c) (i : Nat) (x : Int) : w.cell? ⟨p, i, none⟩ ≠ some (.int .u8 x) := by
  rw [Box.cell h i]
  intro e
  have hi : i < 10 := (Array.getElem?_eq_some_iff.1 e).1
  unfold RC.arr at e
  rcases (by omega : i = 0 ∨ i = 1 ∨ i = 2 ∨ i = 3 ∨ i = 4 ∨ i = 5 ∨ i = 6 ∨ i = 7 ∨ i = 8 ∨ i = 9) with rfl | rfl | rfl | rfl | rfl | rfl | rfl | rfl | rfl | rfl <;> simp at e
theorem BsAt.rchg {w w' : World} {p : Nat} {c : RC} {a : Option Addr} {len cap : Nat} {bs : List UInt8} (h : BsAt w a len cap bs) (hB : RB w p c) (hc : Chg (fun k => k = p) w w') : BsAt w' a len cap bs :=
  ⟨h.size, h.le, h.max, h.bare, fun hp => by
    obtain ⟨b, off, ha, hcell⟩ := h.here hp
    refine ⟨b, off, ha, fun j hj => ?_⟩
    have := hcell j hj
    have hb : b ≠ p := by
      rintro rfl
      exact hB.noByte _ _ this
    rw [World.cell?_of_block (hc.block b (World.block_lt_of_cell? w _ this) hb)]
    exact this⟩
theorem bulk_append (S : PFs) : ∀ l m : List PName, S.bulk (l ++ m) = S.bulk l + S.bulk m
  | [], m => by simp [PFs.bulk]
  | n :: r, m => by rw [List.cons_append, PFs.bulk, PFs.bulk, bulk_append S r m]; omega
theorem bulk_take {S : PFs} {k : Nat} (h : k < S.names.length) : S.bulk (S.names.take (k + 1)) = S.bulk (S.names.take k) + (S.fileOf (S.names.getD k name0).file).b.length := by
  rw [take_ns S.names k h, bulk_append]
  simp [PFs.bulk]
theorem bulk_part (S : PFs) (k : Nat) : S.bulk (S.names.take k) ≤ S.bulk S.names := by
  have e : S.names = S.names.take k ++ S.names.drop k := (List.take_append_drop k S.names).symm
  have h := bulk_append S (S.names.take k) (S.names.drop k)
  rw [← e] at h
  omega
set_option maxRecDepth 100000 in
set_option maxHeartbeats 2000000 in
theorem rappend_at {w : World} {p : Nat} {S : PFs} {g : RG} (h : RfAt w p S g) (hI : RInv S) (ha : S.asked < 1000000) (name : ByteArray) (a : Option Addr) (len cap : Nat) (bs : List UInt8) (hbs : BsAt w a len cap bs) (hlen : len ≤ 140737488355328) : Calls Try.prog 31 #[at_ p, .string name, .slice a len cap] w fun e w' => e = .returned (.int .i64 ((S.append name.data.toList bs).2 : Nat)) ∧ RInv (S.append name.data.toList bs).1 ∧ ∃ g', RfAt w' p (S.append name.data.toList bs).1 g' ∧ RTurn p g g' w w' := by
  obtain ⟨q, ql, qs, qf, qq, qa⟩ := ask_same S
  go_enter Try.func31, Try.ntmps31
  go_wp2_with fail
  refine (rask_at h hI ha).mono ?_
  rintro e w2 ⟨rfl, h2, hI2, hc2⟩
  by_cases h0 : S.ask.2 = 0
  case neg =>
    have hS : S.append name.data.toList bs = S.ask := by rw [PFs.append, if_pos h0]
    obtain ⟨er, her⟩ : ∃ er : Int, er = ((S.ask.2 : Nat) : Int) := ⟨_, rfl⟩
    have hne : er ≠ 0 := by omega
    have HE : Hid (er = ((S.ask.2 : Nat) : Int)) := her
    rw [← her]
    clear her
    go_wp2
    go_returns
    rw [hS]
    exact ⟨ret1 (congrArg (Value.int .i64) HE.out), hI2, g, h2, RTurn.own hc2⟩
  case pos =>
    rw [h0]
    obtain ⟨q0, q1, q2, q3, q4, _⟩ := h2.fs.cells
    have hfd := rfind_at h2 name
    simp only [rcOf] at q0 q1 q4
    rw [q] at q1 hfd
    rw [qf] at q0
    rw [qq] at q4
    have hbs2 := hbs.rchg h.fs hc2
    have HBS : Hid (BsAt w2 a len cap bs) := hbs2
    have HSz : Hid (bs.length = len) := hbs.size
    have HF : Hid (RfAt w2 p S.ask.1 g) := h2
    have HQ : Hid (S.ask.1.names = S.names ∧ S.ask.1.lasts = S.lasts ∧ S.ask.1.since = S.since ∧ S.ask.1.files = S.files) := ⟨q, ql, qs, qf⟩
    have HI2 : Hid (RInv S.ask.1) := hI2
    have HI : Hid (RInv S) := hI
    have H0 : Hid (S.ask.2 = 0) := h0
    have HC : Hid (Chg (fun k => k = p) w w2) := hc2
    have hfew := hI.inv.few
    have hqu := hI.inv.quota
    have hle := hbs2.le
    clear h2 q ql qs qf qq hI2 h0 hbs hbs2 q2 q3 hc2 h
    go_wp2_with fail
    refine hfd.mono ?_
    clear hfd
    rintro e w3 ⟨hw3, (⟨hf, rfl⟩ | ⟨i, k, hf, hi, hik, rfl⟩)⟩
    · obtain rfl : w3 = w2 := hw3
      have HS : Hid (S.append name.data.toList bs = (S.ask.1, 42)) := by
        unfold Hid
        rw [PFs.append, if_neg (by have := H0.out; omega), hf]
      clear hf
      go_wp2
      go_returns
      rw [HS.out]
      exact ⟨rfl, HI2.out, g, HF.out, RTurn.own HC.out⟩
    · obtain rfl : w3 = w2 := hw3
      have hk := find_file HI.out.inv hf
      have hi1 : (0 : Int) ≤ (i : Int) := by omega
      have hi2 : (i : Int) < (S.names.length : Int) := by omega
      have HK : Hid (findN S.names name.data.toList = some k) := hf
      have HIK : Hid ((S.names.getD i name0).file = k) := hik
      clear hf hik
      have hU := HI.out.inv.bulk
      have HUP : Hid (∀ j, S.bulk (S.names.take j) ≤ S.bulk S.names) := fun j => bulk_part S j
      obtain ⟨U, HU⟩ : ∃ U, Hid (U = S.bulk S.names) := ⟨_, rfl⟩
      rw [← HU.out] at hU HUP
      obtain ⟨NL, HNL⟩ : ∃ NL, Hid (NL = S.names.length) := ⟨_, rfl⟩
      rw [← HNL.out] at q1 hfew hi2 hi ⊢
      have HN1 : Hid (∀ wr, Below w3.heap.size w3 wr → wr.cell? ⟨p, 0, none⟩ = some (.slice g.fa S.files.length g.fc) ∧ wr.cell? ⟨p, 1, none⟩ = some (.slice g.na NL g.nc) ∧ wr.cell? ⟨p, 4, none⟩ = some (.int .i64 ((S.quota : Nat) : Int))) := by
        have hlt := tag_lt HF.out.tagP
        exact fun wr hb => ⟨(hb.cell hlt).trans q0, (hb.cell hlt).trans q1, (hb.cell hlt).trans q4⟩
      go_wp2_with fail
      go_loopw [9, 10] (fun al ix wr => ∃ (j A : Nat), j ≤ NL ∧ ix = .int .i64 (j : Int) ∧ al = .int .i64 (A : Int) ∧ A ≤ len + U ∧ Hid (A = len + S.bulk (S.names.take j)) ∧ Hid (Below w3.heap.size w3 wr)) (fun _ ix _ => NL - (intOf ix).toNat)
      case atStart => exact ⟨0, len, Nat.zero_le _, rfl, rfl, by omega, by simp [Hid, PFs.bulk], Below.refl _ _⟩
      case round =>
        obtain ⟨j, A, hj, rfl, rfl, hA, HA, HB⟩ := hrel
        obtain ⟨r0, r1, r4⟩ := HN1.out wr HB.out
        have HFr : Hid (RfAt wr p S.ask.1 g) := HF.out.below HB.out
        by_cases hlt : j < NL
        · obtain ⟨nb, noff, hna, n0, n1, hnc, hnm⟩ := HFr.out.nameAt (i := j) (by rw [HQ.out.1, ← HNL.out]; exact hlt)
          obtain ⟨y, HY⟩ : ∃ y, Hid (y = (S.names.getD j name0).file) := ⟨_, rfl⟩
          rw [HQ.out.1, ← HY.out] at n1
          rw [HQ.out.1, ← HNL.out] at hnc
          have hyk : y < S.files.length := by
            rw [HY.out]
            have hjl : j < S.names.length := by rw [← HNL.out]; exact hlt
            refine (HI.out.inv.nice.good _ ?_).2
            simp [List.getD, hjl]
          obtain ⟨fr, hfa, c0, c1, fz, hfc, hfm⟩ := HFr.out.cellsAt (k := y) (by rw [HQ.out.2.2.2]; exact hyk)
          rw [HQ.out.2.2.2] at hfc
          have hfx := HFr.out.fileAt y
          have hfo : S.ask.1.fileOf y = S.fileOf y := by unfold PFs.fileOf; rw [HQ.out.2.2.2]
          rw [hfo] at hfx
          have hbl : (S.fileOf y).b.length ≤ 1048576 := HI.out.inv.lens y
          have hrv : (g.fl.getD y rf0).v = .slice (g.fl.getD y rf0).a (S.fileOf y).b.length (g.fl.getD y rf0).cap := by rw [← hfx]; rfl
          rw [hrv] at c0
          have HTk : Hid (S.bulk (S.names.take (j + 1)) = S.bulk (S.names.take j) + (S.fileOf y).b.length) := by
            unfold Hid
            rw [bulk_take (by rw [← HNL.out]; exact hlt), ← HY.out]
          obtain ⟨L, HL⟩ : ∃ L, Hid (L = (S.fileOf y).b.length) := ⟨_, rfl⟩
          rw [← HL.out] at c0 hbl HTk
          have hA2 : A + L ≤ len + U := by
            have h1 := HTk.out
            have h2 := HUP.out (j + 1)
            have h3 := HA.out
            omega
          rw [hna] at r1
          rw [hfa] at r0
          unfold maxLen at hnm hfm
          have hj1 : (0 : Int) ≤ (j : Int) := by omega
          have hj2 : (j : Int) < (NL : Int) := by omega
          have hy1 : (0 : Int) ≤ (y : Int) := by omega
          have hy2 : (y : Int) < (S.files.length : Int) := by omega
          clear n0 c1 fz hna hfa hfx hrv hfo r4 q0 q1 q4
          go_wp2
          go_region
          go_wp2
          go_roundw
          case rel =>
            refine ⟨j + 1, A + L, by omega, by go_num, by go_num, hA2, ?_, HB.out.drew⟩
            unfold Hid
            rw [HTk.out, HA.out]
            omega
          case measure => simp [intOf]; omega
        · obtain rfl : j = NL := by omega
          have HAU : Hid (A = len + U) := by
            unfold Hid
            rw [HA.out, HNL.out, List.take_length, HU.out]
          by_cases hfull : S.quota < A
          · have HS : Hid (S.append name.data.toList bs = (S.ask.1, 43)) := by
              unfold Hid
              rw [PFs.append, if_neg (by have := H0.out; omega), HK.out]
              show (if S.quota < bs.length + S.bulk S.names then _ else _) = _
              rw [if_pos (by rw [HSz.out, ← HU.out, ← HAU.out]; exact hfull)]
            go_wp2
            go_returns
            rw [HS.out]
            exact ⟨rfl, HI2.out, g, HFr.out, RTurn.own (Chg.andThen HC.out (Chg.below (R := fun k => k = p) HB.out) (fun _ _ e => e))⟩
          · have HS : Hid (S.append name.data.toList bs = ({ S.ask.1 with files := S.files.set k ⟨(S.fileOf k).b ++ bs, (S.fileOf k).last⟩ }, 0)) := by
              unfold Hid
              rw [PFs.append, if_neg (by have := H0.out; omega), HK.out]
              show (if S.quota < bs.length + S.bulk S.names then _ else _) = _
              rw [if_neg (by rw [HSz.out, ← HU.out, ← HAU.out]; exact hfull)]
            obtain ⟨nb, noff, hna, n0, n1, hnc, hnm⟩ := HFr.out.nameAt (i := i) (by rw [HQ.out.1, ← HNL.out]; exact hi)
            rw [HQ.out.1, HIK.out] at n1
            rw [HQ.out.1, ← HNL.out] at hnc
            obtain ⟨fr, hfa, c0, c1, fz, hfc, hfm⟩ := HFr.out.cellsAt (k := k) (by rw [HQ.out.2.2.2]; exact hk)
            rw [HQ.out.2.2.2] at hfc
            have hfx := HFr.out.fileAt k
            have hfo : S.ask.1.fileOf k = S.fileOf k := by unfold PFs.fileOf; rw [HQ.out.2.2.2]
            rw [hfo] at hfx
            have hbl : (S.fileOf k).b.length ≤ 1048576 := HI.out.inv.lens k
            have hrv : (g.fl.getD k rf0).v = .slice (g.fl.getD k rf0).a (S.fileOf k).b.length (g.fl.getD k rf0).cap := by rw [← hfx]; rfl
            rw [hrv] at c0
            have HM : Hid (g.fl.getD k rf0 ∈ g.fl) := HFr.out.mem (by rw [HQ.out.2.2.2]; exact hk)
            have HFX : Hid ((g.fl.getD k rf0).x = S.fileOf k) := hfx
            have HFA : Hid (g.fa = some ⟨fr, 0, none⟩) := hfa
            have HBY : Hid (BsAt wr (g.fl.getD k rf0).a (S.fileOf k).b.length (g.fl.getD k rf0).cap (S.fileOf k).b) := by
              have := HFr.out.bytes _ HM.out
              rw [hfx] at this
              exact this.bs
            have HBSr : Hid (BsAt wr a len cap bs) := HBS.out.below (Nat.le_refl _) HB.out
            have c1' : wr.cell? ⟨fr, k * 2 + 1, none⟩ = some (.int .i64 (((g.fl.getD k rf0).x.last : Nat) : Int)) := c1
            have f0 := fz (k * 2)
            rw [hna] at r1
            rw [hfa] at r0
            unfold maxLen at hnm hfm
            have hk1 : (0 : Int) ≤ (k : Int) := by omega
            have hk2 : (k : Int) < (S.files.length : Int) := by omega
            have hplt : p < wr.heap.size := tag_lt HFr.out.tagP
            have hflt : fr < wr.heap.size := tag_lt (HFr.out.tagF (by rw [hfa]; rfl))
            obtain ⟨ra, HRA⟩ : ∃ ra, Hid (ra = (g.fl.getD k rf0).a) := ⟨_, rfl⟩
            obtain ⟨rc, HRC⟩ : ∃ rc, Hid (rc = (g.fl.getD k rf0).cap) := ⟨_, rfl⟩
            obtain ⟨L, HL⟩ : ∃ L, Hid (L = (S.fileOf k).b.length) := ⟨_, rfl⟩
            rw [← HRA.out, ← HRC.out, ← HL.out] at c0 HBY
            rw [← HL.out] at hbl
            have hALU : A ≤ 1048576 := by omega
            have hlenA : len ≤ A := by have := HAU.out; omega
            obtain ⟨FB, HFB⟩ : ∃ FB, Hid (FB = (S.fileOf k).b) := ⟨_, rfl⟩
            rw [← HFB.out] at HBY
            have HBYD : Hid (BsAt wr.drew ra L rc FB) := HBY.out.drew
            have HCELL : Hid (∀ W, Below wr.heap.size wr W → W.cell? ⟨p, 0, none⟩ = some (.slice (some ⟨fr, 0, none⟩) S.files.length g.fc) ∧ W.cell? ⟨fr, k * 2, none⟩ = some (.slice ra L rc) ∧ W.frozen? ⟨fr, k * 2, none⟩ = false) := fun W hb => ⟨(hb.cell hplt).trans r0, (hb.cell hflt).trans c0, (hb.frozen hflt).trans f0⟩
            have FIN : Hid (∀ w5 a5 c5, OwnB w5 wr.heap.size a5 (L + len) c5 (FB ++ bs) → Below wr.heap.size wr w5 → Ending.returned (.int .i64 0) = .returned (.int .i64 ((S.append name.data.toList bs).2 : Nat)) ∧ RInv (S.append name.data.toList bs).1 ∧ ∃ g', RfAt (w5.setCell ⟨fr, k * 2, none⟩ (.slice a5 (L + len) c5)) p (S.append name.data.toList bs).1 g' ∧ RTurn p g g' w (w5.setCell ⟨fr, k * 2, none⟩ (.slice a5 (L + len) c5))) := by
              intro w5 a5 c5 hO hb
              rw [HS.out]
              have hF5 := HFr.out.below hb
              have qf := HQ.out.2.2.2
              obtain ⟨r, hr⟩ : ∃ r : RF, r = ⟨a5, c5, ⟨FB ++ bs, (S.fileOf k).last⟩⟩ := ⟨_, rfl⟩
              have hrl : r.x.b.length = L + len := by
                rw [hr]
                show (FB ++ bs).length = _
                rw [List.length_append, HFB.out, HSz.out, HL.out]
              have hrv : r.v = .slice a5 (L + len) c5 := by unfold RF.v; rw [hrl, hr]
              have hrow := hF5.row
              rw [HFA.out] at hrow
              have hst := (hrow.stored (k * 2) (.slice a5 (L + len) c5)).1
              have hcn := (cellsF_at g.fl k (by rw [hF5.count, qf]; exact hk)).2
              have hset := cellsF_setV g.fl k r (by rw [hcn, hr]; unfold RF.n; rw [HFX.out])
              rw [hrv] at hset
              rw [hset, ← HFA.out] at hst
              have hch : Chg (fun i => blkOf g.fa = some i) w5 (w5.setCell ⟨fr, k * 2, none⟩ (.slice a5 (L + len) c5)) := (Chg.refl _ _).set (p := fr) (fun _ => by rw [HFA.out]; rfl) _ _
              have hSx : S.files.set k ⟨(S.fileOf k).b ++ bs, (S.fileOf k).last⟩ = S.files.set k r.x := by rw [hr, HFB.out]
              rw [hSx]
              have hfit : L ≤ U := by
                rw [HL.out, HU.out, bulk_eq, bulk_without HI.out.inv.nice HK.out]
                exact Nat.le_add_right _ _
              have hLl : L + len ≤ 1048576 := by
                have := HAU.out
                omega
              have hin := HI2.out.file (k := k) (x := r.x) (by rw [qf]; exact hk) (by rw [hrl]; exact hLl) (by rw [hrl, hr, HL.out]; exact Nat.le_trans (HI.out.inv.last k) (Nat.le_add_right _ _))
              rw [qf] at hin
              have hszB := HB.out.size
              have hszC := HC.out.size
              have hnb : ∀ b, blkOf a5 = some b → wr.heap.size ≤ b := fun b e => (hO.row.lt b (by rw [own_blk]; exact e)).1
              refine ⟨rfl, hin, { g with fl := g.fl.set k r }, hF5.put hst ?_ hch rfl rfl rfl (by rw [qf]) ⟨rfl, rfl, rfl, rfl, rfl, rfl⟩, RTurn.put (fun b e => ?_) ?_⟩
              · have hO6 := hO.mono (Nat.zero_le _)
                rw [hrl]
                have e1 : r.a = a5 := by rw [hr]
                have e2 : r.cap = c5 := by rw [hr]
                have e3 : r.x.b = FB ++ bs := by rw [hr]
                rw [e1, e2, e3]
                exact hO6.same fun b e => Below.heap_setCell _ _ _ _ (by have := hnb b e; show b ≠ fr; omega)
              · rw [hr] at e
                have := hnb b e
                exact .inr (by omega)
              · exact Chg.andThen (HC.out.wide fun _ _ e => .inl e) (Chg.andThen (Chg.below (R := fun i => i = p ∨ blkOf g.fa = some i) HB.out) (Chg.andThen (Chg.below (R := fun i => i = p ∨ blkOf g.fa = some i) hb) hch (fun _ _ e => .inr e)) (fun _ _ e => e)) (fun _ _ e => e)
            clear n0 c1 fz hna hfa hfx hrv hfo q0 q1 q4
            go_wp2_with fail
            go_region_law (first
              | (refine step_app0 wr.drew rfl (.tmp 73) (.tmp 81) rfl wr.heap.size rfl (by simp [Act.eval]) ra L rc FB (by simp [Act.eval]) HBYD.out (by omega) ?_
                 intro a4 c4 w4 ho4 hb4
                 have HO4 : Hid (OwnB w4 wr.heap.size a4 L c4 FB) := ho4
                 have HB4 : Hid (Below wr.heap.size wr w4) := (Below.refl _ _).drew.trans hb4
                 have HS4 : Hid (BsAt w4 a len cap bs) := HBSr.out.below (Nat.le_refl _) HB4.out
                 obtain ⟨x0, x1, x2⟩ := HCELL.out w4 HB4.out
                 clear ho4 hb4)
              | (refine step_appB rfl (.tmp 82) (.tmp 83) rfl wr.heap.size a4 L c4 FB (by simp [Act.eval]) HO4.out a len cap bs (by simp [Act.eval]) HS4.out (by omega) HB4.out.size ?_
                 intro a5 c5 w5 ho5 hb5
                 have HO5 : Hid (OwnB w5 wr.heap.size a5 (L + len) c5 (FB ++ bs)) := ho5
                 have HB5 : Hid (Below wr.heap.size wr w5) := HB4.out.trans hb5
                 obtain ⟨z0, z1, z2⟩ := HCELL.out w5 HB5.out
                 clear ho5 hb5))
            all_goals
              go_wp2
              go_returns
              exact FIN.out w5 a5 c5 HO5.out HB5.out
end Go.Proofs.Ytkelahekfkhcfaa
