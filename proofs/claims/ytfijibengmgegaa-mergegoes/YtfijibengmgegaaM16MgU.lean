/- The library's up at heads; Push, Fix, Pop. -/
import Derived.Test.YtfijibengmgegaaM16MgP
namespace Go.Proofs.Ytfijibengmgegaa
open Go.RowKit
set_option linter.unusedVariables false
set_option linter.unusedSimpArgs false
section
variable {w w' : World} {B hp : Nat} {la : Option Addr} {ln lc : Nat} {up : Bool} {pa : Option Addr} {pc : Nat} {ps : List PlL} {last : PlL} {L : List (List KV)}
/-- How far up has come. -/
structure Up (w W : World) (B hp : Nat) (la : Option Addr) (ln lc : Nat) (up : Bool) (pa : Option Addr) (pc : Nat) (last : PlL) (L : List (List KV)) (ps qs : List PlL) (j : Nat) : Prop where
  hd : Hd W B hp la ln lc up pa pc qs last
  chg : Chg (fun k => blkOf pa = some k) w W
  perm : qs.Perm ps
  inv : UInv (ltD L up) ps.length j (fun k => qs.getD k d0)
theorem Up.below {j : Nat} {qs : List PlL} {W W2 : World} (h : Up w W B hp la ln lc up pa pc last L ps qs j) (hb : Below W.heap.size W W2) : Up w W2 B hp la ln lc up pa pc last L ps qs j := ⟨h.hd.below hb, chg_below h.chg hb, h.perm, h.inv⟩
theorem Up.step {i j : Nat} {qs : List PlL} {W W2 : World} (h : Up w W B hp la ln lc up pa pc last L ps qs j) (hk : Kid i j) (hj : j < ps.length) (hlt : ltD L up (qs.getD j d0) (qs.getD i d0))
    (hd : Hd W2 B hp la ln lc up pa pc (swL d0 qs i j) last) (hc : Chg (fun k => blkOf pa = some k) W W2) : Up w W2 B hp la ln lc up pa pc last L ps (swL d0 qs i j) i := by
  have hl := h.perm.length_eq
  have hij : i < j := by rcases hk with e | e <;> omega
  have hiq : i < qs.length := by omega
  have hjq : j < qs.length := by omega
  refine ⟨hd, h.chg.andThen hc fun _ _ e => e, (swL_perm d0 qs hiq hjq).trans h.perm, ?_⟩
  rw [swL_getD qs hiq hjq]
  exact h.inv.step (ltD_ord L up) hk hj hlt
def UpP (w : World) (B hp : Nat) (la : Option Addr) (ln lc : Nat) (up : Bool) (pa : Option Addr) (pc : Nat) (last : PlL) (L : List (List KV)) (ps : List PlL) (w' : World) : Prop := ∃ (qs : List PlL), qs.Perm ps ∧ Hd w' B hp la ln lc up pa pc qs last ∧ Chg (fun k => blkOf pa = some k) w w' ∧ HeapF (ltD L up) ps.length 0 (fun k => qs.getD k d0)
set_option maxRecDepth 100000 in
set_option maxHeartbeats 8000000 in
theorem up_any (h : Hd w B hp la ln lc up pa pc ps last) (hl : ∀ W, Chg (fun k => blkOf pa = some k) w W → LsAt W la ln lc L) (hv : InL L ln ps) (j0 : Nat) (hj0 : j0 < ps.length) (hsz : ps.length ≤ 1000000) (hu : UInv (ltD L up) ps.length j0 (fun k => ps.getD k d0)) :
    Calls Try.prog 54 #[.iface 56 (at_ hp), .int .i64 (j0 : Int)] w fun e w' => e = .returned (.tuple #[]) ∧ UpP w B hp la ln lc up pa pc last L ps w' := by
  have HL : Hid (∀ W, Chg (fun k => blkOf pa = some k) w W → LsAt W la ln lc L) := hl
  have HV : Hid (InL L ln ps ∧ ps.length ≤ 1000000) := ⟨hv, hsz⟩
  have HI0 : Hid (Up w w B hp la ln lc up pa pc last L ps ps j0) := ⟨h, Chg.refl _ _, List.Perm.refl _, hu⟩
  clear h hl hv hu
  go_enter Try.func54, Try.ntmps54
  go_wp2_with fail
  go_loopw [1] (fun s1 wr => ∃ (j : Nat) (qs : List PlL), j < ps.length ∧ s1 = .int .i64 (j : Int) ∧ Hid (Up w wr B hp la ln lc up pa pc last L ps qs j)) (fun s1 _ => (intOf s1).toNat)
  case atStart => exact ⟨j0, ps, hj0, rfl, HI0.out⟩
  case round =>
    clear HI0
    obtain ⟨j, qs, hj, rfl, HI⟩ := hrel
    have HVQ : Hid (InL L ln qs ∧ qs.length = ps.length) := ⟨HV.out.1.perm HI.out.perm, HI.out.perm.length_eq⟩
    by_cases h0 : j = 0
    · subst h0
      have HF : Hid (HeapF (ltD L up) ps.length 0 (fun k => qs.getD k d0)) := HI.out.inv.stop fun p hp => by rcases hp with e | e <;> omega
      go_wp2
      go_end0
      exact ⟨rfl, qs, HI.out.perm, HI.out.hd, HI.out.chg, HF.out⟩
    · have hw1 : IntKind.i64.wrap ((j : Int) - 1) = (j : Int) - 1 := by rw [IntKind.wrap_i64]; omega
      have hqb : ((((j : Int) - 1) / 2) == (j : Int)) = false := by simp; omega
      have hqI : ((((j - 1) / 2 : Nat)) : Int) = ((j : Int) - 1) / 2 := by omega
      go_wp2_with fail
      have HLT := less_any (i := j) (j := (j - 1) / 2) HI.out.hd (HL.out _ HI.out.chg) HVQ.out.1 (by have := HVQ.out.2; omega) (by have := HVQ.out.2; omega)
      rw [hqI] at HLT
      refine HLT.mono ?_
      rintro _ w4 ⟨rfl, hb4⟩
      have HJ4 : Hid (Up w w4 B hp la ln lc up pa pc last L ps qs j) := HI.out.below hb4
      clear hb4 HI HLT
      by_cases hlt : ltD L up (qs.getD j d0) (qs.getD ((j - 1) / 2) d0)
      · have HLTT : Hid (ltD L up (qs.getD j d0) (qs.getD ((j - 1) / 2) d0)) := hlt
        rw [decide_eq_true hlt]
        clear hlt
        go_wp2_with fail
        have HSW := swap_any (i := (j - 1) / 2) (j := j) HJ4.out.hd (by have := HVQ.out.2; omega) (by have := HVQ.out.2; omega)
        rw [hqI] at HSW
        refine HSW.mono ?_
        rintro _ w5 ⟨rfl, hd5, hc5⟩
        have HJ5 : Hid (Up w w5 B hp la ln lc up pa pc last L ps (swL d0 qs ((j - 1) / 2) j) ((j - 1) / 2)) := HJ4.out.step (by unfold Kid; omega) hj HLTT.out hd5 hc5
        clear hd5 hc5 HSW HJ4
        go_wp2
        go_roundw
        case rel => exact ⟨(j - 1) / 2, swL d0 qs ((j - 1) / 2) j, by omega, by rw [hqI], HJ5.out⟩
        case measure => simp only [intOf]; omega
      · have HF : Hid (HeapF (ltD L up) ps.length 0 (fun k => qs.getD k d0)) := HJ4.out.inv.stop fun p hp => by
          have e : p = (j - 1) / 2 := by rcases hp with e | e <;> omega
          subst e
          exact hlt
        rw [decide_eq_false hlt]
        clear hlt
        go_wp2
        go_end0
        exact ⟨rfl, qs, HJ4.out.perm, HJ4.out.hd, HJ4.out.chg, HF.out⟩
theorem HeapF.up0 {α : Type} {lt : α → α → Prop} {n : Nat} {f : Nat → α} (h : HeapF lt n 0 f) : UInv lt n 0 f := ⟨fun p k hk hn _ => h p (Nat.zero_le _) k hk hn, fun q hq => by rcases hq with e | e <;> omega⟩
theorem HeapF.congr {α : Type} {lt : α → α → Prop} {n s : Nat} {f g : Nat → α} (h : HeapF lt n s f) (e : ∀ k, k < n → g k = f k) : HeapF lt n s g := fun p hp j hj hn => by
  have hpn : p < n := by rcases hj with e | e <;> omega
  rw [e j hn, e p hpn]
  exact h p hp j hj hn
set_option maxRecDepth 100000 in
set_option maxHeartbeats 8000000 in
theorem fix_any (h : Hd w B hp la ln lc up pa pc ps last) (hl : ∀ W, Chg (fun k => blkOf pa = some k) w W → LsAt W la ln lc L) (hv : InL L ln ps) (hsz : ps.length ≤ 1000000) (h0 : 0 < ps.length) (hh : HeapF (ltD L up) ps.length 1 (fun k => ps.getD k d0)) :
    Calls Try.prog 49 #[.iface 56 (at_ hp), .int .i64 0] w fun e w' => e = .returned (.tuple #[]) ∧ UpP w B hp la ln lc up pa pc last L ps w' := by
  have HL : Hid (∀ W, Chg (fun k => blkOf pa = some k) w W → LsAt W la ln lc L) := hl
  have HV : Hid (InL L ln ps ∧ ps.length ≤ 1000000 ∧ HeapF (ltD L up) ps.length 1 (fun k => ps.getD k d0)) := ⟨hv, hsz, hh⟩
  have HH : Hid (Hd w B hp la ln lc up pa pc ps last) := h
  clear hl hv hh
  have hlen := len_any h
  clear h
  go_enter Try.func49, Try.ntmps49
  go_wp2_with fail
  refine hlen.mono ?_
  rintro _ w1 ⟨rfl, hb1⟩
  have H1 : Hid (Hd w1 B hp la ln lc up pa pc ps last ∧ Chg (fun k => blkOf pa = some k) w w1) := ⟨HH.out.below hb1, Chg.of hb1⟩
  clear hb1 hlen
  go_wp2_with fail
  refine (down_any H1.out.1 (fun W hW => HL.out W (H1.out.2.andThen hW fun _ _ e => e)) HV.out.1 0 ps.length (Nat.le_refl _) HV.out.2.1 (by omega) HV.out.2.2).mono ?_
  rintro _ w2 ⟨qs, b, rfl, hp2, hd2, hc2, hf2, _⟩
  have H2 : Hid (Hd w2 B hp la ln lc up pa pc qs last ∧ Chg (fun k => blkOf pa = some k) w w2 ∧ qs.Perm ps ∧ HeapF (ltD L up) ps.length 0 (fun k => qs.getD k d0)) := ⟨hd2, H1.out.2.andThen hc2 (fun _ _ e => e), hp2, hf2⟩
  clear hp2 hd2 hc2 hf2 H1
  cases b with
  | true =>
    go_wp2
    go_end0
    exact ⟨rfl, qs, H2.out.2.2.1, H2.out.1, H2.out.2.1, H2.out.2.2.2⟩
  | false =>
    go_wp2_with fail
    have hql : qs.length = ps.length := H2.out.2.2.1.length_eq
    have HU := up_any (L := L) H2.out.1 (fun W hW => HL.out W (H2.out.2.1.andThen hW fun _ _ e => e)) (HV.out.1.perm H2.out.2.2.1) 0 (by omega) (by rw [hql]; exact HV.out.2.1) (by rw [hql]; exact H2.out.2.2.2.up0)
    refine HU.mono ?_
    rintro _ w3 ⟨rfl, rs, hp3, hd3, hc3, hf3⟩
    rw [hql] at hf3
    have H3 : Hid (UpP w B hp la ln lc up pa pc last L ps w3) := ⟨rs, hp3.trans H2.out.2.2.1, hd3, H2.out.2.1.andThen hc3 (fun _ _ e => e), hf3⟩
    clear hp3 hd3 hc3 hf3 HU
    go_wp2
    go_end0
    exact ⟨rfl, H3.out⟩
/-- What is left when what stands on top is taken away. -/
theorem pop_parts {x : PlL} {n : Nat} {rs ps qs : List PlL} (hx : ps.getD 0 d0 = x) (hn : ps.length = n + 1) (hr : rs = swL d0 ps 0 n) (hq : qs.Perm rs) (hs : ∀ k, n ≤ k → qs.getD k d0 = rs.getD k d0) : qs = qs.take n ++ [x] := by
  have h1 : rs.length = n + 1 := by rw [hr, swL_len, hn]
  have h2 : qs.length = n + 1 := by rw [hq.length_eq, h1]
  have h3 : qs.getD n d0 = x := by
    rw [hs n (Nat.le_refl _), hr, swL_get d0 ps (by omega) (by omega), sw_right, hx]
  have h4 : qs.drop n = [x] := by
    rw [List.drop_eq_getElem_cons (by omega), List.drop_eq_nil_of_le (by omega)]
    congr 1
    rw [← h3]
    simp [List.getD, h2]
  conv => lhs; rw [← List.take_append_drop n qs, h4]
set_option maxRecDepth 100000 in
set_option maxHeartbeats 8000000 in
theorem pop_any {n : Nat} (h : Hd w B hp la ln lc up pa pc ps last) (hl : ∀ W, Chg (fun k => blkOf pa = some k) w W → LsAt W la ln lc L) (hv : InL L ln ps) (hsz : ps.length ≤ 1000000) (hn : ps.length = n + 1) (hh : HeapF (ltD L up) ps.length 0 (fun k => ps.getD k d0)) :
    Calls Try.prog 50 #[.iface 56 (at_ hp)] w fun e w' => (∃ v, e = .returned v) ∧ ∃ qs : List PlL, (qs ++ [ps.getD 0 d0]).Perm ps ∧ Hd w' B hp la ln lc up pa pc qs last ∧ Chg (fun k => blkOf pa = some k ∨ k = hp) w w' ∧ HeapF (ltD L up) qs.length 0 (fun k => qs.getD k d0) := by
  have HL : Hid (∀ W, Chg (fun k => blkOf pa = some k) w W → LsAt W la ln lc L) := hl
  have HV : Hid (InL L ln ps ∧ ps.length ≤ 1000000 ∧ HeapF (ltD L up) ps.length 0 (fun k => ps.getD k d0)) := ⟨hv, hsz, hh⟩
  have HH : Hid (Hd w B hp la ln lc up pa pc ps last) := h
  clear hl hv hh
  have hlen := len_any h
  rw [hn] at hlen
  clear h
  have hw1 : IntKind.i64.wrap (((n + 1 : Nat) : Int) - 1) = (n : Int) := by rw [IntKind.wrap_i64]; omega
  go_enter Try.func50, Try.ntmps50
  go_wp2_with fail
  refine hlen.mono ?_
  rintro _ w1 ⟨rfl, hb1⟩
  have H1 : Hid (Hd w1 B hp la ln lc up pa pc ps last ∧ Chg (fun k => blkOf pa = some k) w w1) := ⟨HH.out.below hb1, Chg.of hb1⟩
  clear hb1 hlen
  go_wp2_with fail
  refine (swap_any (i := 0) (j := n) H1.out.1 (by omega) (by omega)).mono ?_
  rintro _ w2 ⟨rfl, hd2, hc2⟩
  have H2 : Hid (Hd w2 B hp la ln lc up pa pc (swL d0 ps 0 n) last ∧ Chg (fun k => blkOf pa = some k) w w2 ∧ (swL d0 ps 0 n).Perm ps ∧ (swL d0 ps 0 n).length = n + 1 ∧ HeapF (ltD L up) n 1 (fun k => (swL d0 ps 0 n).getD k d0)) := by
    refine ⟨hd2, H1.out.2.andThen hc2 (fun _ _ e => e), swL_perm d0 ps (by omega) (by omega), by rw [swL_len, hn], ?_⟩
    have h9 := HV.out.2.2
    refine h9.from1 (by omega) fun k hk hkn => ?_
    show (swL d0 ps 0 n).getD k d0 = ps.getD k d0
    rw [swL_get d0 ps (by omega) (by omega), sw_other (by omega) (by omega)]
  clear hd2 hc2 H1
  obtain ⟨rs, hrs⟩ : ∃ rs, rs = swL d0 ps 0 n := ⟨_, rfl⟩
  have HRS : Hid (rs = swL d0 ps 0 n) := hrs
  rw [← hrs] at H2
  clear hrs
  go_wp2_with fail
  refine (down_any H2.out.1 (fun W hW => HL.out W (H2.out.2.1.andThen hW fun _ _ e => e)) (HV.out.1.perm H2.out.2.2.1) 0 n (by have := H2.out.2.2.2.1; omega) (by have := H2.out.2.2.2.1; omega) (by omega) H2.out.2.2.2.2).mono ?_
  rintro _ w3 ⟨qs, b, rfl, hp3, hd3, hc3, hf3, hs3⟩
  have H3 : Hid (Hd w3 B hp la ln lc up pa pc (qs.take n ++ [ps.getD 0 d0]) last ∧ Chg (fun k => blkOf pa = some k) w w3 ∧ (qs.take n ++ [ps.getD 0 d0]).Perm ps ∧ HeapF (ltD L up) (qs.take n).length 0 (fun k => (qs.take n).getD k d0) ∧ (qs.take n).length = n) := by
    have e := pop_parts (x := ps.getD 0 d0) rfl hn HRS.out hp3 hs3
    have hql : (qs.take n).length = n := by
      rw [List.length_take, hp3.length_eq, H2.out.2.2.2.1]; omega
    refine ⟨by rw [← e]; exact hd3, H2.out.2.1.andThen hc3 (fun _ _ e => e), by rw [← e]; exact hp3.trans H2.out.2.2.1, ?_, hql⟩
    rw [hql]
    refine hf3.congr fun k hk => ?_
    show (qs.take n).getD k d0 = qs.getD k d0
    simp [List.getD, List.getElem?_take, hk]
  clear hp3 hd3 hc3 hf3 hs3 H2 HRS
  generalize qs.take n = ts at H3
  obtain ⟨x, hx⟩ : ∃ x, ps.getD 0 d0 = x := ⟨_, rfl⟩
  have HX : Hid (ps.getD 0 d0 = x) := hx
  rw [hx] at H3
  clear hx
  go_wp2_with fail
  refine (hpop_any H3.out.1 (by have := H3.out.2.2.2.2; omega)).mono ?_
  rintro _ w4 ⟨rfl, hd4, hc4⟩
  have H4 : Hid (Hd w4 B hp la ln lc up pa pc ts last ∧ Chg (fun k => blkOf pa = some k ∨ k = hp) w w4) := ⟨hd4, (H3.out.2.1.wide fun k _ e => Or.inl e).andThen hc4 (fun k _ e => Or.inr e)⟩
  clear hd4 hc4
  go_wp2
  go_ret
  exact ⟨⟨_, rfl⟩, ts, by rw [HX.out]; exact H3.out.2.2.1, H4.out.1, H4.out.2, H3.out.2.2.2.1⟩
set_option maxRecDepth 100000 in
set_option maxHeartbeats 8000000 in
theorem push_any (h : Hd w B hp la ln lc up pa pc ps last) (q : PlL) (hB : B ≤ w.heap.size) (hl : ∀ W, Below B w W → LsAt W la ln lc L) (hv : InL L ln (ps ++ [q])) (hsz : ps.length + 1 ≤ 1000000) (hh : HeapF (ltD L up) ps.length 0 (fun k => ps.getD k d0)) :
    Calls Try.prog 48 #[.iface 56 (at_ hp), .iface TPl (.agg #[.int .i64 (q.1 : Int), .int .i64 (q.2 : Int)])] w fun e w' => e = .returned (.tuple #[]) ∧ ∃ (qs : List PlL) (pa' : Option Addr) (pc' : Nat), qs.Perm (ps ++ [q]) ∧ Hd w' B hp la ln lc up pa' pc' qs last ∧ Below B w w' ∧ HeapF (ltD L up) qs.length 0 (fun k => qs.getD k d0) := by
  have HL : Hid (∀ W, Below B w W → LsAt W la ln lc L) := hl
  have HV : Hid (InL L ln (ps ++ [q]) ∧ ps.length + 1 ≤ 1000000 ∧ HeapF (ltD L up) ps.length 0 (fun k => ps.getD k d0)) := ⟨hv, hsz, hh⟩
  have hlp : (ps ++ [q]).length = ps.length + 1 := by simp
  clear hl hv hh
  have hpu := hpush_any h q (by omega) hB
  clear h
  go_enter Try.func48, Try.ntmps48
  go_wp2_with fail
  refine hpu.mono ?_
  rintro _ w1 ⟨rfl, pa1, pc1, hd1, hb1⟩
  have H1 : Hid (Hd w1 B hp la ln lc up pa1 pc1 (ps ++ [q]) last ∧ Below B w w1) := ⟨hd1, hb1⟩
  clear hd1 hb1 hpu
  go_wp2_with fail
  refine (len_any H1.out.1).mono ?_
  rintro _ w2 ⟨rfl, hb2⟩
  have H2 : Hid (Hd w2 B hp la ln lc up pa1 pc1 (ps ++ [q]) last ∧ Below B w w2) := ⟨H1.out.1.below hb2, H1.out.2.trans (hb2.mono (Nat.le_trans hB H1.out.2.size))⟩
  clear hb2 H1
  rw [hlp]
  have hw1 : IntKind.i64.wrap (((ps.length + 1 : Nat) : Int) - 1) = (ps.length : Int) := by rw [IntKind.wrap_i64]; omega
  go_wp2_with fail
  have hup := up_any (L := L) H2.out.1 (fun W hW => HL.out W (H2.out.2.trans (hW.below (fun k hk => (H2.out.1.row.ge hk).1) (Nat.le_trans hB H2.out.2.size)))) HV.out.1 ps.length (by omega) (by omega) (by
    rw [hlp]
    refine HV.out.2.2.push fun k hk => ?_
    show (ps ++ [q]).getD k d0 = ps.getD k d0
    simp [List.getD, List.getElem?_append_left hk])
  refine hup.mono ?_
  rintro _ w3 ⟨rfl, qs, hp3, hd3, hc3, hf3⟩
  have H3 : Hid (qs.Perm (ps ++ [q]) ∧ Hd w3 B hp la ln lc up pa1 pc1 qs last ∧ Below B w w3 ∧ HeapF (ltD L up) qs.length 0 (fun k => qs.getD k d0)) := ⟨hp3, hd3, H2.out.2.trans (hc3.below (fun k hk => (H2.out.1.row.ge hk).1) (Nat.le_trans hB H2.out.2.size)), by rw [hp3.length_eq]; exact hf3⟩
  clear hp3 hd3 hc3 hf3 hup
  go_wp2
  go_end0
  exact ⟨rfl, qs, pa1, pc1, H3.out⟩
end
end Go.Proofs.Ytfijibengmgegaa
