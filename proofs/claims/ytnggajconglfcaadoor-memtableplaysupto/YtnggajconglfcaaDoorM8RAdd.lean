/- The document's own table: Add. -/
import Derived.Test.YtnggajconglfcaaDoorM8With
import Derived.Test.YtnggajconglfcaaDoorM8Chk
import Derived.Test.YtnggajconglfcaaDoorM8Eq
namespace Go.Proofs.YtnggajconglfcaaDoor
open Go.RowKit
set_option linter.unusedVariables false
set_option linter.unusedSimpArgs false
abbrev TRf : TypeId := 29
structure RtAt (w : World) (B q : Nat) (T : PT) (a : Option Addr) (c : Nat) : Prop where
  box : Box w q TRf #[.slice a T.kvs.length c, .bool T.frozen]
  own : OwnR w B a T.kvs.length c T.kvs
  ge : B ≤ q
theorem RtAt.below {w w' : World} {B q : Nat} {T : PT} {a : Option Addr} {c : Nat} (h : RtAt w B q T a c) (hb : Below w.heap.size w w') : RtAt w' B q T a c := ⟨h.box.kept (hb.block _ h.box.lt), h.own.below hb, h.ge⟩
theorem radd_end {w w1 vx : World} {B q N : Nat} {T : PT} {a a4 : Option Addr} {c c4 : Nat} {e : KV} (h1 : OwnR vx w1.heap.size a4 (N + 1) c4 (insKV e T.kvs)) (h2 : Below w1.heap.size w1 vx) (h3 : Box vx q TRf #[.slice a T.kvs.length c, .bool T.frozen]) (h4 : Below w.heap.size w w1) (h5 : B ≤ q) (h6 : T.kvs.length = N) (h7 : B ≤ w.heap.size) (h8 : q < w.heap.size) :
    RtAt (vx.setCell ⟨q, 0, none⟩ (.slice a4 (N + 1) c4)) B q { T with kvs := insKV e T.kvs } a4 c4 ∧ Chg (fun x => x = q) w (vx.setCell ⟨q, 0, none⟩ (.slice a4 (N + 1) c4)) := by
  have hs := h4.size
  have hl : (insKV e T.kvs).length = N + 1 := by rw [insKV_len, h6]
  refine ⟨⟨?_, ?_, h5⟩, ?_⟩
  · have := h3.set 0 (.slice a4 (N + 1) c4)
    refine this.eq ?_
    show _ = #[Value.slice a4 (insKV e T.kvs).length c4, Value.bool T.frozen]
    rw [hl]
    rfl
  · show OwnR _ B a4 (insKV e T.kvs).length c4 (insKV e T.kvs)
    rw [hl]
    refine (h1.kept fun x hx => Below.heap_setCell _ _ _ _ (fun e => ?_)).mono (by omega)
    have e' : x = q := e
    have := h1.ge hx
    omega
  · exact Chg.set (R := fun x => x = q) (Chg.of (h4.trans (h2.mono hs))) (fun _ => rfl) 0 _
set_option maxRecDepth 100000 in
set_option maxHeartbeats 2000000 in
theorem radd_at {w : World} {B q : Nat} {T : PT} {a : Option Addr} {c : Nat} (h : RtAt w B q T a c) (hi : T.Inv) (k : IK) (v : ByteArray) (hk : k.user.size ≤ 9223372036854775807) (hv : v.size ≤ 9223372036854775807) (hn : T.kvs.length ≤ 999) (hB : B ≤ w.heap.size) :
    Calls Tryd.prog 12 #[at_ q, k.v, .string v] w fun e w' => e = .returned (.int .i64 ((T.err k v : Nat) : Int)) ∧ ∃ a' c', RtAt w' B q (T.add k v) a' c' ∧ Chg (fun x => x = q) w w' := by
  have c1 : w.cell? ⟨q, 1, none⟩ = some (.bool T.frozen) := h.box.cell 1
  have hql := h.box.lt
  have hb1 : Below w.heap.size w (w.alloc (.cells #[.string k.user, .int .u64 (k.seq : Int), .int .i64 k.kind] TK)) := (Below.refl _ _).alloc (Nat.le_refl _) _
  have HK := fun W => rcheck_any k.user k.seq k.kind W hk
  have HA : Hid (RtAt w B q T a c ∧ T.Inv) := ⟨h, hi⟩
  clear h hi
  unfold IK.v
  cases hf : T.frozen with
  | true =>
    have he : T.err k v = 80 := by unfold PT.err; rw [hf]; rfl
    have HE : Hid (T.err k v = 80 ∧ T.add k v = T) := ⟨he, PT.add_no (by rw [he]; decide)⟩
    rw [hf] at c1
    clear hf he
    go_enter Tryd.func12, Tryd.ntmps12
    go_wp2
    go_ret
    rw [HE.out.1, HE.out.2]
    exact ⟨ret1 rfl, a, c, HA.out.1.below hb1, Chg.of hb1⟩
  | false =>
    rw [hf] at c1
    by_cases hke : k.err = 0
    · have hke' : chk k.user.size k.seq k.kind = 0 := hke
      rw [hke'] at HK
      by_cases h1 : 1000 < v.size ∨ (k.kind = 0 ∧ v.size ≠ 0)
      · have he : T.err k v = 31 := by
          unfold PT.err
          rw [hf, if_neg (by decide), if_neg (by simpa using hke), if_pos h1]
        have HE : Hid (T.err k v = 31 ∧ T.add k v = T) := ⟨he, PT.add_no (by rw [he]; decide)⟩
        have hcs : (1000 : Int) < (v.size : Int) ∨ ((v.size : Int) ≤ 1000 ∧ (k.kind == 0) = true ∧ (0 : Int) < (v.size : Int)) := by
          rcases h1 with h1 | h1
          · exact .inl (by omega)
          · by_cases h2 : 1000 < v.size
            · exact .inl (by omega)
            · exact .inr ⟨by omega, by rw [h1.1]; rfl, by omega⟩
        clear hf he hke hke' h1
        go_enter Tryd.func12, Tryd.ntmps12
        go_wp2_with fail
        refine (HK _).mono ?_
        rintro _ w1 ⟨rfl, hb2⟩
        have bx : Box w1 w.heap.size TK #[.string k.user, .int .u64 (k.seq : Int), .int .i64 k.kind] := (Box.new w TK #[.string k.user, .int .u64 (k.seq : Int), .int .i64 k.kind]).kept (hb2.block _ (by simp))
        have d2 : w1.cell? ⟨w.heap.size, 2, none⟩ = some (.int .i64 k.kind) := bx.cell 2
        have HB : Hid (Below w.heap.size w w1) := hb1.trans (hb2.mono hb1.size)
        clear hb2 HK bx
        rcases hcs with h2 | ⟨h2, h3, h4⟩
        all_goals go_wp2
        all_goals go_ret
        all_goals rw [HE.out.1, HE.out.2]
        all_goals exact ⟨ret1 rfl, a, c, HA.out.1.below HB.out, Chg.of HB.out⟩
      · have hE : T.err k v = if (T.kvs.any fun e => decide (e.1.user = k.user ∧ e.1.seq = k.seq ∧ e.1.kind = k.kind)) then 81 else 0 := by
          unfold PT.err
          rw [hf, if_neg (by decide), if_neg (by simpa using hke), if_neg h1]
        have h1i : (v.size : Int) ≤ 1000 := by omega
        have hpick : (k.kind == 0) = false ∨ ((k.kind == 0) = true ∧ (v.size : Int) ≤ 0) := by
          by_cases hz : k.kind = 0
          · exact .inr ⟨by rw [hz]; rfl, by by_cases he : v.size = 0; omega; exact absurd (.inr ⟨hz, he⟩) h1⟩
          · exact .inl (by simpa using hz)
        have HE : Hid (_ = _) := hE
        have HF : Hid (T.frozen = false ∧ k.err = 0) := ⟨hf, hke⟩
        clear hf hke hke' hE h1
        go_enter Tryd.func12, Tryd.ntmps12
        go_wp2_with fail
        refine (HK _).mono ?_
        rintro _ w1 ⟨rfl, hb2⟩
        have bx : Box w1 w.heap.size TK #[.string k.user, .int .u64 (k.seq : Int), .int .i64 k.kind] := (Box.new w TK #[.string k.user, .int .u64 (k.seq : Int), .int .i64 k.kind]).kept (hb2.block _ (by simp))
        have d0 : w1.cell? ⟨w.heap.size, 0, none⟩ = some (.string k.user) := bx.cell 0
        have d1 : w1.cell? ⟨w.heap.size, 1, none⟩ = some (.int .u64 (k.seq : Int)) := bx.cell 1
        have d2 : w1.cell? ⟨w.heap.size, 2, none⟩ = some (.int .i64 k.kind) := bx.cell 2
        have hB1 : Below w.heap.size w w1 := hb1.trans (hb2.mono hb1.size)
        have R1 := HA.out.1.below hB1
        have e0 : w1.cell? ⟨q, 0, none⟩ = some (.slice a T.kvs.length c) := R1.box.cell 0
        have HB : Hid (Below w.heap.size w w1 ∧ RtAt w1 B q T a c ∧ Box w1 w.heap.size TK #[.string k.user, .int .u64 (k.seq : Int), .int .i64 k.kind]) := ⟨hB1, R1, bx⟩
        have hks := R1.own.ks
        have hcm := hks.max
        have hcl := hks.le
        unfold maxLen at hcm
        have HKs : Hid (KsAt w1 a T.kvs.length c T.kvs) := hks
        clear hb2 HK bx R1 hB1 hks
        generalize hNN : T.kvs.length = N at *
        have HNN : Hid (T.kvs.length = N) := hNN
        clear hNN
        rcases hpick with h2 | ⟨h2, h3⟩
        all_goals go_wp2_with fail
        all_goals go_loopw [8] (fun x wr => ∃ i d : Nat, i ≤ N ∧ x = .int .i64 (i : Int) ∧ wr = w1.drewN d ∧ Hid (∀ j (hj : j < T.kvs.length), j < i → T.kvs[j].1 ≠ k)) (fun x _ => N - (intOf x).toNat)
        case atStart => exact ⟨0, 0, Nat.zero_le _, rfl, rfl, fun j _ hj => absurd hj (Nat.not_lt_zero _)⟩
        case atStart => exact ⟨0, 0, Nat.zero_le _, rfl, rfl, fun j _ hj => absurd hj (Nat.not_lt_zero _)⟩
        all_goals (
          obtain ⟨i, d, hi, rfl, rfl, HI⟩ := hrel
          by_cases hin : i < N
          · obtain ⟨b, off, hab, hc⟩ := HKs.out.cells4 (by omega)
            have hil : i < T.kvs.length := by rw [HNN.out]; exact hin
            obtain ⟨x0, x1, x2, x3⟩ := hc i hil
            have hidx := fun W => idxKV W (a := a) (b := b) (off := off) (n := N) (c := c) hab hin
            have heq := fun W => run_eql_key T.kvs[i].1.user k.user (T.kvs[i].1.seq : Int) (k.seq : Int) T.kvs[i].1.kind k.kind W
            have HQ : Hid (keyEq T.kvs[i].1.user k.user (T.kvs[i].1.seq : Int) (k.seq : Int) T.kvs[i].1.kind k.kind = true ↔ T.kvs[i].1 = k) := keyEq_iff
            have HM : Hid (T.kvs[i] ∈ T.kvs) := List.getElem_mem hil
            have HG : Hid (T.kvs[i].1 ≠ k → ∀ j (hj : j < T.kvs.length), j < i + 1 → T.kvs[j].1 ≠ k) := fun hne j hj hji => by
              by_cases e : j = i
              · subst e; exact hne
              · exact HI.out j hj (by omega)
            generalize keyEq T.kvs[i].1.user k.user (T.kvs[i].1.seq : Int) (k.seq : Int) T.kvs[i].1.kind k.kind = ke at heq HQ
            generalize T.kvs[i] = e at x0 x1 x2 x3 heq HQ HM HG
            clear hc hab x3
            cases ke
            · go_wp2_with fail
              go_quiet (fail)
              go_wp2
              go_roundw
              case rel => exact ⟨i + 1, d + nq, hin, by go_num, by simp [World.drewN, Nat.add_assoc], HG.out fun he => absurd (HQ.out.2 he) (by decide)⟩
              case measure => simp only [intOf]; omega
            · have HE2 : Hid (T.err k v = 81 ∧ T.add k v = T) := by
                have he : T.err k v = 81 := by
                  rw [HE.out, if_pos (any_iff.2 ⟨e.2, by rw [← HQ.out.1 rfl]; exact HM.out⟩)]
                exact ⟨he, PT.add_no (by rw [he]; decide)⟩
              go_wp2_with fail
              go_quiet (fail)
              go_wp2
              go_ret
              rw [HE2.out.1, HE2.out.2]
              exact ⟨ret1 rfl, a, c, HB.out.2.1.below (Below.drewM (Below.drewM (Below.refl _ _) _) _), Chg.of (Below.drewM (Below.drewM HB.out.1 _) _)⟩
          · have HNo : Hid (T.err k v = 0) := by
              unfold Hid
              rw [HE.out, if_neg]
              intro hc
              obtain ⟨u, hu⟩ := any_iff.1 hc
              obtain ⟨j, hj, e⟩ := List.mem_iff_getElem.1 hu
              have := HI.out j hj (by have := HNN.out; omega)
              rw [e] at this
              exact this rfl
            have hkk : k.Ok := (IK.ok_of HF.out.2).1
            have HW := with_at (HKs.out.drewN (d + 1)) (k, v) hkk (fun e he => HA.out.2.okk he) (by omega)
            go_wp2_with fail
            go_region_with (first
              | (go_at_call 27; refine HW.mono ?_; rintro _ vx ⟨a4, c4, rfl, ho4, hb4⟩
                 have hbv : Below w1.heap.size w1 vx := (Below.drewM (Below.refl _ _) _).trans hb4
                 have bxq : Box vx q TRf #[.slice a T.kvs.length c, .bool T.frozen] := HB.out.2.1.box.kept (hbv.block _ HB.out.2.1.box.lt)
                 have g0 : vx.cell? ⟨q, 0, none⟩ = some (.slice a T.kvs.length c) := bxq.cell 0
                 have gf := bxq.soft 0
                 have HV : Hid (OwnR vx w1.heap.size a4 (N + 1) c4 (insKV (k, v) T.kvs) ∧ Below w1.heap.size w1 vx ∧ Box vx q TRf #[.slice a T.kvs.length c, .bool T.frozen]) := ⟨ho4, hbv, bxq⟩
                 clear ho4 hb4 hbv bxq))
            all_goals go_wp2
            all_goals go_ret
            all_goals rw [HNo.out, PT.add_yes HNo.out]
            all_goals exact ⟨ret1 rfl, a4, c4, radd_end HV.out.1 HV.out.2.1 HV.out.2.2 HB.out.1 HB.out.2.1.ge HNN.out hB hql⟩)
    · have hne : (((T.err k v : Nat) : Int) != 0) = true ∧ T.err k v = chk k.user.size k.seq k.kind := by
        have : T.err k v = k.err := by
          unfold PT.err
          rw [hf, if_neg (by decide), if_pos hke]
        rw [this]
        refine ⟨?_, rfl⟩
        simp
        omega
      have HAd : Hid (T.add k v = T) := PT.add_no (by rw [hne.2]; exact hke)
      rw [← hne.2] at HK
      have hq := hne.1
      generalize T.err k v = E at HK hq ⊢
      clear hf hne hke
      go_enter Tryd.func12, Tryd.ntmps12
      go_wp2_with fail
      refine (HK _).mono ?_
      rintro _ w1 ⟨rfl, hb2⟩
      have HB : Hid (Below w.heap.size w w1) := hb1.trans (hb2.mono hb1.size)
      clear hb2 HK
      go_wp2
      go_ret
      rw [HAd.out]
      exact ⟨ret1 rfl, a, c, HA.out.1.below HB.out, Chg.of HB.out⟩
end Go.Proofs.YtnggajconglfcaaDoor
