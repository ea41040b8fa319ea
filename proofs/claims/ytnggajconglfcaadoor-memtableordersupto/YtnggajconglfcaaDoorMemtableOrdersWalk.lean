/- The walk of MemtableOrders. -/
import Derived.Test.YtnggajconglfcaaDoorM8OrdPlain
import Derived.Test.YtnggajconglfcaaDoorM8Eq
import Derived.Deep.DeepCutAuto
namespace Go.Proofs.YtnggajconglfcaaDoor
open Go.RowKit
set_option linter.unusedVariables false
set_option linter.unusedSimpArgs false
/-- Two entries agree. -/
def Agr (l : List KV) (i k : Nat) : Prop := ∀ (hi : i < l.length) (hk : k < l.length), l[i].1 = l[k].1 → l[i].2 = l[k].2
theorem alike_of {l : List KV} (h : ∀ i k, i < l.length → k < i → Agr l i k) : Alike l := by
  intro a ha b hb e
  obtain ⟨i, hi, rfl⟩ := List.mem_iff_getElem.1 ha
  obtain ⟨k, hk, rfl⟩ := List.mem_iff_getElem.1 hb
  rcases Nat.lt_trichotomy i k with h1 | h1 | h1
  · exact (h k i hk h1 hk hi e.symm).symm
  · subst h1; rfl
  · exact h i k hi h1 hi hk e
set_option maxRecDepth 100000 in
set_option maxHeartbeats 2000000 in
theorem memtableOrders_walk (a : Option Addr) (len cap : Nat) (l0 : List KV) (u : ByteArray) (s : Nat) (w : World) (h0 : KsAt w a len cap l0) (hr0 : ∀ e ∈ l0, RawOk e) (_hlen : len ≤ 1048576) (hu : u.size ≤ 1048576) (_hs : (Lit.int .u64 (s : Int)).wf = true) (hg : Glob w) : Calls Tryd.prog 5 #[.slice a len cap, .string u, .int .u64 (s : Int)] w fun e w' => e = .returned (.bool true) ∧ Below w.heap.size w w' := by
  have HS0 : Hid (KsAt w a len cap l0 ∧ ∀ e ∈ l0, RawOk e) := ⟨h0, hr0⟩
  have HG : Hid (Glob w) := hg
  have hcm := h0.max
  have hle := h0.le
  unfold maxLen at hcm
  clear h0 hr0 hg _hs
  go_enter Tryd.func5, Tryd.ntmps5
  go_wp2_with fail
  refine (awake_any _ HG.out).mono ?_
  rintro _ w1 ⟨rfl, hb1⟩
  have HB1 : Hid (Below w.heap.size w w1) := hb1
  clear hb1
  go_upto_if 19 with fail
  go_cut [0] (fun x wz => ∃ n : Nat, x = .slice a n cap ∧ n ≤ 300 ∧ n ≤ cap ∧ wz = w1 ∧ Hid (∃ l, KsAt w1 a n cap l ∧ ∀ e ∈ l, RawOk e))
  case first =>
    have HI : Hid (KsAt w1 a len cap l0) := HS0.out.1.below HB1.out
    by_cases hq : 300 < len
    · obtain ⟨b, off, hab, _⟩ := HS0.out.1.here (by omega)
      subst hab
      go_wp2_with fail
      go_meet
      exact ⟨300, rfl, by omega, by omega, rfl, l0.take 300, HI.out.upTo (by omega), fun e he => HS0.out.2 e (List.mem_of_mem_take he)⟩
    · have hq' : decide ((300 : Int) < (len : Int)) = false := by simp; omega
      go_wp2_with fail
      go_meet
      exact ⟨len, rfl, by omega, hle, rfl, l0, HI.out, HS0.out.2⟩
  case rest =>
    obtain ⟨n, rfl, hn, hnc, rfl, HL⟩ := hcut
    obtain ⟨l, hl1, hl2⟩ := HL.out
    have hlen := hl1.size
    have HK : Hid (KsAt wc a n cap l ∧ (∀ e ∈ l, RawOk e) ∧ l.length = n) := ⟨hl1, hl2, hlen⟩
    clear hl1 hl2 hlen HL HS0 hle _hlen
    go_wp2_with fail
    go_loopw [8] (fun x wr => ∃ i d : Nat, i ≤ n ∧ x = .int .i64 (i : Int) ∧ wr = wc.drewN d ∧ Hid (∀ p q, p < i → q < p → Agr l p q)) (fun x _ => n - (intOf x).toNat)
    case atStart => exact ⟨0, 0, Nat.zero_le _, rfl, rfl, fun p q hp => absurd hp (Nat.not_lt_zero _)⟩
    case round =>
      obtain ⟨i, d, hi, rfl, rfl, HA⟩ := hrel
      by_cases hin : i < n
      · go_wp2_with fail
        go_loopw [9] (fun x wr => ∃ k d' : Nat, k ≤ i ∧ x = .int .i64 (k : Int) ∧ wr = wc.drewN d' ∧ Hid (∀ q, q < k → Agr l i q)) (fun x _ => i - (intOf x).toNat)
        case atStart => exact ⟨0, d, Nat.zero_le _, rfl, rfl, fun q hq => absurd hq (Nat.not_lt_zero _)⟩
        case round =>
          obtain ⟨k, d', hk, rfl, rfl, HA2⟩ := hrel
          by_cases hki : k < i
          · obtain ⟨b, off, hab, hc⟩ := HK.out.1.cells4 (by omega)
            have hil : i < l.length := by rw [HK.out.2.2]; exact hin
            have hkl : k < l.length := by rw [HK.out.2.2]; omega
            obtain ⟨c0, c1, c2, c3⟩ := hc i hil
            obtain ⟨d0, d1, d2, d3⟩ := hc k hkl
            have hidx := fun W => idxKV W (a := a) (b := b) (off := off) (n := n) (c := cap) hab hin
            have hidx' := fun W => idxKV W (a := a) (b := b) (off := off) (n := n) (c := cap) hab (show k < n by omega)
            have heq := fun W => run_eql_key l[i].1.user l[k].1.user (l[i].1.seq : Int) (l[k].1.seq : Int) l[i].1.kind l[k].1.kind W
            have HE : Hid (keyEq l[i].1.user l[k].1.user (l[i].1.seq : Int) (l[k].1.seq : Int) l[i].1.kind l[k].1.kind = true ↔ l[i].1 = l[k].1) := keyEq_iff
            have HV : Hid ((l[i].2.toList == l[k].2.toList) = true ↔ l[i].2 = l[k].2) := by
              unfold Hid
              rw [beq_iff_eq, ByteArray.toList_eq, ByteArray.toList_eq]
              exact ⟨ba_ext, fun h => by rw [h]⟩
            have HW : Hid (∀ (_ : l[i].1 = l[k].1 → l[i].2 = l[k].2), Agr l i k) := fun h _ _ => h
            generalize keyEq l[i].1.user l[k].1.user (l[i].1.seq : Int) (l[k].1.seq : Int) l[i].1.kind l[k].1.kind = ke at heq HE
            generalize hve : (l[i].2.toList == l[k].2.toList) = ve at HV
            generalize l[i] = e at c0 c1 c2 c3 heq HE HV HW hve
            generalize l[k] = f at d0 d1 d2 d3 heq HE HV HW hve
            clear hc hab
            cases ke
            · have HN : Hid (Agr l i k) := HW.out fun he => absurd (HE.out.2 he) (by decide)
              go_wp2_with fail
              go_quiet (fail)
              go_wp2
              go_roundw
              case rel =>
                refine ⟨k + 1, d' + nq, hki, by go_num, by simp [World.drewN, Nat.add_assoc], fun q hq => ?_⟩
                by_cases hqk : q = k
                · rw [hqk]; exact HN.out
                · exact HA2.out q (by omega)
              case measure => simp only [intOf]; omega
            · cases ve
              · go_wp2_with fail
                go_quiet (fail)
                go_wp2
                go_ret
                exact ⟨ret1 rfl, Below.drewM (Below.drewM HB1.out _) _⟩
              · have HN : Hid (Agr l i k) := HW.out fun _ => HV.out.1 rfl
                go_wp2_with fail
                go_quiet (fail)
                go_wp2
                go_roundw
                case rel =>
                  refine ⟨k + 1, d' + nq, hki, by go_num, by simp [World.drewN, Nat.add_assoc], fun q hq => ?_⟩
                  by_cases hqk : q = k
                  · rw [hqk]; exact HN.out
                  · exact HA2.out q (by omega)
                case measure => simp only [intOf]; omega
          · go_wp2
            go_roundw
            case rel =>
              refine ⟨i + 1, d', hin, by go_num, rfl, fun p q hp hq => ?_⟩
              by_cases hpi : p = i
              · rw [hpi]; exact HA2.out q (by omega)
              · exact HA.out p q (by omega) hq
            case measure => simp only [intOf]; omega
      · have HAl : Hid (Alike l) := alike_of fun p q hp hq => HA.out p q (by rw [HK.out.2.2] at hp; omega) hq
        have HK2 : Hid (KsAt (wc.drewN d) a n cap l ∧ (∀ e ∈ l, RawOk e) ∧ Below w.heap.size w (wc.drewN d) ∧ Glob (wc.drewN d)) := ⟨HK.out.1.drewN d, HK.out.2.1, Below.drewM HB1.out d, (HG.out.of_below0 HB1.out).drewN d⟩
        have HNL : Hid (l.length = n) := HK.out.2.2
        clear HK HA
        generalize wc.drewN d = v0 at HK2 ⊢
        go_wp2_with fail
        refine (added_at put_small (by decide) HK2.out.1 HK2.out.2.1 (by omega) false HK2.out.2.2.2).mono ?_
        rintro _ v1 ⟨pa, Ga, rfl, ha⟩
        have HA1 : Hid (TbAt v1 pa (PT.new.adds (orderOf false l)) Ga) := ha.at'
        have HB2 : Hid (KsAt v1 a n cap l ∧ Below w.heap.size w v1 ∧ Glob v1) := ⟨HK2.out.1.below ha.base, HK2.out.2.2.1.trans (ha.base.mono HK2.out.2.2.1.size), HK2.out.2.2.2.of_below0 ha.base⟩
        clear ha
        go_wp2_with fail
        refine (added_at put_small (by decide) HB2.out.1 HK2.out.2.1 (by omega) true HB2.out.2.2).mono ?_
        rintro _ v2 ⟨pb, Gb, rfl, hb⟩
        have hb' := hb.at'
        rw [orders_same HAl.out] at hb'
        have HX : Hid (TbAt v2 pa (PT.new.adds (orderOf false l)) Ga ∧ TbAt v2 pb (PT.new.adds (orderOf false l)) Gb ∧ Below w.heap.size w v2 ∧ Glob v2) := ⟨HA1.out.below hb.base, hb', HB2.out.2.1.trans (hb.base.mono HB2.out.2.1.size), HB2.out.2.2.of_below0 hb.base⟩
        have hTl : (PT.new.adds (orderOf false l)).kvs.length ≤ 300 := by
          have h1 := PT.adds_len (orderOf false l) PT.new
          have h2 : PT.new.kvs.length = 0 := rfl
          have h3 : (orderOf false l).length = l.length := rfl
          have := HNL.out
          omega
        generalize PT.new.adds (orderOf false l) = T at HX hTl
        clear hb hb' HA1 HB2 HK2 HAl
        go_wp2_with fail
        refine (get_at HX.out.1 u s hu (by omega) HX.out.2.2.2).mono ?_
        rintro _ v3 ⟨rfl, hb3⟩
        have HX3 : Hid (TbAt v3 pa T Ga ∧ TbAt v3 pb T Gb ∧ Below w.heap.size w v3 ∧ Glob v3) := ⟨HX.out.1.below hb3, HX.out.2.1.below hb3, HX.out.2.2.1.trans (hb3.mono HX.out.2.2.1.size), HX.out.2.2.2.of_below0 hb3⟩
        clear hb3 HX
        go_wp2_with fail
        refine (get_at HX3.out.2.1 u s hu (by omega) HX3.out.2.2.2).mono ?_
        rintro _ v4 ⟨rfl, hb4⟩
        have HX4 : Hid (TbAt v4 pa T Ga ∧ TbAt v4 pb T Gb ∧ Below w.heap.size w v4 ∧ Glob v4) := ⟨HX3.out.1.below hb4, HX3.out.2.1.below hb4, HX3.out.2.2.1.trans (hb4.mono HX3.out.2.2.1.size), HX3.out.2.2.2.of_below0 hb4⟩
        clear hb4 HX3
        generalize (told (lget T.kvs u s)).1 = gx
        generalize (told (lget T.kvs u s)).2 = gm
        go_wp2_with fail
        refine (size_at HX4.out.1).mono ?_
        rintro _ v5 ⟨rfl, hv5⟩
        subst hv5
        go_wp2_with fail
        refine (size_at HX4.out.2.1).mono ?_
        rintro _ v6 ⟨rfl, hv6⟩
        subst hv6
        go_wp2_with fail
        refine (all_at HX4.out.1 (by omega) HX4.out.2.2.2).mono ?_
        rintro _ v7 ⟨a7, rfl, ho7, hb7⟩
        have HX7 : Hid (OwnK v7 v6.heap.size a7 T.kvs.length T.kvs ∧ TbAt v7 pb T Gb ∧ Below w.heap.size w v7 ∧ Glob v7) := ⟨ho7, HX4.out.2.1.below hb7, HX4.out.2.2.1.trans (hb7.mono HX4.out.2.2.1.size), HX4.out.2.2.2.of_below0 hb7⟩
        clear ho7 hb7 HX4
        go_wp2_with fail
        refine (all_at HX7.out.2.1 (by omega) HX7.out.2.2.2).mono ?_
        rintro _ v8 ⟨a8, rfl, ho8, hb8⟩
        have HK7 : Hid (KsAt v8 a7 T.kvs.length T.kvs.length T.kvs ∧ KsAt v8 a8 T.kvs.length T.kvs.length T.kvs ∧ Below w.heap.size w v8) := ⟨(HX7.out.1.ks (by unfold maxLen; omega)).below hb8, ho8.ks (by unfold maxLen; omega), HX7.out.2.2.1.trans (hb8.mono HX7.out.2.2.1.size)⟩
        clear ho8 hb8 HX7
        go_wp2_with fail
        refine (same_at HK7.out.1 HK7.out.2.1).mono ?_
        rintro _ v9 ⟨rfl, d9, hv9⟩
        subst hv9
        go_wp2
        go_ret
        exact ⟨ret1 rfl, Below.drewM HK7.out.2.2 _⟩
end Go.Proofs.YtnggajconglfcaaDoor
