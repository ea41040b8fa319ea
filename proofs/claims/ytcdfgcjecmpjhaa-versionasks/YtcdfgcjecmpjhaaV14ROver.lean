/- The contracts of the document's own Over and Ask. -/
import Derived.Test.YtcdfgcjecmpjhaaV14Ref1
namespace Go.Proofs.Ytcdfgcjecmpjhaa
open Go.RowKit
set_option linter.unusedVariables false
set_option linter.unusedSimpArgs false
set_option maxRecDepth 100000 in
set_option maxHeartbeats 8000000 in
theorem rover_any (v : PV) (s : SV) (l : Int) (a b : ByteArray) (w : World) (h : VnAt w v s) (hn : v.all.length < 65536) :
    Calls Try.prog 17 #[.agg #[.slice (s.a 0) (v 0).length (s.c 0), .slice (s.a 1) (v 1).length (s.c 1), .slice (s.a 2) (v 2).length (s.c 2), .slice (s.a 3) (v 3).length (s.c 3)], .int .i64 l, .string a, .string b] w fun e w' => ∃ (a' : Option Addr) (c' : Nat), e = .returned (.slice a' (overV v l a b).length c') ∧ OwnF w' w.heap.size a' (overV v l a b).length c' (overV v l a b) ∧ Below w.heap.size w w' := by
  have HV : Hid (VnAt w v s ∧ v.all.length < 65536) := ⟨h, hn⟩
  have HB0 : Hid (Below w.heap.size w (w.alloc (.cells (vA v s) TVn)) ∧ Box (w.alloc (.cells (vA v s) TVn)) w.heap.size TVn (vA v s)) := ⟨(Below.refl _ _).alloc (Nat.le_refl _) _, Box.new _ _ _⟩
  have HC : Hid (∀ (f : PF) (W : World), Calls Try.prog 32 #[.agg #[.int .i64 f.level, .int .u64 (f.num : Int), .int .i64 f.size, .string f.small.user, .int .u64 (f.small.seq : Int), .int .i64 f.small.kind, .string f.large.user, .int .u64 (f.large.seq : Int), .int .i64 f.large.kind], .string a, .string b] W fun e w' => e = .returned (.bool (hasU f a b)) ∧ Below W.heap.size W w') := fun f W => rhas_any f a b W
  clear h hn
  go_enter Try.func17, Try.ntmps17
  by_cases h0 : l < 0
  · have HZ : Hid (overV v l a b = []) := if_neg (by omega)
    go_wp2
    go_ret
    rw [HZ.out]
    exact ⟨none, 0, ret1 rfl, OwnF.nil _ _, HB0.out.1⟩
  by_cases h4 : 4 ≤ l
  · have HZ : Hid (overV v l a b = []) := if_neg (by omega)
    go_wp2
    go_ret
    rw [HZ.out]
    exact ⟨none, 0, ret1 rfl, OwnF.nil _ _, HB0.out.1⟩
  obtain ⟨n, hnl⟩ : ∃ n : Nat, l = (n : Int) := ⟨l.toNat, by omega⟩
  subst hnl
  have hn4 : n < 4 := by omega
  have HZ : Hid (overV v (n : Int) a b = havF a b (v n)) := by unfold Hid overV; rw [if_pos (by omega)]; rfl
  have hx := idxL_arr w.heap.size n hn4
  have hlen : (v n).length < 65536 := Nat.lt_of_le_of_lt (all_le v hn4) HV.out.2
  have HR : Hid (FlAt w (s.a n) (v n).length (s.c n) (v n)) := HV.out.1 n hn4
  go_wp2_with fail
  go_loopw [9, 10] (fun s9 s10 wr => ∃ (i k : Nat) (a' : Option Addr) (c' : Nat), i ≤ (v n).length ∧ k ≤ i ∧ s10 = .int .i64 (i : Int) ∧ s9 = .slice a' k c' ∧ Hid (OwnF wr (w.heap.size + 1) a' k c' (havF a b ((v n).take i)) ∧ Below w.heap.size w wr ∧ Box wr w.heap.size TVn (vA v s))) (fun _ s10 _ => (v n).length - (intOf s10).toNat)
  case atStart => exact ⟨0, 0, none, 0, Nat.zero_le _, Nat.le_refl _, rfl, rfl, OwnF.nil _ _, HB0.out⟩
  case round =>
    obtain ⟨i, k, a', c', hin, hki, rfl, rfl, HI⟩ := hrel
    have hcell := HI.out.2.2.level hn4
    by_cases hi : i < (v n).length
    · have hiI : (i : Int) < ((v n).length : Int) := by omega
      obtain ⟨b', o, hix, hblt, hcs⟩ := HR.out.at hi
      obtain ⟨d0, d1, d2, d3, d4, d5, d6, d7, d8⟩ := hcs wr HI.out.2.1
      have HTK : Hid ((v n).take (i + 1) = (v n).take i ++ [(v n)[i]]) := List.take_succ_eq_append_getElem hi
      have HCS : Hid (∀ W : World, Below w.heap.size w W → F9 W b' o (v n)[i]) := hcs
      clear hcs
      generalize (v n)[i] = f at d0 d1 d2 d3 d4 d5 d6 d7 d8 HTK HCS
      go_wp2_with fail
      refine (HC.out f _).mono ?_
      rintro _ w2 ⟨rfl, hb2⟩
      have H2 : Hid (OwnF w2 (w.heap.size + 1) a' k c' (havF a b ((v n).take i)) ∧ Below w.heap.size w w2 ∧ Box w2 w.heap.size TVn (vA v s)) := ⟨HI.out.1.below hb2, HI.out.2.1.trans (hb2.mono HI.out.2.1.size), HI.out.2.2.kept (hb2.block _ HI.out.2.2.lt)⟩
      clear hb2 d0 d1 d2 d3 d4 d5 d6 d7 d8 hcell
      have hcell := H2.out.2.2.level hn4
      obtain ⟨d0, d1, d2, d3, d4, d5, d6, d7, d8⟩ := HCS.out w2 H2.out.2.1
      cases hq : hasU f a b
      · have H3 : Hid (OwnF w2 (w.heap.size + 1) a' k c' (havF a b ((v n).take (i + 1))) ∧ Below w.heap.size w w2 ∧ Box w2 w.heap.size TVn (vA v s)) := by
          rw [HTK.out, havF_snoc, hq, if_neg (by decide), List.append_nil]
          exact H2.out
        clear hq
        go_wp2
        go_roundw
        case rel => exact ⟨i + 1, k, a', c', hi, by omega, by go_num, rfl, H3.out⟩
        case measure => simp only [intOf]; omega
      · have HQ : Hid (hasU f a b = true) := hq
        clear hq
        have HW2 : Hid (OwnF (w2.alloc (.cells (fA f) TF)) (w.heap.size + 1) a' k c' (havF a b ((v n).take i)) ∧ Below w.heap.size w (w2.alloc (.cells (fA f) TF)) ∧ FlAt (w2.alloc (.cells (fA f) TF)) (some ⟨w2.heap.size, 0, none⟩) 1 1 [f] ∧ w.heap.size + 1 ≤ (w2.alloc (.cells (fA f) TF)).heap.size ∧ Box (w2.alloc (.cells (fA f) TF)) w.heap.size TVn (vA v s)) := ⟨H2.out.1.alloc _, H2.out.2.1.alloc H2.out.2.1.size _, FlAt.one w2 f, Nat.succ_le_of_lt (H2.out.2.2.alloc _).lt, H2.out.2.2.alloc _⟩
        go_wp2_with (at_builtin; refine wpList_appFl (w2.alloc (.cells (fA f) TF)) rfl _ _ rfl (w.heap.size + 1) a' k c' (havF a b ((v n).take i)) rfl HW2.out.1 (some ⟨w2.heap.size, 0, none⟩) 1 1 [f] rfl HW2.out.2.2.1 (by omega) HW2.out.2.2.2.1 ?_; intro a2 c2' w3 ho2 hb2 hg2)
        have H3 : Hid (OwnF w3 (w.heap.size + 1) a2 (k + 1) c2' (havF a b ((v n).take (i + 1))) ∧ Below w.heap.size w w3 ∧ Box w3 w.heap.size TVn (vA v s)) := by
          rw [HTK.out, havF_snoc, HQ.out, if_pos rfl]
          exact ⟨ho2, HW2.out.2.1.trans (hb2.mono (Nat.le_succ _)), HW2.out.2.2.2.2.kept (hb2.block _ (Nat.lt_succ_self _))⟩
        clear ho2 hb2 hg2 hcell d0 d1 d2 d3 d4 d5 d6 d7 d8
        go_wp2
        go_roundw
        case rel => exact ⟨i + 1, k + 1, a2, c2', hi, by omega, by go_num, rfl, H3.out⟩
        case measure => simp only [intOf]; omega
    · have hiI : ¬ (i : Int) < ((v n).length : Int) := by omega
      have H2 : Hid (OwnF wr (w.heap.size + 1) a' k c' (havF a b (v n)) ∧ Below w.heap.size w wr) := by
        have := HI.out
        rw [List.take_of_length_le (by omega)] at this
        exact ⟨this.1, this.2.1⟩
      go_wp2
      go_ret
      have hsz := H2.out.1.size
      rw [HZ.out, hsz]
      exact ⟨a', c', ret1 rfl, H2.out.1.less (Nat.le_succ _), H2.out.2⟩
set_option maxRecDepth 100000 in
set_option maxHeartbeats 4000000 in
theorem rask_any (v : PV) (s : SV) (a : ByteArray) (w : World) (h : VnAt w v s) (hn : v.all.length < 65536) :
    Calls Try.prog 19 #[.agg #[.slice (s.a 0) (v 0).length (s.c 0), .slice (s.a 1) (v 1).length (s.c 1), .slice (s.a 2) (v 2).length (s.c 2), .slice (s.a 3) (v 3).length (s.c 3)], .string a] w fun e w' => ∃ (a' : Option Addr) (c' : Nat), e = .returned (.slice a' (askV v 4 a).length c') ∧ OwnF w' w.heap.size a' (askV v 4 a).length c' (askV v 4 a) ∧ Below w.heap.size w w' := by
  have HV : Hid (VnAt w v s ∧ v.all.length < 65536) := ⟨h, hn⟩
  have HB0 : Hid (Below w.heap.size w (w.alloc (.cells (vA v s) TVn)) ∧ Box (w.alloc (.cells (vA v s) TVn)) w.heap.size TVn (vA v s)) := ⟨(Below.refl _ _).alloc (Nat.le_refl _) _, Box.new _ _ _⟩
  clear h hn
  go_enter Try.func19, Try.ntmps19
  go_wp2_with fail
  go_loopw [5, 6] (fun s5 s6 wr => ∃ (k : Nat) (a' : Option Addr) (c' : Nat), k ≤ 4 ∧ s6 = .int .i64 (k : Int) ∧ s5 = .slice a' (askV v k a).length c' ∧ Hid (OwnF wr (w.heap.size + 1) a' (askV v k a).length c' (askV v k a) ∧ Below w.heap.size w wr ∧ Box wr w.heap.size TVn (vA v s))) (fun _ s6 _ => 4 - (intOf s6).toNat)
  case atStart => exact ⟨0, none, 0, by omega, rfl, rfl, OwnF.nil _ _, HB0.out⟩
  case round =>
    obtain ⟨k, a', c', hk4, rfl, rfl, HI⟩ := hrel
    by_cases hk : k < 4
    · have hkI : (k : Int) < 4 := by omega
      obtain ⟨e0, e1, e2, e3⟩ := HI.out.2.2.fourV
      have hh := rover_any v s (k : Int) a a wr (HV.out.1.below HI.out.2.1) HV.out.2
      have hov : overV v (k : Int) a a = havF a a (v k) := by unfold overV; rw [if_pos (by omega)]; rfl
      rw [hov] at hh
      have hl2 : (askV v k a).length + (havF a a (v k)).length < 65536 := by
        have h1 := askV_le v a hk
        have h2 := havF_le a a (v k)
        have h3 := HV.out.2
        omega
      have HAS : Hid (askV v (k + 1) a = askV v k a ++ havF a a (v k)) := askV_succ v k a
      generalize havF a a (v k) = hv at hh hl2 HAS
      generalize askV v k a = l0 at HI hl2 HAS ⊢
      clear hov
      go_wp2_with fail
      refine hh.mono ?_
      rintro _ w2 ⟨a2, c2, rfl, ho, hb⟩
      have H2 : Hid (OwnF w2 (w.heap.size + 1) a' l0.length c' l0 ∧ FlAt w2 a2 hv.length c2 hv ∧ w.heap.size + 1 ≤ w2.heap.size ∧ Below w.heap.size w w2 ∧ Box w2 w.heap.size TVn (vA v s)) := by
        have hbx := HI.out.2.2.kept (hb.block _ HI.out.2.2.lt)
        exact ⟨HI.out.1.below hb, ho.fs, Nat.succ_le_of_lt hbx.lt, HI.out.2.1.trans (hb.mono HI.out.2.1.size), hbx⟩
      clear ho hb hh e0 e1 e2 e3
      go_wp2_with (at_builtin; refine wpList_appFl w2 rfl _ _ rfl (w.heap.size + 1) a' l0.length c' l0 rfl H2.out.1 a2 hv.length c2 hv rfl H2.out.2.1 (by omega) H2.out.2.2.1 ?_; intro a3 c3 w3 ho3 hb3 hg3)
      have H3 : Hid (OwnF w3 (w.heap.size + 1) a3 (l0 ++ hv).length c3 (l0 ++ hv) ∧ Below w.heap.size w w3 ∧ Box w3 w.heap.size TVn (vA v s)) := ⟨by rw [List.length_append]; exact ho3, H2.out.2.2.2.1.trans (hb3.mono (Nat.le_succ _)), H2.out.2.2.2.2.kept (hb3.block _ (Nat.lt_succ_self _))⟩
      clear ho3 hb3 hg3
      go_wp2
      go_roundw
      case rel => exact ⟨k + 1, a3, c3, hk, by go_num, by rw [HAS.out, List.length_append], by rw [HAS.out]; exact H3.out⟩
      case measure => simp only [intOf]; omega
    · obtain rfl : k = 4 := by omega
      generalize hav : askV v 4 a = av at HI
      have HAV : Hid (askV v 4 a = av) := hav
      clear hav
      go_wp2
      go_ret
      rw [HAV.out]
      exact ⟨a', c', ret1 rfl, HI.out.1.less (Nat.le_succ _), HI.out.2.1⟩
end Go.Proofs.Ytcdfgcjecmpjhaa
