/- The contracts of version's having, Over, Ask and Size. -/
import Derived.Test.YtcdfgcjecmpjhaaV14Fn
import Derived.Test.YtcdfgcjecmpjhaaV14Lev
namespace Go.Proofs.Ytcdfgcjecmpjhaa
open Go.RowKit
set_option linter.unusedVariables false
set_option linter.unusedSimpArgs false
/-- The files that have a user from one to another. -/
def havF (a b : ByteArray) (l : List PF) : List PF := l.filter fun f => hasU f a b
theorem havF_snoc (a b : ByteArray) (l : List PF) (f : PF) : havF a b (l ++ [f]) = havF a b l ++ (if hasU f a b = true then [f] else []) := by
  unfold havF
  rw [List.filter_append]
  simp [List.filter_cons]
theorem havF_le (a b : ByteArray) (l : List PF) : (havF a b l).length ≤ l.length := List.length_filter_le _ _
set_option maxRecDepth 100000 in
set_option maxHeartbeats 4000000 in
theorem having_any (s t : ByteArray) (l0 l : List PF) (a0 : Option Addr) (n0 c0 : Nat) (a : Option Addr) (n c B : Nat) (w : World) (h0 : OwnF w B a0 n0 c0 l0) (h : FlAt w a n c l) (hB : B ≤ w.heap.size) (hl : 0 < n → ∀ k, blkOf a = some k → k < B) (hn : n0 + n < 130000) :
    Calls Try.prog 38 #[.slice a0 n0 c0, .slice a n c, .string s, .string t] w fun e w' => ∃ (a' : Option Addr) (c' : Nat), e = .returned (.slice a' (l0 ++ havF s t l).length c') ∧ OwnF w' B a' (l0 ++ havF s t l).length c' (l0 ++ havF s t l) ∧ Below B w w' := by
  have HV : Hid (FlAt w a n c l ∧ l.length = n ∧ l0.length = n0 ∧ ∀ W, Below B w W → FlAt W a n c l) := ⟨h, h.size, h0.size, fun W hW => by
    refine ⟨h.size, h.row.size, h.row.le, h.row.max, h.row.bare, fun hp => ?_⟩
    obtain ⟨b, off, ha, hc⟩ := h.row.here hp
    refine ⟨b, off, ha, fun j hj => ?_⟩
    rw [hW.cell (hl hp b (by rw [ha]; rfl))]
    exact hc j hj⟩
  have HO : Hid (OwnF w B a0 n0 c0 l0 ∧ B ≤ w.heap.size) := ⟨h0, hB⟩
  have hmx := h.row.max
  have hlc := h.row.le
  unfold maxLen at hmx
  have HC : Hid (∀ (W : World) (f : PF), Calls Try.prog 49 #[.agg #[.int .i64 f.level, .int .u64 (f.num : Int), .int .i64 f.size, .string f.small.user, .int .u64 (f.small.seq : Int), .int .i64 f.small.kind, .string f.large.user, .int .u64 (f.large.seq : Int), .int .i64 f.large.kind], .string s, .string t] W fun e w' => e = .returned (.bool (hasU f s t)) ∧ Below W.heap.size W w') := fun W f => has_any f s t W
  clear h h0 hB hl
  go_enter Try.func38, Try.ntmps38
  go_wp2_with fail
  go_loopw [0, 13] (fun s0 s13 wr => ∃ (i k : Nat) (a' : Option Addr) (c' : Nat), i ≤ n ∧ k ≤ n0 + i ∧ s13 = .int .i64 (i : Int) ∧ s0 = .slice a' k c' ∧ Hid (OwnF wr B a' k c' (l0 ++ havF s t (l.take i)) ∧ Below B w wr)) (fun _ s13 _ => n - (intOf s13).toNat)
  case atStart => exact ⟨0, n0, a0, c0, Nat.zero_le _, Nat.le_refl _, rfl, rfl, by simpa [havF] using HO.out.1, Below.refl _ _⟩
  case round =>
    obtain ⟨i, k, a', c', hin, hki, rfl, rfl, HI⟩ := hrel
    by_cases hi : i < n
    · have hil : i < l.length := by rw [HV.out.2.1]; exact hi
      obtain ⟨b', o, hix, hblt, hcs⟩ := (HV.out.2.2.2 wr HI.out.2).at hil
      obtain ⟨d0, d1, d2, d3, d4, d5, d6, d7, d8⟩ := hcs wr (Below.refl _ _)
      have HTK : Hid (l.take (i + 1) = l.take i ++ [l[i]]) := List.take_succ_eq_append_getElem hil
      clear hcs
      generalize l[i] = f at d0 d1 d2 d3 d4 d5 d6 d7 d8 HTK
      have HW1 : Hid (OwnF (wr.alloc (.cells (fA f) TF)) B a' k c' (l0 ++ havF s t (l.take i)) ∧ Below B w (wr.alloc (.cells (fA f) TF)) ∧ Box (wr.alloc (.cells (fA f) TF)) wr.heap.size TF (fA f)) := ⟨HI.out.1.alloc _, HI.out.2.alloc (Nat.le_trans HO.out.2 HI.out.2.size) _, Box.new _ _ _⟩
      go_wp2_with fail
      refine (HC.out _ f).mono ?_
      rintro _ w2 ⟨rfl, hb2⟩
      have H2 : Hid (OwnF w2 B a' k c' (l0 ++ havF s t (l.take i)) ∧ Below B w w2 ∧ Box w2 wr.heap.size TF (fA f) ∧ B ≤ w2.heap.size) := by
        have hb : Below (wr.alloc (.cells (fA f) TF)).heap.size (wr.alloc (.cells (fA f) TF)) w2 := hb2
        have hB1 : B ≤ (wr.alloc (.cells (fA f) TF)).heap.size := Nat.le_trans HO.out.2 HW1.out.2.1.size
        exact ⟨HW1.out.1.below hb, HW1.out.2.1.trans (hb.mono hB1), HW1.out.2.2.kept (hb.block _ HW1.out.2.2.lt), Nat.le_trans hB1 hb.size⟩
      clear hb2 HW1 d0 d1 d2 d3 d4 d5 d6 d7 d8
      cases hq : hasU f s t
      · have H3 : Hid (OwnF w2 B a' k c' (l0 ++ havF s t (l.take (i + 1))) ∧ Below B w w2) := by
          rw [HTK.out, havF_snoc, hq, if_neg (by decide), List.append_nil]
          exact ⟨H2.out.1, H2.out.2.1⟩
        clear hq
        go_wp2
        go_roundw
        case rel => exact ⟨i + 1, k, a', c', hi, by omega, by go_num, rfl, H3.out⟩
        case measure => simp only [intOf]; omega
      · have HQ : Hid (hasU f s t = true) := hq
        clear hq
        obtain ⟨x0, x1, x2, x3, x4, x5, x6, x7, x8⟩ := H2.out.2.2.1.nine
        simp only [Nat.zero_add] at x1 x2 x3 x4 x5 x6 x7 x8
        have HW2 : Hid (OwnF (w2.alloc (.cells (fA f) TF)) B a' k c' (l0 ++ havF s t (l.take i)) ∧ Below B w (w2.alloc (.cells (fA f) TF)) ∧ FlAt (w2.alloc (.cells (fA f) TF)) (some ⟨w2.heap.size, 0, none⟩) 1 1 [f] ∧ B ≤ (w2.alloc (.cells (fA f) TF)).heap.size) := ⟨H2.out.1.alloc _, H2.out.2.1.alloc H2.out.2.2.2 _, FlAt.one w2 f, Nat.le_trans H2.out.2.2.2 (by simp)⟩
        go_wp2_with (at_builtin; refine wpList_appFl (w2.alloc (.cells (fA f) TF)) rfl _ _ rfl B a' k c' (l0 ++ havF s t (l.take i)) rfl HW2.out.1 (some ⟨w2.heap.size, 0, none⟩) 1 1 [f] rfl HW2.out.2.2.1 (by omega) HW2.out.2.2.2 ?_; intro a2 c2' w3 ho2 hb2 hg2)
        have H3 : Hid (OwnF w3 B a2 (k + 1) c2' (l0 ++ havF s t (l.take (i + 1))) ∧ Below B w w3) := by
          rw [HTK.out, havF_snoc, HQ.out, if_pos rfl, ← List.append_assoc]
          exact ⟨ho2, HW2.out.2.1.trans hb2⟩
        clear ho2 hb2 hg2
        go_wp2
        go_roundw
        case rel => exact ⟨i + 1, k + 1, a2, c2', hi, by omega, by go_num, rfl, H3.out⟩
        case measure => simp only [intOf]; omega
    · have H2 : Hid (OwnF wr B a' k c' (l0 ++ havF s t l) ∧ Below B w wr) := by
        have := HI.out
        rw [List.take_of_length_le (by rw [HV.out.2.1]; omega)] at this
        exact this
      go_wp2
      go_ret
      have hsz := H2.out.1.size
      rw [hsz]
      exact ⟨a', c', ret1 rfl, H2.out⟩
/-- Over, plainly. -/
def overV (v : PV) (l : Int) (a b : ByteArray) : List PF := if 0 ≤ l ∧ l < 4 then havF a b (v l.toNat) else []
theorem FlAt.lt {w : World} {a : Option Addr} {n c : Nat} {l : List PF} (h : FlAt w a n c l) (hn : 0 < n) : ∀ k, blkOf a = some k → k < w.heap.size := by
  intro k hk
  obtain ⟨b, off, rfl, hc⟩ := h.row.here hn
  have e : b = k := by simpa [blkOf] using hk
  subst e
  have h0 := hc 0 (by omega)
  have hs := h.row.size
  rw [List.getElem?_eq_getElem (by omega)] at h0
  exact World.block_lt_of_cell? w _ h0
set_option maxRecDepth 100000 in
theorem idxL_arr (p k : Nat) (hk : k < 4) (W : World) : (Instr.indexAt 24 (.pointer (some ⟨p, 0, none⟩)) (.int .i64 (k : Int))).run Try.prog W = .ok (.pointer (some ⟨p, k, none⟩)) W := by
  have h1 : (k : Int) < 4 := by omega
  have hsz : (sizeOf 23).run Try.prog W = .ok 1 W := by kernel_rfl
  simp [Instr.indexAt, run_underlying Try.underlying24, asIntOf, h1, hk, show ¬ 4 ≤ k by omega, hsz, Addr.add_lit, go_sem]
theorem Box.level {w : World} {p : Nat} {t : TypeId} {v : PV} {s : SV} (h : Box w p t (vA v s)) {n : Nat} (hn : n < 4) : w.cell? ⟨p, n, none⟩ = some (.slice (s.a n) (v n).length (s.c n)) := by
  rw [h.cell]
  exact four (P := fun n => (vA v s)[n]? = some (.slice (s.a n) (v n).length (s.c n))) hn rfl rfl rfl rfl
theorem all_le (v : PV) {n : Nat} (hn : n < 4) : (v n).length ≤ v.all.length := by
  unfold PV.all
  simp only [List.length_append]
  exact four (P := fun n => (v n).length ≤ (v 0).length + ((v 1).length + ((v 2).length + (v 3).length))) hn (by omega) (by omega) (by omega) (by omega)
set_option maxRecDepth 100000 in
set_option maxHeartbeats 4000000 in
theorem over_any (v : PV) (s : SV) (l : Int) (a b : ByteArray) (w : World) (h : VnAt w v s) (hn : v.all.length < 65536) :
    Calls Try.prog 16 #[.agg #[.slice (s.a 0) (v 0).length (s.c 0), .slice (s.a 1) (v 1).length (s.c 1), .slice (s.a 2) (v 2).length (s.c 2), .slice (s.a 3) (v 3).length (s.c 3)], .int .i64 l, .string a, .string b] w fun e w' => ∃ (a' : Option Addr) (c' : Nat), e = .returned (.slice a' (overV v l a b).length c') ∧ OwnF w' w.heap.size a' (overV v l a b).length c' (overV v l a b) ∧ Below w.heap.size w w' := by
  have HV : Hid (VnAt w v s ∧ v.all.length < 65536) := ⟨h, hn⟩
  have HB0 : Hid (Below w.heap.size w (w.alloc (.cells (vA v s) TVn)) ∧ Box (w.alloc (.cells (vA v s) TVn)) w.heap.size TVn (vA v s)) := ⟨(Below.refl _ _).alloc (Nat.le_refl _) _, Box.new _ _ _⟩
  have hlv : Calls Try.prog 37 #[.int .i64 l] (w.alloc (.cells (vA v s) TVn)) fun e w' => e = .returned (.bool (decide (0 ≤ l ∧ l < 4))) ∧ w.alloc (.cells (vA v s) TVn) = w' := isLevel_any l _
  clear h hn
  go_enter Try.func16, Try.ntmps16
  go_wp2_with fail
  refine hlv.mono ?_
  rintro _ w1 ⟨rfl, rfl⟩
  clear hlv
  by_cases hl : 0 ≤ l ∧ l < 4
  · obtain ⟨n, hnl⟩ : ∃ n : Nat, l = (n : Int) := ⟨l.toNat, by omega⟩
    subst hnl
    have hn4 : n < 4 := by omega
    have HOV : Hid (overV v (n : Int) a b = havF a b (v n)) := by unfold Hid overV; rw [if_pos hl]; rfl
    rw [decide_eq_true hl]
    have hx := idxL_arr w.heap.size n hn4
    have HW1 : Hid (FlAt (w.alloc (.cells (vA v s) TVn)) (s.a n) (v n).length (s.c n) (v n)) := (HV.out.1 n hn4).below HB0.out.1
    have hcell : (w.alloc (.cells (vA v s) TVn)).cell? ⟨w.heap.size, n, none⟩ = some (.slice (s.a n) (v n).length (s.c n)) := HB0.out.2.level hn4
    have hh : Calls Try.prog 38 #[.slice none 0 0, .slice (s.a n) (v n).length (s.c n), .string a, .string b] (w.alloc (.cells (vA v s) TVn)) fun e w' => ∃ (a' : Option Addr) (c' : Nat), e = .returned (.slice a' ([] ++ havF a b (v n)).length c') ∧ OwnF w' w.heap.size a' ([] ++ havF a b (v n)).length c' ([] ++ havF a b (v n)) ∧ Below w.heap.size (w.alloc (.cells (vA v s) TVn)) w' :=
      having_any a b [] (v n) none 0 0 (s.a n) (v n).length (s.c n) w.heap.size (w.alloc (.cells (vA v s) TVn)) (OwnF.nil _ _) HW1.out HB0.out.1.size (fun hp k hk => (HV.out.1 n hn4).lt hp k hk) (by
        have h1 := all_le v hn4
        have h2 := HV.out.2
        omega)
    generalize hlw : w.alloc (.cells (vA v s) TVn) = W1 at hh hcell
    have HLW : Hid (w.alloc (.cells #[.slice (s.a 0) (v 0).length (s.c 0), .slice (s.a 1) (v 1).length (s.c 1), .slice (s.a 2) (v 2).length (s.c 2), .slice (s.a 3) (v 3).length (s.c 3)] TVn) = W1) := hlw
    have HBW : Hid (Below w.heap.size w W1) := by rw [← hlw]; exact HB0.out.1
    clear hlw HW1 HB0
    clear HLW
    go_wp2_with fail
    refine hh.mono ?_
    rintro _ w2 ⟨a', c', rfl, ho, hb⟩
    have H2 : Hid (OwnF w2 w.heap.size a' (havF a b (v n)).length c' (havF a b (v n)) ∧ Below w.heap.size w w2) := ⟨ho, HBW.out.trans hb⟩
    clear ho hb hh hcell
    rw [List.nil_append]
    go_wp2
    go_ret
    rw [HOV.out]
    exact ⟨a', c', ret1 rfl, H2.out⟩
  · rw [decide_eq_false hl]
    have HOV : Hid (overV v l a b = []) := by unfold Hid overV; rw [if_neg hl]
    go_wp2
    go_ret
    rw [HOV.out]
    exact ⟨none, 0, ret1 rfl, OwnF.nil _ _, HB0.out.1⟩
/-- The files in which a user may be, of the levels ahead of one. -/
def askV (v : PV) (k : Nat) (a : ByteArray) : List PF := (List.range k).flatMap fun n => havF a a (v n)
theorem askV_succ (v : PV) (k : Nat) (a : ByteArray) : askV v (k + 1) a = askV v k a ++ havF a a (v k) := by
  unfold askV
  rw [List.range_succ, List.flatMap_append]
  simp
theorem askV_le (v : PV) (a : ByteArray) {k : Nat} (hk : k < 4) : (askV v k a).length + (v k).length ≤ v.all.length := by
  have h := fun n => havF_le a a (v n)
  have h0 := h 0
  have h1 := h 1
  have h2 := h 2
  unfold PV.all
  simp only [List.length_append]
  refine four (P := fun k => (askV v k a).length + (v k).length ≤ (v 0).length + ((v 1).length + ((v 2).length + (v 3).length))) hk ?_ ?_ ?_ ?_
  all_goals try simp only [askV_succ, List.length_append]
  all_goals have h00 : (askV v 0 a).length = 0 := rfl
  all_goals omega
set_option maxRecDepth 100000 in
set_option maxHeartbeats 4000000 in
theorem ask_any (v : PV) (s : SV) (a : ByteArray) (w : World) (h : VnAt w v s) (hn : v.all.length < 65536) :
    Calls Try.prog 18 #[.agg #[.slice (s.a 0) (v 0).length (s.c 0), .slice (s.a 1) (v 1).length (s.c 1), .slice (s.a 2) (v 2).length (s.c 2), .slice (s.a 3) (v 3).length (s.c 3)], .string a] w fun e w' => ∃ (a' : Option Addr) (c' : Nat), e = .returned (.slice a' (askV v 4 a).length c') ∧ OwnF w' w.heap.size a' (askV v 4 a).length c' (askV v 4 a) ∧ Below w.heap.size w w' := by
  have HV : Hid (VnAt w v s ∧ v.all.length < 65536) := ⟨h, hn⟩
  have HB0 : Hid (Below w.heap.size w (w.alloc (.cells (vA v s) TVn))) := (Below.refl _ _).alloc (Nat.le_refl _) _
  clear h hn
  go_enter Try.func18, Try.ntmps18
  go_wp2_with fail
  go_loopw [5, 10] (fun s5 s10 wr => ∃ (k : Nat) (a' : Option Addr) (c' : Nat), k ≤ 4 ∧ s10 = .int .i64 (k : Int) ∧ s5 = .slice a' (askV v k a).length c' ∧ Hid (OwnF wr w.heap.size a' (askV v k a).length c' (askV v k a) ∧ Below w.heap.size w wr)) (fun _ s10 _ => 4 - (intOf s10).toNat)
  case atStart => exact ⟨0, none, 0, by omega, rfl, rfl, OwnF.nil _ _, HB0.out⟩
  case round =>
    obtain ⟨k, a', c', hk4, rfl, rfl, HI⟩ := hrel
    by_cases hk : k < 4
    · have hidx := idx_arr v s k hk
      have hkI : (k : Int) < 4 := by omega
      have hh := having_any a a (askV v k a) (v k) a' (askV v k a).length c' (s.a k) (v k).length (s.c k) w.heap.size wr HI.out.1 ((HV.out.1 k hk).below HI.out.2) HI.out.2.size (fun hp j hj => (HV.out.1 k hk).lt hp j hj) (by
        have h1 := askV_le v a hk
        have h2 := HV.out.2
        omega)
      rw [← askV_succ] at hh
      go_wp2_with fail
      refine hh.mono ?_
      rintro _ w2 ⟨a2, c2, rfl, ho, hb⟩
      have H2 : Hid (OwnF w2 w.heap.size a2 (askV v (k + 1) a).length c2 (askV v (k + 1) a) ∧ Below w.heap.size w w2) := ⟨ho, HI.out.2.trans hb⟩
      clear ho hb hh
      go_wp2
      go_roundw
      case rel => exact ⟨k + 1, a2, c2, hk, by go_num, rfl, H2.out⟩
      case measure => simp only [intOf]; omega
    · obtain rfl : k = 4 := by omega
      generalize hav : askV v 4 a = av at HI
      have HAV : Hid (askV v 4 a = av) := hav
      clear hav
      go_wp2
      go_ret
      rw [HAV.out]
      exact ⟨a', c', ret1 rfl, HI.out⟩
end Go.Proofs.Ytcdfgcjecmpjhaa
