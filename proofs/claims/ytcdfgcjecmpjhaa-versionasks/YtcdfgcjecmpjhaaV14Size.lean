/- The contracts of version's Size and of the document's own. -/
import Derived.Test.YtcdfgcjecmpjhaaV14Ask
namespace Go.Proofs.Ytcdfgcjecmpjhaa
open Go.RowKit
set_option linter.unusedVariables false
set_option linter.unusedSimpArgs false
/-- How many bytes files have, as Go counts. -/
def sumF (l : List PF) : Int := l.foldl (fun n f => wrap64 (n + f.size)) 0
theorem sumF_snoc (l : List PF) (f : PF) : sumF (l ++ [f]) = wrap64 (sumF l + f.size) := by
  unfold sumF
  rw [List.foldl_append]
  rfl
def sizeV (v : PV) (l : Int) : Int := if 0 ≤ l ∧ l < 4 then sumF (v l.toNat) else 0
theorem sizeV_yes (v : PV) {n : Nat} (hn : n < 4) : sizeV v (n : Int) = sumF (v n) := by
  unfold sizeV
  rw [if_pos (by omega)]
  rfl
theorem sizeV_no (v : PV) {l : Int} (h : ¬ (0 ≤ l ∧ l < 4)) : sizeV v l = 0 := if_neg h
set_option maxRecDepth 100000 in
set_option maxHeartbeats 4000000 in
theorem rsize_any (v : PV) (s : SV) (l : Int) (w : World) (h : VnAt w v s) (hn : v.all.length < 65536) :
    Calls Try.prog 24 #[.agg #[.slice (s.a 0) (v 0).length (s.c 0), .slice (s.a 1) (v 1).length (s.c 1), .slice (s.a 2) (v 2).length (s.c 2), .slice (s.a 3) (v 3).length (s.c 3)], .int .i64 l] w fun e w' => e = .returned (.int .i64 (sizeV v l)) ∧ Below w.heap.size w w' := by
  have HV : Hid (VnAt w v s ∧ v.all.length < 65536) := ⟨h, hn⟩
  have HB0 : Hid (Below w.heap.size w (w.alloc (.cells (vA v s) TVn)) ∧ Box (w.alloc (.cells (vA v s) TVn)) w.heap.size TVn (vA v s)) := ⟨(Below.refl _ _).alloc (Nat.le_refl _) _, Box.new _ _ _⟩
  clear h hn
  go_enter Try.func24, Try.ntmps24
  by_cases h0 : l < 0
  · have HZ : Hid (sizeV v l = 0) := sizeV_no v (by omega)
    go_wp2
    go_ret
    rw [HZ.out]
    exact ⟨ret1 rfl, HB0.out.1⟩
  by_cases h4 : 4 ≤ l
  · have HZ : Hid (sizeV v l = 0) := sizeV_no v (by omega)
    go_wp2
    go_ret
    rw [HZ.out]
    exact ⟨ret1 rfl, HB0.out.1⟩
  obtain ⟨n, hnl⟩ : ∃ n : Nat, l = (n : Int) := ⟨l.toNat, by omega⟩
  subst hnl
  have hn4 : n < 4 := by omega
  have HZ : Hid (sizeV v (n : Int) = sumF (v n)) := sizeV_yes v hn4
  have hx := idxL_arr w.heap.size n hn4
  have hlen : (v n).length < 65536 := Nat.lt_of_le_of_lt (all_le v hn4) HV.out.2
  have HR : Hid (FlAt w (s.a n) (v n).length (s.c n) (v n)) := HV.out.1 n hn4
  go_wp2_with fail
  go_loopw [5, 6] (fun s5 s6 wr => ∃ (i : Nat), i ≤ (v n).length ∧ s6 = .int .i64 (i : Int) ∧ s5 = .int .i64 (sumF ((v n).take i)) ∧ Hid (Below w.heap.size w wr ∧ Box wr w.heap.size TVn (vA v s))) (fun _ s6 _ => (v n).length - (intOf s6).toNat)
  case atStart => exact ⟨0, Nat.zero_le _, rfl, rfl, HB0.out⟩
  case round =>
    obtain ⟨i, hin, rfl, rfl, HI⟩ := hrel
    have hcell := HI.out.2.level hn4
    by_cases hi : i < (v n).length
    · have hiI : (i : Int) < ((v n).length : Int) := by omega
      obtain ⟨b', o, hix, hblt, hcs⟩ := HR.out.at hi
      obtain ⟨d0, d1, d2, d3, d4, d5, d6, d7, d8⟩ := hcs wr HI.out.1
      have HTK : Hid (sumF ((v n).take (i + 1)) = wrap64 (sumF ((v n).take i) + ((v n)[i]).size)) := by
        unfold Hid
        rw [List.take_succ_eq_append_getElem hi, sumF_snoc]
      clear hcs
      generalize (v n)[i] = f at d0 d1 d2 d3 d4 d5 d6 d7 d8 HTK
      generalize sumF ((v n).take i) = z at HTK ⊢
      go_wp2
      go_roundw
      case rel => exact ⟨i + 1, hi, by go_num, by rw [HTK.out], HI.out⟩
      case measure => simp only [intOf]; omega
    · have hiI : ¬ (i : Int) < ((v n).length : Int) := by omega
      have H2 : Hid ((v n).take i = v n) := List.take_of_length_le (by omega)
      rw [H2.out]
      generalize sumF (v n) = z at HZ ⊢
      go_wp2
      go_ret
      rw [HZ.out]
      exact ⟨ret1 rfl, HI.out.1⟩
set_option maxRecDepth 100000 in
set_option maxHeartbeats 4000000 in
theorem size_any (v : PV) (s : SV) (l : Int) (w : World) (h : VnAt w v s) (hn : v.all.length < 65536) :
    Calls Try.prog 23 #[.agg #[.slice (s.a 0) (v 0).length (s.c 0), .slice (s.a 1) (v 1).length (s.c 1), .slice (s.a 2) (v 2).length (s.c 2), .slice (s.a 3) (v 3).length (s.c 3)], .int .i64 l] w fun e w' => e = .returned (.int .i64 (sizeV v l)) ∧ Below w.heap.size w w' := by
  have HV : Hid (VnAt w v s ∧ v.all.length < 65536) := ⟨h, hn⟩
  have HB0 : Hid (Below w.heap.size w (w.alloc (.cells (vA v s) TVn)) ∧ Box (w.alloc (.cells (vA v s) TVn)) w.heap.size TVn (vA v s)) := ⟨(Below.refl _ _).alloc (Nat.le_refl _) _, Box.new _ _ _⟩
  have hlv : Calls Try.prog 37 #[.int .i64 l] (w.alloc (.cells (vA v s) TVn)) fun e w' => e = .returned (.bool (decide (0 ≤ l ∧ l < 4))) ∧ w.alloc (.cells (vA v s) TVn) = w' := isLevel_any l _
  clear h hn
  go_enter Try.func23, Try.ntmps23
  go_wp2_with fail
  refine hlv.mono ?_
  rintro _ w1 ⟨rfl, rfl⟩
  clear hlv
  by_cases hl : 0 ≤ l ∧ l < 4
  · obtain ⟨n, hnl⟩ : ∃ n : Nat, l = (n : Int) := ⟨l.toNat, by omega⟩
    subst hnl
    have hn4 : n < 4 := by omega
    have HZ : Hid (sizeV v (n : Int) = sumF (v n)) := sizeV_yes v hn4
    rw [decide_eq_true hl]
    have hx := idxL_arr w.heap.size n hn4
    have hcell : (w.alloc (.cells (vA v s) TVn)).cell? ⟨w.heap.size, n, none⟩ = some (.slice (s.a n) (v n).length (s.c n)) := HB0.out.2.level hn4
    have hlen : (v n).length < 65536 := Nat.lt_of_le_of_lt (all_le v hn4) HV.out.2
    have HR : Hid (FlAt w (s.a n) (v n).length (s.c n) (v n)) := HV.out.1 n hn4
    generalize hlw : w.alloc (.cells (vA v s) TVn) = W1 at hcell HB0
    have HLW : Hid (w.alloc (.cells #[.slice (s.a 0) (v 0).length (s.c 0), .slice (s.a 1) (v 1).length (s.c 1), .slice (s.a 2) (v 2).length (s.c 2), .slice (s.a 3) (v 3).length (s.c 3)] TVn) = W1) := hlw
    clear hlw HLW
    go_wp2_with fail
    go_loopw [5, 16] (fun s5 s16 wr => ∃ (i : Nat), i ≤ (v n).length ∧ s16 = .int .i64 (i : Int) ∧ s5 = .int .i64 (sumF ((v n).take i)) ∧ Hid (Below w.heap.size w wr)) (fun _ s16 _ => (v n).length - (intOf s16).toNat)
    case atStart => exact ⟨0, Nat.zero_le _, rfl, rfl, HB0.out.1⟩
    case round =>
      obtain ⟨i, hin, rfl, rfl, HI⟩ := hrel
      by_cases hi : i < (v n).length
      · have hiI : (i : Int) < ((v n).length : Int) := by omega
        obtain ⟨b', o, hix, hblt, hcs⟩ := HR.out.at hi
        obtain ⟨d0, d1, d2, d3, d4, d5, d6, d7, d8⟩ := hcs wr HI.out
        have HTK : Hid (sumF ((v n).take (i + 1)) = wrap64 (sumF ((v n).take i) + ((v n)[i]).size)) := by
          unfold Hid
          rw [List.take_succ_eq_append_getElem hi, sumF_snoc]
        clear hcs
        generalize (v n)[i] = f at d0 d1 d2 d3 d4 d5 d6 d7 d8 HTK
        generalize sumF ((v n).take i) = z at HTK ⊢
        have HW1 : Hid (Below w.heap.size w (wr.alloc (.cells (fA f) TF))) := HI.out.alloc HI.out.size _
        go_wp2
        go_roundw
        case rel => exact ⟨i + 1, hi, by go_num, by rw [HTK.out], HW1.out⟩
        case measure => simp only [intOf]; omega
      · have hiI : ¬ (i : Int) < ((v n).length : Int) := by omega
        have H2 : Hid ((v n).take i = v n) := List.take_of_length_le (by omega)
        rw [H2.out]
        generalize sumF (v n) = z at HZ ⊢
        go_wp2
        go_ret
        rw [HZ.out]
        exact ⟨ret1 rfl, HI.out⟩
  · rw [decide_eq_false hl]
    have HZ : Hid (sizeV v l = 0) := sizeV_no v hl
    go_wp2
    go_ret
    rw [HZ.out]
    exact ⟨ret1 rfl, HB0.out.1⟩
end Go.Proofs.Ytcdfgcjecmpjhaa
