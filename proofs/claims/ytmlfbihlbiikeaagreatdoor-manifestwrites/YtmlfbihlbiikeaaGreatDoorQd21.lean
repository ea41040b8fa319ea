/- The contract of manifest's done: steps, one behind the other, till one fails. -/
import Derived.Test.YtmlfbihlbiikeaaGreatDoorQd07
import Derived.Test.YtmlfbihlbiikeaaGreatDoorQd19
import Derived.Test.YtmlfbihlbiikeaaGreatDoorQd02
namespace Go.Proofs.YtmlfbihlbiikeaaGreatDoor
set_option maxRecDepth 100000
open Go.RowKit
set_option linter.unusedVariables false
set_option linter.unusedSimpArgs false
theorem strOf_data (l : List UInt8) : (strOf l).data.toList = l := rfl
theorem Kp.refl (R : Nat → Prop) (w : World) : Kp R w w := ⟨rfl, rfl, rfl, Nat.le_refl _, fun _ _ _ => rfl⟩
theorem Kp.trans {R : Nat → Prop} {a b c : World} (h : Kp R a b) (k : Kp R b c) : Kp R a c := ⟨k.os.trans h.os, k.tape.trans h.tape, k.output.trans h.output, Nat.le_trans h.size k.size, fun i hi hlt => (k.block i hi (Nat.lt_of_lt_of_le hlt h.size)).trans (h.block i hi hlt)⟩
theorem Kp.less {R R' : Nat → Prop} {a b : World} (h : Kp R a b) (hR : ∀ k, R' k → R k) : Kp R' a b := ⟨h.os, h.tape, h.output, h.size, fun i hi hlt => h.block i (hR i hi) hlt⟩
theorem Kp.of {R : Nat → Prop} {a b : World} (h : Below a.heap.size a b) : Kp R a b := ⟨h.os, h.tape, h.output, h.size, fun i _ hlt => h.block i hlt⟩
structure Held (C : Nat → Prop) (W0 : World) (R : Nat → Prop) (w : World) : Prop where
  mine : ∀ k, C k → R k
  old : ∀ k, C k → k < W0.heap.size
  size : W0.heap.size ≤ w.heap.size
  same : ∀ k, C k → w.heap[k]? = W0.heap[k]?
theorem Held.kp {C : Nat → Prop} {W0 : World} {R : Nat → Prop} {w w' : World} (h : Held C W0 R w) (k : Kp R w w') : Held C W0 R w' := ⟨h.mine, h.old, Nat.le_trans h.size k.size, fun i hi => (k.block i (h.mine i hi) (Nat.lt_of_lt_of_le (h.old i hi) h.size)).trans (h.same i hi)⟩
theorem Held.box {C : Nat → Prop} {W0 : World} {R : Nat → Prop} {w : World} {p : Nat} {t : TypeId} {arr : Array Value} (h : Held C W0 R w) (hp : C p) (hb : Box W0 p t arr) : Box w p t arr := hb.kept (h.same p hp)
def Does (J : Face) (i p : Nat) (C : Nat → Prop) (W0 : World) (v : Value) (f : FStep) : Prop :=
  ∃ (K : Nat) (pre cap : Array Value), v = .func (.func K) pre cap ∧ (∀ W, (callFunc K (pre ++ cap)).run Tryz.prog W = .ok (.enter K (pre ++ cap)) W) ∧
    ∀ {w : World} {R : Nat → Prop} {l r : Fss} {S : PFs}, Held C W0 R w → J w R l r → l[i]? = some (p, S) → S.asked < 1000000 →
      Calls Tryz.prog K (pre ++ cap) w fun e w' => e = .returned (.int .i64 ((f S).2 : Nat)) ∧ J w' R (l.set i (p, (f S).1)) r ∧ Kp R w w'
def DoneR (J : Face) (i p : Nat) (R : Nat → Prop) (l r : Fss) (w : World) (o : PFs × Nat) (e : Ending) (w' : World) : Prop :=
  e = .returned (.int .i64 (o.2 : Nat)) ∧ J w' R (l.set i (p, o.1)) r ∧ Kp R w w'
theorem idxSt (b : Nat) {j n c : Nat} (hj : j < n) (W : World) : (Instr.indexAt 122 (.slice (some ⟨b, 0, none⟩) n c) (.int .i64 (j : Int))).run Tryz.prog W = .ok (.pointer (some ⟨b, j, none⟩)) W := by
  have h1 : (0 : Int) ≤ (j : Int) ∧ (j : Int) < (n : Int) := by omega
  have hsz : (sizeOf (Tryz.prog.elem 122)).run Tryz.prog W = .ok 1 W := by kernel_rfl
  rw [run_indexAt_slice (P := Tryz.prog) (h := (by kernel_rfl : Tryz.prog.underlying 122 = some (.slice (Tryz.prog.elem 122)))), if_pos (by exact h1), hsz]
  simp [Result.andThen, Addr.add_lit]
theorem set_set_at {l : Fss} {i : Nat} (x y : Nat × PFs) : (l.set i x).set i y = l.set i y := by simp
theorem get_set_at {l : Fss} {i : Nat} {x z : Nat × PFs} (h : l[i]? = some z) : (l.set i x)[i]? = some x := by
  have := (List.getElem?_eq_some_iff.1 h).1
  simp [this]
theorem set_self_at {l : Fss} {i : Nat} {z : Nat × PFs} (h : l[i]? = some z) : l.set i z = l := by
  obtain ⟨h1, h2⟩ := List.getElem?_eq_some_iff.1 h
  subst h2
  simp
theorem runF_drop {fs : List FStep} {j : Nat} (hj : j < fs.length) (S : PFs) : runF (fs.drop j) S = if (fs[j] S).2 = 0 then runF (fs.drop (j + 1)) (fs[j] S).1 else fs[j] S := by
  rw [List.drop_eq_getElem_cons hj]
  rfl
set_option maxHeartbeats 2000000 in
theorem done_any {J : Face} (i p : Nat) (C : Nat → Prop) (W0 : World) (fs : List FStep) (vs : List Value) (b n c : Nat) (hn : fs.length = n) (hn1 : n ≤ 100) (hCb : C b) (hcell : ∀ j, j < n → W0.cell? ⟨b, j, none⟩ = vs[j]?)
    (hd : ∀ j (h : j < n) (h' : j < fs.length), ∃ v, vs[j]? = some v ∧ Does J i p C W0 v fs[j]) (ha : ∀ f ∈ fs, ∀ S, (f S).1.asked ≤ S.asked + 1)
    {w : World} {R : Nat → Prop} {l r : Fss} {S : PFs} (hH : Held C W0 R w) (hJ : J w R l r) (hl : l[i]? = some (p, S)) (hS : S.asked < 900000) :
    Calls Tryz.prog 57 #[.slice (some ⟨b, 0, none⟩) n c] w (DoneR J i p R l r w (runF fs S)) := by
  have HD : Hid (∀ j (h : j < n) (h' : j < fs.length), ∃ v, vs[j]? = some v ∧ Does J i p C W0 v fs[j]) := hd
  have HA : Hid (∀ f ∈ fs, ∀ S, (f S).1.asked ≤ S.asked + 1) := ha
  have HC : Hid (C b ∧ (∀ j, j < n → W0.cell? ⟨b, j, none⟩ = vs[j]?) ∧ fs.length = n ∧ l[i]? = some (p, S)) := ⟨hCb, hcell, hn, hl⟩
  have HW : Hid (Held C W0 R w ∧ J w R l r) := ⟨hH, hJ⟩
  clear hd ha hcell hCb hH hJ hl hn
  go_enter Tryz.func57, Tryz.ntmps57
  go_wp2_with fail
  go_step3
  go_wp2_with fail
  go_step3
  go_wp2_with fail
  go_loopw [2, 7] (fun x2 x7 wr => ∃ (j : Nat) (T : PFs), j ≤ n ∧ x7 = .int .i64 (j : Int) ∧ x2 = .int .i64 0 ∧ Hid (Held C W0 R wr ∧ J wr R (l.set i (p, T)) r ∧ Kp R w wr ∧ runF fs S = runF (fs.drop j) T ∧ T.asked ≤ S.asked + j)) (fun _ x7 _ => n - (intOf x7).toNat)
  case atStart => exact ⟨0, S, Nat.zero_le _, rfl, rfl, HW.out.1, by rw [set_self_at HC.out.2.2.2]; exact HW.out.2, Kp.refl _ _, rfl, Nat.le_refl _⟩
  case round =>
    obtain ⟨j, T, hj, rfl, rfl, HI⟩ := hrel
    by_cases hjn : j < n
    · have hjf : j < fs.length := by rw [HC.out.2.2.1]; exact hjn
      obtain ⟨v, hv, K, pre, cap, rfl, hcf, hdo⟩ := HD.out j hjn hjf
      have hix := fun W => idxSt b (c := c) hjn W
      have c0 : wr.cell? ⟨b, j, none⟩ = some (.func (.func K) pre cap) := by
        rw [← hv, ← HC.out.2.1 j hjn]
        simp only [World.cell?]
        rw [HI.out.1.same b HC.out.1]
      have HST := runF_drop hjf T
      have hTa : T.asked < 1000000 := by have := HI.out.2.2.2.2; omega
      have HDO := hdo HI.out.1 HI.out.2.1 (get_set_at HC.out.2.2.2) hTa
      have HAS := HA.out _ (List.getElem_mem hjf) T
      generalize fs[j] T = o at HST HDO HAS
      have HX : Hid (runF (fs.drop j) T = if o.2 = 0 then runF (fs.drop (j + 1)) o.1 else o) := HST
      have HAS' : Hid (o.1.asked ≤ T.asked + 1) := HAS
      clear hv hdo HST HAS
      go_wp2_with fail
      refine HDO.mono ?_
      rintro _ w2 ⟨rfl, hJ2, hk2⟩
      obtain ⟨T1, er⟩ := o
      have H2 : Hid (Held C W0 R w2 ∧ J w2 R (l.set i (p, T1)) r ∧ Kp R w w2) := ⟨HI.out.1.kp hk2, by rw [set_set_at] at hJ2; exact hJ2, HI.out.2.2.1.trans hk2⟩
      clear hJ2 hk2 HDO c0 hix hcf
      dsimp only
      by_cases h0 : er = 0
      · subst h0
        have HN : Hid (runF fs S = runF (fs.drop (j + 1)) T1) := by
          unfold Hid
          rw [HI.out.2.2.2.1, HX.out]
          rfl
        go_wp2
        go_roundw
        case rel => exact ⟨j + 1, T1, hjn, by go_num, rfl, H2.out.1, H2.out.2.1, H2.out.2.2, HN.out, by have h1 := HAS'.out; have h2 := HI.out.2.2.2.2; dsimp only at h1; omega⟩
        case measure => simp only [intOf]; omega
      · have hb : ((er : Int) != 0) = true := by simp; omega
        have HN : Hid (runF fs S = (T1, er)) := by
          unfold Hid
          rw [HI.out.2.2.2.1, HX.out, if_neg h0]
        go_wp2_with fail
        try rw [Exit.noGoto_ret]
        go_ret
        rw [HN.out]
        exact ⟨rfl, H2.out.2.1, H2.out.2.2⟩
    · obtain rfl : j = n := by omega
      have HN : Hid (runF fs S = (T, 0)) := by
        unfold Hid
        rw [HI.out.2.2.2.1, List.drop_eq_nil_of_le (by rw [HC.out.2.2.1]; exact Nat.le_refl _)]
        rfl
      go_wp2_with fail
      try rw [Exit.noGoto_ret]
      go_ret
      rw [HN.out]
      exact ⟨rfl, HI.out.2.1, HI.out.2.2.1⟩
end Go.Proofs.YtmlfbihlbiikeaaGreatDoor
namespace Go.Proofs.YtmlfbihlbiikeaaGreatDoor
open Go.Shelf Go.RowKit Go.Lib
set_option linter.unusedVariables false
set_option linter.unusedSimpArgs false
theorem pum_dec : ∀ (l : List UInt8) (acc : Nat), (∀ b ∈ l, isD b = true) → l.foldl (fun n b => n * 10 + (b.toNat - 48)) acc ≤ 1099511627776 → Lib.parseUintM (2 ^ 64 - 1) acc l = .ok (l.foldl (fun n b => n * 10 + (b.toNat - 48)) acc)
  | [], acc, _, _ => rfl
  | c :: r, acc, h, hm => by
    have hc := h c (by simp)
    unfold isD at hc
    simp only [Bool.and_eq_true, decide_eq_true_eq] at hc
    have hge : ∀ (r : List UInt8) (a : Nat), a ≤ r.foldl (fun n b => n * 10 + (b.toNat - 48)) a := fun r => by
      induction r with
      | nil => exact fun a => Nat.le_refl _
      | cons x r ih => exact fun a => Nat.le_trans (by omega) (ih (a * 10 + (x.toNat - 48)))
    have h1 := hge r (acc * 10 + (c.toNat - 48))
    rw [List.foldl_cons] at hm ⊢
    unfold Lib.parseUintM
    rw [if_pos hc, if_neg (by omega), if_neg (by omega)]
    exact pum_dec r _ (fun b hb => h b (by simp [hb])) hm
theorem numB_ne (n : Nat) : numB n ≠ [] := fun e => by
  have := congrArg List.length e
  unfold numB pad6 at this
  rw [List.length_append, List.length_replicate, List.length_nil] at this
  omega
theorem pub_num {n : Nat} (h : n ≤ 1099511627776) : Lib.parseUintB 64 (numB n) = .ok n := by
  unfold Lib.parseUintB
  rw [if_neg (numB_ne n)]
  have hv := valN_numB n
  unfold valN at hv
  have := pum_dec (numB n) 0 (numB_all n) (by rw [hv]; exact h)
  rw [hv] at this
  exact this
def coreN (k : Int) (s : List UInt8) : List UInt8 := Lib.trimSuffix (Lib.trimPrefix s (fmA k)) (fmB k)
theorem trimP_app (a l : List UInt8) : Lib.trimPrefix (a ++ l) a = l := by
  unfold Lib.trimPrefix Lib.hasPrefix
  rw [if_pos (List.isPrefixOf_iff_prefix.2 (List.prefix_append a l)), List.drop_left' rfl]
theorem trimS_app (l b : List UInt8) : Lib.trimSuffix (l ++ b) b = l := by
  unfold Lib.trimSuffix Lib.hasSuffix
  rw [if_pos (List.isSuffixOf_iff_suffix.2 (List.suffix_append l b)), List.length_append, Nat.add_sub_cancel, List.take_left' rfl]
theorem core_name {k : Int} (hk : numK k) {m : Nat} (h1 : 1 ≤ m) (h2 : m ≤ 1099511627776) : coreN k (nameP k m) = numB m := by
  rcases hk with rfl | rfl | rfl
  · rw [nameP_log h1 h2]
    show Lib.trimSuffix (Lib.trimPrefix ([] ++ (numB m ++ logB)) []) logB = _
    rw [trimP_app, trimS_app]
  · rw [nameP_tab h1 h2]
    show Lib.trimSuffix (Lib.trimPrefix ([] ++ (numB m ++ tabB)) []) tabB = _
    rw [trimP_app, trimS_app]
  · rw [nameP_man h1 h2]
    show Lib.trimSuffix (Lib.trimPrefix (manB ++ numB m) manB) [] = _
    rw [trimP_app]
    have := trimS_app (numB m) []
    rw [List.append_nil] at this
    exact this
theorem trimP_le (s a : List UInt8) : (Lib.trimPrefix s a).length ≤ s.length := by
  unfold Lib.trimPrefix
  split
  · rw [List.length_drop]; omega
  · exact Nat.le_refl _
theorem trimS_le (s a : List UInt8) : (Lib.trimSuffix s a).length ≤ s.length := by
  unfold Lib.trimSuffix
  split
  · rw [List.length_take]; omega
  · exact Nat.le_refl _
theorem pum_le (M : Nat) : ∀ (l : List UInt8) (acc u : Nat), acc ≤ M → Lib.parseUintM M acc l = .ok u → u ≤ M
  | [], acc, u, h, e => by
    simp only [Lib.parseUintM, Lib.NumEnd.ok.injEq] at e
    omega
  | c :: r, acc, u, h, e => by
    unfold Lib.parseUintM at e
    split at e
    · split at e
      · cases e
      · split at e
        · cases e
        · exact pum_le M r _ u (by omega) e
    · cases e
theorem pub_le {l : List UInt8} {u : Nat} (h : Lib.parseUintB 64 l = .ok u) : u < 18446744073709551616 := by
  unfold Lib.parseUintB at h
  split at h
  · cases h
  · have := pum_le (2 ^ 64 - 1) l 0 u (by omega) h
    omega
theorem pu_any (l : List UInt8) (hs : l.length ≤ 281474976710656) (w : World) (hg : Gl w) :
    Calls Tryz.prog 78 #[.string (strOf l), .int .i64 10, .int .i64 64] w fun e w' => ∃ (u : Nat) (v : Value), e = .returned (.tuple #[.int .u64 (u : Int), v]) ∧ u < 18446744073709551616 ∧ (∀ m : Nat, Lib.parseUintB 64 l = .ok m → u = m) ∧ Below w.heap.size w w' := by
  have hsz : (strOf l).size ≤ 281474976710656 := by rw [strOf_size]; exact hs
  have hl : (strOf l).data.toList = l := by simp [strOf]
  obtain ⟨t1, p1, h1⟩ := hg.syn
  obtain ⟨t2, p2, h2⟩ := hg.rng
  cases h : Lib.parseUintB 64 l with
  | ok u =>
    have hu : u < 18446744073709551616 := pub_le h
    refine (Any.strconv_ParseUint_10_at64_ok puL (strOf l) (by omega) u (by rw [hl]; exact h) w).mono ?_
    rintro e w' ⟨rfl, hw⟩
    refine ⟨u, _, rfl, hu, fun m hm => by cases hm; rfl, ?_⟩
    rcases hw with rfl | rfl
    · exact Below.refl _ _
    · exact Lib.bytesWorld_below _ _ _
  | «syntax» =>
    refine (Any.strconv_ParseUint_10_at64_syntax_var puL (strOf l) hsz (by rw [hl]; exact h) t1 p1 w h1).mono ?_
    rintro e w' ⟨N, rfl, _, _, hb⟩
    exact ⟨0, _, rfl, by decide, fun m hm => (by cases hm), hb⟩
  | range =>
    refine (Any.strconv_ParseUint_10_at64_range_var puL (strOf l) hsz (by rw [hl]; exact h) t2 p2 w h2).mono ?_
    rintro e w' ⟨N, rfl, _, _, hb⟩
    exact ⟨18446744073709551615, _, rfl, by decide, fun m hm => (by cases hm), hb⟩
set_option maxRecDepth 100000 in
set_option maxHeartbeats 1000000 in
theorem number_any (k : Int) (s : List UInt8) (hs : s.length ≤ 281474976710656) (w : World) (hg : Gl w) :
    Calls Tryz.prog 35 #[fmV k, .string (strOf s)] w fun e w' => ∃ n : Nat, e = .returned (.int .u64 (n : Int)) ∧ n < 18446744073709551616 ∧ (fmN k = false → n = 0) ∧ (∀ m, numK k → 1 ≤ m → m ≤ 1099511627776 → s = nameP k m → n = m) ∧ Below w.heap.size w w' := by
  have hl : ∀ l, (strOf l).data.toList = l := fun l => by simp [strOf]
  have HB : Hid (Below w.heap.size w (w.alloc (.cells #[.string (strOf (fmA k)), .string (strOf (fmB k)), .bool (fmN k)] TFm)) ∧ Gl w) := ⟨(Below.refl _ _).alloc (Nat.le_refl _) _, hg⟩
  unfold fmV
  cases hN : fmN k with
  | false =>
    have hnk : ¬ numK k := fun h => by
      unfold fmN at hN
      have := of_decide_eq_false hN
      exact this h
    rw [hN] at HB
    go_enter Tryz.func35, Tryz.ntmps35
    go_wp2
    go_ret
    exact ⟨0, rfl, by decide, fun _ => rfl, fun m h => absurd h hnk, HB.out.1⟩
  | true =>
    have HP : Hid (∀ m, numK k → 1 ≤ m → m ≤ 1099511627776 → s = nameP k m → Lib.parseUintB 64 (coreN k s) = .ok m) := fun m a b c e => by
      rw [e, core_name a b c, pub_num c]
    have h1 : ∀ W : World, Calls Tryz.prog 80 #[.string (strOf s), .string (strOf (fmA k))] W fun e w' => e = .returned (.string (strOf (Lib.trimPrefix s (fmA k)))) ∧ w' = W := fun W => by
      have := Any.strings_TrimPrefix tpL (strOf s) (strOf (fmA k)) W
      rw [hl, hl] at this
      exact this
    have l1 := trimP_le s (fmA k)
    have h2 : ∀ W : World, Calls Tryz.prog 79 #[.string (strOf (Lib.trimPrefix s (fmA k))), .string (strOf (fmB k))] W fun e w' => e = .returned (.string (strOf (coreN k s))) ∧ w' = W := fun W => by
      have := Any.strings_TrimSuffix tsL (strOf (Lib.trimPrefix s (fmA k))) (strOf (fmB k)) W (by rw [strOf_size]; omega)
      rw [hl, hl] at this
      exact this
    have l2 : (coreN k s).length ≤ 281474976710656 := Nat.le_trans (Nat.le_trans (trimS_le _ _) l1) hs
    have h3 := fun (W : World) (h : Gl W) => pu_any (coreN k s) l2 W h
    rw [hN] at HB
    generalize coreN k s = C at *
    generalize strOf (Lib.trimPrefix s (fmA k)) = P1 at *
    generalize strOf s = S at *
    generalize strOf (fmA k) = A at *
    generalize strOf (fmB k) = Bq at *
    generalize strOf C = CC at *
    clear hg hl l1 l2 hs
    go_enter Tryz.func35, Tryz.ntmps35
    go_wp2_with fail
    have HX : Hid (Box (w.alloc (.cells #[.string A, .string Bq, .bool true] TFm)) w.heap.size TFm #[.string A, .string Bq, .bool true]) := Box.new _ _ _
    generalize (w.alloc (.cells #[.string A, .string Bq, .bool true] TFm)) = W0 at HB HX ⊢
    have c0 : W0.drew.cell? ⟨w.heap.size, 0, none⟩ = some (.string A) := HX.out.cell 0
    have c1 : W0.drew.cell? ⟨w.heap.size, 1, none⟩ = some (.string Bq) := HX.out.cell 1
    have HG2 : Hid (Gl W0.drew) := HB.out.2.later (show Below w.heap.size w W0.drew from HB.out.1.drew)
    have h3' := h3 W0.drew HG2.out
    clear h3
    go_region_held3 (fun V => V.cell? ⟨w.heap.size, 0, none⟩ = some (.string A) ∧ V.cell? ⟨w.heap.size, 1, none⟩ = some (.string Bq)) (first | exact ⟨c0, c1⟩ | go_keep)
      (first | (go_at_call 80; refine (h1 _).mono ?_; rintro _ v1 ⟨rfl, rfl⟩) | (go_at_call 79; refine (h2 _).mono ?_; rintro _ v1 ⟨rfl, rfl⟩) | (go_at_call 78; refine h3'.mono ?_; rintro _ v1 ⟨u, vv, rfl, hu, hum, hb3⟩; have c0 : v1.cell? ⟨w.heap.size, 0, none⟩ = some (.string A) := ((HX.out.kept (w' := v1) (hb3.block _ HX.out.lt)).cell 0); have c1 : v1.cell? ⟨w.heap.size, 1, none⟩ = some (.string Bq) := ((HX.out.kept (w' := v1) (hb3.block _ HX.out.lt)).cell 1)))
    clear c0 c1
    have H3 : Hid (Below w.heap.size w v1) := (show Below w.heap.size w W0.drew from HB.out.1.drew).trans (hb3.mono (show w.heap.size ≤ W0.drew.heap.size from HB.out.1.size))
    go_wp2
    go_ret
    exact ⟨u, rfl, hu, fun h => (by cases h), fun m a b c e => hum m (HP.out m a b c e), H3.out⟩
end Go.Proofs.YtmlfbihlbiikeaaGreatDoor
namespace Go.Proofs.YtmlfbihlbiikeaaGreatDoor
open Go.Shelf Go.RowKit Go.Lib
set_option linter.unusedVariables false
set_option linter.unusedSimpArgs false
theorem rng_same {H : Type} {w w' : World} {P : Program} {k : TypeId} {R : Value → Option (DataW H × List MemPlace)} {b r n : Nat} {D : DataW H} {left : Lit → Bool} {cnt : Nat} (h : w.ranges P k R b r n D left cnt) (h1 : w'.heap[b]? = w.heap[b]?) (h2 : w'.heap[r]? = w.heap[r]?) : w'.ranges P k R b r n D left cnt := by
  obtain ⟨es, clock, since, seen, c0, a1, a2, a3, a4, a5, rest⟩ := h
  exact ⟨es, clock, since, seen, c0, h1.trans a1, a2, a3, a4, h2.trans a5, rest⟩
theorem rng_lt {H : Type} {w : World} {P : Program} {k : TypeId} {R : Value → Option (DataW H × List MemPlace)} {b r n : Nat} {D : DataW H} {left : Lit → Bool} {cnt : Nat} (h : w.ranges P k R b r n D left cnt) : b < w.heap.size ∧ r < w.heap.size := by
  obtain ⟨es, clock, since, seen, c0, a1, a2, a3, a4, a5, rest⟩ := h
  exact ⟨(Array.getElem?_eq_some_iff.1 a1).1, (Array.getElem?_eq_some_iff.1 a5).1⟩
theorem formD_has (q : Int) : Maps.has formD (litI q) = decide (1 ≤ q ∧ q ≤ 5) := by
  by_cases h1 : q = 1
  · subst h1; rfl
  by_cases h2 : q = 2
  · subst h2; rfl
  by_cases h3 : q = 3
  · subst h3; rfl
  by_cases h4 : q = 4
  · subst h4; rfl
  by_cases h5 : q = 5
  · subst h5; rfl
  rw [decide_eq_false (by omega)]
  unfold formD
  rw [Maps.has_eq]
  simp [Lit.sameKey, show ¬ (1 : Int) = q by omega, show ¬ (2 : Int) = q by omega, show ¬ (3 : Int) = q by omega, show ¬ (4 : Int) = q by omega, show ¬ (5 : Int) = q by omega]
theorem wpList_range_f {w : World} {ops : Array Oper} {rest : List Oper} {o : Oper} {a : Act} {Q : Exit → Act → World → Prop} (hg : o.guard = none) (x : Operand) (hop : o.op = Op.range TMf x) (b : Nat) (hm : a.eval x = .map (some b)) (hn : MpF w b)
    (hK : ∀ w', w'.ranges Tryz.prog TIm formE b w.heap.size 5 formD (Maps.has formD) 5 → Below w.heap.size w w' → w'.heap.size = w.heap.size + 1 → wpList Tryz.prog ops Q rest (a.put o.dst (.pointer (some ⟨w.heap.size, 0, none⟩))) w') :
    wpList Tryz.prog ops Q (o :: rest) a w := by
  refine wpList_range_own w hg x _ hop TIm TFm lawI Tryz.underlying76 formE b 5 formD hm hn ?_
  intro w' h1 h2 h3
  exact hK w' h1 ((Below.refl _ _).grown h2 (Nat.le_refl _) (fun k e => by cases e)) h3
theorem wpList_next_f {w : World} {ops : Array Oper} {rest : List Oper} {o : Oper} {a : Act} {Q : Exit → Act → World → Prop} (hg : o.guard = none) (it : Operand) (hop : o.op = Op.next it false) (b r : Nat) (left : Lit → Bool) (cnt : Nat)
    (hit : a.eval it = .pointer (some ⟨r, 0, none⟩)) (h : w.ranges Tryz.prog TIm formE b r 5 formD left cnt) (hl : ∀ q, left (litI q) = true → 1 ≤ q ∧ q ≤ 5)
    (hDone : (∀ kl, left kl = false) → wpList Tryz.prog ops Q rest (a.put o.dst (.tuple #[.bool false])) w)
    (hMore : ∀ (q : Int) (w' : World) (cnt' : Nat), 1 ≤ q ∧ q ≤ 5 → left (litI q) = true → w'.ranges Tryz.prog TIm formE b r 5 formD (fun z => left z && !z.sameKey (litI q)) cnt' → cnt' < cnt → w.grownBy w' (some r) → w'.heap.size = w.heap.size →
      (Instr.entry (.pointer (some ⟨r, 0, none⟩))).run Tryz.prog w' = .ok (.tuple #[.int .i64 q, fmV q]) w' → wpList Tryz.prog ops Q rest (a.put o.dst (.tuple #[.bool true, .int .i64 q, fmV q])) w') :
    wpList Tryz.prog ops Q (o :: rest) a w := by
  refine wpList_next_ranges w hg it hop TIm lawI formE (Value.int .i64) (fun c : ByteArray × ByteArray × Bool => .agg #[.string c.1, .string c.2.1, .bool c.2.2]) (fun key kl hk => by obtain ⟨x, hx, _⟩ := Maps.keyOf_int_inv Tryz.underlying3 hk; exact ⟨x, hx⟩)
    (fun v y hv => by obtain ⟨x, y, z, e, _⟩ := formE_inv hv; exact ⟨(x, y, z), e⟩) b r 5 formD left cnt hit h (fun _ h => hDone h) ?_
  intro x c kl y w' cnt' hkey hlk hv hat hrg hlt hgr hsz hen
  obtain ⟨x', ex, rfl, _⟩ := Maps.keyOf_int_inv Tryz.underlying3 hkey
  cases ex
  have h15 := hl x hlk
  have h2 := hat .nil
  have h3 := formD_at x .nil
  rw [if_pos h15] at h3
  obtain ⟨a1, a2, a3, e1, e2⟩ := formE_inv hv
  rw [e2] at h2
  have e3 : (.agg [.lit (.string a1.data.toList), .lit (.string a2.data.toList), .lit (.bool a3)] : DataW Unit) = fmD x := by rw [← h3]; exact h2.symm
  have e4 := fmD_inj e3
  rw [← e1] at e4
  have e4' : (.agg #[.string c.1, .string c.2.1, .bool c.2.2] : Value) = fmV x := e4
  simp only [e4'] at hen ⊢
  exact hMore x w' cnt' h15 hlk hrg hlt hgr hsz hen
def MissK (s : List UInt8) (q : Int) : Prop := (numK q → ∀ m, 1 ≤ m → m ≤ 1099511627776 → s ≠ nameP q m) ∧ (q = 4 → s ≠ curB) ∧ (q = 5 → s ≠ tmpB)
theorem miss_nil (q : Int) : MissK [] q := ⟨fun h m a b e => (name_ne h a b).1 e.symm, fun _ e => absurd e (by decide), fun _ e => absurd e (by decide)⟩
theorem miss_of {s : List UInt8} {q : Int} {n : Nat} (h : s ≠ nameP q n) (hm : ∀ m, numK q → 1 ≤ m → m ≤ 1099511627776 → s = nameP q m → n = m) : MissK s q := by
  refine ⟨fun hk m a b e => h ?_, fun e1 e2 => h ?_, fun e1 e2 => h ?_⟩
  · rw [hm m hk a b e]
    exact e
  · subst e1
    exact e2
  · subst e1
    exact e2
theorem names_hit {s : List UInt8} {q : Int} {n : Nat} (h0 : s ≠ []) (h : s = nameP q n) (hq : 1 ≤ q ∧ q ≤ 5) (hn : fmN q = false → n = 0) : Names s q n := by
  by_cases h4 : q = 4
  · subst h4
    have hs : s = curB := h
    have hn0 := hn rfl
    subst hs hn0
    exact ⟨fun _ => ⟨rfl, rfl⟩, fun e => absurd e (by decide), fun j m a b c e => absurd e.symm (name_ne a b c).2.1, fun e => absurd rfl e⟩
  by_cases h5 : q = 5
  · subst h5
    have hs : s = tmpB := h
    have hn0 := hn rfl
    subst hs hn0
    exact ⟨fun e => absurd e (by decide), fun _ => ⟨rfl, rfl⟩, fun j m a b c e => absurd e.symm (name_ne a b c).2.2, fun _ e => absurd rfl e⟩
  have hk : numK q := by
    unfold numK
    omega
  by_cases hm : n < 1 ∨ 1099511627776 < n
  · rw [nameP_out ⟨h4, h5⟩ hm] at h
    exact absurd h h0
  · have h1 : 1 ≤ n ∧ n ≤ 1099511627776 := by omega
    obtain ⟨_, hc, ht⟩ := name_ne hk h1.1 h1.2
    refine ⟨fun e => absurd (h.symm.trans e) hc, fun e => absurd (h.symm.trans e) ht, fun j m a b c e => ?_, fun _ _ e => absurd h (e q n hk h1.1 h1.2)⟩
    exact name_kind hk a h1.1 h1.2 b c (h.symm.trans e)
theorem names_miss {s : List UInt8} (h : ∀ q, 1 ≤ q ∧ q ≤ 5 → MissK s q) : Names s 0 0 := by
  refine ⟨fun e => absurd e ((h 4 (by omega)).2.1 rfl), fun e => absurd e ((h 5 (by omega)).2.2 rfl), fun j m a b c e => ?_, fun _ _ _ => ⟨rfl, rfl⟩⟩
  exact absurd e ((h j (by unfold numK at a; omega)).1 a m b c)
theorem names_parse {s : List UInt8} {q : Int} {n : Nat} (h : Names s q n) : q = (parseR s).1 ∧ n = (parseR s).2 := h.same (parseR_names s)
set_option maxRecDepth 100000 in
set_option maxHeartbeats 2000000 in
theorem parse_any (s : List UInt8) (hs : s.length ≤ 281474976710656) (w : World) (hg : Gl w) :
    Calls Tryz.prog 11 #[.string (strOf s)] w fun e w' => e = .returned (.tuple #[.int .i64 (parseR s).1, .int .u64 (((parseR s).2 : Nat) : Int)]) ∧ Below w.heap.size w w' := by
  have HG : Hid (Gl w) := hg
  have HNU := fun (k : Int) (W : World) (h : Gl W) => number_any k s hs W h
  have HNA := fun (k : Int) (hk : WfI k) (n : Nat) (hn : n < 18446744073709551616) (W : World) (h : Gl W) => name_any k hk n hn W h
  have HS : Hid ((strOf s).toList = s) := by
    show (strOf s).toList = s
    rw [ByteArray.toList_eq]
    simp [strOf]
  generalize strOf s = S at *
  clear hg
  go_enter Tryz.func11, Tryz.ntmps11
  go_wp2_with fail
  refine (forms_any _).mono ?_
  rintro _ w2 ⟨b, rfl, hF, hbb, hb2⟩
  have HB2 : Hid (w.heap.size ≤ b ∧ Below w.heap.size w w2) := ⟨hbb, hb2⟩
  clear hbb hb2
  go_wp2_with (first
    | (at_range; refine wpList_range_f rfl _ rfl b rfl hF ?_; intro w3 hrg3 hb3 hs3)
    | fail)
  go_frame
  obtain ⟨r, hr⟩ : ∃ r, r = w2.heap.size := ⟨_, rfl⟩
  rw [← hr] at hrg3
  have H3 : Hid (w3.ranges Tryz.prog TIm formE b r 5 formD (Maps.has formD) 5 ∧ Below w.heap.size w w3 ∧ w.heap.size ≤ r) := ⟨hrg3, HB2.out.2.trans (hb3.mono HB2.out.2.size), by rw [hr]; exact HB2.out.2.size⟩
  rw [← hr]
  clear hrg3 hb3 hs3 hF hr
  go_loopw [4] (fun _ wr => ∃ (left : Lit → Bool) (cnt : Nat), Hid (wr.ranges Tryz.prog TIm formE b r 5 formD left cnt ∧ Below w.heap.size w wr ∧ (∀ q, left (litI q) = true → 1 ≤ q ∧ q ≤ 5) ∧ ∀ q, 1 ≤ q ∧ q ≤ 5 → left (litI q) = false → MissK s q)) (fun _ wr => wr.rangeLeft b r)
  case atStart =>
    refine ⟨_, _, H3.out.1, H3.out.2.1, fun q h => ?_, fun q h1 h2 => ?_⟩
    · rw [formD_has] at h
      exact of_decide_eq_true h
    · rw [formD_has] at h2
      exact absurd h1 (of_decide_eq_false h2)
  case round =>
    obtain ⟨left, cnt, HR⟩ := hrel
    go_wp2_with (first
      | (at_next; refine wpList_next_f rfl _ rfl b r left cnt rfl HR.out.1 HR.out.2.2.1 ?_ ?_)
      | fail)
    · intro hl0
      go_wp2
      go_ret2
      obtain ⟨e1, e2⟩ := names_parse (names_miss (fun q hq => HR.out.2.2.2 q hq (hl0 _)))
      rw [← e1, ← e2]
      exact ⟨rfl, HR.out.2.1⟩
    · intro q w4 cnt4 hq1 hq2 hlq hrg4 hlt hg4 hsz4 hen
      have HQ : Hid ((1 ≤ q ∧ q ≤ 5) ∧ left (litI q) = true ∧ cnt4 < cnt) := ⟨⟨hq1, hq2⟩, hlq, hlt⟩
      have H4 : Hid (w4.ranges Tryz.prog TIm formE b r 5 formD (fun z => left z && !z.sameKey (litI q)) cnt4 ∧ Below w.heap.size w w4) := ⟨hrg4, HR.out.2.1.grown hg4 (HR.out.2.1.size) (fun k e => by cases e; exact H3.out.2.2)⟩
      have H5 : Hid (Below w.heap.size w (w4.alloc (.cells #[.string (strOf (fmA q)), .string (strOf (fmB q)), .bool (fmN q)] TFm))) := H4.out.2.alloc (H4.out.2.size) _
      have hen' := hen
      unfold fmV at hen'
      clear hq1 hq2 hlq hrg4 hlt hg4 hsz4 hen
      have HNU' := HNU q (w4.alloc (.cells #[.string (strOf (fmA q)), .string (strOf (fmB q)), .bool (fmN q)] TFm)) (HG.out.later H5.out)
      unfold fmV at HNU' ⊢
      go_wp2_with fail
      refine HNU'.mono ?_
      rintro _ w5 ⟨n, rfl, hn, hn0, hnm, hb5⟩
      have H6 : Hid (w5.ranges Tryz.prog TIm formE b r 5 formD (fun z => left z && !z.sameKey (litI q)) cnt4 ∧ Below w.heap.size w w5) := by
        have hlt := rng_lt H4.out.1
        have e : ∀ k, k < w4.heap.size → w5.heap[k]? = w4.heap[k]? := fun k hk => (hb5.block k (by simp; omega)).trans (Below.heap_alloc _ _ k hk)
        exact ⟨rng_same H4.out.1 (e _ hlt.1) (e _ hlt.2), H5.out.trans (hb5.mono H5.out.size)⟩
      have HN : Hid (n < 18446744073709551616 ∧ (fmN q = false → n = 0) ∧ ∀ m, numK q → 1 ≤ m → m ≤ 1099511627776 → s = nameP q m → n = m) := ⟨hn, hn0, hnm⟩
      have HWI : Hid (WfI q) := by
        have := HQ.out.1
        unfold Hid WfI
        omega
      have HREL : Hid (MissK s q → ∀ W, W.ranges Tryz.prog TIm formE b r 5 formD (fun z => left z && !z.sameKey (litI q)) cnt4 → Below w.heap.size w W → ∃ (left : Lit → Bool) (cnt : Nat), Hid (W.ranges Tryz.prog TIm formE b r 5 formD left cnt ∧ Below w.heap.size w W ∧ (∀ q, left (litI q) = true → 1 ≤ q ∧ q ≤ 5) ∧ ∀ q, 1 ≤ q ∧ q ≤ 5 → left (litI q) = false → MissK s q)) := fun hm W h1 h2 => by
        refine ⟨_, _, h1, h2, fun p hp => ?_, fun p hp hf => ?_⟩
        · simp only [Bool.and_eq_true] at hp
          exact HR.out.2.2.1 p hp.1
        · by_cases e : q = p
          · subst e
            exact hm
          · refine HR.out.2.2.2 p hp ?_
            have : (Lit.sameKey (litI p) (litI q)) = false := by
              simp [Lit.sameKey]
              omega
            simp only [this, Bool.not_false, Bool.and_true] at hf
            exact hf
      clear hn hn0 hnm hb5 hen' HNU'
      by_cases h0 : s = []
      · have hs0 : (S.toList == []) = true := by rw [HS.out, h0]; rfl
        have HS0 : Hid (s = []) := h0
        clear h0
        go_wp2
        go_roundw
        case rel => exact HREL.out (by rw [HS0.out]; exact miss_nil q) w5 H6.out.1 H6.out.2
        case measure =>
          rw [H6.out.1.left_eq, HR.out.1.left_eq]
          exact HQ.out.2.2
      · have hs0 : (S.toList == []) = false := by
          rw [HS.out]
          cases s with
          | nil => exact absurd rfl h0
          | cons x t => rfl
        have HS0 : Hid (s ≠ []) := h0
        clear h0
        have HNA' := HNA q HWI.out n HN.out.1 w5 (HG.out.later H6.out.2)
        go_wp2_with fail
        refine HNA'.mono ?_
        rintro _ w6 ⟨rfl, hb6⟩
        have H7 : Hid (w6.ranges Tryz.prog TIm formE b r 5 formD (fun z => left z && !z.sameKey (litI q)) cnt4 ∧ Below w.heap.size w w6) := by
          have hlt := rng_lt H6.out.1
          exact ⟨rng_same H6.out.1 (hb6.block _ hlt.1) (hb6.block _ hlt.2), H6.out.2.trans (hb6.mono H6.out.2.size)⟩
        have HX : Hid ((strOf (nameP q n)).toList = nameP q n) := by
          show (strOf (nameP q n)).toList = _
          rw [ByteArray.toList_eq]
          simp [strOf]
        clear hb6 HNA'
        by_cases he : s = nameP q n
        · have hb : (S.toList == (strOf (nameP q n)).toList) = true := by rw [HS.out, HX.out, he]; simp
          have HE : Hid (s = nameP q n) := he
          clear he
          generalize strOf (nameP q n) = X at *
          go_wp2
          go_ret2
          obtain ⟨e1, e2⟩ := names_parse (names_hit HS0.out HE.out HQ.out.1 HN.out.2.1)
          rw [← e1, ← e2]
          exact ⟨rfl, H7.out.2⟩
        · have hb : (S.toList == (strOf (nameP q n)).toList) = false := by rw [HS.out, HX.out]; exact beq_eq_false_iff_ne.2 he
          have HE : Hid (MissK s q) := miss_of he HN.out.2.2
          clear he
          generalize strOf (nameP q n) = X at *
          go_wp2
          go_roundw
          case rel => exact HREL.out HE.out w6 H7.out.1 H7.out.2
          case measure =>
            rw [H7.out.1.left_eq, HR.out.1.left_eq]
            exact HQ.out.2.2
end Go.Proofs.YtmlfbihlbiikeaaGreatDoor
