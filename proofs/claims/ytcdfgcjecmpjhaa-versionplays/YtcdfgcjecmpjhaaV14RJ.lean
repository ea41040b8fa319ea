/- The document's own Own, Check and Apply. -/
import Derived.Test.YtcdfgcjecmpjhaaV14Ref1
import Derived.Test.YtcdfgcjecmpjhaaV14Check
import Derived.Test.YtcdfgcjecmpjhaaE13RChk
import Derived.Deep.DeepCutAuto
import Derived.BigQuiet
import Derived.Test.YtcdfgcjecmpjhaaV14App
import Derived.Test.YtcdfgcjecmpjhaaE13RCheck
import Derived.Deep.RegionHeld3
/- Versions in variables; the contract of the document's own Own. -/
namespace Go.Proofs.Ytcdfgcjecmpjhaa
open Go.RowKit
set_option linter.unusedVariables false
set_option linter.unusedSimpArgs false
def SV.upd (t : SV) (n : Nat) (a : Option Addr) (c : Nat) : SV := ⟨fun m => if m = n then a else t.a m, fun m => if m = n then c else t.c m⟩
theorem vA_upd (u : PV) (t : SV) {n : Nat} (hn : n < 4) (l : List PF) (a : Option Addr) (c : Nat) : (vA u t).setIfInBounds n (.slice a l.length c) = vA (u.upd n l) (t.upd n a c) :=
  four (P := fun n => (vA u t).setIfInBounds n (.slice a l.length c) = vA (u.upd n l) (t.upd n a c)) hn (by simp [vA, PV.upd, SV.upd]) (by simp [vA, PV.upd, SV.upd]) (by simp [vA, PV.upd, SV.upd]) (by simp [vA, PV.upd, SV.upd])
theorem OwnV.upd {w : World} {B : Nat} {u : PV} {t : SV} (h : OwnV w B u t) {n : Nat} {l : List PF} {a : Option Addr} {c : Nat} (ho : OwnF w B a l.length c l) : OwnV w B (u.upd n l) (t.upd n a c) := fun m hm => by
  by_cases e : m = n
  · subst e
    simp only [PV.upd, SV.upd, if_true]
    exact ho
  · simp only [PV.upd, SV.upd, if_neg e]
    exact h m hm
/-- A version in a variable, its rows behind it. -/
structure Vr (w : World) (p : Nat) (u : PV) (t : SV) (V : World) : Prop where
  below : Below w.heap.size w V
  box : Box V p TVn (vA u t)
  own : OwnV V (p + 1) u t
  ge : w.heap.size ≤ p
theorem Vr.later {w V V' : World} {p : Nat} {u : PV} {t : SV} (h : Vr w p u t V) (hb : Below V.heap.size V V') : Vr w p u t V' := ⟨h.below.trans (hb.mono h.below.size), h.box.kept (hb.block _ h.box.lt), h.own.below hb, h.ge⟩
theorem Vr.grown {w V V' : World} {p : Nat} {u : PV} {t : SV} (h : Vr w p u t V) (hb : Below V.heap.size V V') : p + 1 ≤ V'.heap.size := (h.later hb).box.lt
theorem Vr.put {w V : World} {p : Nat} {u : PV} {t : SV} (h : Vr w p u t V) {n : Nat} (hn : n < 4) {l : List PF} {a : Option Addr} {c : Nat} (ho : OwnF V (p + 1) a l.length c l) : Vr w p (u.upd n l) (t.upd n a c) (V.setCell ⟨p, n, none⟩ (.slice a l.length c)) := by
  have hc : Chg (fun k => k = p) V (V.setCell ⟨p, n, none⟩ (.slice a l.length c)) := (Chg.refl (fun k => k = p) V).set (fun _ => rfl) _ _
  have hm : ∀ {v : PV} {s : SV}, OwnV V (p + 1) v s → OwnV (V.setCell ⟨p, n, none⟩ (.slice a l.length c)) (p + 1) v s := fun hv n hn => (hv n hn).kept (fun g hg => hc.block _ (tag_lt ((hv n hn).tag hg)) (fun e => by have := (hv n hn).ge hg; omega))
  exact ⟨h.below.trans (hc.below (fun k hk => by have := h.ge; omega) h.below.size), (h.box.set n _).eq (vA_upd u t hn l a c), hm (h.own.upd ho), h.ge⟩
/-- The result's block is written. -/
theorem Box.back {W : World} {p : Nat} (hb : Box W p TVn #[.slice none 0 0, .slice none 0 0, .slice none 0 0, .slice none 0 0]) (s0 s1 s2 s3 : Value) : ∃ Z, Z = (((W.setCell ⟨p, 0, none⟩ s0).setCell ⟨p, 1, none⟩ s1).setCell ⟨p, 2, none⟩ s2).setCell ⟨p, 3, none⟩ s3 ∧ Z.cell? ⟨p, 0, none⟩ = some s0 ∧ Z.cell? ⟨p, 1, none⟩ = some s1 ∧ Z.cell? ⟨p, 2, none⟩ = some s2 ∧ Z.cell? ⟨p, 3, none⟩ = some s3 ∧ Hid (Chg (fun k => k = p) W Z) := by
  have h4 := (((hb.set 0 s0).set 1 s1).set 2 s2).set 3 s3
  have hc : Chg (fun k => k = p) W ((((W.setCell ⟨p, 0, none⟩ s0).setCell ⟨p, 1, none⟩ s1).setCell ⟨p, 2, none⟩ s2).setCell ⟨p, 3, none⟩ s3) := ((((Chg.refl (fun k => k = p) W).set (fun _ => rfl) _ _).set (fun _ => rfl) _ _).set (fun _ => rfl) _ _).set (fun _ => rfl) _ _
  refine ⟨_, rfl, ?_, ?_, ?_, ?_, hc⟩
  · rw [h4.cell]; rfl
  · rw [h4.cell]; rfl
  · rw [h4.cell]; rfl
  · rw [h4.cell]; rfl
theorem OwnF.made (w : World) : OwnF (w.alloc (.cells #[] TF)) w.heap.size (some ⟨w.heap.size, 0, none⟩) 0 0 [] := ⟨rfl, World.ownsRow_made w #[] 0 (Nat.le_refl _) (Nat.zero_le _) (by simp)⟩
/-- The levels ahead of one. -/
def uptoV (v : PV) (k : Nat) : PV := fun n => if n < k then v n else []
theorem uptoV_zero (v : PV) : uptoV v 0 = noV := by funext n; simp [uptoV, noV]
theorem uptoV_succ (v : PV) (k : Nat) : (uptoV v k).upd k (v k) = uptoV v (k + 1) := by
  funext n
  unfold uptoV PV.upd
  by_cases e : n = k
  · subst e
    rw [if_pos rfl, if_pos (by omega)]
  · rw [if_neg e]
    show (if n < k then v n else []) = _
    by_cases hn : n < k
    · rw [if_pos hn, if_pos (by omega)]
    · rw [if_neg hn, if_neg (by omega)]
theorem uptoV_four (v : PV) (t : SV) : vA (uptoV v 4) t = vA v t := by simp [vA, uptoV]
theorem OwnV.four {w : World} {B : Nat} {v : PV} {t : SV} (h : OwnV w B (uptoV v 4) t) : OwnV w B v t := fun n hn => by
  have := h n hn
  unfold uptoV at this
  rw [if_pos hn] at this
  exact this
theorem rown_step {w wr w2 : World} {u : PV} {t : SV} {X Y : Array Value} {O : Obj} {a2 : Option Addr} {c2 : Nat} {lk : List PF} (h : Vr w (w.heap.size + 1 + 1) u t wr) (h1 : Box wr w.heap.size TVn X) (h2 : Box wr (w.heap.size + 1) TVn Y) (ho : OwnF w2 (w.heap.size + 1 + 1 + 1) a2 (0 + lk.length) c2 ([] ++ lk)) (hb2 : Below (w.heap.size + 1 + 1 + 1) (wr.alloc O) w2) (hg : (wr.alloc O).grownBy w2 (blkOf (some ⟨wr.heap.size, 0, none⟩))) :
    Vr w (w.heap.size + 1 + 1) u t w2 ∧ Box w2 w.heap.size TVn X ∧ Box w2 (w.heap.size + 1) TVn Y ∧ OwnF w2 (w.heap.size + 1 + 1 + 1) a2 lk.length c2 lk := by
  rw [Nat.zero_add, List.nil_append] at ho
  have hb3 : Below (w.heap.size + 1 + 1 + 1) wr w2 := (((Below.refl _ _).alloc (Nat.le_refl _) O).mono h.box.lt).trans hb2
  refine ⟨⟨h.below.trans (hb3.mono (by omega)), h.box.kept (hb3.block _ (by omega)), fun n hn => ?_, h.ge⟩, h1.kept (hb3.block _ (by omega)), h2.kept (hb3.block _ (by omega)), ho⟩
  have k1 := h.own n hn
  have k2 := k1.alloc O
  refine k2.kept (fun g hg2 => ?_)
  refine hg.block g (tag_lt (k2.tag hg2)) (fun e => ?_)
  have k3 := tag_lt (k1.tag hg2)
  simp [blkOf] at e
  omega
set_option maxRecDepth 100000 in
set_option maxHeartbeats 8000000 in
theorem rown_any (v : PV) (s : SV) (w : World) (h : VnAt w v s) (hn : v.all.length < 65536) :
    Calls Try.prog 10 #[.agg #[.slice (s.a 0) (v 0).length (s.c 0), .slice (s.a 1) (v 1).length (s.c 1), .slice (s.a 2) (v 2).length (s.c 2), .slice (s.a 3) (v 3).length (s.c 3)]] w fun e w' => ∃ t : SV, e = .returned (.agg #[.slice (t.a 0) (v 0).length (t.c 0), .slice (t.a 1) (v 1).length (t.c 1), .slice (t.a 2) (v 2).length (t.c 2), .slice (t.a 3) (v 3).length (t.c 3)]) ∧ OwnV w' w.heap.size v t ∧ Below w.heap.size w w' := by
  have HV : Hid (VnAt w v s ∧ v.all.length < 65536) := ⟨h, hn⟩
  obtain ⟨W1, e1, HW⟩ : ∃ W1, W1 = ((w.alloc (.cells #[.slice (s.a 0) (v 0).length (s.c 0), .slice (s.a 1) (v 1).length (s.c 1), .slice (s.a 2) (v 2).length (s.c 2), .slice (s.a 3) (v 3).length (s.c 3)] TVn)).alloc (.cells #[.slice none 0 0, .slice none 0 0, .slice none 0 0, .slice none 0 0] TVn)).alloc (.cells #[.slice none 0 0, .slice none 0 0, .slice none 0 0, .slice none 0 0] TVn) ∧ Hid (Vr w (w.heap.size + 1 + 1) (uptoV v 0) sv0 W1 ∧ Box W1 w.heap.size TVn (vA v s) ∧ Box W1 (w.heap.size + 1) TVn #[.slice none 0 0, .slice none 0 0, .slice none 0 0, .slice none 0 0]) := by
    have b2 : Box (((w.alloc (.cells (vA v s) TVn)).alloc (.cells #[.slice none 0 0, .slice none 0 0, .slice none 0 0, .slice none 0 0] TVn)).alloc (.cells #[.slice none 0 0, .slice none 0 0, .slice none 0 0, .slice none 0 0] TVn)) (w.heap.size + 1 + 1) TVn #[.slice none 0 0, .slice none 0 0, .slice none 0 0, .slice none 0 0] := by
      have := Box.new ((w.alloc (.cells (vA v s) TVn)).alloc (.cells #[.slice none 0 0, .slice none 0 0, .slice none 0 0, .slice none 0 0] TVn)) TVn #[.slice none 0 0, .slice none 0 0, .slice none 0 0, .slice none 0 0]
      rw [World.size_alloc, World.size_alloc] at this
      exact this
    have b1 : Box (((w.alloc (.cells (vA v s) TVn)).alloc (.cells #[.slice none 0 0, .slice none 0 0, .slice none 0 0, .slice none 0 0] TVn)).alloc (.cells #[.slice none 0 0, .slice none 0 0, .slice none 0 0, .slice none 0 0] TVn)) (w.heap.size + 1) TVn #[.slice none 0 0, .slice none 0 0, .slice none 0 0, .slice none 0 0] := by
      have := (Box.new (w.alloc (.cells (vA v s) TVn)) TVn #[.slice none 0 0, .slice none 0 0, .slice none 0 0, .slice none 0 0]).alloc (.cells #[.slice none 0 0, .slice none 0 0, .slice none 0 0, .slice none 0 0] TVn)
      rw [World.size_alloc] at this
      exact this
    refine ⟨_, rfl, ⟨(((Below.refl _ _).alloc (Nat.le_refl _) _).alloc (by simp) _).alloc (by simp; omega) _, ?_, ?_, by omega⟩, ((Box.new w _ _).alloc _).alloc _, b1⟩
    · rw [uptoV_zero]
      exact b2
    · rw [uptoV_zero]
      exact OwnV.none _ _
  clear h hn
  go_enter Try.func10, Try.ntmps10
  go_upto_region 2 with fail
  rw [← e1]
  clear e1
  go_wp2_with fail
  go_loopw [4] (fun s4 wr => ∃ (k : Nat) (t : SV), k ≤ 4 ∧ s4 = .int .i64 (k : Int) ∧ Hid (Vr w (w.heap.size + 1 + 1) (uptoV v k) t wr ∧ Box wr w.heap.size TVn (vA v s) ∧ Box wr (w.heap.size + 1) TVn #[.slice none 0 0, .slice none 0 0, .slice none 0 0, .slice none 0 0])) (fun s4 _ => 4 - (intOf s4).toNat)
  case atStart => exact ⟨0, sv0, by omega, rfl, HW.out⟩
  case round =>
    obtain ⟨k, t, hk4, rfl, HI⟩ := hrel
    clear HW
    by_cases hk : k < 4
    · have hkI : (k : Int) < 4 := by omega
      have hx := idxL_arr w.heap.size k hk
      have hy := idxL_arr (w.heap.size + 1 + 1) k hk
      have hlk : (v k).length < 65536 := Nat.lt_of_le_of_lt (all_le v hk) HV.out.2
      have hcell := HI.out.2.1.level hk
      have hplt : w.heap.size < wr.heap.size := HI.out.2.1.lt
      have HA : Hid (OwnF (wr.alloc (.cells #[] TF)) (w.heap.size + 1 + 1 + 1) (some ⟨wr.heap.size, 0, none⟩) 0 0 [] ∧ FlAt (wr.alloc (.cells #[] TF)) (s.a k) (v k).length (s.c k) (v k) ∧ w.heap.size + 1 + 1 + 1 ≤ (wr.alloc (.cells #[] TF)).heap.size ∧ Below wr.heap.size wr (wr.alloc (.cells #[] TF))) := by
        have hb : Below wr.heap.size wr (wr.alloc (.cells #[] TF)) := (Below.refl _ _).alloc (Nat.le_refl _) _
        exact ⟨(OwnF.made wr).less HI.out.1.box.lt, ((HV.out.1 k hk).below HI.out.1.below).below hb, HI.out.1.grown hb, hb⟩
      generalize hvk : v k = lk at hlk hcell HA
      have HVK : Hid (v k = lk) := hvk
      clear hvk
      generalize s.a k = ak at hcell HA
      generalize s.c k = ck at hcell HA
      go_wp2_with (at_builtin; refine wpList_appFl (wr.alloc (.cells #[] TF)) rfl _ _ rfl (w.heap.size + 1 + 1 + 1) (some ⟨wr.heap.size, 0, none⟩) 0 0 [] rfl HA.out.1 ak lk.length ck lk rfl HA.out.2.1 (by omega) HA.out.2.2.1 ?_; intro a2 c2 w2 ho2 hb2 hg2; have H2 : Hid (Vr w (w.heap.size + 1 + 1) (uptoV v k) t w2 ∧ Box w2 w.heap.size TVn (vA v s) ∧ Box w2 (w.heap.size + 1) TVn #[.slice none 0 0, .slice none 0 0, .slice none 0 0, .slice none 0 0] ∧ OwnF w2 (w.heap.size + 1 + 1 + 1) a2 lk.length c2 lk) := rown_step HI.out.1 HI.out.2.1 HI.out.2.2 ho2 hb2 hg2; have cf := H2.out.1.box.soft k; have cl := H2.out.1.box.level hk; clear ho2 hb2 hg2)
      clear HA hcell
      go_wp2
      go_roundw
      case rel =>
        refine ⟨k + 1, t.upd k a2 c2, hk, by go_num, ?_⟩
        have h1 := H2.out.1.put hk H2.out.2.2.2
        rw [← HVK.out, uptoV_succ] at h1
        rw [← HVK.out]
        exact ⟨h1, H2.out.2.1.other (by omega) _ _, H2.out.2.2.1.other (by omega) _ _⟩
      case measure => simp only [intOf]; omega
    · obtain rfl : k = 4 := by omega
      have H2 : Hid (Box wr (w.heap.size + 1 + 1) TVn (vA v t) ∧ OwnV wr (w.heap.size + 1 + 1 + 1) v t ∧ Below w.heap.size w wr ∧ Box wr (w.heap.size + 1) TVn #[.slice none 0 0, .slice none 0 0, .slice none 0 0, .slice none 0 0]) := ⟨HI.out.1.box.eq (uptoV_four v t), HI.out.1.own.four, HI.out.1.below, HI.out.2.2⟩
      clear HI
      obtain ⟨q0, q1, q2, q3⟩ := H2.out.1.fourV
      obtain ⟨r0, r1, r2, r3⟩ := (show Box wr (w.heap.size + 1) TVn (vA noV sv0) from H2.out.2.2.2).fourV
      have rs : ∀ j, wr.frozen? ⟨w.heap.size + 1, j, none⟩ = false := fun j => H2.out.2.2.2.soft j
      obtain ⟨Z, eZ, z0, z1, z2, z3, HZ⟩ := H2.out.2.2.2.back (.slice (t.a 0) (v 0).length (t.c 0)) (.slice (t.a 1) (v 1).length (t.c 1)) (.slice (t.a 2) (v 2).length (t.c 2)) (.slice (t.a 3) (v 3).length (t.c 3))
      have HF : Hid (Below w.heap.size w Z ∧ OwnV Z w.heap.size v t) := by
        refine ⟨H2.out.2.2.1.trans (HZ.out.below (fun k hk => by omega) H2.out.2.2.1.size), fun n hn => ?_⟩
        have h1 := H2.out.2.1 n hn
        refine (h1.kept (fun g hg => HZ.out.block _ (tag_lt (h1.tag hg)) (fun e => ?_))).less (by omega)
        have := h1.ge hg
        omega
      go_wp2
      rw [← eZ]
      refine bodyPost_ret (v := .agg #[.slice (t.a 0) (v 0).length (t.c 0), .slice (t.a 1) (v 1).length (t.c 1), .slice (t.a 2) (v 2).length (t.c 2), .slice (t.a 3) (v 3).length (t.c 3)]) (by simp [results, Try.results10, go_sem, z0, z1, z2, z3]) rfl ?_
      exact ⟨t, rfl, HF.out.2, HF.out.1⟩
end Go.Proofs.Ytcdfgcjecmpjhaa
/- The contract of the document's own Check. -/
namespace Go.Proofs.Ytcdfgcjecmpjhaa
open Go.RowKit
set_option linter.unusedVariables false
set_option linter.unusedSimpArgs false
theorem accN_accF (v : PV) : ∀ k, accN v k = (accF v k).map PF.num
  | 0 => rfl
  | k + 1 => by rw [accN_succ, accF_succ, List.map_append, accN_accF v k]
/-- How far the document's own Check has come. -/
structure Ck (v : PV) (k i : Nat) : Prop where
  lv : ∀ n, n < k → LvOk n (v n)
  each : ∀ f ∈ (v k).take i, f.err = 0 ∧ f.level = (k : Int)
  row : ((v k).take i).Pairwise (ahead k)
  one : (accN v k ++ ((v k).take i).map PF.num).Nodup
theorem Ck.begin (v : PV) : Ck v 0 0 := ⟨fun n hn => by omega, by simp, by simp, by simp [accN]⟩
theorem Ck.next {v : PV} {k : Nat} (h : Ck v k (v k).length) : Ck v (k + 1) 0 := by
  obtain ⟨h1, h2, h3, h4⟩ := h
  rw [List.take_length] at h2 h3 h4
  refine ⟨fun n hn => ?_, by simp, by simp, by simpa [accN_succ] using h4⟩
  rcases Nat.lt_succ_iff_lt_or_eq.1 hn with hn | rfl
  · exact h1 n hn
  · exact ⟨h2, h3⟩
theorem Ck.done {v : PV} (h : Ck v 4 0) : VOk v := ⟨h.lv, by have := h.one; rw [← accN_four]; simpa using this⟩
theorem Ck.step {v : PV} {k i : Nat} (h : Ck v k i) (hi : i < (v k).length) (he : ((v k)[i]).err = 0) (hl : ((v k)[i]).level = (k : Int)) (hnew : ((v k)[i]).num ∉ accN v k ++ ((v k).take i).map PF.num) (ha : i = 0 ∨ ∃ (j : Nat) (hj : j < (v k).length), i = j + 1 ∧ ahead k (v k)[j] (v k)[i]) : Ck v k (i + 1) := by
  have e := List.take_succ_eq_append_getElem hi
  refine ⟨h.lv, fun f hf => ?_, ?_, ?_⟩
  · rw [e] at hf
    rcases List.mem_append.1 hf with hf | hf
    · exact h.each f hf
    · obtain rfl := List.mem_singleton.1 hf
      exact ⟨he, hl⟩
  · rw [e, List.pairwise_append]
    refine ⟨h.row, List.pairwise_singleton _ _, fun g hg f hf => ?_⟩
    obtain rfl := List.mem_singleton.1 hf
    rcases ha with rfl | ⟨j, hj, rfl, ha⟩
    · simp at hg
    · have e2 := List.take_succ_eq_append_getElem hj
      have hr := h.row
      rw [e2, List.pairwise_append] at hr
      have hje : ((v k)[j]).err = 0 := (h.each _ (by rw [e2]; exact List.mem_append_right _ (List.mem_singleton.2 rfl))).1
      rw [e2] at hg
      rcases List.mem_append.1 hg with hg | hg
      · exact ahead_trans hje (hr.2.2 g hg _ (List.mem_singleton.2 rfl)) ha
      · obtain rfl := List.mem_singleton.1 hg
        exact ha
  · rw [e, List.map_append, ← List.append_assoc]
    refine List.nodup_append.2 ⟨h.one, by simp, ?_⟩
    intro a ha2 b hb
    have hb2 : b = ((v k)[i]).num := by simpa using hb
    subst hb2
    intro e3
    subst e3
    exact hnew ha2
theorem VOk.new {v : PV} (h : VOk v) {k i : Nat} (hk : k < 4) (hi : i < (v k).length) : ((v k)[i]).num ∉ accN v k ++ ((v k).take i).map PF.num := fun hm => by
  have h1 := accF_new h hk hi
  rw [accN_accF, ← List.map_append] at hm
  obtain ⟨g, hg, e⟩ := List.mem_map.1 hm
  exact h1 g hg e
theorem VOk.adj {v : PV} (h : VOk v) {k j : Nat} (hk : k < 4) (hj : j + 1 < (v k).length) : ahead k (v k)[j] (v k)[j + 1] := List.pairwise_iff_getElem.1 (h.lv k hk).row j (j + 1) (by omega) hj (by omega)
set_option maxRecDepth 100000 in
set_option maxHeartbeats 8000000 in
theorem rvcheck_any (v : PV) (s : SV) (w : World) (h : VnAt w v s) (hw : WfV v) (hn : v.all.length < 65536) :
    Calls Try.prog 15 #[.agg #[.slice (s.a 0) (v 0).length (s.c 0), .slice (s.a 1) (v 1).length (s.c 1), .slice (s.a 2) (v 2).length (s.c 2), .slice (s.a 3) (v 3).length (s.c 3)]] w fun e w' => e = .returned (.int .i64 ((chkV v : Nat) : Int)) ∧ Below w.heap.size w w' := by
  have HYN : Hid ((VOk v → chkV v = 0) ∧ (¬ VOk v → chkV v = 140)) := ⟨chkV_yes, chkV_no⟩
  generalize chkV v = cv at HYN ⊢
  have HV : Hid (VnAt w v s ∧ WfV v ∧ v.all.length < 65536) := ⟨h, hw, hn⟩
  have HB0 : Hid (Below w.heap.size w (w.alloc (.cells (vA v s) TVn)) ∧ Box (w.alloc (.cells (vA v s) TVn)) w.heap.size TVn (vA v s)) := ⟨(Below.refl _ _).alloc (Nat.le_refl _) _, Box.new _ _ _⟩
  clear h hn hw
  go_enter Try.func15, Try.ntmps15
  go_wp2_with fail
  go_loopw [4, 3] (fun s4 s3 wr => ∃ (k m : Nat) (a : Option Addr) (c : Nat), k ≤ 4 ∧ s4 = .int .i64 (k : Int) ∧ s3 = .slice a m c ∧ Hid (OwnU wr (w.heap.size + 1) a m c (accN v k) ∧ Ck v k 0 ∧ Below w.heap.size w wr ∧ Box wr w.heap.size TVn (vA v s))) (fun s4 _ _ => 4 - (intOf s4).toNat)
  case atStart => exact ⟨0, 0, none, 0, by omega, rfl, rfl, OwnU.nil _ _, Ck.begin v, HB0.out⟩
  case round =>
    obtain ⟨k, m0, a0, c0, hk4, rfl, rfl, HI⟩ := hrel
    clear HB0
    by_cases hk : k < 4
    · have hle := accN_le (v := v) hk
      have hkI : (k : Int) < 4 := by omega
      have HFL : Hid (FlAt w (s.a k) (v k).length (s.c k) (v k)) := HV.out.1 k hk
      have hall : v.all.length < 65536 := HV.out.2.2
      have hlk6 : (v k).length < 65536 := by omega
      have hx := idxL_arr w.heap.size k hk
      have HLV : Hid (∀ W, Box W w.heap.size TVn (vA v s) → W.cell? ⟨w.heap.size, k, none⟩ = some (.slice (s.a k) (v k).length (s.c k))) := fun W hW => hW.level hk
      go_wp2_with fail
      go_loopw [5, 3] (fun s5 s3 wr => ∃ (i m : Nat) (a : Option Addr) (c : Nat), i ≤ (v k).length ∧ s5 = .int .i64 (i : Int) ∧ s3 = .slice a m c ∧ Hid (OwnU wr (w.heap.size + 1) a m c (accN v k ++ ((v k).take i).map PF.num) ∧ Ck v k i ∧ Below w.heap.size w wr ∧ Box wr w.heap.size TVn (vA v s))) (fun s5 _ _ => (v k).length - (intOf s5).toNat)
      case atStart => exact ⟨0, m0, a0, c0, Nat.zero_le _, rfl, rfl, by simpa using HI.out.1, HI.out.2⟩
      case round =>
        clear HI
        obtain ⟨i, m, a, c, hil, rfl, rfl, HI⟩ := hrel
        have hcell := HLV.out wr HI.out.2.2.2
        by_cases hi : i < (v k).length
        · have hiI : (i : Int) < ((v k).length : Int) := by omega
          obtain ⟨b, o, hix, hblt, hcs⟩ := HFL.out.at hi
          obtain ⟨d0, d1, d2, d3, d4, d5, d6, d7, d8⟩ := hcs wr HI.out.2.2.1
          have HTM : Hid (((v k).take (i + 1)).map PF.num = ((v k).take i).map PF.num ++ [((v k)[i]).num]) := by unfold Hid; rw [List.take_succ_eq_append_getElem hi, List.map_append]; rfl
          have HFI : Hid ((VOk v → ((v k)[i]).err = 0 ∧ ((v k)[i]).level = (k : Int) ∧ ((v k)[i]).num ∉ accN v k ++ ((v k).take i).map PF.num) ∧ WfF (v k)[i] ∧ (((v k)[i]).err = 0 → ((v k)[i]).level = (k : Int) → ((v k)[i]).num ∉ accN v k ++ ((v k).take i).map PF.num → (i = 0 ∨ ∃ (j : Nat) (hj : j < (v k).length), i = j + 1 ∧ ahead k (v k)[j] (v k)[i]) → Ck v k (i + 1)) ∧ (∀ j (hj : j < (v k).length), i = j + 1 → VOk v → ahead k (v k)[j] (v k)[i])) := ⟨fun hV => ⟨(hV.level hk (List.getElem_mem hi)).1, (hV.level hk (List.getElem_mem hi)).2, hV.new hk hi⟩, HV.out.2.1 k hk _ (List.getElem_mem _), fun h1 h2 h3 h4 => HI.out.2.1.step hi h1 h2 h3 h4, fun j hj e hV => by subst e; exact hV.adj hk hi⟩
          clear hcs
          generalize (v k)[i] = f at d0 d1 d2 d3 d4 d5 d6 d7 d8 HTM HFI
          generalize hl0 : accN v k ++ ((v k).take i).map PF.num = l0 at HI HFI
          have HL0 : Hid (accN v k ++ ((v k).take (i + 1)).map PF.num = l0 ++ [f.num] ∧ l0.length = m ∧ m < 65536) := by
            refine ⟨by rw [HTM.out, ← List.append_assoc, hl0], HI.out.1.size, ?_⟩
            have h1 := HI.out.1.size
            have h2 := congrArg List.length hl0
            rw [List.length_append, List.length_map, List.length_take] at h2
            omega
          have hm6 : m < 65536 := HL0.out.2.2
          clear hl0 HTM
          obtain ⟨W1, eW, HW1⟩ : ∃ W1, W1 = wr.alloc (.cells #[.int .i64 f.level, .int .u64 (f.num : Int), .int .i64 f.size, .string f.small.user, .int .u64 (f.small.seq : Int), .int .i64 f.small.kind, .string f.large.user, .int .u64 (f.large.seq : Int), .int .i64 f.large.kind] TF) ∧ Hid (OwnU W1 (w.heap.size + 1) a m c l0 ∧ Below w.heap.size w W1 ∧ Box W1 w.heap.size TVn (vA v s) ∧ Box W1 wr.heap.size TF (fA f) ∧ w.heap.size + 1 ≤ wr.heap.size) := ⟨_, rfl, HI.out.1.alloc _, HI.out.2.2.1.alloc HI.out.2.2.1.size _, HI.out.2.2.2.alloc _, Box.new _ _ _, HI.out.2.2.2.lt⟩
          go_upto_region 9 with fail
          rw [← eW]
          clear d0 d1 d2 d3 d4 d5 d6 d7 d8 hix hcell hblt
          generalize wr.heap.size = p6 at HW1 ⊢
          clear eW HI
          obtain ⟨x0, x1, x2, x3, x4, x5, x6, x7, x8⟩ := HW1.out.2.2.2.1.nine
          simp only [Nat.zero_add] at x1 x2 x3 x4 x5 x6 x7 x8
          go_wp2_with fail
          refine (rfile_any f W1 HFI.out.2.1).mono ?_
          rintro _ w2 ⟨rfl, hb2⟩
          have H2 : Hid (OwnU w2 (w.heap.size + 1) a m c l0 ∧ Below w.heap.size w w2 ∧ Box w2 w.heap.size TVn (vA v s) ∧ Box w2 p6 TF (fA f) ∧ w.heap.size + 1 ≤ p6) := ⟨HW1.out.1.below hb2, HW1.out.2.1.trans (hb2.mono HW1.out.2.1.size), HW1.out.2.2.1.kept (hb2.block _ HW1.out.2.2.1.lt), HW1.out.2.2.2.1.kept (hb2.block _ HW1.out.2.2.2.1.lt), HW1.out.2.2.2.2⟩
          clear hb2 HW1 x0 x1 x2 x3 x4 x5 x6 x7 x8
          obtain ⟨x0, x1, x2, x3, x4, x5, x6, x7, x8⟩ := H2.out.2.2.2.1.nine
          simp only [Nat.zero_add] at x1 x2 x3 x4 x5 x6 x7 x8
          by_cases he : f.err ≠ 0
          · have HE : Hid (¬ VOk v) := fun hV => he (HFI.out.1 hV).1
            have heb : (((f.err : Nat) : Int) != 0) = true := by simp; omega
            have heI : ((f.err : Nat) : Int) ≠ 0 := by omega
            generalize f.err = fe at heb heI
            clear he
            go_wp2
            go_ret
            rw [HYN.out.2 (HE.out)]
            exact ⟨ret1 rfl, H2.out.2.1⟩
          replace he : f.err = 0 := Decidable.not_not.1 he
          rw [he]
          have HE0 : Hid (f.err = 0) := he
          clear he
          by_cases hlv : f.level ≠ (k : Int)
          · have HE : Hid (¬ VOk v) := fun hV => hlv (HFI.out.1 hV).2.1
            have hlb : (f.level != (k : Int)) = true := by simpa using hlv
            go_wp2
            go_ret
            rw [HYN.out.2 (HE.out)]
            exact ⟨ret1 rfl, H2.out.2.1⟩
          replace hlv : f.level = (k : Int) := Decidable.not_not.1 hlv
          have HLV0 : Hid (f.level = (k : Int)) := hlv
          have hlb : (f.level != (k : Int)) = false := by simpa using hlv
          clear hlv
          go_upto_region 13 with fail
          clear hlb
          go_wp2_with fail
          go_loopw [8] (fun s8 wq => ∃ j : Nat, j ≤ m ∧ s8 = .int .i64 (j : Int) ∧ Hid (Below w2.heap.size w2 wq ∧ ∀ q (hq : q < l0.length), q < j → l0[q] ≠ f.num)) (fun s8 _ => m - (intOf s8).toNat)
          case atStart => exact ⟨0, Nat.zero_le _, rfl, Below.refl _ _, fun q hq h => by omega⟩
          case round =>
            obtain ⟨j, hjm, rfl, HJ⟩ := hrel
            have H3 : Hid (OwnU wr (w.heap.size + 1) a m c l0 ∧ Below w.heap.size w wr ∧ Box wr w.heap.size TVn (vA v s) ∧ Box wr p6 TF (fA f) ∧ w.heap.size + 1 ≤ p6) := ⟨H2.out.1.below HJ.out.1, H2.out.2.1.trans (HJ.out.1.mono H2.out.2.1.size), H2.out.2.2.1.kept (HJ.out.1.block _ H2.out.2.2.1.lt), H2.out.2.2.2.1.kept (HJ.out.1.block _ H2.out.2.2.2.1.lt), H2.out.2.2.2.2⟩
            clear x0 x1 x2 x3 x4 x5 x6 x7 x8
            obtain ⟨x0, x1, x2, x3, x4, x5, x6, x7, x8⟩ := H3.out.2.2.2.1.nine
            simp only [Nat.zero_add] at x1 x2 x3 x4 x5 x6 x7 x8
            by_cases hj : j < m
            · have hjl : j < l0.length := by rw [HL0.out.2.1]; exact hj
              have hjI : (j : Int) < (m : Int) := by omega
              obtain ⟨b2, o2, hix, hblt2, hcs⟩ := H3.out.1.us.at hjl
              have hc0 := hcs wr (Below.refl _ _)
              have HN : Hid ((l0[j] = f.num → f.num ∈ l0) ∧ (l0[j] ≠ f.num → ∀ q (hq : q < l0.length), q < j + 1 → l0[q] ≠ f.num)) := by
                refine ⟨fun e => e ▸ List.getElem_mem _, fun e q hq hqj => ?_⟩
                rcases Nat.lt_succ_iff_lt_or_eq.1 hqj with h1 | rfl
                · exact HJ.out.2 q hq h1
                · exact e
              clear hcs
              generalize l0[j] = y at hc0 HN
              by_cases hy : y = f.num
              · have HE : Hid (¬ VOk v) := fun hV => (HFI.out.1 hV).2.2 (HN.out.1 hy)
                have hyb : ((y : Int) == (f.num : Int)) = true := by simp [hy]
                clear hy
                go_wp2_with fail
                go_quiet (fail)
                go_wp2
                go_ret
                rw [HYN.out.2 (HE.out)]
                exact ⟨ret1 rfl, H3.out.2.1.trans ⟨rfl, rfl, rfl, Nat.le_refl _, fun _ _ => rfl⟩⟩
              · have hyb : ((y : Int) == (f.num : Int)) = false := beq_eq_false_iff_ne.2 (by omega)
                have HYQ : Hid (y ≠ f.num) := hy
                clear hy
                go_wp2_with fail
                go_quiet (fail)
                go_wp2
                go_roundw
                case rel => exact ⟨j + 1, hj, by go_num, HJ.out.1.trans ⟨rfl, rfl, rfl, Nat.le_refl _, fun _ _ => rfl⟩, HN.out.2 HYQ.out⟩
                case measure => simp only [intOf]; omega
            · have hjI : ¬ (j : Int) < (m : Int) := by omega
              have HNW : Hid (f.num ∉ l0) := fun hm => by
                obtain ⟨q, hq, e⟩ := List.getElem_of_mem hm
                exact HJ.out.2 q hq (by have := HL0.out.2.1; omega) e
              have HA : Hid (OwnU (wr.alloc (.cells #[.int .u64 (f.num : Int)] TU)) (w.heap.size + 1) a m c l0 ∧ UsAt (wr.alloc (.cells #[.int .u64 (f.num : Int)] TU)) (some ⟨wr.heap.size, 0, none⟩) 1 1 [f.num] ∧ w.heap.size + 1 ≤ (wr.alloc (.cells #[.int .u64 (f.num : Int)] TU)).heap.size ∧ Below (w.heap.size + 1) wr (wr.alloc (.cells #[.int .u64 (f.num : Int)] TU)) ∧ ∀ w4, (wr.alloc (.cells #[.int .u64 (f.num : Int)] TU)).grownBy w4 (blkOf a) → Box w4 p6 TF (fA f)) := by
                have hb : Below wr.heap.size wr (wr.alloc (.cells #[.int .u64 (f.num : Int)] TU)) := (Below.refl _ _).alloc (Nat.le_refl _) _
                have h1 := H3.out.2.2.2.1.alloc (.cells #[.int .u64 (f.num : Int)] TU)
                refine ⟨H3.out.1.alloc _, UsAt.one wr f.num, Nat.le_trans H3.out.2.2.1.lt hb.size, hb.mono H3.out.2.2.1.lt, fun w4 hg => h1.kept (hg.block _ h1.lt (fun e => ?_))⟩
                have e2 : blkOf a = some p6 := e.symm
                have h2 := H3.out.1.tag e2
                have h3 := H3.out.2.2.2.1.tag
                rw [h3] at h2
                exact absurd h2 (by decide)
              go_upto_region 18 with (at_builtin; refine wpList_appU (wr.alloc (.cells #[.int .u64 (f.num : Int)] TU)) rfl _ _ rfl (w.heap.size + 1) a m c l0 rfl HA.out.1 (some ⟨wr.heap.size, 0, none⟩) 1 1 [f.num] rfl HA.out.2.1 (by omega) HA.out.2.2.1 ?_; intro a4 c4 w4 ho4 hb4 hg4)
              have H4 : Hid (OwnU w4 (w.heap.size + 1) a4 (m + 1) c4 (l0 ++ [f.num]) ∧ Below w.heap.size w w4 ∧ Box w4 w.heap.size TVn (vA v s) ∧ Box w4 p6 TF (fA f)) := by
                have hb5 : Below (w.heap.size + 1) wr w4 := HA.out.2.2.2.1.trans hb4
                exact ⟨ho4, H3.out.2.1.trans (hb5.mono (Nat.le_succ _)), H3.out.2.2.1.kept (hb5.block _ (Nat.lt_succ_self _)), HA.out.2.2.2.2 w4 hg4⟩
              clear ho4 hb4 hg4 HA H3 HJ x0 x1 x2 x3 x4 x5 x6 x7 x8
              by_cases hi0 : i = 0
              · have hib : ((i : Int) == 0) = true := by rw [hi0]; rfl
                have HCK : Hid (Ck v k (i + 1)) := HFI.out.2.2.1 HE0.out HLV0.out HNW.out (.inl hi0)
                clear hi0
                go_wp2
                go_roundw
                case rel => exact ⟨i + 1, m + 1, a4, c4, hi, by go_num, rfl, by rw [HL0.out.1]; exact H4.out.1, HCK.out, H4.out.2.1, H4.out.2.2.1⟩
                case measure => simp only [intOf]; omega
              have hib : ((i : Int) == 0) = false := beq_eq_false_iff_ne.2 (by omega)
              have hi1 : (1 : Int) ≤ (i : Int) := by omega
              have hil' : i - 1 < (v k).length := by omega
              obtain ⟨b', o', hix', hblt', hcs'⟩ := HFL.out.at hil'
              rw [show ((i - 1 : Nat) : Int) = (i : Int) - 1 by omega] at hix'
              have HAD : Hid ((ahead k (v k)[i - 1] f → Ck v k (i + 1)) ∧ (VOk v → ahead k (v k)[i - 1] f)) := ⟨fun ha => HFI.out.2.2.1 HE0.out HLV0.out HNW.out (.inr ⟨i - 1, hil', by omega, ha⟩), fun hV => HFI.out.2.2.2 (i - 1) hil' (by omega) hV⟩
              have x := fun p : Bel w4 => (H4.out.2.2.2.kept (p.h.block _ H4.out.2.2.2.lt)).nine
              have y := fun p : Bel w4 => hcs' p.now (H4.out.2.1.trans (p.h.mono H4.out.2.1.size))
              have hlc := fun p : Bel w4 => HLV.out p.now (H4.out.2.2.1.kept (p.h.block _ H4.out.2.2.1.lt))
              have HCS : Hid (∀ W : World, Below w.heap.size w W → F9 W b' o' (v k)[i - 1]) := hcs'
              clear hcs'
              generalize (v k)[i - 1] = g at y HAD HCS
              have x0 := fun p => (x p).c0
              have x1 := fun p => (x p).c1
              have x2 := fun p => (x p).c2
              have x3 := fun p => (x p).c3
              have x4 := fun p => (x p).c4
              have x5 := fun p => (x p).c5
              have x6 := fun p => (x p).c6
              have x7 := fun p => (x p).c7
              have x8 := fun p => (x p).c8
              have y0 := fun p => (y p).c0
              have y1 := fun p => (y p).c1
              have y2 := fun p => (y p).c2
              have y3 := fun p => (y p).c3
              have y4 := fun p => (y p).c4
              have y5 := fun p => (y p).c5
              have y6 := fun p => (y p).c6
              have y7 := fun p => (y p).c7
              have y8 := fun p => (y p).c8
              simp only [Nat.zero_add] at x1 x2 x3 x4 x5 x6 x7 x8
              clear x y
              have hne : Nonempty (Bel w4) := ⟨⟨w4, Below.refl _ _⟩⟩
              obtain ⟨ap, HAP⟩ : ∃ ap : Bool, Hid (ap = decide (apartF g f)) := ⟨_, rfl⟩
              have HC2 : Hid (∀ W : World, Calls Try.prog 36 #[.agg #[.int .i64 g.level, .int .u64 (g.num : Int), .int .i64 g.size, .string g.small.user, .int .u64 (g.small.seq : Int), .int .i64 g.small.kind, .string g.large.user, .int .u64 (g.large.seq : Int), .int .i64 g.large.kind], .agg #[.int .i64 f.level, .int .u64 (f.num : Int), .int .i64 f.size, .string f.small.user, .int .u64 (f.small.seq : Int), .int .i64 f.small.kind, .string f.large.user, .int .u64 (f.large.seq : Int), .int .i64 f.large.kind]] W fun e w' => e = .returned (.bool ap) ∧ Below W.heap.size W w') := fun W => by rw [HAP.out]; exact rapart_any g f W
              have hwm : IntKind.i64.wrap ((i : Int) - 1) = (i : Int) - 1 := by unfold IntKind.wrap; simp [IntKind.bits, IntKind.signed]; omega
              go_upto_region 19 with fail
              refine wp_region_bel (by kernel_rfl) (by kernel_rfl) ?_
              repeat (quiet_step (first | (refine bel_call (HC2.out _))))
              refine wpQuiet_nil ?_
              rintro _ ⟨p, rfl⟩
              have H5 : Hid (OwnU p.now (w.heap.size + 1) a4 (m + 1) c4 (l0 ++ [f.num]) ∧ Below w.heap.size w p.now ∧ Box p.now w.heap.size TVn (vA v s) ∧ Box p.now p6 TF (fA f)) := ⟨H4.out.1.below p.h, H4.out.2.1.trans (p.h.mono H4.out.2.1.size), H4.out.2.2.1.kept (p.h.block _ H4.out.2.2.1.lt), H4.out.2.2.2.kept (p.h.block _ H4.out.2.2.2.lt)⟩
              clear x0 x1 x2 x3 x4 x5 x6 x7 x8 y0 y1 y2 y3 y4 y5 y6 y7 y8 hlc H4
              generalize p.now = w5 at H5 ⊢
              obtain ⟨x0, x1, x2, x3, x4, x5, x6, x7, x8⟩ := H5.out.2.2.2.nine
              obtain ⟨y0, y1, y2, y3, y4, y5, y6, y7, y8⟩ := HCS.out w5 H5.out.2.1
              simp only [Nat.zero_add] at x1 x2 x3 x4 x5 x6 x7 x8
              have hlc := HLV.out w5 H5.out.2.2.1
              have HGO : Hid (Ck v k (i + 1) → ∀ W, Below w5.heap.size w5 W → OwnU W (w.heap.size + 1) a4 (m + 1) c4 (accN v k ++ ((v k).take (i + 1)).map PF.num) ∧ Ck v k (i + 1) ∧ Below w.heap.size w W ∧ Box W w.heap.size TVn (vA v s)) := fun hck W hb => ⟨by rw [HL0.out.1]; exact H5.out.1.below hb, hck, H5.out.2.1.trans (hb.mono H5.out.2.1.size), H5.out.2.2.1.kept (hb.block _ H5.out.2.2.1.lt)⟩
              clear HFL HFI HL0 x0 x2 x3 x4 x5 x6 x7 x8 y0 y2 y3 y4 y5 y6 y7 y8 HC2 hne hblt' hall hle hil hil' hm6 H2 HV
              clear HCS HNW HE0 HLV0
              by_cases hk0 : k = 0
              · have hkb : ((k : Int) == 0) = true := by rw [hk0]; rfl
                have hkg : ¬ (0 : Int) < (k : Int) := by omega
                have hkn : ¬ 0 < k := by omega
                by_cases hq : g.num ≤ f.num
                · have hqI : (g.num : Int) ≤ (f.num : Int) := by omega
                  have HE : Hid (¬ VOk v) := fun hV => by
                    have h1 := HAD.out.2 hV
                    unfold ahead at h1
                    rw [if_pos hk0] at h1
                    omega
                  clear hk0
                  go_wp2_with fail
                  go_quiet (fail)
                  go_wp2
                  go_ret
                  rw [HYN.out.2 (HE.out)]
                  exact ⟨ret1 rfl, H5.out.2.1.trans ⟨rfl, rfl, rfl, Nat.le_refl _, fun _ _ => rfl⟩⟩
                · have hqI : ¬ (g.num : Int) ≤ (f.num : Int) := by omega
                  have HCK : Hid (Ck v k (i + 1)) := HAD.out.1 (by unfold ahead; rw [if_pos hk0]; omega)
                  clear hk0
                  go_wp2_with fail
                  go_quiet (fail)
                  go_wp2
                  go_roundw
                  case rel => exact ⟨i + 1, m + 1, a4, c4, hi, by go_num, rfl, HGO.out HCK.out _ ⟨rfl, rfl, rfl, Nat.le_refl _, fun _ _ => rfl⟩⟩
                  case measure => simp only [intOf]; omega
              · have hkb : ((k : Int) == 0) = false := beq_eq_false_iff_ne.2 (by omega)
                have hkg : (0 : Int) < (k : Int) := by omega
                have hkn : 0 < k := by omega
                cases ap
                · have HE : Hid (¬ VOk v) := fun hV => by
                    have h1 := HAD.out.2 hV
                    unfold ahead at h1
                    rw [if_neg hk0] at h1
                    exact of_decide_eq_false HAP.out.symm h1
                  clear hk0
                  go_wp2_with fail
                  go_quiet (fail)
                  go_wp2
                  go_ret
                  rw [HYN.out.2 (HE.out)]
                  exact ⟨ret1 rfl, H5.out.2.1.trans ⟨rfl, rfl, rfl, Nat.le_refl _, fun _ _ => rfl⟩⟩
                · have HCK : Hid (Ck v k (i + 1)) := HAD.out.1 (by unfold ahead; rw [if_neg hk0]; exact of_decide_eq_true HAP.out.symm)
                  clear hk0
                  go_wp2_with fail
                  go_quiet (fail)
                  go_wp2
                  go_roundw
                  case rel => exact ⟨i + 1, m + 1, a4, c4, hi, by go_num, rfl, HGO.out HCK.out _ ⟨rfl, rfl, rfl, Nat.le_refl _, fun _ _ => rfl⟩⟩
                  case measure => simp only [intOf]; omega
        · have hiI : ¬ (i : Int) < ((v k).length : Int) := by omega
          have hie : i = (v k).length := by omega
          have HCK : Hid (OwnU wr (w.heap.size + 1) a m c (accN v (k + 1)) ∧ Ck v (k + 1) 0) := by
            have h1 := HI.out.1
            have h2 := HI.out.2.1
            rw [hie] at h1 h2
            rw [List.take_length, ← accN_succ] at h1
            exact ⟨h1, h2.next⟩
          clear hie
          go_wp2
          go_roundw
          case rel => exact ⟨k + 1, m, a, c, hk, by go_num, rfl, HCK.out.1, HCK.out.2, HI.out.2.2⟩
          case measure => simp only [intOf]; omega
    · obtain rfl : k = 4 := by omega
      have HYE : Hid (cv = 0) := HYN.out.1 HI.out.2.1.done
      go_wp2
      go_ret
      rw [HYE.out]
      exact ⟨ret1 rfl, HI.out.2.2.1⟩
end Go.Proofs.Ytcdfgcjecmpjhaa
/- The contract of the document's own Apply. -/
namespace Go.Proofs.Ytcdfgcjecmpjhaa
open Go.RowKit
set_option linter.unusedVariables false
set_option linter.unusedSimpArgs false
theorem dropF_any (num : Nat) : ∀ l : List PF, decide ((dropF num l).length < l.length) = l.any (fun f => decide (f.num = num))
  | [] => rfl
  | f :: r => by
    have ih := dropF_any num r
    have hle : (dropF num r).length ≤ r.length := List.length_filter_le _ _
    by_cases h : f.num = num
    · have e : dropF num (f :: r) = dropF num r := by simp [dropF, h]
      rw [e, List.any_cons, decide_eq_true h, Bool.true_or, decide_eq_true_iff, List.length_cons]
      omega
    · have e : dropF num (f :: r) = f :: dropF num r := by simp [dropF, h]
      rw [e, List.any_cons, decide_eq_false h, Bool.false_or, ← ih]
      simp
theorem upd_le {u : PV} {n : Nat} (hn : n < 4) {l : List PF} {m : Nat} (h : l.length ≤ (u n).length + m) : (u.upd n l).all.length ≤ u.all.length + m := by
  unfold PV.all
  simp only [List.length_append]
  refine four (P := fun n => l.length ≤ (u n).length + m → (u.upd n l 0).length + ((u.upd n l 1).length + ((u.upd n l 2).length + (u.upd n l 3).length)) ≤ (u 0).length + ((u 1).length + ((u 2).length + (u 3).length)) + m) hn ?_ ?_ ?_ ?_ h
  all_goals intro h
  all_goals simp [PV.upd]
  all_goals omega
/-- What the document's own Apply keeps: the edit, the result's block, and the version that is turned. -/
structure Rs (w : World) (x : PE) (se : SE) (p : Nat) (u : PV) (t : SV) (V : World) : Prop where
  kp : Kp w x se V
  box : Box V p TVn (vA u t)
  own : OwnV V (w.heap.size + 3) u t
  ge : w.heap.size + 3 ≤ p
theorem Rs.later {w V V' : World} {x : PE} {se : SE} {p : Nat} {u : PV} {t : SV} (h : Rs w x se p u t V) (hb : Below V.heap.size V V') : Rs w x se p u t V' := ⟨h.kp.later hb, h.box.kept (hb.block _ h.box.lt), h.own.below hb, h.ge⟩
theorem Rs.big {w V : World} {x : PE} {se : SE} {p : Nat} {u : PV} {t : SV} (h : Rs w x se p u t V) : w.heap.size + 3 ≤ V.heap.size := Nat.le_trans h.ge (Nat.le_of_lt h.box.lt)
theorem Rs.put {w V : World} {x : PE} {se : SE} {p : Nat} {u : PV} {t : SV} (h : Rs w x se p u t V) {n : Nat} (hn : n < 4) {l : List PF} {a : Option Addr} {c : Nat} (ho : OwnF V (w.heap.size + 3) a l.length c l) : Rs w x se p (u.upd n l) (t.upd n a c) (V.setCell ⟨p, n, none⟩ (.slice a l.length c)) := by
  have hc : Chg (fun k => k = p) V (V.setCell ⟨p, n, none⟩ (.slice a l.length c)) := (Chg.refl (fun k => k = p) V).set (fun _ => rfl) _ _
  have hm : ∀ {v : PV} {s : SV}, OwnV V (w.heap.size + 3) v s → OwnV (V.setCell ⟨p, n, none⟩ (.slice a l.length c)) (w.heap.size + 3) v s := fun hv n hn => (hv n hn).kept (fun g hg => hc.block _ (tag_lt ((hv n hn).tag hg)) (fun e => by
    have h1 := (hv n hn).tag hg
    have h2 := h.box.tag
    rw [e, h2] at h1
    exact absurd h1 (by decide)))
  exact ⟨h.kp.turned hc (fun k hk => by have := h.ge; omega), (h.box.set n _).eq (vA_upd u t hn l a c), hm (h.own.upd ho), h.ge⟩
theorem drewN_below (W : World) (q : Nat) : Below W.heap.size W (W.drewN q) := ⟨rfl, rfl, rfl, Nat.le_refl _, fun _ _ => rfl⟩
set_option maxRecDepth 100000 in
set_option maxHeartbeats 16000000 in
theorem rapply_any (v : PV) (s : SV) (x : PE) (se : SE) (w : World) (h : VnAt w v s) (hx : EdAt w x se) (hw : WfV v) (hwx : WfE x) (hn : v.all.length < 60000) :
    Calls Try.prog 12 #[.agg #[.slice (s.a 0) (v 0).length (s.c 0), .slice (s.a 1) (v 1).length (s.c 1), .slice (s.a 2) (v 2).length (s.c 2), .slice (s.a 3) (v 3).length (s.c 3)], .agg #[.int .u64 (x.log : Int), .int .u64 (x.next : Int), .int .u64 (x.last : Int), .slice se.a x.dels.length se.c, .slice se.a' x.adds.length se.c']] w fun e w' => ∃ t : SV, e = .returned (.tuple #[.agg #[.slice (t.a 0) ((applyV v x).2 0).length (t.c 0), .slice (t.a 1) ((applyV v x).2 1).length (t.c 1), .slice (t.a 2) ((applyV v x).2 2).length (t.c 2), .slice (t.a 3) ((applyV v x).2 3).length (t.c 3)], .int .i64 (((applyV v x).1 : Nat) : Int)]) ∧ OwnV w' w.heap.size (applyV v x).2 t ∧ Below w.heap.size w w' := by
  have HRV : Hid (ResV v x (applyV v x)) := resV v x
  generalize applyV v x = res at HRV ⊢
  obtain ⟨W1, e1, HW⟩ : ∃ W1, W1 = ((w.alloc (.cells (vA v s) TVn)).alloc (.cells (eA x se) TE)).alloc (.cells #[.slice none 0 0, .slice none 0 0, .slice none 0 0, .slice none 0 0] TVn) ∧ Hid (Kp w x se W1 ∧ Box W1 w.heap.size TVn (vA v s) ∧ W1.heap.size = w.heap.size + 3) := by
    have hb : Below w.heap.size w (((w.alloc (.cells (vA v s) TVn)).alloc (.cells (eA x se) TE)).alloc (.cells #[.slice none 0 0, .slice none 0 0, .slice none 0 0, .slice none 0 0] TVn)) := (((Below.refl _ _).alloc (Nat.le_refl _) _).alloc (by simp) _).alloc (by simp; omega) _
    have b1 : Box (((w.alloc (.cells (vA v s) TVn)).alloc (.cells (eA x se) TE)).alloc (.cells #[.slice none 0 0, .slice none 0 0, .slice none 0 0, .slice none 0 0] TVn)) (w.heap.size + 1) TE (eA x se) := by
      have := Box.new (w.alloc (.cells (vA v s) TVn)) TE (eA x se)
      rw [World.size_alloc] at this
      exact this.alloc _
    have b2 : Box (((w.alloc (.cells (vA v s) TVn)).alloc (.cells (eA x se) TE)).alloc (.cells #[.slice none 0 0, .slice none 0 0, .slice none 0 0, .slice none 0 0] TVn)) (w.heap.size + 2) TVn #[.slice none 0 0, .slice none 0 0, .slice none 0 0, .slice none 0 0] := by
      have := Box.new ((w.alloc (.cells (vA v s) TVn)).alloc (.cells (eA x se) TE)) TVn #[.slice none 0 0, .slice none 0 0, .slice none 0 0, .slice none 0 0]
      rw [World.size_alloc, World.size_alloc] at this
      exact this
    exact ⟨_, rfl, ⟨hb, b1, b2⟩, ((Box.new w _ _).alloc _).alloc _, by simp⟩
  have HV : Hid (VnAt w v s ∧ EdAt w x se ∧ WfV v ∧ WfE x ∧ v.all.length < 60000) := ⟨h, hx, hw, hwx, hn⟩
  have HCK : Hid (∀ W, Below w.heap.size w W → Calls Try.prog 15 #[.agg #[.slice (s.a 0) (v 0).length (s.c 0), .slice (s.a 1) (v 1).length (s.c 1), .slice (s.a 2) (v 2).length (s.c 2), .slice (s.a 3) (v 3).length (s.c 3)]] W fun e w' => e = .returned (.int .i64 ((chkV v : Nat) : Int)) ∧ Below W.heap.size W w') := fun W hb => rvcheck_any v s W (HV.out.1.below hb) HV.out.2.2.1 (by have := HV.out.2.2.2.2; omega)
  have HEC : Hid (∀ W, Below w.heap.size w W → Calls Try.prog 30 #[.agg #[.int .u64 (x.log : Int), .int .u64 (x.next : Int), .int .u64 (x.last : Int), .slice se.a x.dels.length se.c, .slice se.a' x.adds.length se.c']] W fun e w' => e = .returned (.int .i64 ((x.err : Nat) : Int)) ∧ Below W.heap.size W w') := fun W hb => recheck_any x se W (HV.out.2.1.below hb) HV.out.2.2.2.1
  have hck : Calls Try.prog 15 #[.agg #[.slice (s.a 0) (v 0).length (s.c 0), .slice (s.a 1) (v 1).length (s.c 1), .slice (s.a 2) (v 2).length (s.c 2), .slice (s.a 3) (v 3).length (s.c 3)]] (((w.alloc (.cells (vA v s) TVn)).alloc (.cells (eA x se) TE)).alloc (.cells #[.slice none 0 0, .slice none 0 0, .slice none 0 0, .slice none 0 0] TVn)) fun e w' => e = .returned (.int .i64 ((chkV v : Nat) : Int)) ∧ Below W1.heap.size W1 w' := by
    rw [← e1]
    exact HCK.out W1 HW.out.1.below
  clear h hx hw hwx hn e1
  go_enter Try.func12, Try.ntmps12
  go_wp2_with fail
  refine hck.mono ?_
  rintro _ w2 ⟨rfl, hb2⟩
  have H2 : Hid (Kp w x se w2 ∧ Box w2 w.heap.size TVn (vA v s) ∧ w.heap.size + 3 ≤ w2.heap.size) := ⟨HW.out.1.later hb2, HW.out.2.1.kept (hb2.block _ HW.out.2.1.lt), Nat.le_trans (Nat.le_of_eq HW.out.2.2.symm) hb2.size⟩
  clear hck hb2 HW HCK
  by_cases hV : VOk v
  · rw [chkV_yes hV]
    have HVO : Hid (VOk v) := hV
    clear hV
    obtain ⟨d0, d1, d2, d3, d4⟩ := H2.out.1.ed.five
    go_wp2_with fail
    refine (HEC.out _ H2.out.1.below).mono ?_
    rintro _ w3 ⟨rfl, hb3⟩
    have H3 : Hid (Kp w x se w3 ∧ Box w3 w.heap.size TVn (vA v s) ∧ w.heap.size + 3 ≤ w3.heap.size) := ⟨H2.out.1.later hb3, H2.out.2.1.kept (hb3.block _ H2.out.2.1.lt), Nat.le_trans H2.out.2.2 hb3.size⟩
    clear hb3 H2 d0 d1 d2 d3 d4 HEC
    by_cases hE : x.err = 0
    · rw [hE]
      have HEO : Hid (x.err = 0) := hE
      clear hE
      obtain ⟨q0, q1, q2, q3⟩ := H3.out.2.1.fourV
      have HGS : Hid (GsAt w se.a x.dels.length se.c x.dels ∧ ∀ d ∈ x.dels, d.err = 0) := by
        obtain ⟨_, _, _, _, _, hde, _⟩ := PE.err_zero HEO.out
        exact ⟨HV.out.2.1.gs, hde⟩
      have HFS : Hid (FlAt w se.a' x.adds.length se.c' x.adds ∧ ∀ f ∈ x.adds, f.err = 0) := by
        obtain ⟨_, _, _, _, _, _, hfe⟩ := PE.err_zero HEO.out
        exact ⟨HV.out.2.1.fs, hfe⟩
      have hal : x.adds.length ≤ 100 := by
        obtain ⟨_, h2, _, _, _, _, _⟩ := PE.err_zero HEO.out
        exact h2
      have hgm := HGS.out.1.row.max
      have hgl := HGS.out.1.row.le
      have hfle := HFS.out.1.row.le
      unfold maxLen at hgm
      go_wp2_with fail
      refine (rown_any v s w3 (HV.out.1.below H3.out.1.below) (by have := HV.out.2.2.2.2; omega)).mono ?_
      rintro _ w4 ⟨t0, rfl, ho4, hb4⟩
      obtain ⟨W5, e5, H5⟩ : ∃ W5, W5 = w4.alloc (.cells #[.slice (t0.a 0) (v 0).length (t0.c 0), .slice (t0.a 1) (v 1).length (t0.c 1), .slice (t0.a 2) (v 2).length (t0.c 2), .slice (t0.a 3) (v 3).length (t0.c 3)] TVn) ∧ Hid (Rs w x se w4.heap.size v t0 W5) := by
        have hb : Below w4.heap.size w4 (w4.alloc (.cells (vA v t0) TVn)) := (Below.refl _ _).alloc (Nat.le_refl _) _
        exact ⟨_, rfl, (H3.out.1.later hb4).later hb, Box.new _ _ _, fun n hn => ((ho4 n hn).below hb).less H3.out.2.2, Nat.le_trans H3.out.2.2 hb4.size⟩
      go_upto_region 7 with fail
      rw [← e5]
      clear q0 q1 q2 q3 ho4 hb4 H3
      generalize w4.heap.size = p7 at H5 ⊢
      clear e5
      have HC : Hid True := trivial
      go_wp2_with fail
      go_loopw [8] (fun s8 wr => ∃ (i : Nat) (u : PV) (t : SV), i ≤ x.dels.length ∧ s8 = .int .i64 (i : Int) ∧ Hid (Rs w x se p7 u t wr ∧ VOk u ∧ u.all.length ≤ v.all.length ∧ delsV v x.dels = delsV u (x.dels.drop i))) (fun s8 _ => x.dels.length - (intOf s8).toNat)
      case atStart => exact ⟨0, v, t0, Nat.zero_le _, rfl, H5.out, HVO.out, Nat.le_refl _, rfl⟩
      case round =>
        obtain ⟨i, u, t, hin, rfl, HI⟩ := hrel
        clear H5
        have d3 := HI.out.1.kp.ed.five.2.2.2.1
        by_cases hi : i < x.dels.length
        · have hiI : (i : Int) < (x.dels.length : Int) := by omega
          obtain ⟨gb, go, hix, hglt, hcs⟩ := HGS.out.1.at hi
          have HCS : Hid (∀ W : World, Below w.heap.size w W → W.cell? ⟨gb, go, none⟩ = some (.int .i64 x.dels[i].level) ∧ W.cell? ⟨gb, go + 1, none⟩ = some (.int .u64 (x.dels[i].num : Int))) := hcs
          have HD : Hid ((x.dels[i]).err = 0 ∧ ∀ u, delsV u (x.dels.drop i) = (delV u x.dels[i]).bind fun u' => delsV u' (x.dels.drop (i + 1))) := ⟨HGS.out.2 _ (List.getElem_mem _), fun u => dels_step hi⟩
          clear hcs
          generalize x.dels[i] = d at HCS HD
          obtain ⟨n, hn4, HN⟩ : ∃ n : Nat, n < 4 ∧ Hid (d.level = (n : Int) ∧ d.level.toNat = n) := ⟨d.level.toNat, (lev_nat' HD.out.1).1, (lev_nat' HD.out.1).2, rfl⟩
          have HS : Hid (∀ V : World, Below wr.heap.size wr V → V.cell? ⟨p7, n, none⟩ = some (.slice (t.a n) (u n).length (t.c n)) ∧ V.cell? ⟨w.heap.size + 1, 3, none⟩ = some (.slice se.a x.dels.length se.c) ∧ V.cell? ⟨gb, go, none⟩ = some (.int .i64 (n : Int)) ∧ V.cell? ⟨gb, go + 1, none⟩ = some (.int .u64 (d.num : Int))) := fun V hV => by
            have h1 := HI.out.1.later hV
            have h2 := HCS.out V h1.kp.below
            exact ⟨h1.box.level hn4, h1.kp.ed.five.2.2.2.1, by rw [← HN.out.1]; exact h2.1, h2.2⟩
          have hx := idxL_arr p7 n hn4
          have hun : (u n).length < 65536 := by
            have h1 := all_le u hn4
            have h2 := HI.out.2.2.1
            have h3 := HV.out.2.2.2.2
            omega
          have HAP : Hid (∀ V : World, Below wr.heap.size wr V → Calls Try.prog 31 #[.slice (t.a n) (u n).length (t.c n), .int .u64 (d.num : Int)] V fun e w' => ∃ (a' : Option Addr) (c' : Nat), e = .returned (.tuple #[.slice a' (dropF d.num (u n)).length c', .bool (decide ((dropF d.num (u n)).length < (u n).length))]) ∧ Hid (OwnF w' V.heap.size a' (dropF d.num (u n)).length c' (dropF d.num (u n))) ∧ Below V.heap.size V w') := fun V hV => without_any d.num (u n) (t.a n) (u n).length (t.c n) V ((HI.out.1.later hV).own n hn4).fs hun
          rw [dropF_any] at HAP
          obtain ⟨bq, HBQ⟩ : ∃ bq : Bool, Hid (bq = (u n).any (fun f => decide (f.num = d.num))) := ⟨_, rfl⟩
          rw [← HBQ.out] at HAP
          obtain ⟨dl, HDL⟩ : ∃ dl : List PF, Hid (dl = dropF d.num (u n)) := ⟨_, rfl⟩
          rw [← HDL.out] at HAP
          obtain ⟨z0, z1, z2, z3⟩ := HS.out wr (Below.refl _ _)
          go_upto_region 11 with fail
          clear z0 z1 z2 z3
          have HD0 : Hid (Below wr.heap.size wr wr.drew) := (Below.refl _ _).drew
          obtain ⟨z0, z1, z2, z3⟩ := HS.out _ HD0.out
          go_region_held3 (fun V => V.cell? ⟨p7, n, none⟩ = some (.slice (t.a n) (u n).length (t.c n)) ∧ V.cell? ⟨w.heap.size + 1, 3, none⟩ = some (.slice se.a x.dels.length se.c) ∧ V.cell? ⟨gb, go, none⟩ = some (.int .i64 (n : Int)) ∧ V.cell? ⟨gb, go + 1, none⟩ = some (.int .u64 (d.num : Int))) (first | with_reducible exact ⟨z0, z1, z2, z3⟩ | go_keep)
            (first
              | (go_at_call 31; (with_reducible refine (HAP.out _ HD0.out).mono ?_); rintro _ vx ⟨a2, c2, rfl, HO, hvx⟩; have HY : Hid (Below wr.heap.size wr vx) := HD0.out.trans (hvx.mono (Nat.le_refl _)); clear hvx z0 z1 z2 z3; obtain ⟨z0, z1, z2, z3⟩ := HS.out _ HY.out))
          have H6 : Hid (Rs w x se p7 u t vx ∧ OwnF vx (w.heap.size + 3) a2 dl.length c2 dl) := ⟨HI.out.1.later HY.out, HO.out.less (Nat.le_trans HI.out.1.big HD0.out.size)⟩
          clear HO HAP HS z0 z1 z2 z3
          cases bq
          · have HEQ : Hid (res = (141, noV)) := HRV.out.gone HVO.out HEO.out (by
              rw [HI.out.2.2.2, HD.out.2 u]
              unfold delV
              rw [HN.out.2, ← HBQ.out]
              rfl)
            obtain ⟨Z, eZ, z0, z1, z2, z3, HZ⟩ := H6.out.1.kp.back (.slice none 0 0) (.slice none 0 0) (.slice none 0 0) (.slice none 0 0)
            obtain ⟨r0, r1, r2, r3⟩ := (show Box vx (w.heap.size + 1 + 1) TVn (vA noV sv0) from H6.out.1.kp.res).fourV
            have rs : ∀ j, vx.frozen? ⟨w.heap.size + 1 + 1, j, none⟩ = false := fun j => H6.out.1.kp.res.soft j
            have HF : Hid (Below w.heap.size w Z) := H6.out.1.kp.below.trans (HZ.out.below (fun k hk => by omega) H6.out.1.kp.below.size)
            go_wp2
            rw [← eZ]
            refine bodyPost_ret (v := .tuple #[.agg #[.slice none 0 0, .slice none 0 0, .slice none 0 0, .slice none 0 0], .int .i64 141]) (by simp [results, Try.results12, go_sem, z0, z1, z2, z3]) rfl ?_
            rw [HEQ.out]
            exact ⟨sv0, rfl, OwnV.none _ _, HF.out⟩
          · have HU : Hid (VOk (u.upd n dl) ∧ (u.upd n dl).all.length ≤ v.all.length ∧ delsV v x.dels = delsV (u.upd n dl) (x.dels.drop (i + 1))) := by
              refine ⟨?_, ?_, ?_⟩
              · rw [HDL.out]
                exact HI.out.2.1.del n d.num
              · have h1 := upd_le (u := u) (l := dl) (m := 0) hn4 (by rw [HDL.out]; exact List.length_filter_le _ _)
                have h2 := HI.out.2.2.1
                omega
              · rw [HI.out.2.2.2, HD.out.2 u]
                unfold delV
                rw [HN.out.2, ← HBQ.out, ← HDL.out]
                rfl
            have cf := H6.out.1.box.soft n
            have cl := H6.out.1.box.level hn4
            go_wp2
            go_roundw
            case rel => exact ⟨i + 1, u.upd n dl, t.upd n a2 c2, hi, by go_num, H6.out.1.put hn4 H6.out.2, HU.out⟩
            case measure => simp only [intOf]; omega
        · have hiI : ¬ (i : Int) < (x.dels.length : Int) := by omega
          have HA0 : Hid (Rs w x se p7 u t wr ∧ VOk u ∧ u.all.length ≤ v.all.length ∧ res = addsV u x.adds) := ⟨HI.out.1, HI.out.2.1, HI.out.2.2.1, HRV.out.adds HVO.out HEO.out u (by rw [HI.out.2.2.2, List.drop_of_length_le (by omega)]; rfl)⟩
          clear HI
          go_upto_region 15 with fail
          clear d3 hiI
          go_wp2_with fail
          go_loopw [12] (fun s12 wr => ∃ (i : Nat) (u : PV) (t : SV), i ≤ x.adds.length ∧ s12 = .int .i64 (i : Int) ∧ Hid (Rs w x se p7 u t wr ∧ VOk u ∧ u.all.length ≤ v.all.length + i ∧ res = addsV u (x.adds.drop i))) (fun s12 _ => x.adds.length - (intOf s12).toNat)
          case atStart => exact ⟨0, u, t, Nat.zero_le _, rfl, HA0.out⟩
          case round =>
            clear HA0 hin hi
            obtain ⟨i, u, t, hin, rfl, HI⟩ := hrel
            have d4 := HI.out.1.kp.ed.five.2.2.2.2
            by_cases hi : i < x.adds.length
            · have hiI : (i : Int) < (x.adds.length : Int) := by omega
              obtain ⟨gb, go, hix, hglt, hcs⟩ := HFS.out.1.at hi
              obtain ⟨y0, y1, y2, y3, y4, y5, y6, y7, y8⟩ := hcs wr HI.out.1.kp.below
              have HD : Hid ((x.adds[i]).err = 0 ∧ addsV u (x.adds.drop i) = if addE u x.adds[i] ≠ 0 then (addE u x.adds[i], noV) else addsV (addV u x.adds[i]) (x.adds.drop (i + 1))) := ⟨HFS.out.2 _ (List.getElem_mem _), adds_step hi⟩
              clear hcs
              generalize x.adds[i] = f at y0 y1 y2 y3 y4 y5 y6 y7 y8 HD
              obtain ⟨n, hn4, HN⟩ : ∃ n : Nat, n < 4 ∧ Hid (f.level = (n : Int) ∧ f.level.toNat = n) := ⟨f.level.toNat, (lev_nat HD.out.1).1, (lev_nat HD.out.1).2, rfl⟩
              have hul : u.all.length < 65536 := by
                have h2 := HI.out.2.2.1
                have h3 := HV.out.2.2.2.2
                have h4 := HFS.out.2
                have h5 := hal
                omega
              obtain ⟨W1, eW, HW1⟩ : ∃ W1, W1 = wr.alloc (.cells #[.int .i64 f.level, .int .u64 (f.num : Int), .int .i64 f.size, .string f.small.user, .int .u64 (f.small.seq : Int), .int .i64 f.small.kind, .string f.large.user, .int .u64 (f.large.seq : Int), .int .i64 f.large.kind] TF) ∧ Hid (Rs w x se p7 u t W1 ∧ Box W1 wr.heap.size TF (fA f) ∧ w.heap.size + 3 ≤ wr.heap.size ∧ p7 < wr.heap.size) := ⟨_, rfl, HI.out.1.later ((Below.refl _ _).alloc (Nat.le_refl _) _), Box.new _ _ _, HI.out.1.big, HI.out.1.box.lt⟩
              have HR : Hid (VOk u ∧ u.all.length ≤ v.all.length + i ∧ res = addsV u (x.adds.drop i)) := HI.out.2
              go_upto_region 19 with fail
              rw [← eW]
              clear y0 y1 y2 y3 y4 y5 y6 y7 y8 hix hglt d4
              generalize wr.heap.size = p13 at HW1 ⊢
              clear eW HI
              have HT : Hid (∀ V, Below W1.heap.size W1 V → Rs w x se p7 u t V ∧ Box V p13 TF (fA f)) := fun V hV => ⟨HW1.out.1.later hV, HW1.out.2.1.kept (hV.block _ HW1.out.2.1.lt)⟩
              go_wp2_with fail
              go_loopw [14] (fun s14 wr => ∃ k : Nat, k ≤ 4 ∧ s14 = .int .i64 (k : Int) ∧ Hid (Below W1.heap.size W1 wr ∧ ∀ q, q < k → ∀ g ∈ u q, g.num ≠ f.num)) (fun s14 _ => 4 - (intOf s14).toNat)
              case atStart => exact ⟨0, by omega, rfl, Below.refl _ _, fun q hq => by omega⟩
              case round =>
                obtain ⟨k, hk4, rfl, HI⟩ := hrel
                by_cases hk : k < 4
                · have hkI : (k : Int) < 4 := by omega
                  have hxk := idxL_arr p7 k hk
                  have huk : (u k).length < 65536 := Nat.lt_of_le_of_lt (all_le u hk) hul
                  go_wp2_with fail
                  go_loopw [15] (fun s15 wr => ∃ j : Nat, j ≤ (u k).length ∧ s15 = .int .i64 (j : Int) ∧ Hid (Below W1.heap.size W1 wr ∧ (∀ q, q < k → ∀ g ∈ u q, g.num ≠ f.num) ∧ ∀ q (hq : q < (u k).length), q < j → ((u k)[q]).num ≠ f.num)) (fun s15 _ => (u k).length - (intOf s15).toNat)
                  case atStart => exact ⟨0, Nat.zero_le _, rfl, HI.out.1, HI.out.2, fun q _ hq => by omega⟩
                  case round =>
                    clear HI
                    obtain ⟨j, hjm, rfl, HJ⟩ := hrel
                    have hcell := (HT.out wr HJ.out.1).1.box.level hk
                    have x1 := (HT.out wr HJ.out.1).2.nine.c1
                    rw [Nat.zero_add] at x1
                    by_cases hj : j < (u k).length
                    · have hjI : (j : Int) < ((u k).length : Int) := by omega
                      obtain ⟨b2, o2, hix, hblt2, hcs⟩ := ((HT.out wr HJ.out.1).1.own k hk).fs.at hj
                      have y1 := (hcs wr (Below.refl _ _)).c1
                      have HNN : Hid ((((u k)[j]).num = f.num → ∃ g ∈ u.all, g.num = f.num) ∧ (((u k)[j]).num ≠ f.num → ∀ q (hq : q < (u k).length), q < j + 1 → ((u k)[q]).num ≠ f.num)) := by
                        refine ⟨fun e => ⟨_, mem_all.2 ⟨k, hk, List.getElem_mem hj⟩, e⟩, fun e q hq hqj => ?_⟩
                        rcases Nat.lt_succ_iff_lt_or_eq.1 hqj with h1 | rfl
                        · exact HJ.out.2.2 q hq h1
                        · exact e
                      clear hcs
                      generalize (u k)[j] = g at y1 HNN
                      by_cases hq : g.num = f.num
                      · have hqb : ((g.num : Int) == (f.num : Int)) = true := by simp [hq]
                        have HEQ : Hid (res = (142, noV)) := by
                          obtain ⟨g2, hg2, e2⟩ := HNN.out.1 hq
                          have h1 : addE u f = 142 := by
                            unfold addE
                            rw [if_pos (List.any_eq_true.2 ⟨g2, hg2, decide_eq_true e2⟩)]
                          unfold Hid
                          rw [HR.out.2.2, HD.out.2, h1]
                          rfl
                        clear hq
                        go_wp2_with fail
                        go_quiet (fail)
                        have HK : Hid (Kp w x se (wr.drewN nq)) := (HT.out wr HJ.out.1).1.kp.later (drewN_below _ _)
                        clear hcell x1 y1
                        generalize wr.drewN nq = W9 at HK ⊢
                        obtain ⟨Z, eZ, z0, z1, z2, z3, HZ⟩ := HK.out.back (.slice none 0 0) (.slice none 0 0) (.slice none 0 0) (.slice none 0 0)
                        obtain ⟨r0, r1, r2, r3⟩ := (show Box W9 (w.heap.size + 1 + 1) TVn (vA noV sv0) from HK.out.res).fourV
                        have rs : ∀ j, W9.frozen? ⟨w.heap.size + 1 + 1, j, none⟩ = false := fun j => HK.out.res.soft j
                        have HF : Hid (Below w.heap.size w Z) := HK.out.below.trans (HZ.out.below (fun k hk => by omega) HK.out.below.size)
                        go_wp2
                        rw [← eZ]
                        refine bodyPost_ret (v := .tuple #[.agg #[.slice none 0 0, .slice none 0 0, .slice none 0 0, .slice none 0 0], .int .i64 142]) (by simp [results, Try.results12, go_sem, z0, z1, z2, z3]) rfl ?_
                        rw [HEQ.out]
                        exact ⟨sv0, rfl, OwnV.none _ _, HF.out⟩
                      · have hqb : ((g.num : Int) == (f.num : Int)) = false := beq_eq_false_iff_ne.2 (by omega)
                        have HQ : Hid (g.num ≠ f.num) := hq
                        clear hq
                        go_wp2_with fail
                        go_quiet (fail)
                        go_wp2
                        go_roundw
                        case rel => exact ⟨j + 1, hj, by go_num, HJ.out.1.trans ((drewN_below _ _).mono HJ.out.1.size), HJ.out.2.1, HNN.out.2 HQ.out⟩
                        case measure => simp only [intOf]; omega
                    · have hjI : ¬ (j : Int) < ((u k).length : Int) := by omega
                      have HNX : Hid (∀ q, q < k + 1 → ∀ g ∈ u q, g.num ≠ f.num) := fun q hq g hg => by
                        rcases Nat.lt_succ_iff_lt_or_eq.1 hq with h1 | rfl
                        · exact HJ.out.2.1 q h1 g hg
                        · obtain ⟨y, hy, rfl⟩ := List.getElem_of_mem hg
                          exact HJ.out.2.2 y hy (by omega)
                      go_wp2
                      go_roundw
                      case rel => exact ⟨k + 1, hk, by go_num, HJ.out.1, HNX.out⟩
                      case measure => simp only [intOf]; omega
                · have hkI : ¬ (k : Int) < 4 := by omega
                  have HNEW : Hid (Below W1.heap.size W1 wr ∧ ∀ g ∈ u.all, g.num ≠ f.num) := ⟨HI.out.1, fun g hg => by
                    obtain ⟨q, hq, hg2⟩ := mem_all.1 hg
                    exact HI.out.2 q (by omega) g hg2⟩
                  clear HI
                  go_upto_region 27 with fail
                  clear hkI hk hk4
                  have hx := idxL_arr p7 n hn4
                  have hun : (u n).length < 65536 := Nat.lt_of_le_of_lt (all_le u hn4) hul
                  go_wp2_with fail
                  go_loopw [16] (fun s16 wr => ∃ j : Nat, j ≤ (u n).length ∧ s16 = .int .i64 (j : Int) ∧ Hid (Below W1.heap.size W1 wr ∧ (0 < n → ∀ q (hq : q < (u n).length), q < j → hasU (u n)[q] f.small.user f.large.user = false))) (fun s16 _ => (u n).length - (intOf s16).toNat)
                  case atStart => exact ⟨0, Nat.zero_le _, rfl, HNEW.out.1, fun _ q _ hq => by omega⟩
                  case round =>
                    obtain ⟨j, hjm, rfl, HJ⟩ := hrel
                    have hcell := (HT.out wr HJ.out.1).1.box.level hn4
                    obtain ⟨x0, x1, x2, x3, x4, x5, x6, x7, x8⟩ := (HT.out wr HJ.out.1).2.nine
                    simp only [Nat.zero_add] at x1 x2 x3 x4 x5 x6 x7 x8
                    rw [HN.out.1] at x0
                    by_cases hj : j < (u n).length
                    · have hjI : (j : Int) < ((u n).length : Int) := by omega
                      obtain ⟨b2, o2, hix, hblt2, hcs⟩ := ((HT.out wr HJ.out.1).1.own n hn4).fs.at hj
                      have HNN : Hid ((hasU (u n)[j] f.small.user f.large.user = true → 0 < n → addE u f = 143) ∧ ((0 < n → hasU (u n)[j] f.small.user f.large.user = false) → 0 < n → ∀ q (hq : q < (u n).length), q < j + 1 → hasU (u n)[q] f.small.user f.large.user = false)) := by
                        refine ⟨fun e h0 => ?_, fun e h0 q hq hqj => ?_⟩
                        · unfold addE
                          have h1 : ¬ (u.all.any (fun g => decide (g.num = f.num))) = true := fun ha => by
                            obtain ⟨g, hg, e2⟩ := List.any_eq_true.1 ha
                            exact HNEW.out.2 g hg (of_decide_eq_true e2)
                          rw [if_neg h1, if_pos ⟨by rw [HN.out.1]; omega, by rw [HN.out.2]; exact List.any_eq_true.2 ⟨_, List.getElem_mem hj, e⟩⟩]
                        · rcases Nat.lt_succ_iff_lt_or_eq.1 hqj with h1 | rfl
                          · exact HJ.out.2 h0 q hq h1
                          · exact e h0
                      go_upto_region 30 with fail
                      clear x0 x1 x2 x3 x4 x5 x6 x7 x8 hcell
                      have HGC : Hid (∀ W : World, Below wr.heap.size wr W → F9 W b2 o2 (u n)[j]) := hcs
                      clear hcs
                      generalize (u n)[j] = g at HGC HNN
                      obtain ⟨hv, HHV⟩ : ∃ hv : Bool, Hid (hv = hasU g f.small.user f.large.user) := ⟨_, rfl⟩
                      have HC2 : Hid (∀ W : World, Calls Try.prog 32 #[.agg #[.int .i64 g.level, .int .u64 (g.num : Int), .int .i64 g.size, .string g.small.user, .int .u64 (g.small.seq : Int), .int .i64 g.small.kind, .string g.large.user, .int .u64 (g.large.seq : Int), .int .i64 g.large.kind], .string f.small.user, .string f.large.user] W fun e w' => e = .returned (.bool hv) ∧ Below W.heap.size W w') := fun W => by rw [HHV.out]; exact rhas_any g f.small.user f.large.user W
                      have HS : Hid (∀ V : World, Below wr.heap.size wr V → V.cell? ⟨p13, 0, none⟩ = some (.int .i64 (n : Int)) ∧ V.cell? ⟨p13, 3, none⟩ = some (.string f.small.user) ∧ V.cell? ⟨p13, 6, none⟩ = some (.string f.large.user) ∧ V.cell? ⟨p7, n, none⟩ = some (.slice (t.a n) (u n).length (t.c n)) ∧ V.cell? ⟨b2, o2, none⟩ = some (.int .i64 g.level) ∧ V.cell? ⟨b2, o2 + 1, none⟩ = some (.int .u64 (g.num : Int)) ∧ V.cell? ⟨b2, o2 + 2, none⟩ = some (.int .i64 g.size) ∧ V.cell? ⟨b2, o2 + 3, none⟩ = some (.string g.small.user) ∧ V.cell? ⟨b2, o2 + 4, none⟩ = some (.int .u64 (g.small.seq : Int)) ∧ V.cell? ⟨b2, o2 + 5, none⟩ = some (.int .i64 g.small.kind) ∧ V.cell? ⟨b2, o2 + 6, none⟩ = some (.string g.large.user) ∧ V.cell? ⟨b2, o2 + 7, none⟩ = some (.int .u64 (g.large.seq : Int)) ∧ V.cell? ⟨b2, o2 + 8, none⟩ = some (.int .i64 g.large.kind)) := fun V hV => by
                        have h1 := HT.out V (HJ.out.1.trans (hV.mono HJ.out.1.size))
                        have h2 := h1.2.nine
                        have h3 := HGC.out V hV
                        exact ⟨by rw [← HN.out.1]; exact h2.c0, by simpa using h2.c3, by simpa using h2.c6, h1.1.box.level hn4, h3.c0, h3.c1, h3.c2, h3.c3, h3.c4, h3.c5, h3.c6, h3.c7, h3.c8⟩
                      have HD0 : Hid (Below wr.heap.size wr wr.drew) := (Below.refl _ _).drew
                      obtain ⟨z0, z1, z2, z3, z4, z5, z6, z7, z8, z9, z10, z11, z12⟩ := HS.out _ HD0.out
                      refine wp_region_held_drew (S := fun V => V.cell? ⟨p13, 0, none⟩ = some (.int .i64 (n : Int)) ∧ V.cell? ⟨p13, 3, none⟩ = some (.string f.small.user) ∧ V.cell? ⟨p13, 6, none⟩ = some (.string f.large.user) ∧ V.cell? ⟨p7, n, none⟩ = some (.slice (t.a n) (u n).length (t.c n)) ∧ V.cell? ⟨b2, o2, none⟩ = some (.int .i64 g.level) ∧ V.cell? ⟨b2, o2 + 1, none⟩ = some (.int .u64 (g.num : Int)) ∧ V.cell? ⟨b2, o2 + 2, none⟩ = some (.int .i64 g.size) ∧ V.cell? ⟨b2, o2 + 3, none⟩ = some (.string g.small.user) ∧ V.cell? ⟨b2, o2 + 4, none⟩ = some (.int .u64 (g.small.seq : Int)) ∧ V.cell? ⟨b2, o2 + 5, none⟩ = some (.int .i64 g.small.kind) ∧ V.cell? ⟨b2, o2 + 6, none⟩ = some (.string g.large.user) ∧ V.cell? ⟨b2, o2 + 7, none⟩ = some (.int .u64 (g.large.seq : Int)) ∧ V.cell? ⟨b2, o2 + 8, none⟩ = some (.int .i64 g.large.kind)) (by kernel_rfl) ⟨z0, z1, z2, z3, z4, z5, z6, z7, z8, z9, z10, z11, z12⟩ (fun hHeld => ?_)
                      refine wpAnyH_take (i := 0) (v := ?_) rfl (by kernel_rfl) (by kernel_rfl) (by kernel_rfl) (fun _ _ _ h => h) (Or.inl ⟨by rfl, ?_⟩) hHeld ?_
                      rotate_left
                      · intro w hSw
                        try dsimp only at hSw
                        go_simp
                        try with_reducible rfl
                      try simp only [Act.put, List.getElem_toArray, List.getElem_cons_succ, List.getElem_cons_zero, Array.getInternal_eq_getElem, List.setIfInBounds_toArray, List.set_cons_zero, List.set_cons_succ]
                      refine wpAnyH_take (i := 1) (v := ?_) rfl (by kernel_rfl) (by kernel_rfl) (by kernel_rfl) (fun _ _ _ h => h) (Or.inl ⟨by rfl, ?_⟩) hHeld ?_
                      rotate_left
                      · intro w hSw
                        try dsimp only at hSw
                        go_simp
                        try with_reducible rfl
                      try simp only [Act.put, List.getElem_toArray, List.getElem_cons_succ, List.getElem_cons_zero, Array.getInternal_eq_getElem, List.setIfInBounds_toArray, List.set_cons_zero, List.set_cons_succ]
                      refine wpAnyH_take (i := 2) (v := ?_) rfl (by kernel_rfl) (by kernel_rfl) (by kernel_rfl) (fun _ _ _ h => h) (Or.inl ⟨by rfl, ?_⟩) hHeld ?_
                      rotate_left
                      · intro w hSw
                        try dsimp only at hSw
                        go_simp
                        try with_reducible rfl
                      try simp only [Act.put, List.getElem_toArray, List.getElem_cons_succ, List.getElem_cons_zero, Array.getInternal_eq_getElem, List.setIfInBounds_toArray, List.set_cons_zero, List.set_cons_succ]
                      refine wpAnyH_take (i := 3) (v := ?_) rfl (by kernel_rfl) (by kernel_rfl) (by kernel_rfl) (fun _ _ _ h => h) (Or.inl ⟨by rfl, ?_⟩) hHeld ?_
                      rotate_left
                      · intro w hSw
                        try dsimp only at hSw
                        go_simp
                        try with_reducible rfl
                      try simp only [Act.put, List.getElem_toArray, List.getElem_cons_succ, List.getElem_cons_zero, Array.getInternal_eq_getElem, List.setIfInBounds_toArray, List.set_cons_zero, List.set_cons_succ]
                      refine wpAnyH_take (i := 4) (v := ?_) rfl (by kernel_rfl) (by kernel_rfl) (by kernel_rfl) (fun _ _ _ h => h) (Or.inl ⟨by rfl, ?_⟩) hHeld ?_
                      rotate_left
                      · intro w hSw
                        try dsimp only at hSw
                        go_simp
                        try with_reducible rfl
                      try simp only [Act.put, List.getElem_toArray, List.getElem_cons_succ, List.getElem_cons_zero, Array.getInternal_eq_getElem, List.setIfInBounds_toArray, List.set_cons_zero, List.set_cons_succ]
                      refine wpAnyH_take (i := 5) (v := ?_) rfl (by kernel_rfl) (by kernel_rfl) (by kernel_rfl) (fun _ _ _ h => h) (Or.inl ⟨by rfl, ?_⟩) hHeld ?_
                      rotate_left
                      · intro w hSw
                        try dsimp only at hSw
                        go_simp
                        try with_reducible rfl
                      try simp only [Act.put, List.getElem_toArray, List.getElem_cons_succ, List.getElem_cons_zero, Array.getInternal_eq_getElem, List.setIfInBounds_toArray, List.set_cons_zero, List.set_cons_succ]
                      refine wpAnyH_take (i := 6) (v := ?_) rfl (by kernel_rfl) (by kernel_rfl) (by kernel_rfl) (fun _ _ _ h => h) (Or.inl ⟨by rfl, ?_⟩) hHeld ?_
                      rotate_left
                      · intro w hSw
                        try dsimp only at hSw
                        go_simp
                        try with_reducible rfl
                      try simp only [Act.put, List.getElem_toArray, List.getElem_cons_succ, List.getElem_cons_zero, Array.getInternal_eq_getElem, List.setIfInBounds_toArray, List.set_cons_zero, List.set_cons_succ]
                      refine wpAnyH_take (i := 7) (v := ?_) rfl (by kernel_rfl) (by kernel_rfl) (by kernel_rfl) (fun _ _ _ h => h) (Or.inl ⟨by rfl, ?_⟩) hHeld ?_
                      rotate_left
                      · intro w hSw
                        try dsimp only at hSw
                        go_simp
                        try with_reducible rfl
                      try simp only [Act.put, List.getElem_toArray, List.getElem_cons_succ, List.getElem_cons_zero, Array.getInternal_eq_getElem, List.setIfInBounds_toArray, List.set_cons_zero, List.set_cons_succ]
                      refine wpAnyH_take (i := 8) (v := ?_) rfl (by kernel_rfl) (by kernel_rfl) (by kernel_rfl) (fun _ _ _ h => h) (Or.inl ⟨by rfl, ?_⟩) hHeld ?_
                      rotate_left
                      · intro w hSw
                        try dsimp only at hSw
                        go_simp
                        try with_reducible rfl
                      try simp only [Act.put, List.getElem_toArray, List.getElem_cons_succ, List.getElem_cons_zero, Array.getInternal_eq_getElem, List.setIfInBounds_toArray, List.set_cons_zero, List.set_cons_succ]
                      refine wpAnyH_take (i := 9) (v := ?_) rfl (by kernel_rfl) (by kernel_rfl) (by kernel_rfl) (fun _ _ _ h => h) (Or.inl ⟨by rfl, ?_⟩) hHeld ?_
                      rotate_left
                      · intro w hSw
                        try dsimp only at hSw
                        go_simp
                        try with_reducible rfl
                      try simp only [Act.put, List.getElem_toArray, List.getElem_cons_succ, List.getElem_cons_zero, Array.getInternal_eq_getElem, List.setIfInBounds_toArray, List.set_cons_zero, List.set_cons_succ]
                      refine wpAnyH_take (i := 10) (v := ?_) rfl (by kernel_rfl) (by kernel_rfl) (by kernel_rfl) (fun _ _ _ h => h) (Or.inl ⟨by rfl, ?_⟩) hHeld ?_
                      rotate_left
                      · intro w hSw
                        try dsimp only at hSw
                        go_simp
                        try with_reducible rfl
                      try simp only [Act.put, List.getElem_toArray, List.getElem_cons_succ, List.getElem_cons_zero, Array.getInternal_eq_getElem, List.setIfInBounds_toArray, List.set_cons_zero, List.set_cons_succ]
                      refine wpAnyH_take (i := 11) (v := ?_) rfl (by kernel_rfl) (by kernel_rfl) (by kernel_rfl) (fun _ _ _ h => h) (Or.inl ⟨by rfl, ?_⟩) hHeld ?_
                      rotate_left
                      · intro w hSw
                        try dsimp only at hSw
                        go_simp
                        try with_reducible rfl
                      try simp only [Act.put, List.getElem_toArray, List.getElem_cons_succ, List.getElem_cons_zero, Array.getInternal_eq_getElem, List.setIfInBounds_toArray, List.set_cons_zero, List.set_cons_succ]
                      refine wpAnyH_take (i := 12) (v := ?_) rfl (by kernel_rfl) (by kernel_rfl) (by kernel_rfl) (fun _ _ _ h => h) (Or.inl ⟨by rfl, ?_⟩) hHeld ?_
                      rotate_left
                      · intro w hSw
                        try dsimp only at hSw
                        go_simp
                        try with_reducible rfl
                      try simp only [Act.put, List.getElem_toArray, List.getElem_cons_succ, List.getElem_cons_zero, Array.getInternal_eq_getElem, List.setIfInBounds_toArray, List.set_cons_zero, List.set_cons_succ]
                      refine wpAnyH_take (i := 13) (v := ?_) rfl (by kernel_rfl) (by kernel_rfl) (by kernel_rfl) (fun _ _ _ h => h) (Or.inl ⟨by rfl, ?_⟩) hHeld ?_
                      rotate_left
                      · intro w hSw
                        try dsimp only at hSw
                        go_simp
                        try with_reducible rfl
                      try simp only [Act.put, List.getElem_toArray, List.getElem_cons_succ, List.getElem_cons_zero, Array.getInternal_eq_getElem, List.setIfInBounds_toArray, List.set_cons_zero, List.set_cons_succ]
                      refine wpAnyH_ready (rs := [14]) (by kernel_rfl) (by simp) ?_
                      refine AllReadyH.cons rfl (fun K hK => ?_) (AllReadyH.nil)
                      go_simp
                      refine (HC2.out _).mono ?_
                      rintro _ vx ⟨rfl, hvx⟩
                      have HY : Hid (Below wr.heap.size wr vx) := HD0.out.trans (hvx.mono (Nat.le_refl _))
                      clear hvx z0 z1 z2 z3 z4 z5 z6 z7 z8 z9 z10 z11 z12 hHeld
                      obtain ⟨z0, z1, z2, z3, z4, z5, z6, z7, z8, z9, z10, z11, z12⟩ := HS.out _ HY.out
                      refine hK.out _ _ ⟨z0, z1, z2, z3, z4, z5, z6, z7, z8, z9, z10, z11, z12⟩ (fun hHeld => ?_)
                      clear hK K
                      try simp only [Act.put, List.getElem_toArray, List.getElem_cons_succ, List.getElem_cons_zero, Array.getInternal_eq_getElem, List.setIfInBounds_toArray, List.set_cons_zero, List.set_cons_succ]
                      refine wpAnyH_take (i := 15) (v := ?_) rfl (by kernel_rfl) (by kernel_rfl) (by kernel_rfl) (fun _ _ _ h => h) (Or.inl ⟨by rfl, ?_⟩) hHeld ?_
                      rotate_left
                      · intro w hSw
                        try dsimp only at hSw
                        go_simp
                        try with_reducible rfl
                      try simp only [Act.put, List.getElem_toArray, List.getElem_cons_succ, List.getElem_cons_zero, Array.getInternal_eq_getElem, List.setIfInBounds_toArray, List.set_cons_zero, List.set_cons_succ]
                      refine wpAnyH_done (by kernel_rfl) ?_ _
                      have H5 : Hid (Below W1.heap.size W1 vx) := HJ.out.1.trans (HY.out.mono HJ.out.1.size)
                      clear z0 z1 z2 z3 z4 z5 z6 z7 z8 z9 z10 z11 z12 HS hHeld HY HD0 hix hx
                      generalize vx = w5 at H5 ⊢
                      have x0 := (HT.out w5 H5.out).2.nine.c0
                      rw [HN.out.1] at x0
                      by_cases hn0 : 0 < n
                      · have hnI : (0 : Int) < (n : Int) := by omega
                        cases hv
                        · have HQ : Hid (0 < n → ∀ q (hq : q < (u n).length), q < j + 1 → hasU (u n)[q] f.small.user f.large.user = false) := HNN.out.2 (fun _ => HHV.out.symm)
                          go_wp2
                          go_roundw
                          case rel => exact ⟨j + 1, hj, by go_num, H5.out, HQ.out⟩
                          case measure => simp only [intOf]; omega
                        · have HEQ : Hid (res = (143, noV)) := by
                            unfold Hid
                            rw [HR.out.2.2, HD.out.2, HNN.out.1 HHV.out.symm hn0]
                            rfl
                          have HK : Hid (Kp w x se w5) := (HT.out w5 H5.out).1.kp
                          obtain ⟨Z, eZ, z0, z1, z2, z3, HZ⟩ := HK.out.back (.slice none 0 0) (.slice none 0 0) (.slice none 0 0) (.slice none 0 0)
                          obtain ⟨r0, r1, r2, r3⟩ := (show Box w5 (w.heap.size + 1 + 1) TVn (vA noV sv0) from HK.out.res).fourV
                          have rs : ∀ j, w5.frozen? ⟨w.heap.size + 1 + 1, j, none⟩ = false := fun j => HK.out.res.soft j
                          have HF : Hid (Below w.heap.size w Z) := HK.out.below.trans (HZ.out.below (fun k hk => by omega) HK.out.below.size)
                          go_wp2
                          rw [← eZ]
                          refine bodyPost_ret (v := .tuple #[.agg #[.slice none 0 0, .slice none 0 0, .slice none 0 0, .slice none 0 0], .int .i64 143]) (by simp [results, Try.results12, go_sem, z0, z1, z2, z3]) rfl ?_
                          rw [HEQ.out]
                          exact ⟨sv0, rfl, OwnV.none _ _, HF.out⟩
                      · have hnI : ¬ (0 : Int) < (n : Int) := by omega
                        have HQ : Hid (0 < n → ∀ q (hq : q < (u n).length), q < j + 1 → hasU (u n)[q] f.small.user f.large.user = false) := HNN.out.2 (fun h => absurd h hn0)
                        go_wp2
                        go_roundw
                        case rel => exact ⟨j + 1, hj, by go_num, H5.out, HQ.out⟩
                        case measure => simp only [intOf]; omega
                    · have hjI : ¬ (j : Int) < ((u n).length : Int) := by omega
                      have HE0 : Hid (addE u f = 0) := by
                        unfold Hid addE
                        rw [if_neg (fun ha => ?_), if_neg (fun ha => ?_)]
                        · obtain ⟨h0, ha⟩ := ha
                          rw [HN.out.2] at ha
                          obtain ⟨g, hg, e⟩ := List.any_eq_true.1 ha
                          obtain ⟨q, hq, rfl⟩ := List.getElem_of_mem hg
                          have h1 := HJ.out.2 (by rw [HN.out.1] at h0; omega) q hq (by omega)
                          rw [h1] at e
                          cases e
                        · obtain ⟨g, hg, e⟩ := List.any_eq_true.1 ha
                          exact HNEW.out.2 g hg (of_decide_eq_true e)
                      have HNXT : Hid (VOk (u.upd n (insF n f (u n))) ∧ (u.upd n (insF n f (u n))).all.length ≤ v.all.length + (i + 1) ∧ res = addsV (u.upd n (insF n f (u n))) (x.adds.drop (i + 1))) := by
                        have hf := (addE_fits HR.out.1 HD.out.1).1 HE0.out
                        rw [HN.out.2] at hf
                        refine ⟨HR.out.1.add hn4 hf, ?_, ?_⟩
                        · have h1 := upd_le (u := u) (l := insF n f (u n)) (m := 1) hn4 (by rw [insF_perm.length_eq]; simp)
                          have h2 := HR.out.2.1
                          omega
                        · rw [HR.out.2.2, HD.out.2, HE0.out]
                          unfold addV
                          rw [HN.out.2]
                          rfl
                      go_upto_region 33 with fail
                      clear hcell x0 x1 x2 x3 x4 x5 x6 x7 x8
                      have HS : Hid (∀ V : World, Below wr.heap.size wr V → V.cell? ⟨p13, 0, none⟩ = some (.int .i64 (n : Int)) ∧ V.cell? ⟨p13, 1, none⟩ = some (.int .u64 (f.num : Int)) ∧ V.cell? ⟨p13, 2, none⟩ = some (.int .i64 f.size) ∧ V.cell? ⟨p13, 3, none⟩ = some (.string f.small.user) ∧ V.cell? ⟨p13, 4, none⟩ = some (.int .u64 (f.small.seq : Int)) ∧ V.cell? ⟨p13, 5, none⟩ = some (.int .i64 f.small.kind) ∧ V.cell? ⟨p13, 6, none⟩ = some (.string f.large.user) ∧ V.cell? ⟨p13, 7, none⟩ = some (.int .u64 (f.large.seq : Int)) ∧ V.cell? ⟨p13, 8, none⟩ = some (.int .i64 f.large.kind)) := fun V hV => by
                        have h2 := (HT.out V (HJ.out.1.trans (hV.mono HJ.out.1.size))).2.nine
                        exact ⟨by rw [← HN.out.1]; exact h2.c0, by simpa using h2.c1, by simpa using h2.c2, by simpa using h2.c3, by simpa using h2.c4, by simpa using h2.c5, by simpa using h2.c6, by simpa using h2.c7, by simpa using h2.c8⟩
                      have HRS : Hid (∀ V : World, Below wr.heap.size wr V → Rs w x se p7 u t V) := fun V hV => (HT.out V (HJ.out.1.trans (hV.mono HJ.out.1.size))).1
                      have HAP : Hid (∀ V : World, Below wr.heap.size wr V → Calls Try.prog 33 #[.slice (t.a n) (u n).length (t.c n), .agg #[.int .i64 (n : Int), .int .u64 (f.num : Int), .int .i64 f.size, .string f.small.user, .int .u64 (f.small.seq : Int), .int .i64 f.small.kind, .string f.large.user, .int .u64 (f.large.seq : Int), .int .i64 f.large.kind]] V fun e w' => ∃ (a' : Option Addr) (c' : Nat), e = .returned (.slice a' (insF n f (u n)).length c') ∧ Hid (OwnF w' V.heap.size a' (insF n f (u n)).length c' (insF n f (u n))) ∧ Below V.heap.size V w') := fun V hV => by
                        have h1 := with_any n f (u n) (t.a n) (u n).length (t.c n) V ((HRS.out V hV).own n hn4).fs HN.out.1 hun
                        rw [HN.out.1] at h1
                        exact h1
                      generalize insF n f (u n) = dl at HAP HNXT
                      have hp137 : p7 < p13 := HW1.out.2.2.2
                      have hne1 : p13 ≠ p7 := by omega
                      have hne2 : p7 ≠ p13 := by omega
                      have hcell := (HRS.out wr (Below.refl _ _)).box.level hn4
                      have HD0 : Hid (Below wr.heap.size wr wr.drew) := (Below.refl _ _).drew
                      obtain ⟨z0, z1, z2, z3, z4, z5, z6, z7, z8⟩ := HS.out _ HD0.out
                      have HB13 : Hid (∀ V : World, Below wr.heap.size wr V → Box V p13 TF (fA f)) := fun V hV => (HT.out V (HJ.out.1.trans (hV.mono HJ.out.1.size))).2
                      have HLV : Hid (f.level = (n : Int)) := HN.out.1
                      clear HC HN HJ HE0 HNEW HW1 HR HD HT
                      refine wp_region_held_drew (S := fun V => V.cell? ⟨p13, 0, none⟩ = some (.int .i64 (n : Int)) ∧ V.cell? ⟨p13, 1, none⟩ = some (.int .u64 (f.num : Int)) ∧ V.cell? ⟨p13, 2, none⟩ = some (.int .i64 f.size) ∧ V.cell? ⟨p13, 3, none⟩ = some (.string f.small.user) ∧ V.cell? ⟨p13, 4, none⟩ = some (.int .u64 (f.small.seq : Int)) ∧ V.cell? ⟨p13, 5, none⟩ = some (.int .i64 f.small.kind) ∧ V.cell? ⟨p13, 6, none⟩ = some (.string f.large.user) ∧ V.cell? ⟨p13, 7, none⟩ = some (.int .u64 (f.large.seq : Int)) ∧ V.cell? ⟨p13, 8, none⟩ = some (.int .i64 f.large.kind)) (by kernel_rfl) ⟨z0, z1, z2, z3, z4, z5, z6, z7, z8⟩ (fun hHeld => ?_)
                      refine wpAnyH_take (i := 0) (v := ?_) rfl (by kernel_rfl) (by kernel_rfl) (by kernel_rfl) (fun _ _ _ h => h) (Or.inl ⟨by rfl, ?_⟩) hHeld ?_
                      rotate_left
                      · intro w hSw
                        try dsimp only at hSw
                        go_simp
                        try with_reducible rfl
                      try simp only [Act.put, List.getElem_toArray, List.getElem_cons_succ, List.getElem_cons_zero, Array.getInternal_eq_getElem, List.setIfInBounds_toArray, List.set_cons_zero, List.set_cons_succ]
                      refine wpAnyH_take (i := 1) (v := ?_) rfl (by kernel_rfl) (by kernel_rfl) (by kernel_rfl) (fun _ _ _ h => h) (Or.inl ⟨by rfl, ?_⟩) hHeld ?_
                      rotate_left
                      · intro w hSw
                        try dsimp only at hSw
                        go_simp
                        try with_reducible rfl
                      try simp only [Act.put, List.getElem_toArray, List.getElem_cons_succ, List.getElem_cons_zero, Array.getInternal_eq_getElem, List.setIfInBounds_toArray, List.set_cons_zero, List.set_cons_succ]
                      refine wpAnyH_take (i := 2) (v := ?_) rfl (by kernel_rfl) (by kernel_rfl) (by kernel_rfl) (fun _ _ _ h => h) (Or.inl ⟨by rfl, ?_⟩) hHeld ?_
                      rotate_left
                      · intro w hSw
                        try dsimp only at hSw
                        go_simp
                        try with_reducible rfl
                      try simp only [Act.put, List.getElem_toArray, List.getElem_cons_succ, List.getElem_cons_zero, Array.getInternal_eq_getElem, List.setIfInBounds_toArray, List.set_cons_zero, List.set_cons_succ]
                      refine wpAnyH_take (i := 3) (v := ?_) rfl (by kernel_rfl) (by kernel_rfl) (by kernel_rfl) (fun _ _ _ h => h) (Or.inl ⟨by rfl, ?_⟩) hHeld ?_
                      rotate_left
                      · intro w hSw
                        try dsimp only at hSw
                        go_simp
                        try with_reducible rfl
                      try simp only [Act.put, List.getElem_toArray, List.getElem_cons_succ, List.getElem_cons_zero, Array.getInternal_eq_getElem, List.setIfInBounds_toArray, List.set_cons_zero, List.set_cons_succ]
                      refine wpAnyH_take (i := 4) (v := ?_) rfl (by kernel_rfl) (by kernel_rfl) (by kernel_rfl) (fun _ _ _ h => h) (Or.inl ⟨by rfl, ?_⟩) hHeld ?_
                      rotate_left
                      · intro w hSw
                        try dsimp only at hSw
                        go_simp
                        try with_reducible rfl
                      try simp only [Act.put, List.getElem_toArray, List.getElem_cons_succ, List.getElem_cons_zero, Array.getInternal_eq_getElem, List.setIfInBounds_toArray, List.set_cons_zero, List.set_cons_succ]
                      refine wpAnyH_take (i := 5) (v := ?_) rfl (by kernel_rfl) (by kernel_rfl) (by kernel_rfl) (fun _ _ _ h => h) (Or.inl ⟨by rfl, ?_⟩) hHeld ?_
                      rotate_left
                      · intro w hSw
                        try dsimp only at hSw
                        go_simp
                        try with_reducible rfl
                      try simp only [Act.put, List.getElem_toArray, List.getElem_cons_succ, List.getElem_cons_zero, Array.getInternal_eq_getElem, List.setIfInBounds_toArray, List.set_cons_zero, List.set_cons_succ]
                      refine wpAnyH_take (i := 7) (v := ?_) rfl (by kernel_rfl) (by kernel_rfl) (by kernel_rfl) (fun _ _ _ h => h) (Or.inl ⟨by rfl, ?_⟩) hHeld ?_
                      rotate_left
                      · intro w hSw
                        try dsimp only at hSw
                        go_simp
                        try with_reducible rfl
                      try simp only [Act.put, List.getElem_toArray, List.getElem_cons_succ, List.getElem_cons_zero, Array.getInternal_eq_getElem, List.setIfInBounds_toArray, List.set_cons_zero, List.set_cons_succ]
                      refine wpAnyH_take (i := 9) (v := ?_) rfl (by kernel_rfl) (by kernel_rfl) (by kernel_rfl) (fun _ _ _ h => h) (Or.inl ⟨by rfl, ?_⟩) hHeld ?_
                      rotate_left
                      · intro w hSw
                        try dsimp only at hSw
                        go_simp
                        try with_reducible rfl
                      try simp only [Act.put, List.getElem_toArray, List.getElem_cons_succ, List.getElem_cons_zero, Array.getInternal_eq_getElem, List.setIfInBounds_toArray, List.set_cons_zero, List.set_cons_succ]
                      refine wpAnyH_ready (rs := [6]) (by kernel_rfl) (by simp) ?_
                      refine AllReadyH.cons rfl (fun K hK => ?_) (AllReadyH.nil)
                      go_simp
                      refine hK.out _ _ ⟨z0, z1, z2, z3, z4, z5, z6, z7, z8⟩ (fun hHeld => ?_)
                      clear hK K
                      try simp only [Act.put, List.getElem_toArray, List.getElem_cons_succ, List.getElem_cons_zero, Array.getInternal_eq_getElem, List.setIfInBounds_toArray, List.set_cons_zero, List.set_cons_succ]
                      refine wpAnyH_ready (rs := [8]) (by kernel_rfl) (by simp) ?_
                      refine AllReadyH.cons rfl (fun K hK => ?_) (AllReadyH.nil)
                      go_simp
                      refine (HAP.out _ HD0.out).mono ?_
                      rintro _ vx ⟨a2, c2, rfl, HO, hvx⟩
                      have HY : Hid (Below wr.heap.size wr vx) := HD0.out.trans (hvx.mono (Nat.le_refl _))
                      have cf := (HRS.out _ HY.out).box.soft n
                      have cl := (HRS.out _ HY.out).box.level hn4
                      clear hvx z0 z1 z2 z3 z4 z5 z6 z7 z8 hHeld
                      obtain ⟨z0, z1, z2, z3, z4, z5, z6, z7, z8⟩ := HS.out _ HY.out
                      obtain ⟨n0, n1, n2, n3, n4, n5, n6, n7, n8⟩ : (vx.setCell ⟨p7, n, none⟩ (.slice a2 dl.length c2)).cell? ⟨p13, 0, none⟩ = some (.int .i64 (n : Int)) ∧ (vx.setCell ⟨p7, n, none⟩ (.slice a2 dl.length c2)).cell? ⟨p13, 1, none⟩ = some (.int .u64 (f.num : Int)) ∧ (vx.setCell ⟨p7, n, none⟩ (.slice a2 dl.length c2)).cell? ⟨p13, 2, none⟩ = some (.int .i64 f.size) ∧ (vx.setCell ⟨p7, n, none⟩ (.slice a2 dl.length c2)).cell? ⟨p13, 3, none⟩ = some (.string f.small.user) ∧ (vx.setCell ⟨p7, n, none⟩ (.slice a2 dl.length c2)).cell? ⟨p13, 4, none⟩ = some (.int .u64 (f.small.seq : Int)) ∧ (vx.setCell ⟨p7, n, none⟩ (.slice a2 dl.length c2)).cell? ⟨p13, 5, none⟩ = some (.int .i64 f.small.kind) ∧ (vx.setCell ⟨p7, n, none⟩ (.slice a2 dl.length c2)).cell? ⟨p13, 6, none⟩ = some (.string f.large.user) ∧ (vx.setCell ⟨p7, n, none⟩ (.slice a2 dl.length c2)).cell? ⟨p13, 7, none⟩ = some (.int .u64 (f.large.seq : Int)) ∧ (vx.setCell ⟨p7, n, none⟩ (.slice a2 dl.length c2)).cell? ⟨p13, 8, none⟩ = some (.int .i64 f.large.kind) := by
                        have h2 := ((HB13.out _ HY.out).other hne1 n (.slice a2 dl.length c2)).nine
                        exact ⟨by rw [← HLV.out]; exact h2.c0, by simpa using h2.c1, by simpa using h2.c2, by simpa using h2.c3, by simpa using h2.c4, by simpa using h2.c5, by simpa using h2.c6, by simpa using h2.c7, by simpa using h2.c8⟩
                      refine hK.out _ _ ⟨z0, z1, z2, z3, z4, z5, z6, z7, z8⟩ (fun hHeld => ?_)
                      clear hK K
                      try simp only [Act.put, List.getElem_toArray, List.getElem_cons_succ, List.getElem_cons_zero, Array.getInternal_eq_getElem, List.setIfInBounds_toArray, List.set_cons_zero, List.set_cons_succ]
                      refine wpAnyH_take (i := 10) (v := ?_) rfl (by kernel_rfl) (by kernel_rfl) (by kernel_rfl) (fun _ _ _ h => h) (Or.inl ⟨by rfl, ?_⟩) hHeld ?_
                      rotate_left
                      · intro w hSw
                        try dsimp only at hSw
                        go_simp
                        try with_reducible rfl
                      try simp only [Act.put, List.getElem_toArray, List.getElem_cons_succ, List.getElem_cons_zero, Array.getInternal_eq_getElem, List.setIfInBounds_toArray, List.set_cons_zero, List.set_cons_succ]
                      refine wpAnyH_ready (rs := [11]) (by kernel_rfl) (by simp) ?_
                      refine AllReadyH.cons rfl (fun K hK => ?_) (AllReadyH.nil)
                      go_simp
                      refine hK.out _ _ ⟨n0, n1, n2, n3, n4, n5, n6, n7, n8⟩ (fun hHeld => ?_)
                      clear hK K
                      try simp only [Act.put, List.getElem_toArray, List.getElem_cons_succ, List.getElem_cons_zero, Array.getInternal_eq_getElem, List.setIfInBounds_toArray, List.set_cons_zero, List.set_cons_succ]
                      refine wpAnyH_done (by kernel_rfl) ?_ _
                      have H6 : Hid (Rs w x se p7 u t vx ∧ OwnF vx (w.heap.size + 3) a2 dl.length c2 dl) := ⟨HRS.out _ HY.out, HO.out.less (Nat.le_trans (HRS.out wr (Below.refl _ _)).big HD0.out.size)⟩
                      clear HO HAP HS z0 z1 z2 z3 z4 z5 z6 z7 z8 n0 n1 n2 n3 n4 n5 n6 n7 n8
                      have H7 : Hid (Rs w x se p7 (u.upd n dl) (t.upd n a2 c2) (vx.setCell ⟨p7, n, none⟩ (.slice a2 dl.length c2))) := H6.out.1.put hn4 H6.out.2
                      clear H6
                      generalize vx.setCell ⟨p7, n, none⟩ (.slice a2 dl.length c2) = w9 at H7 ⊢
                      go_wp2
                      go_roundw
                      case rel => exact ⟨i + 1, u.upd n dl, t.upd n a2 c2, hi, by go_num, H7.out, HNXT.out⟩
                      case measure => simp only [intOf]; omega
            · have hiI : ¬ (i : Int) < (x.adds.length : Int) := by omega
              have HKW : Hid (Kp w x se wr ∧ Box wr p7 TVn (vA u t) ∧ OwnV wr (w.heap.size + 3) u t ∧ res = (0, u)) := ⟨HI.out.1.kp, HI.out.1.box, HI.out.1.own, by rw [HI.out.2.2.2, List.drop_of_length_le (by omega)]; rfl⟩
              have hp7 : w.heap.size + 3 ≤ p7 := HI.out.1.ge
              clear HI
              obtain ⟨Z, eZ, z0, z1, z2, z3, HZ⟩ := HKW.out.1.back (.slice (t.a 0) (u 0).length (t.c 0)) (.slice (t.a 1) (u 1).length (t.c 1)) (.slice (t.a 2) (u 2).length (t.c 2)) (.slice (t.a 3) (u 3).length (t.c 3))
              obtain ⟨r0, r1, r2, r3⟩ := (show Box wr (w.heap.size + 1 + 1) TVn (vA noV sv0) from HKW.out.1.res).fourV
              obtain ⟨q0, q1, q2, q3⟩ := HKW.out.2.1.fourV
              have rs : ∀ j, wr.frozen? ⟨w.heap.size + 1 + 1, j, none⟩ = false := fun j => HKW.out.1.res.soft j
              have HF : Hid (Below w.heap.size w Z ∧ OwnV Z w.heap.size u t) := by
                refine ⟨HKW.out.1.below.trans (HZ.out.below (fun k hk => by omega) HKW.out.1.below.size), fun n hn => ?_⟩
                have h1 := HKW.out.2.2.1 n hn
                refine (h1.kept (fun g hg => HZ.out.block _ (tag_lt (h1.tag hg)) (fun e => ?_))).less (by omega)
                have := h1.ge hg
                omega
              go_wp2
              rw [← eZ]
              refine bodyPost_ret (v := .tuple #[.agg #[.slice (t.a 0) (u 0).length (t.c 0), .slice (t.a 1) (u 1).length (t.c 1), .slice (t.a 2) (u 2).length (t.c 2), .slice (t.a 3) (u 3).length (t.c 3)], .int .i64 0]) (by simp [results, Try.results12, go_sem, z0, z1, z2, z3]) rfl ?_
              rw [HKW.out.2.2.2]
              exact ⟨t, rfl, HF.out.2, HF.out.1⟩
    · have HEO : Hid (res = (x.err, noV)) := HRV.out.err HVO.out hE
      have heb : (((x.err : Nat) : Int) != 0) = true := by simp; omega
      generalize x.err = xe at heb HEO
      obtain ⟨Z, eZ, z0, z1, z2, z3, HZ⟩ := H3.out.1.back (.slice none 0 0) (.slice none 0 0) (.slice none 0 0) (.slice none 0 0)
      obtain ⟨r0, r1, r2, r3⟩ := (show Box w3 (w.heap.size + 1 + 1) TVn (vA noV sv0) from H3.out.1.res).fourV
      have rs : ∀ j, w3.frozen? ⟨w.heap.size + 1 + 1, j, none⟩ = false := fun j => H3.out.1.res.soft j
      have HF : Hid (Below w.heap.size w Z) := H3.out.1.below.trans (HZ.out.below (fun k hk => by omega) H3.out.1.below.size)
      go_wp2
      rw [← eZ]
      refine bodyPost_ret (v := .tuple #[.agg #[.slice none 0 0, .slice none 0 0, .slice none 0 0, .slice none 0 0], .int .i64 (xe : Int)]) (by simp [results, Try.results12, go_sem, z0, z1, z2, z3]) rfl ?_
      rw [HEO.out]
      exact ⟨sv0, rfl, OwnV.none _ _, HF.out⟩
  · rw [chkV_no hV]
    have HF0 : Hid (res = (140, noV)) := HRV.out.form hV
    obtain ⟨Z, eZ, z0, z1, z2, z3, HZ⟩ := H2.out.1.back (.slice none 0 0) (.slice none 0 0) (.slice none 0 0) (.slice none 0 0)
    obtain ⟨r0, r1, r2, r3⟩ := (show Box w2 (w.heap.size + 1 + 1) TVn (vA noV sv0) from H2.out.1.res).fourV
    have rs : ∀ j, w2.frozen? ⟨w.heap.size + 1 + 1, j, none⟩ = false := fun j => H2.out.1.res.soft j
    have HF : Hid (Below w.heap.size w Z) := H2.out.1.below.trans (HZ.out.below (fun k hk => by omega) H2.out.1.below.size)
    go_wp2
    rw [← eZ]
    refine bodyPost_ret (v := .tuple #[.agg #[.slice none 0 0, .slice none 0 0, .slice none 0 0, .slice none 0 0], .int .i64 140]) (by simp [results, Try.results12, go_sem, z0, z1, z2, z3]) rfl ?_
    rw [HF0.out]
    exact ⟨sv0, rfl, OwnV.none _ _, HF.out⟩
end Go.Proofs.Ytcdfgcjecmpjhaa
