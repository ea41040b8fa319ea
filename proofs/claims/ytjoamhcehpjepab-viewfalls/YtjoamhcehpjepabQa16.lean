/- A view looks: to the first one that is seen, one way. -/
import Derived.RangeFuncBound
import Derived.RangeFuncFrom
import Derived.RangeFuncLeaves
import Derived.RangeFuncCalls
import Derived.Shelf.Abstract
import Derived.Shelf.RegionOpen
import Derived.OwnWalkIn
import Derived.TacticsInMore
import Derived.Test.YtjoamhcehpjepabQa15
namespace Go.Proofs.Ytjoamhcehpjepab
open Go.RowKit Go.Shelf
set_option linter.unusedVariables false
set_option linter.unusedSimpArgs false
attribute [local go_sem] Oper.semAt_some
/-- A view: its lists, the number, what it keeps behind its iterator, where the iterator is. -/
def Vw17 : VwRel := fun W R p I o => ∃ (L : List (List KV)) (s : Nat) (T : Tl) (oi : Option Nat), MgV T W R p L oi ∧ I = seenL s (allL L) ∧ s < 18446744073709551616 ∧ WfS (allL L) ∧ T.sq = .int .u64 (s : Int) ∧ T.is = .bool o.isSome ∧ (o = none → T.ak = .string ⟨#[]⟩ ∧ T.av = .string ⟨#[]⟩) ∧
  ∀ k, o = some k → k < I.length ∧ T.ak = .string (I.getD k i0).1 ∧ T.av = .string (I.getD k i0).2 ∧ ∃ (up : Bool) (i : Nat), T.wb = .bool (!up) ∧ CutV s (allL L) i (afterJ k up) ∧ oi = posV (allL L) i up
abbrev fnV (f : Nat) : Value := .func (.func f) #[] #[]
/-- What a view keeps when it begins to look. -/
def tlV (T : Tl) (up : Bool) (fs fp : Nat) : Tl := ⟨T.sq, .bool (!up), fnV fs, fnV fp, .string ⟨#[]⟩, .string ⟨#[]⟩, .bool false⟩
abbrev lookW (W : World) (p : Nat) (up : Bool) (fs fp : Nat) : World := (((((W.setCell ⟨p, 6, none⟩ (.bool (!up))).setCell ⟨p, 7, none⟩ (fnV fs)).setCell ⟨p, 8, none⟩ (fnV fp)).setCell ⟨p, 9, none⟩ (.string ⟨#[]⟩)).setCell ⟨p, 10, none⟩ (.string ⟨#[]⟩)).setCell ⟨p, 11, none⟩ (.bool false)
theorem IvS.look {T : Tl} {w W : World} {R R' : Nat → Prop} {p : Nat} {L : List (List KV)} {o : Option Nat} {K : Nat → Prop} (h : IvS T w W R R' p L o K) (up : Bool) (fs fp : Nat) : IvS (tlV T up fs fp) w (lookW W p up fs fp) R R' p L o K := by
  have h1 := h.put (T' := { T with wb := .bool (!up) }) 6 (.bool (!up)) (fun _ _ _ _ _ => by simp)
  have h2 := h1.put (T' := { T with wb := .bool (!up), ws := fnV fs }) 7 (fnV fs) (fun _ _ _ _ _ => by simp)
  have h3 := h2.put (T' := { T with wb := .bool (!up), ws := fnV fs, wp := fnV fp }) 8 (fnV fp) (fun _ _ _ _ _ => by simp)
  have h4 := h3.put (T' := { T with wb := .bool (!up), ws := fnV fs, wp := fnV fp, ak := .string ⟨#[]⟩ }) 9 (.string ⟨#[]⟩) (fun _ _ _ _ _ => by simp)
  have h5 := h4.put (T' := { T with wb := .bool (!up), ws := fnV fs, wp := fnV fp, ak := .string ⟨#[]⟩, av := .string ⟨#[]⟩ }) 10 (.string ⟨#[]⟩) (fun _ _ _ _ _ => by simp)
  exact h5.put (T' := tlV T up fs fp) 11 (.bool false) (fun _ _ _ _ _ => by simp [tlV])
theorem Box.drew17 {W : World} {q : Nat} {t : TypeId} {arr : Array Value} (h : Box W q t arr) : Box W.drew q t arr := h.kept rfl
theorem IvS.other {T : Tl} {w W W' : World} {R R' : Nat → Prop} {p : Nat} {L : List (List KV)} {o : Option Nat} {K Z : Nat → Prop} (h : IvS T w W R R' p L o K) (hc : Chg Z W W') (hZ : ∀ k, Z k → w.heap.size ≤ k ∧ ¬ R' k) : IvS T w W' R R' p L o K :=
  ⟨mv_kept h.it hc.size fun k hk => hc.block k (mv_lt h.it k hk) (fun hz => (hZ k hz).2 hk), h.sub, h.chg.andThen hc fun k hk hz => by have := (hZ k hz).1; omega, fun k hk => ⟨Nat.lt_of_lt_of_le (h.keep k hk).1 hc.size, (h.keep k hk).2⟩⟩
theorem IvS.join {T : Tl} {w W W' : World} {R R' R2 : Nat → Prop} {p : Nat} {L : List (List KV)} {o o' : Option Nat} {K K' : Nat → Prop} (h : IvS T w W R R' p L o K) (h2 : IvS T W W' R' R2 p L o' K') : IvS T w W' R R2 p L o' K :=
  ⟨h2.it, fun k hk => by
    rcases h2.sub k hk with h4 | h4
    · exact h.sub k h4
    · exact .inr (Nat.le_trans h.chg.size h4), h.chg.andThen h2.chg fun k hk hr => by
    rcases h.sub k hr with h4 | h4
    · exact h4
    · omega, fun k hk => ⟨Nat.lt_of_lt_of_le (h.keep k hk).1 h2.chg.size, (h.keep k hk).2.1, fun hr => by
    rcases h2.sub k hr with h4 | h4
    · exact (h.keep k hk).2.2 h4
    · have := (h.keep k hk).1; omega⟩⟩
/-- What a view keeps when it is at something. -/
def tlX (T : Tl) (e : It17) : Tl := { T with ak := .string e.1, av := .string e.2, is := .bool true }
theorem IvS.at {T : Tl} {w W : World} {R R' : Nat → Prop} {p : Nat} {L : List (List KV)} {o : Option Nat} {K : Nat → Prop} (h : IvS T w W R R' p L o K) (e : It17) : IvS (tlX T e) w (((W.setCell ⟨p, 9, none⟩ (.string e.1)).setCell ⟨p, 10, none⟩ (.string e.2)).setCell ⟨p, 11, none⟩ (.bool true)) R R' p L o K := by
  have h4 := h.put (T' := { T with ak := .string e.1 }) 9 (.string e.1) (fun _ _ _ _ _ => by simp)
  have h5 := h4.put (T' := { T with ak := .string e.1, av := .string e.2 }) 10 (.string e.2) (fun _ _ _ _ _ => by simp)
  exact h5.put (T' := tlX T e) 11 (.bool true) (fun _ _ _ _ _ => by simp [tlX])
/-- Behind the round. -/
def LookQ (T : Tl) (w : World) (R : Nat → Prop) (p : Nat) (L : List (List KV)) (s j : Nat) (up : Bool) (D : Nat) (r : Loop) (W : World) : Prop := ∃ k i' R', nextV (seenL s (allL L)) j up = some k ∧ k < (seenL s (allL L)).length ∧ CutV s (allL L) i' (afterJ k up) ∧ IvS (tlX T ((seenL s (allL L)).getD k i0)) w W R R' p L (posV (allL L) i' up) (fun _ => False) ∧ W.heap[D + 1]? = some (.loop { r with state := .done, pending := some (.exit 0) }) ∧ W.heap[D]? = some (.deferred (some [])) ∧ ∀ q, q = D ∨ q = D + 1 → ¬ R' q
theorem chg_putObj {W : World} {q : Nat} (o : Obj) : Chg (fun k => k = q) W (W.putObj q o) := (Chg.grown (grownBy_putObj' W q o)).wide fun k _ hk => (Option.some.inj hk).symm
theorem mv_box_lt {T : Tl} {w : World} {R : Nat → Prop} {p : Nat} {L : List (List KV)} {o : Option Nat} (h : MgV T w R p L o) : p < w.heap.size := by
  obtain ⟨_, _, _, _, _, hb, _⟩ := h.box
  exact hb.lt
section
variable {T : Tl} {w : World} {R : Nat → Prop} {p : Nat} {L : List (List KV)} {s i j fs fp : Nat} {up : Bool}
set_option maxRecDepth 100000 in
set_option maxHeartbeats 4000000 in
theorem look_any (HNC : NewC (fnV fs) up) (h : MgV T w R p L (posV (allL L) i up)) (hcut : CutV s (allL L) i j) (hs : s < 18446744073709551616) (hwf : WfS (allL L)) (hsq : T.sq = .int .u64 (s : Int)) :
    Calls Try.prog 15 #[at_ p, .agg #[.bool (!up), fnV fs, fnV fp]] w fun e w' => e = .returned (.tuple #[]) ∧ VwPost Vw17 R p (seenL s (allL L)) (nextV (seenL s (allL L)) j up) w w' := by
  have HH : Hid (NewC (fnV fs) up ∧ MgV T w R p L (posV (allL L) i up) ∧ CutV s (allL L) i j ∧ s < 18446744073709551616 ∧ WfS (allL L) ∧ T.sq = .int .u64 (s : Int)) := ⟨HNC, h, hcut, hs, hwf, hsq⟩
  obtain ⟨W0, eW0⟩ : ∃ W0, W0 = (w.alloc (.cells #[at_ p] 26)).alloc (.cells #[.bool (!up), fnV fs, fnV fp] TWay) := ⟨_, rfl⟩
  have H0 : Hid (IvS T w W0 R R p L (posV (allL L) i up) (fun k => k = w.heap.size ∨ k = w.heap.size + 1) ∧ Box W0 w.heap.size 26 #[at_ p] ∧ Box W0 (w.heap.size + 1) TWay #[.bool (!up), fnV fs, fnV fp]) := by
    rw [eW0]
    refine ⟨(((IvS.start h).alloc _).alloc _).less fun k hk => ?_, (Box.new _ _ _).alloc _, ?_⟩
    · rcases hk with rfl | rfl
      · exact .inl (.inr rfl)
      · exact .inr (by simp)
    · have := Box.new (w.alloc (.cells #[at_ p] 26)) TWay #[.bool (!up), fnV fs, fnV fp]
      rw [World.size_alloc] at this
      exact this
  clear HNC h hcut hs hwf hsq
  refine (callsIn_wide (n := 3)).1 ?_
  refine callsIn_of_wp_marks Try.func15 rfl trivial ?_ rfl
  simp only [Try.ntmps15, List.size_toArray, List.length_cons, List.length_nil, Nat.reduceAdd, Nat.reduceSub, Array.replicate_succ, Array.replicate_zero, List.push_toArray, List.append_toArray, List.nil_append, List.cons_append]
  refine wpIn_wide.2 ?_
  go_wp2_with fail
  rw [← eW0]
  clear eW0
  have HD : Hid (IvS T w W0.drew R R p L (posV (allL L) i up) (fun k => k = w.heap.size ∨ k = w.heap.size + 1)) := H0.out.1.drew
  obtain ⟨c5, c6, c7, c8, c9, c10, c11⟩ := HD.out.it.cells
  have cs := HD.out.it.soft
  obtain ⟨k5, k6, k7, k8, k9, k10, k11⟩ := H0.out.1.it.cells
  have ks := H0.out.1.it.soft
  have a0 : W0.drew.cell? ⟨w.heap.size, 0, none⟩ = some (at_ p) := H0.out.2.1.cell 0
  have b0 : W0.drew.cell? ⟨w.heap.size + 1, 0, none⟩ = some (.bool (!up)) := H0.out.2.2.cell 0
  have b1 : W0.drew.cell? ⟨w.heap.size + 1, 1, none⟩ = some (fnV fs) := H0.out.2.2.cell 1
  have b2 : W0.drew.cell? ⟨w.heap.size + 1, 2, none⟩ = some (fnV fp) := H0.out.2.2.cell 2
  have HST : Hid (((((W0.setCell ⟨p, 6, none⟩ (.bool (!up))).setCell ⟨p, 7, none⟩ (fnV fs)).setCell ⟨p, 8, none⟩ (fnV fp)).drew.cell? ⟨w.heap.size, 0, none⟩ = some (at_ p) ∧ (((W0.setCell ⟨p, 6, none⟩ (.bool (!up))).setCell ⟨p, 7, none⟩ (fnV fs)).setCell ⟨p, 8, none⟩ (fnV fp)).drew.cell? ⟨w.heap.size + 1, 0, none⟩ = some (.bool (!up)) ∧ (((W0.setCell ⟨p, 6, none⟩ (.bool (!up))).setCell ⟨p, 7, none⟩ (fnV fs)).setCell ⟨p, 8, none⟩ (fnV fp)).drew.cell? ⟨w.heap.size + 1, 1, none⟩ = some (fnV fs) ∧ (((W0.setCell ⟨p, 6, none⟩ (.bool (!up))).setCell ⟨p, 7, none⟩ (fnV fs)).setCell ⟨p, 8, none⟩ (fnV fp)).drew.cell? ⟨w.heap.size + 1, 2, none⟩ = some (fnV fp)) ∧ ((((((W0.setCell ⟨p, 6, none⟩ (.bool (!up))).setCell ⟨p, 7, none⟩ (fnV fs)).setCell ⟨p, 8, none⟩ (fnV fp)).setCell ⟨p, 9, none⟩ (.string ⟨#[]⟩)).setCell ⟨p, 10, none⟩ (.string ⟨#[]⟩)).drew.cell? ⟨w.heap.size, 0, none⟩ = some (at_ p) ∧ (((((W0.setCell ⟨p, 6, none⟩ (.bool (!up))).setCell ⟨p, 7, none⟩ (fnV fs)).setCell ⟨p, 8, none⟩ (fnV fp)).setCell ⟨p, 9, none⟩ (.string ⟨#[]⟩)).setCell ⟨p, 10, none⟩ (.string ⟨#[]⟩)).drew.cell? ⟨w.heap.size + 1, 0, none⟩ = some (.bool (!up)) ∧ (((((W0.setCell ⟨p, 6, none⟩ (.bool (!up))).setCell ⟨p, 7, none⟩ (fnV fs)).setCell ⟨p, 8, none⟩ (fnV fp)).setCell ⟨p, 9, none⟩ (.string ⟨#[]⟩)).setCell ⟨p, 10, none⟩ (.string ⟨#[]⟩)).drew.cell? ⟨w.heap.size + 1, 1, none⟩ = some (fnV fs) ∧ (((((W0.setCell ⟨p, 6, none⟩ (.bool (!up))).setCell ⟨p, 7, none⟩ (fnV fs)).setCell ⟨p, 8, none⟩ (fnV fp)).setCell ⟨p, 9, none⟩ (.string ⟨#[]⟩)).setCell ⟨p, 10, none⟩ (.string ⟨#[]⟩)).drew.cell? ⟨w.heap.size + 1, 2, none⟩ = some (fnV fp)) ∧ (((((((W0.setCell ⟨p, 6, none⟩ (.bool (!up))).setCell ⟨p, 7, none⟩ (fnV fs)).setCell ⟨p, 8, none⟩ (fnV fp)).setCell ⟨p, 9, none⟩ (.string ⟨#[]⟩)).setCell ⟨p, 10, none⟩ (.string ⟨#[]⟩)).setCell ⟨p, 11, none⟩ (.bool false)).drew.cell? ⟨w.heap.size, 0, none⟩ = some (at_ p) ∧ ((((((W0.setCell ⟨p, 6, none⟩ (.bool (!up))).setCell ⟨p, 7, none⟩ (fnV fs)).setCell ⟨p, 8, none⟩ (fnV fp)).setCell ⟨p, 9, none⟩ (.string ⟨#[]⟩)).setCell ⟨p, 10, none⟩ (.string ⟨#[]⟩)).setCell ⟨p, 11, none⟩ (.bool false)).drew.cell? ⟨w.heap.size + 1, 0, none⟩ = some (.bool (!up)) ∧ ((((((W0.setCell ⟨p, 6, none⟩ (.bool (!up))).setCell ⟨p, 7, none⟩ (fnV fs)).setCell ⟨p, 8, none⟩ (fnV fp)).setCell ⟨p, 9, none⟩ (.string ⟨#[]⟩)).setCell ⟨p, 10, none⟩ (.string ⟨#[]⟩)).setCell ⟨p, 11, none⟩ (.bool false)).drew.cell? ⟨w.heap.size + 1, 1, none⟩ = some (fnV fs) ∧ ((((((W0.setCell ⟨p, 6, none⟩ (.bool (!up))).setCell ⟨p, 7, none⟩ (fnV fs)).setCell ⟨p, 8, none⟩ (fnV fp)).setCell ⟨p, 9, none⟩ (.string ⟨#[]⟩)).setCell ⟨p, 10, none⟩ (.string ⟨#[]⟩)).setCell ⟨p, 11, none⟩ (.bool false)).drew.cell? ⟨w.heap.size + 1, 2, none⟩ = some (fnV fp))) := by
    have hpl : p < w.heap.size := mv_box_lt HH.out.2.1
    have n1 : w.heap.size ≠ p := by omega
    have n2 : w.heap.size + 1 ≠ p := by omega
    have u1 := ((H0.out.2.1.other n1 6 (.bool (!up))).other n1 7 (fnV fs)).other n1 8 (fnV fp)
    have v1 := ((H0.out.2.2.other n2 6 (.bool (!up))).other n2 7 (fnV fs)).other n2 8 (fnV fp)
    have u2 := (u1.other n1 9 (.string ⟨#[]⟩)).other n1 10 (.string ⟨#[]⟩)
    have v2 := (v1.other n2 9 (.string ⟨#[]⟩)).other n2 10 (.string ⟨#[]⟩)
    have u3 := u2.other n1 11 (.bool false)
    have v3 := v2.other n2 11 (.bool false)
    have key : ∀ V : World, Box V w.heap.size 26 #[at_ p] → Box V (w.heap.size + 1) TWay #[.bool (!up), fnV fs, fnV fp] → V.drew.cell? ⟨w.heap.size, 0, none⟩ = some (at_ p) ∧ V.drew.cell? ⟨w.heap.size + 1, 0, none⟩ = some (.bool (!up)) ∧ V.drew.cell? ⟨w.heap.size + 1, 1, none⟩ = some (fnV fs) ∧ V.drew.cell? ⟨w.heap.size + 1, 2, none⟩ = some (fnV fp) := fun V g1 g2 => ⟨g1.cell 0, g2.cell 0, g2.cell 1, g2.cell 2⟩
    exact ⟨key _ u1 v1, key _ u2 v2, key _ u3 v3⟩
  go_region_held3 (fun V => V.cell? ⟨w.heap.size, 0, none⟩ = some (at_ p) ∧ V.cell? ⟨w.heap.size + 1, 0, none⟩ = some (.bool (!up)) ∧ V.cell? ⟨w.heap.size + 1, 1, none⟩ = some (fnV fs) ∧ V.cell? ⟨w.heap.size + 1, 2, none⟩ = some (fnV fp)) (first | with_reducible exact ⟨a0, b0, b1, b2⟩ | with_reducible exact HST.out.1 | with_reducible exact HST.out.2.1 | with_reducible exact HST.out.2.2 | go_keep) (fail)
  have HL : Hid (IvS (tlV T up fs fp) w (lookW W0 p up fs fp).drew R R p L (posV (allL L) i up) (fun k => k = w.heap.size ∨ k = w.heap.size + 1) ∧ Box (lookW W0 p up fs fp).drew w.heap.size 26 #[at_ p]) := by
    have hpl : p < w.heap.size := mv_box_lt HH.out.2.1
    have n1 : w.heap.size ≠ p := by omega
    exact ⟨(H0.out.1.look up fs fp).drew, ((((((H0.out.2.1.other n1 _ _).other n1 _ _).other n1 _ _).other n1 _ _).other n1 _ _).other n1 _ _).drew17⟩
  clear c5 c6 c7 c8 c9 c10 c11 cs k5 k6 k7 k8 k9 k10 k11 ks a0 b0 b1 b2 HST HD H0
  unfold lookW at HL
  generalize ((((((W0.setCell ⟨p, 6, none⟩ (.bool (!up))).setCell ⟨p, 7, none⟩ (fnV fs)).setCell ⟨p, 8, none⟩ (fnV fp)).setCell ⟨p, 9, none⟩ (.string ⟨#[]⟩)).setCell ⟨p, 10, none⟩ (.string ⟨#[]⟩)).setCell ⟨p, 11, none⟩ (.bool false)).drew = W1 at HL ⊢
  have a0 : W1.cell? ⟨w.heap.size, 0, none⟩ = some (at_ p) := HL.out.2.cell 0
  go_wp2_with fail
  refine (seen_any17 p W1).mono ?_
  rintro _ W2 ⟨rfl, hW2⟩
  have HL2 : Hid (IvS (tlV T up fs fp) w W2 R R p L (posV (allL L) i up) (fun k => k = w.heap.size ∨ k = w.heap.size + 1 ∨ k = W1.heap.size) ∧ Box W2 w.heap.size 26 #[at_ p] ∧ Box W2 W1.heap.size 26 #[at_ p]) := by
    rw [hW2]
    refine ⟨(HL.out.1.alloc _).less fun k hk => ?_, HL.out.2.alloc _, Box.new _ _ _⟩
    rcases hk with rfl | rfl | rfl
    · exact .inl (.inl rfl)
    · exact .inl (.inr rfl)
    · exact .inr rfl
  clear hW2 a0 HL
  generalize W1.heap.size = bv at HL2 ⊢
  go_wp2_with fail
  refine (wpIn_wide (n := 3)).1 ?_
  refine range_once rfl (by omega) (gf := 36) (lb := #[at_ bv]) rfl trivial (enters_of Try.func36 (by kernel_rfl) rfl) (fun fn r _ hr => ?_)
  obtain ⟨W3, eW3⟩ : ∃ W3, W3 = (W2.alloc (.deferred (some []))).alloc (.loop r) := ⟨_, rfl⟩
  rw [← eW3]
  have H3 : Hid (IvS (tlV T up fs fp) w W3 R R p L (posV (allL L) i up) (fun k => k = w.heap.size ∨ k = w.heap.size + 1 ∨ k = bv) ∧ Box W3 w.heap.size 26 #[at_ p] ∧ Box W3 bv 26 #[at_ p] ∧ W3.heap[W2.heap.size]? = some (.deferred (some [])) ∧ W3.heap[W2.heap.size + 1]? = some (.loop r) ∧ w.heap.size ≤ W2.heap.size ∧ W2.heap.size + 1 < W3.heap.size) := by
    rw [eW3]
    refine ⟨((HL2.out.1.alloc _).alloc _).less fun k hk => .inl (.inl hk), (HL2.out.2.1.alloc _).alloc _, (HL2.out.2.2.alloc _).alloc _, ?_, ?_, HL2.out.1.chg.size, by simp⟩
    · exact (Below.heap_alloc _ _ _ (by simp)).trans (World.alloc_heap_new W2 _)
    · have := World.alloc_heap_new (W2.alloc (.deferred (some []))) (.loop r)
      rwa [World.size_alloc] at this
  clear eW3 HL2
  generalize W2.heap.size = D at hr H3 ⊢
  have HR : Hid (r = _) := hr
  have HY : Hid (∀ (k i' : Nat) (R' : Nat → Prop) (W : World), nextV (seenL s (allL L)) j up = some k → k < (seenL s (allL L)).length → CutV s (allL L) i' (afterJ k up) → IvS (tlV T up fs fp) W3 W R R' p L (posV (allL L) i' up) (fun _ => False) → YieldAt Fence.wide 1 Try.prog (D + 1) #[.agg #[.string ((seenL s (allL L)).getD k i0).1, .string ((seenL s (allL L)).getD k i0).2]] W fun e W2 => e = .returned (.bool false) ∧ LookQ (tlV T up fs fp) w R p L s j up D r W2) := fun k i' R' W hk hkl hcn hiv => by
    have hnR : ∀ q, w.heap.size ≤ q → q < W3.heap.size → ¬ R' q := fun q h1 h2 hq => by
      rcases hiv.sub q hq with h4 | h4
      · have := mv_lt HH.out.2.1 q h4
        omega
      · omega
    have hnr : ∀ q, w.heap.size ≤ q → ¬ R q := fun q h1 hq => by
      have := mv_lt HH.out.2.1 q hq
      omega
    have hD1 : W.heap[D + 1]? = some (.loop r) := (hiv.chg.block _ H3.out.2.2.2.2.2.2 (hnr _ (by have := H3.out.2.2.2.2.2.1; omega))).trans H3.out.2.2.2.2.1
    have hD0 : W.heap[D]? = some (.deferred (some [])) := (hiv.chg.block _ (by have := H3.out.2.2.2.2.2.2; omega) (hnr _ H3.out.2.2.2.2.2.1)).trans H3.out.2.2.2.1
    have hbx : Box W w.heap.size 26 #[at_ p] := H3.out.2.1.kept (hiv.chg.block _ H3.out.2.1.lt (hnr _ (Nat.le_refl _)))
    have HI : Hid (IvS (tlV T up fs fp) w W R R' p L (posV (allL L) i' up) (fun k => k = w.heap.size ∨ k = w.heap.size + 1 ∨ k = bv)) := H3.out.1.join hiv
    have HQ : Hid (nextV (seenL s (allL L)) j up = some k ∧ k < (seenL s (allL L)).length ∧ CutV s (allL L) i' (afterJ k up) ∧ (∀ q, w.heap.size ≤ q → q < W3.heap.size → ¬ R' q) ∧ W.heap[D + 1]? = some (.loop r) ∧ W.heap[D]? = some (.deferred (some [])) ∧ Box W w.heap.size 26 #[at_ p]) := ⟨hk, hkl, hcn, hnR, hD1, hD0, hbx⟩
    clear hk hkl hcn hiv hnR hnr hD0 hbx
    generalize hge : (seenL s (allL L)).getD k i0 = e at HQ ⊢
    have HGE : Hid ((seenL s (allL L)).getD k i0 = e) := hge
    clear hge
    have hlt1 : D + 1 < W.heap.size := (Array.getElem?_eq_some_iff.1 hD1).1
    refine yield_once (r := r) (W1 := W.alloc (.cells #[.string e.1, .string e.2] TItm)) trivial hD1 (by rw [hr]) (by rw [hr]; rfl) ({ tmps := #[at_ p, .agg #[.bool (!up), fnV fs, fnV fp], .pointer (some ⟨w.heap.size, 0, none⟩), .pointer (some ⟨w.heap.size + 1, 0, none⟩), .pointer (some ⟨W.heap.size, 0, none⟩), at_ p, at_ p, at_ p, .agg #[.bool (!up), fnV fs, fnV fp], .agg #[.string ⟨#[]⟩, .string ⟨#[]⟩], .pointer (some ⟨p, 0, none⟩), .pointer (some ⟨p, 6, none⟩), .pointer (some ⟨p, 0, none⟩), .pointer (some ⟨p, 9, none⟩), .pointer (some ⟨p, 0, none⟩), .pointer (some ⟨p, 11, none⟩), at_ p, .func (.func 36) #[] #[at_ bv], .agg #[.string e.1, .string e.2], undef, undef, undef, undef, undef, undef, undef], defers := [] } : Act) ?assign ((Below.heap_alloc _ _ _ hlt1).trans hD1) ?body
    case assign =>
      intro K hK
      clear hD1 HR HI HQ
      simp only [hr]
      clear hr
      gi_wp2
      exact hK
    case body =>
      have HB : Hid (IvS (tlV T up fs fp) w ((W.alloc (.cells #[.string e.1, .string e.2] TItm)).putObj (D + 1) (.loop { r with state := .busy })) R R' p L (posV (allL L) i' up) (fun _ => False) ∧ Box ((W.alloc (.cells #[.string e.1, .string e.2] TItm)).putObj (D + 1) (.loop { r with state := .busy })) w.heap.size 26 #[at_ p] ∧ Box ((W.alloc (.cells #[.string e.1, .string e.2] TItm)).putObj (D + 1) (.loop { r with state := .busy })) W.heap.size TItm #[.string e.1, .string e.2] ∧ ((W.alloc (.cells #[.string e.1, .string e.2] TItm)).putObj (D + 1) (.loop { r with state := .busy })).heap[D + 1]? = some (.loop { r with state := .busy }) ∧ ((W.alloc (.cells #[.string e.1, .string e.2] TItm)).putObj (D + 1) (.loop { r with state := .busy })).heap[D]? = some (.deferred (some []))) := by
        obtain ⟨_, _, _, hnR, hd1, hd0, hbx⟩ := HQ.out
        have hb0 := hbx.lt
        have hge := H3.out.2.2.2.2.2.1
        have hl3 := H3.out.2.2.2.2.2.2
        have hnb : w.heap.size ≠ D + 1 := by omega
        have hnW : W.heap.size ≠ D + 1 := by omega
        refine ⟨((HI.out.alloc (.cells #[.string e.1, .string e.2] TItm)).other (chg_putObj _) fun k hk => ?_).less fun k hk => hk.elim, (hbx.alloc _).kept (World.putObj_heap_other hnb), (Box.new W TItm #[.string e.1, .string e.2]).kept (World.putObj_heap_other hnW), World.putObj_heap_same (by simp; omega), (World.putObj_heap_other (by omega)).trans ((Below.heap_alloc _ _ _ (by omega)).trans hd0)⟩
        rw [hk]
        exact ⟨by omega, hnR _ (by omega) hl3⟩
      clear hlt1 hD1 HI
      generalize (W.alloc (.cells #[.string e.1, .string e.2] TItm)).putObj (D + 1) (.loop { r with state := .busy }) = Wb at HB ⊢
      have HPO : Hid (∀ W5 : World, LookQ (tlV T up fs fp) w R p L s j up D r W5 → (fun (e : Ending) (W2 : World) => e = .returned (.bool false) ∧ LookQ (tlV T up fs fp) w R p L s j up D r W2) (.returned (.bool false)) W5) := fun W5 h5 => ⟨rfl, h5⟩
      generalize (fun (e : Ending) (W2 : World) => e = .returned (.bool false) ∧ LookQ (tlV T up fs fp) w R p L s j up D r W2) = RR at HPO ⊢
      rw [congrArg Loop.body hr]
      clear hr
      obtain ⟨c5, c6, c7, c8, c9, c10, c11⟩ := HB.out.1.it.cells
      have cs := HB.out.1.it.soft
      have a0 : Wb.cell? ⟨w.heap.size, 0, none⟩ = some (at_ p) := HB.out.2.1.cell 0
      have b0 : Wb.cell? ⟨W.heap.size, 0, none⟩ = some (.string e.1) := HB.out.2.2.1.cell 0
      have b1 : Wb.cell? ⟨W.heap.size, 1, none⟩ = some (.string e.2) := HB.out.2.2.1.cell 1
      generalize W.heap.size = q at HB b0 b1 ⊢
      have HE : Hid ((((Wb.setCell ⟨p, 9, none⟩ (.string e.1)).setCell ⟨p, 10, none⟩ (.string e.2)).setCell ⟨p, 11, none⟩ (.bool true)).drew.heap[D + 1]? = some (.loop { r with state := .busy }) ∧ LookQ (tlV T up fs fp) w R p L s j up D r ((((Wb.setCell ⟨p, 9, none⟩ (.string e.1)).setCell ⟨p, 10, none⟩ (.string e.2)).setCell ⟨p, 11, none⟩ (.bool true)).drew.putObj (D + 1) (.loop { r with state := .done, pending := some (.exit 0) }))) := by
        obtain ⟨hk, hkl, hcn, hnR, hd1, hd0, hbx⟩ := HQ.out
        have hl3 := H3.out.2.2.2.2.2.2
        have hge := H3.out.2.2.2.2.2.1
        have hpR : R' p := by
          obtain ⟨_, _, _, _, _, _, hp⟩ := HB.out.1.it.box
          exact hp
        have n1 : D + 1 ≠ p := fun e2 => hnR (D + 1) (by omega) hl3 (by rw [e2]; exact hpR)
        have n0 : D ≠ p := fun e2 => hnR D hge (by omega) (by rw [e2]; exact hpR)
        have k1 : ∀ q', q' ≠ p → (((Wb.setCell ⟨p, 9, none⟩ (.string e.1)).setCell ⟨p, 10, none⟩ (.string e.2)).setCell ⟨p, 11, none⟩ (.bool true)).drew.heap[q']? = Wb.heap[q']? := fun q' hq' => ((Below.heap_setCell _ _ _ _ hq').trans (Below.heap_setCell _ _ _ _ hq')).trans (Below.heap_setCell _ _ _ _ hq')
        have h1 := (k1 _ n1).trans HB.out.2.2.2.1
        have h0 := (k1 _ n0).trans HB.out.2.2.2.2
        refine ⟨h1, k, i', R', hk, hkl, hcn, ?_, World.putObj_heap_same (Array.getElem?_eq_some_iff.1 h1).1, (World.putObj_heap_other (by omega)).trans h0, fun q' hq' => hnR q' (by omega) (by omega)⟩
        rw [HGE.out]
        refine ((HB.out.1.at e).drew).other (chg_putObj _) fun q' hq' => ?_
        rw [hq']
        exact ⟨by omega, hnR _ (by omega) hl3⟩
      have hmx : Try.prog.follows .mixedOrders = true := by kernel_rfl
      clear HB HQ HGE H3 HR HH
      gi_wp2
      gi_region_with_o (fail)
      all_goals gi_wp2
      all_goals exact ⟨_, _, run_endRound (some (.exit 0)) HE.out.1, HPO.out _ HE.out.2⟩
  have HE0 : (#[.func (.yield (D + 1)) #[] #[]] ++ #[at_ bv] : Array Value) = #[.func (.yield (D + 1)) #[] #[], at_ bv] := rfl
  rw [HE0]
  clear HE0
  have HSE := seen1_any (T := tlV T up fs fp) (w := W3) (R := R) (i := i) (j := j) (l := D + 1) (bv := bv) 1 (Nat.le_refl _) HH.out.1 rfl rfl HH.out.2.2.2.2.2 H3.out.1.it HH.out.2.2.1 H3.out.2.2.1 (H3.out.1.keep bv (.inr (.inr rfl))).2.2 _ HY.out
  have HPD : Hid (r.pending = none ∧ r.state = .ready) := by rw [hr]; exact ⟨rfl, rfl⟩
  clear hr HR HY
  refine HSE.mono ?_
  clear HSE
  rintro _ W4 ⟨rfl, hc⟩
  have HNR : Hid (∀ q, w.heap.size ≤ q → ¬ R q) := fun q h1 hq => by
    have := mv_lt HH.out.2.1 q hq
    omega
  rcases hc with ⟨hno, R4, hiv⟩ | ⟨k, hk, hq⟩
  · have hge := H3.out.2.2.2.2.2.1
    have hl3 := H3.out.2.2.2.2.2.2
    have hl4 : W4.heap[D + 1]? = some (.loop r) := (hiv.chg.block _ hl3 (HNR.out _ (by omega))).trans H3.out.2.2.2.2.1
    have hd4 : W4.heap[D]? = some (.deferred (some [])) := (hiv.chg.block _ (by omega) (HNR.out _ hge)).trans H3.out.2.2.2.1
    have hend := run_endLoop (P := Try.prog) hl4 (by rw [HPD.out.2]; simp)
    rw [HPD.out.1] at hend
    have hj := H3.out.1.join hiv
    have hn4 : ∀ q, w.heap.size ≤ q → q < W3.heap.size → ¬ R4 q := fun q h1 h2 hq => by
      rcases hiv.sub q hq with h4 | h4
      · exact HNR.out q h1 h4
      · omega
    have hdK : (W4.putObj (D + 1) (.loop { r with state := .exhausted, pending := none })).heap[D]? = some (.deferred (some [])) := (World.putObj_heap_other (by omega)).trans hd4
    have HF : Hid (VwPost Vw17 R p (seenL s (allL L)) (nextV (seenL s (allL L)) j up) w ((W4.putObj (D + 1) (.loop { r with state := .exhausted, pending := none })).putObj D (.deferred none))) := by
      have h1 := (hj.other (chg_putObj (q := D + 1) (.loop { r with state := .exhausted, pending := none })) fun q hq => by rw [hq]; exact ⟨by omega, hn4 _ (by omega) hl3⟩).other (chg_putObj (q := D) (.deferred none)) fun q hq => by rw [hq]; exact ⟨hge, hn4 _ hge (by omega)⟩
      rw [hno]
      exact ⟨R4, ⟨L, s, _, _, h1.it, rfl, HH.out.2.2.2.1, HH.out.2.2.2.2.1, HH.out.2.2.2.2.2, rfl, fun _ => ⟨rfl, rfl⟩, fun k e => by cases e⟩, h1.sub, h1.chg⟩
    clear hiv hj hn4 hno H3 HH HNR hl4 hd4
    refine ⟨none, _, hend, ?_⟩
    clear hend
    generalize W4.putObj (D + 1) (.loop { r with state := .exhausted, pending := none }) = W5 at hdK HF ⊢
    gi_wp2
    refine ⟨by simp, .inl ⟨_, _, rfl, run_takeDeferred hdK, ?_⟩⟩
    exact ⟨_, results_none rfl _ _ _, rfl, HF.out⟩
  · obtain ⟨k, i', R4, hk, hkl, hcn, hiv, hl4, hd4, hn4⟩ := hq
    have hge := H3.out.2.2.2.2.2.1
    have hend := run_endLoop (P := Try.prog) hl4 (by simp)
    have hdK : (W4.putObj (D + 1) (.loop { r with state := .exhausted, pending := some (.exit 0) })).heap[D]? = some (.deferred (some [])) := (World.putObj_heap_other (by omega)).trans hd4
    have HF : Hid (VwPost Vw17 R p (seenL s (allL L)) (nextV (seenL s (allL L)) j up) w ((W4.putObj (D + 1) (.loop { r with state := .exhausted, pending := some (.exit 0) })).putObj D (.deferred none))) := by
      have h1 := (hiv.other (chg_putObj (q := D + 1) (.loop { r with state := .exhausted, pending := some (.exit 0) })) fun q hq => by rw [hq]; exact ⟨by omega, hn4 _ (.inr rfl)⟩).other (chg_putObj (q := D) (.deferred none)) fun q hq => by rw [hq]; exact ⟨hge, hn4 _ (.inl rfl)⟩
      rw [hk]
      exact ⟨R4, ⟨L, s, _, _, h1.it, rfl, HH.out.2.2.2.1, HH.out.2.2.2.2.1, HH.out.2.2.2.2.2, rfl, fun e => (by cases e), fun k2 e => by
        obtain rfl := Option.some.inj e
        exact ⟨hkl, rfl, rfl, up, i', rfl, hcn, rfl⟩⟩, h1.sub, h1.chg⟩
    clear hiv hn4 hk hkl hcn H3 HH hl4 hd4
    refine ⟨some (.exit 0), _, hend, ?_⟩
    clear hend
    generalize W4.putObj (D + 1) (.loop { r with state := .exhausted, pending := some (.exit 0) }) = W5 at hdK HF ⊢
    gi_wp2
    refine ⟨by simp, .inl ⟨_, _, rfl, run_takeDeferred hdK, ?_⟩⟩
    exact ⟨_, results_none rfl _ _ _, rfl, HF.out⟩
end
end Go.Proofs.Ytjoamhcehpjepab
/- A view goes to what is seen beside what it is at. -/
namespace Go.Proofs.Ytjoamhcehpjepab
open Go.RowKit
set_option linter.unusedVariables false
set_option linter.unusedSimpArgs false
/-- Where a view is, told from its iterator. -/
theorem vw_post {T : Tl} {w W w' : World} {R R1 : Nat → Prop} {p : Nat} {L : List (List KV)} {oi : Option Nat} {K : Nat → Prop} {I : List It17} {o : Option Nat} (hi : IvS T w W R R1 p L oi K) (hp : VwPost Vw17 R1 p I o W w') : VwPost Vw17 R p I o w w' := by
  obtain ⟨R2, h1, h2, h3⟩ := hp
  refine ⟨R2, h1, fun k hk => ?_, hi.chg.andThen h3 fun k hk hr => ?_⟩
  · rcases h2 k hk with h4 | h4
    · exact hi.sub k h4
    · exact .inr (Nat.le_trans hi.chg.size h4)
  · rcases hi.sub k hr with h4 | h4
    · exact h4
    · omega
theorem item_size {s : Nat} {S : List KV} (hs : SortU S) (hw : WfS S) {k : Nat} (h : k < (seenL s S).length) : ((seenL s S).getD k i0).1.size ≤ 140737488351232 := by
  obtain ⟨m, hm, hu⟩ := item_user hs h
  rw [List.getD_eq_getElem?_getD, List.getElem?_eq_getElem h]
  show (seenL s S)[k].1.size ≤ _
  rw [← hu]
  exact (hw _ (List.getElem_mem hm)).1
theorem getD_at {l : List It17} {k : Nat} (h : k < l.length) : l.getD k i0 = l[k] := by
  rw [List.getD_eq_getElem?_getD, List.getElem?_eq_getElem h]
  rfl
set_option maxRecDepth 100000 in
set_option maxHeartbeats 4000000 in
theorem beside_on {w : World} {R : Nat → Prop} {p k : Nat} {I : List It17} (h : Vw17 w R p I (some k)) :
    Calls Try.prog 17 #[at_ p, .agg #[.bool false, .func (.func 25) #[] #[], .func (.func 26) #[] #[]]] w fun e w' => e = .returned (.tuple #[]) ∧ VwPost Vw17 R p I (nextV I (k + 1) true) w w' := by
  obtain ⟨L, s, T, oi, hm, rfl, hs, hwf, hsq, his, _, hk⟩ := h
  obtain ⟨hkl, hak, hav, up, i, hwb, hcut, rfl⟩ := hk k rfl
  clear hk
  have HC : Hid (SortU (allL L) ∧ s < 18446744073709551616 ∧ WfS (allL L) ∧ T.sq = .int .u64 (s : Int) ∧ k < (seenL s (allL L)).length ∧ CutV s (allL L) i (afterJ k up)) := ⟨all_sortU hm.rise, hs, hwf, hsq, hkl, hcut⟩
  have HCE : Hid (∀ (W : World) (R' : Nat → Prop) (o : Option Nat), MgV T W R' p L o → W.cell? ⟨p, 6, none⟩ = some (.bool (!up)) ∧ W.cell? ⟨p, 9, none⟩ = some (.string ((seenL s (allL L)).getD k i0).1)) := fun W R' o hW => by
    obtain ⟨_, c6, _, _, c9, _⟩ := hW.cells
    rw [hwb] at c6; rw [hak] at c9
    exact ⟨c6, c9⟩
  have H0 : Hid (IvS T w (w.alloc (.cells #[.bool false, .func (.func 25) #[] #[], .func (.func 26) #[] #[]] TWay)) R R p L (posV (allL L) i up) (fun q => q = w.heap.size) ∧ Box (w.alloc (.cells #[.bool false, .func (.func 25) #[] #[], .func (.func 26) #[] #[]] TWay)) w.heap.size TWay #[.bool false, .func (.func 25) #[] #[], .func (.func 26) #[] #[]]) := ⟨((IvS.start hm).alloc _).less fun q hq => .inr hq, Box.new _ _ _⟩
  clear hm hs hwf hsq his hkl hak hav hwb hcut
  go_enter Try.func17, Try.ntmps17
  go_wp2_with fail
  generalize w.alloc (.cells #[.bool false, .func (.func 25) #[] #[], .func (.func 26) #[] #[]] TWay) = W0 at H0 ⊢
  obtain ⟨c6, c9⟩ := HCE.out W0 R _ H0.out.1.it
  have b0 := H0.out.2.cell 0
  have b1 := H0.out.2.cell 1
  have b2 := H0.out.2.cell 2
  simp only [List.getElem?_toArray, List.getElem?_cons_succ, List.getElem?_cons_zero] at b0 b1 b2
  cases up with
  | true =>
    go_quiet (fail)
    have HI : Hid (IvS T w (W0.drewN nq) R R p L (posV (allL L) i true) (fun q => q = w.heap.size)) := H0.out.1.drewN nq
    clear H0
    go_wp2_with fail
    refine (look_any (up := true) newc_on HI.out.it HC.out.2.2.2.2.2 HC.out.2.1 HC.out.2.2.1 HC.out.2.2.2.1).mono ?_
    rintro _ w9 ⟨rfl, hp9⟩
    have HF : Hid (VwPost Vw17 R p (seenL s (allL L)) (nextV (seenL s (allL L)) (k + 1) true) w w9) := vw_post HI.out hp9
    clear hp9
    go_wp2
    go_end0
    exact ⟨rfl, HF.out⟩
  | false =>
    go_quiet (fail)
    have HI : Hid (IvS T w (W0.drewN nq) R R p L (posV (allL L) i false) (fun q => q = w.heap.size) ∧ Box (W0.drewN nq) w.heap.size TWay #[.bool false, .func (.func 25) #[] #[], .func (.func 26) #[] #[]]) := ⟨H0.out.1.drewN nq, H0.out.2⟩
    have HSZ : Hid (((seenL s (allL L)).getD k i0).1.size ≤ 140737488351232) := item_size HC.out.1 HC.out.2.2.1 HC.out.2.2.2.2.1
    have HLT : Hid (CutV s (allL L) (seekI (allL L) (firstK (zeroB ((seenL s (allL L)).getD k i0).1))) (k + 1)) := by
      rw [getD_at HC.out.2.2.2.2.1]
      exact cutv_behind HC.out.1 HC.out.2.2.1 HC.out.2.2.2.2.1
    clear H0 c6 c9 b0 b1 b2
    go_wp2_with fail
    generalize W0.drewN nq = W1 at HI ⊢
    have HB1 : Hid (IvS T w W1.drew R R p L (posV (allL L) i false) (fun q => q = w.heap.size) ∧ Box W1.drew w.heap.size TWay #[.bool false, .func (.func 25) #[] #[], .func (.func 26) #[] #[]]) := ⟨HI.out.1.drew, HI.out.2.drew17⟩
    have e9 : W1.drew.cell? ⟨p, 9, none⟩ = some (.string ((seenL s (allL L)).getD k i0).1) := (HCE.out _ R _ HB1.out.1.it).2
    have e2 : W1.drew.cell? ⟨w.heap.size, 2, none⟩ = some (.func (.func 26) #[] #[]) := HB1.out.2.cell 2
    clear HI
    go_region_held3 (fun V => V.cell? ⟨p, 9, none⟩ = some (.string ((seenL s (allL L)).getD k i0).1) ∧ V.cell? ⟨w.heap.size, 2, none⟩ = some (.func (.func 26) #[] #[])) (first | exact ⟨e9, e2⟩ | go_keep)
      (first
       | (go_at_call 26; refine (paston_any (u := ((seenL s (allL L)).getD k i0).1) HB1.out.1.it HSZ.out).mono ?_; rintro _ vx ⟨rfl, hpx⟩
          obtain ⟨R2, hi2, hk2, _⟩ := HB1.out.1.step hpx
          have HI2 : Hid (IvS T w vx R R2 p L (posV (allL L) (seekI (allL L) (firstK (zeroB ((seenL s (allL L)).getD k i0).1))) true) (fun q => q = w.heap.size) ∧ Box vx w.heap.size TWay #[.bool false, .func (.func 25) #[] #[], .func (.func 26) #[] #[]]) := ⟨hi2, HB1.out.2.kept (hk2 _ rfl)⟩
          have e9 : vx.cell? ⟨p, 9, none⟩ = some (.string ((seenL s (allL L)).getD k i0).1) := (HCE.out vx R2 _ HI2.out.1.it).2
          have e2 : vx.cell? ⟨w.heap.size, 2, none⟩ = some (.func (.func 26) #[] #[]) := HI2.out.2.cell 2
          clear hpx hi2 hk2))
    clear e9 e2 HB1
    have b0 := HI2.out.2.cell 0
    have b1 := HI2.out.2.cell 1
    have b2 := HI2.out.2.cell 2
    simp only [List.getElem?_toArray, List.getElem?_cons_succ, List.getElem?_cons_zero] at b0 b1 b2
    go_wp2_with fail
    refine (look_any (up := true) newc_on HI2.out.1.it HLT.out HC.out.2.1 HC.out.2.2.1 HC.out.2.2.2.1).mono ?_
    rintro _ w9 ⟨rfl, hp9⟩
    have HF : Hid (VwPost Vw17 R p (seenL s (allL L)) (nextV (seenL s (allL L)) (k + 1) true) w w9) := vw_post HI2.out.1 hp9
    clear hp9
    go_wp2
    go_end0
    exact ⟨rfl, HF.out⟩
set_option maxRecDepth 100000 in
set_option maxHeartbeats 4000000 in
theorem beside_back {w : World} {R : Nat → Prop} {p k : Nat} {I : List It17} (h : Vw17 w R p I (some k)) :
    Calls Try.prog 17 #[at_ p, .agg #[.bool true, .func (.func 29) #[] #[], .func (.func 30) #[] #[]]] w fun e w' => e = .returned (.tuple #[]) ∧ VwPost Vw17 R p I (nextV I k false) w w' := by
  obtain ⟨L, s, T, oi, hm, rfl, hs, hwf, hsq, his, _, hk⟩ := h
  obtain ⟨hkl, hak, hav, up, i, hwb, hcut, rfl⟩ := hk k rfl
  clear hk
  have HC : Hid (SortU (allL L) ∧ s < 18446744073709551616 ∧ WfS (allL L) ∧ T.sq = .int .u64 (s : Int) ∧ k < (seenL s (allL L)).length ∧ CutV s (allL L) i (afterJ k up)) := ⟨all_sortU hm.rise, hs, hwf, hsq, hkl, hcut⟩
  have HCE : Hid (∀ (W : World) (R' : Nat → Prop) (o : Option Nat), MgV T W R' p L o → W.cell? ⟨p, 6, none⟩ = some (.bool (!up)) ∧ W.cell? ⟨p, 9, none⟩ = some (.string ((seenL s (allL L)).getD k i0).1)) := fun W R' o hW => by
    obtain ⟨_, c6, _, _, c9, _⟩ := hW.cells
    rw [hwb] at c6; rw [hak] at c9
    exact ⟨c6, c9⟩
  have H0 : Hid (IvS T w (w.alloc (.cells #[.bool true, .func (.func 29) #[] #[], .func (.func 30) #[] #[]] TWay)) R R p L (posV (allL L) i up) (fun q => q = w.heap.size) ∧ Box (w.alloc (.cells #[.bool true, .func (.func 29) #[] #[], .func (.func 30) #[] #[]] TWay)) w.heap.size TWay #[.bool true, .func (.func 29) #[] #[], .func (.func 30) #[] #[]]) := ⟨((IvS.start hm).alloc _).less fun q hq => .inr hq, Box.new _ _ _⟩
  clear hm hs hwf hsq his hkl hak hav hwb hcut
  go_enter Try.func17, Try.ntmps17
  go_wp2_with fail
  generalize w.alloc (.cells #[.bool true, .func (.func 29) #[] #[], .func (.func 30) #[] #[]] TWay) = W0 at H0 ⊢
  obtain ⟨c6, c9⟩ := HCE.out W0 R _ H0.out.1.it
  have b0 := H0.out.2.cell 0
  have b1 := H0.out.2.cell 1
  have b2 := H0.out.2.cell 2
  simp only [List.getElem?_toArray, List.getElem?_cons_succ, List.getElem?_cons_zero] at b0 b1 b2
  cases up with
  | false =>
    go_quiet (fail)
    have HI : Hid (IvS T w (W0.drewN nq) R R p L (posV (allL L) i false) (fun q => q = w.heap.size)) := H0.out.1.drewN nq
    clear H0
    go_wp2_with fail
    refine (look_any (up := false) newc_back HI.out.it HC.out.2.2.2.2.2 HC.out.2.1 HC.out.2.2.1 HC.out.2.2.2.1).mono ?_
    rintro _ w9 ⟨rfl, hp9⟩
    have HF : Hid (VwPost Vw17 R p (seenL s (allL L)) (nextV (seenL s (allL L)) k false) w w9) := vw_post HI.out hp9
    clear hp9
    go_wp2
    go_end0
    exact ⟨rfl, HF.out⟩
  | true =>
    go_quiet (fail)
    have HI : Hid (IvS T w (W0.drewN nq) R R p L (posV (allL L) i true) (fun q => q = w.heap.size) ∧ Box (W0.drewN nq) w.heap.size TWay #[.bool true, .func (.func 29) #[] #[], .func (.func 30) #[] #[]]) := ⟨H0.out.1.drewN nq, H0.out.2⟩
    have HLT : Hid (CutV s (allL L) (seekI (allL L) (firstK ((seenL s (allL L)).getD k i0).1)) k ∧ seekI (allL L) (firstK ((seenL s (allL L)).getD k i0).1) < (allL L).length) := by
      rw [getD_at HC.out.2.2.2.2.1]
      exact cutv_ahead HC.out.1 HC.out.2.2.1 HC.out.2.2.2.2.1
    clear H0 c6 c9 b0 b1 b2
    go_wp2_with fail
    generalize W0.drewN nq = W1 at HI ⊢
    have HB1 : Hid (IvS T w W1.drew R R p L (posV (allL L) i true) (fun q => q = w.heap.size) ∧ Box W1.drew w.heap.size TWay #[.bool true, .func (.func 29) #[] #[], .func (.func 30) #[] #[]]) := ⟨HI.out.1.drew, HI.out.2.drew17⟩
    have e9 : W1.drew.cell? ⟨p, 9, none⟩ = some (.string ((seenL s (allL L)).getD k i0).1) := (HCE.out _ R _ HB1.out.1.it).2
    have e2 : W1.drew.cell? ⟨w.heap.size, 2, none⟩ = some (.func (.func 30) #[] #[]) := HB1.out.2.cell 2
    clear HI
    go_region_held3 (fun V => V.cell? ⟨p, 9, none⟩ = some (.string ((seenL s (allL L)).getD k i0).1) ∧ V.cell? ⟨w.heap.size, 2, none⟩ = some (.func (.func 30) #[] #[])) (first | exact ⟨e9, e2⟩ | go_keep)
      (first
       | (go_at_call 30; refine (pastback_any (u := ((seenL s (allL L)).getD k i0).1) HB1.out.1.it HLT.out.2).mono ?_; rintro _ vx ⟨rfl, hpx⟩
          obtain ⟨R2, hi2, hk2, _⟩ := HB1.out.1.step hpx
          have HI2 : Hid (IvS T w vx R R2 p L (posV (allL L) (seekI (allL L) (firstK ((seenL s (allL L)).getD k i0).1)) false) (fun q => q = w.heap.size) ∧ Box vx w.heap.size TWay #[.bool true, .func (.func 29) #[] #[], .func (.func 30) #[] #[]]) := ⟨hi2, HB1.out.2.kept (hk2 _ rfl)⟩
          have e9 : vx.cell? ⟨p, 9, none⟩ = some (.string ((seenL s (allL L)).getD k i0).1) := (HCE.out vx R2 _ HI2.out.1.it).2
          have e2 : vx.cell? ⟨w.heap.size, 2, none⟩ = some (.func (.func 30) #[] #[]) := HI2.out.2.cell 2
          clear hpx hi2 hk2))
    clear e9 e2 HB1
    have b0 := HI2.out.2.cell 0
    have b1 := HI2.out.2.cell 1
    have b2 := HI2.out.2.cell 2
    simp only [List.getElem?_toArray, List.getElem?_cons_succ, List.getElem?_cons_zero] at b0 b1 b2
    go_wp2_with fail
    refine (look_any (up := false) newc_back HI2.out.1.it HLT.out.1 HC.out.2.1 HC.out.2.2.1 HC.out.2.2.2.1).mono ?_
    rintro _ w9 ⟨rfl, hp9⟩
    have HF : Hid (VwPost Vw17 R p (seenL s (allL L)) (nextV (seenL s (allL L)) k false) w w9) := vw_post HI2.out.1 hp9
    clear hp9
    go_wp2
    go_end0
    exact ⟨rfl, HF.out⟩
end Go.Proofs.Ytjoamhcehpjepab
