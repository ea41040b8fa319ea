/- The statements' own awake: it answers true. -/
import Derived.Test.YtcdfgcjecmpjhaaV14App
import Derived.Test.YtcdfgcjecmpjhaaV14Ask
import Derived.Deep.RegionHeld3
namespace Go.Proofs.Ytcdfgcjecmpjhaa
open Go.RowKit
set_option linter.unusedVariables false
set_option linter.unusedSimpArgs false
def fileP (l : Int) (q : Nat) (a b : ByteArray) : PF := ⟨l, q, 1, ⟨a, 1, 1⟩, ⟨b, 1, 1⟩⟩
def f3 : PF := fileP 1 3 ⟨#[97]⟩ ⟨#[99]⟩
def f4a : PF := fileP 1 4 ⟨#[99]⟩ ⟨#[100]⟩
def f4b : PF := fileP 1 4 ⟨#[100]⟩ ⟨#[101]⟩
theorem f3_err : f3.err = 0 := by decide +kernel
theorem f4a_err : f4a.err = 0 := by decide +kernel
theorem f4b_err : f4b.err = 0 := by decide +kernel
def v1 : PV := addV noV f3
theorem v1_all : v1.all = [f3] := rfl
theorem f3_f4 : apartF f3 f4b := by decide +kernel
theorem f4_f3 : ¬ apartF f4b f3 := by decide +kernel
theorem apply1 : applyV noV (oneE f3) = (0, v1) := by
  rw [apply_mk (x := oneE f3) VOk.none (by rw [oneE_err]; exact f3_err) rfl]
  rfl
theorem v1_ok : VOk v1 := (one_ok apply1).1
theorem apply2 : applyV v1 (oneE f4a) = (143, noV) := by
  rw [apply_mk (x := oneE f4a) v1_ok (by rw [oneE_err]; exact f4a_err) rfl]
  have : addE v1 f4a = 143 := by decide +kernel
  show addsV v1 [f4a] = _
  unfold addsV
  rw [this]
  rfl
def v2 : PV := addV v1 f4b
theorem apply3 : applyV v1 (oneE f4b) = (0, v2) := by
  rw [apply_mk (x := oneE f4b) v1_ok (by rw [oneE_err]; exact f4b_err) rfl]
  have : addE v1 f4b = 0 := by decide +kernel
  show addsV v1 [f4b] = _
  unfold addsV
  rw [this]
  rfl
theorem v2_one : v2 1 = [f3, f4b] := by
  show insF 1 f4b [f3] = _
  unfold insF
  rw [if_neg (by unfold ahead; rw [if_neg (by decide)]; exact f4_f3)]
  rfl
theorem h3a : hasU f3 ⟨#[98]⟩ ⟨#[122]⟩ = true := by decide +kernel
theorem h4a : hasU f4b ⟨#[98]⟩ ⟨#[122]⟩ = true := by decide +kernel
theorem h3b : hasU f3 ⟨#[100]⟩ ⟨#[100]⟩ = false := by decide +kernel
theorem h4c : hasU f4b ⟨#[100]⟩ ⟨#[100]⟩ = true := by decide +kernel
theorem over2 : overV v2 1 ⟨#[98]⟩ ⟨#[122]⟩ = [f3, f4b] := by
  unfold overV
  rw [if_pos (by decide), show (1 : Int).toNat = 1 from rfl, v2_one]
  simp [havF, List.filter_cons, h3a, h4a]
theorem ask2 : askV v2 4 ⟨#[100]⟩ = [f4b] := by
  rw [askV_succ, askV_succ, askV_succ, askV_succ, v2_one]
  have e : havF ⟨#[100]⟩ ⟨#[100]⟩ [f3, f4b] = [f4b] := by
    simp [havF, List.filter_cons, h3b, h4c]
  rw [e]
  rfl
theorem v2_len : v2.all.length = 2 := by
  unfold PV.all
  rw [v2_one]
  rfl
set_option maxRecDepth 100000 in
set_option maxHeartbeats 2000000 in
theorem file_any (l : Int) (q : Int) (a b : ByteArray) (w : World) : Calls Try.prog 25 #[.int .i64 l, .int .u64 q, .string a, .string b] w fun e w' => e = .returned (.agg #[.int .i64 l, .int .u64 q, .int .i64 1, .string a, .int .u64 1, .int .i64 1, .string b, .int .u64 1, .int .i64 1]) ∧ Below w.heap.size w w' := by
  have HB : Hid (Below w.heap.size w (w.alloc (.cells #[.int .i64 l, .int .u64 q, .int .i64 1, .string a, .int .u64 1, .int .i64 1, .string b, .int .u64 1, .int .i64 1] TF))) := (Below.refl _ _).alloc (Nat.le_refl _) _
  go_enter Try.func25, Try.ntmps25
  go_wp2
  refine bodyPost_ret (v := .agg #[.int .i64 l, .int .u64 q, .int .i64 1, .string a, .int .u64 1, .int .i64 1, .string b, .int .u64 1, .int .i64 1]) (by simp [results, Try.results25, go_sem]) rfl ?_
  exact ⟨rfl, HB.out⟩
/-- What awake has behind its first call. -/
structure Aw (w : World) (p1 : Nat) (t : SV) (V : World) : Prop where
  old : ∃ w2 : World, w2.heap.size = p1 ∧ Below w.heap.size w w2 ∧ VnAt w2 v1 t ∧ Below p1 w2 V
  box : Box V p1 TVn (vA v1 t)
theorem Aw.below {w V : World} {p1 : Nat} {t : SV} (h : Aw w p1 t V) : Below w.heap.size w V := by
  obtain ⟨w2, rfl, h1, _, h3⟩ := h.old
  exact h1.trans (h3.mono h1.size)
theorem Aw.at_ {w V : World} {p1 : Nat} {t : SV} (h : Aw w p1 t V) : VnAt V v1 t := by
  obtain ⟨w2, rfl, _, h2, h3⟩ := h.old
  exact h2.below h3
theorem Aw.later {w V V' : World} {p1 : Nat} {t : SV} (h : Aw w p1 t V) (hb : Below V.heap.size V V') : Aw w p1 t V' := by
  obtain ⟨w2, e, h1, h2, h3⟩ := h.old
  exact ⟨⟨w2, e, h1, h2, h3.trans (hb.mono (Nat.le_of_lt h.box.lt))⟩, h.box.kept (hb.block _ h.box.lt)⟩
theorem Aw.set {w V : World} {p1 : Nat} {t : SV} (h : Aw w p1 t V) {p : Nat} (hp : p1 < p) (j : Nat) (v : Value) : Aw w p1 t (V.setCell ⟨p, j, none⟩ v) := by
  obtain ⟨w2, e, h1, h2, h3⟩ := h.old
  have hc : Chg (fun k => k = p) V (V.setCell ⟨p, j, none⟩ v) := (Chg.refl (fun k => k = p) V).set (fun _ => rfl) _ _
  exact ⟨⟨w2, e, h1, h2, h3.trans (hc.below (fun k hk => by omega) (Nat.le_of_lt h.box.lt))⟩, h.box.other (by omega) _ _⟩
/-- A version that was just made lies in a variable. -/
structure Nw (w : World) (p : Nat) (u : PV) (t : SV) (V : World) : Prop where
  below : Below w.heap.size w V
  at_ : VnAt V u t
  box : Box V p TVn (vA u t)
theorem Nw.new {w V : World} {B : Nat} {u : PV} {t : SV} (hb : Below w.heap.size w V) (ho : OwnV V B u t) : Nw w V.heap.size u t (V.alloc (.cells (vA u t) TVn)) :=
  ⟨hb.alloc hb.size _, (ho.below ((Below.refl _ _).alloc (Nat.le_refl _) _)).at, Box.new _ _ _⟩
theorem Nw.set {w V : World} {B p : Nat} {u : PV} {t : SV} (hb : Below w.heap.size w V) (ho : OwnV V B u t) (hp : p < B) (hw : w.heap.size ≤ p) (hx : Box V p TVn #[.slice none 0 0, .slice none 0 0, .slice none 0 0, .slice none 0 0]) : Nw w p u t ((((V.setCell ⟨p, 0, none⟩ (.slice (t.a 0) (u 0).length (t.c 0))).setCell ⟨p, 1, none⟩ (.slice (t.a 1) (u 1).length (t.c 1))).setCell ⟨p, 2, none⟩ (.slice (t.a 2) (u 2).length (t.c 2))).setCell ⟨p, 3, none⟩ (.slice (t.a 3) (u 3).length (t.c 3))) := by
  have hc : Chg (fun k => k = p) V ((((V.setCell ⟨p, 0, none⟩ (.slice (t.a 0) (u 0).length (t.c 0))).setCell ⟨p, 1, none⟩ (.slice (t.a 1) (u 1).length (t.c 1))).setCell ⟨p, 2, none⟩ (.slice (t.a 2) (u 2).length (t.c 2))).setCell ⟨p, 3, none⟩ (.slice (t.a 3) (u 3).length (t.c 3))) := ((((Chg.refl (fun k => k = p) V).set (fun _ => rfl) _ _).set (fun _ => rfl) _ _).set (fun _ => rfl) _ _).set (fun _ => rfl) _ _
  refine ⟨hb.trans (hc.below (fun k hk => by omega) hb.size), fun n hn => ?_, ((((hx.set 0 _).set 1 _).set 2 _).set 3 _).eq rfl⟩
  have h1 := ho n hn
  exact (h1.kept (fun g hg => hc.block _ (tag_lt (h1.tag hg)) (fun e => by have := h1.ge hg; omega))).fs
theorem f_wf (l : Int) (q : Nat) (a b : UInt8) : WfF (fileP l q ⟨#[a]⟩ ⟨#[b]⟩) := ⟨by show (1 : Nat) ≤ _; omega, by show (1 : Nat) ≤ _; omega⟩
theorem Box.oneF {V : World} {p : Nat} {f : PF} (hv : Box V p TF (fA f)) : FlAt V (some ⟨p, 0, none⟩) 1 1 [f] := by
  refine ⟨rfl, by simp [fc], Nat.le_refl _, by unfold maxLen; omega, by simp, fun _ => ⟨p, 0, rfl, fun j hj => ?_⟩⟩
  rw [Nat.zero_add, hv.cell, ← Array.getElem?_toList]
  simp [fA, fc]
theorem Aw.apply {w V : World} {p1 p : Nat} {t : SV} (f : PF) (hf : WfF f) (r : Nat) (u : PV) (ha : applyV v1 (oneE f) = (r, u)) (h : Aw w p1 t V) (hv : Box V p TF (fA f)) :
    Calls Try.prog 11 #[.agg #[.slice (t.a 0) (v1 0).length (t.c 0), .slice (t.a 1) (v1 1).length (t.c 1), .slice (t.a 2) (v1 2).length (t.c 2), .slice (t.a 3) (v1 3).length (t.c 3)], .agg #[.int .u64 0, .int .u64 0, .int .u64 0, .slice none 0 0, .slice (some ⟨p, 0, none⟩) 1 1]] V fun e w' => ∃ t' : SV, e = .returned (.tuple #[.agg #[.slice (t'.a 0) (u 0).length (t'.c 0), .slice (t'.a 1) (u 1).length (t'.c 1), .slice (t'.a 2) (u 2).length (t'.c 2), .slice (t'.a 3) (u 3).length (t'.c 3)], .int .i64 (r : Int)]) ∧ Hid (Aw w p1 t w' ∧ OwnV w' V.heap.size u t') ∧ Below V.heap.size V w' := by
  have h0 := vapply_any v1 t (oneE f) ⟨none, 0, some ⟨p, 0, none⟩, 1⟩ V h.at_ ⟨GsAt.nil _, hv.oneF⟩ (fun n hn g hg => by
    have hg' : g ∈ v1.all := mem_all.2 ⟨n, hn, hg⟩
    rw [v1_all] at hg'
    obtain rfl := List.mem_singleton.1 hg'
    exact f_wf _ _ _ _) (fun g hg => by obtain rfl := List.mem_singleton.1 hg; exact hf) (by rw [v1_all]; decide)
  rw [ha] at h0
  refine h0.mono ?_
  rintro e w' ⟨t', rfl, ho, hb⟩
  exact ⟨t', rfl, ⟨h.later hb, ho⟩, hb⟩
set_option maxRecDepth 100000 in
set_option maxHeartbeats 8000000 in
theorem awake_any (w : World) : Calls Try.prog 8 #[] w fun e w' => e = .returned (.bool true) ∧ Below w.heap.size w w' := by
  have HF : Hid (∀ (l : Int) (q : Int) (a b : ByteArray) (W : World), Calls Try.prog 25 #[.int .i64 l, .int .u64 q, .string a, .string b] W fun e w' => e = .returned (.agg #[.int .i64 l, .int .u64 q, .int .i64 1, .string a, .int .u64 1, .int .i64 1, .string b, .int .u64 1, .int .i64 1]) ∧ Below W.heap.size W w') := fun l q a b W => file_any l q a b W
  go_enter Try.func8, Try.ntmps8
  go_wp2_with fail
  refine (HF.out _ _ _ _ _).mono ?_
  rintro _ w1 ⟨rfl, hb1⟩
  have H1 : Hid (Below w.heap.size w w1) := hb1
  clear hb1
  have hap : Calls Try.prog 11 #[.agg #[.slice none 0 0, .slice none 0 0, .slice none 0 0, .slice none 0 0], .agg #[.int .u64 0, .int .u64 0, .int .u64 0, .slice none 0 0, .slice (some ⟨w1.heap.size, 0, none⟩) 1 1]] (w1.alloc (.cells (fA f3) TF)) fun e w' => ∃ t : SV, e = .returned (.tuple #[.agg #[.slice (t.a 0) (v1 0).length (t.c 0), .slice (t.a 1) (v1 1).length (t.c 1), .slice (t.a 2) (v1 2).length (t.c 2), .slice (t.a 3) (v1 3).length (t.c 3)], .int .i64 0]) ∧ VnAt w' v1 t ∧ Below w1.heap.size w1 w' := by
    have h0 := vapply_any noV sv0 (oneE f3) ⟨none, 0, some ⟨w1.heap.size, 0, none⟩, 1⟩ (w1.alloc (.cells (fA f3) TF)) (OwnV.none _ 0).at ⟨GsAt.nil _, FlAt.one _ _⟩ (fun n hn f hf => by cases hf) (fun g hg => by obtain rfl := List.mem_singleton.1 hg; exact ⟨by decide, by decide⟩) (by decide)
    rw [apply1] at h0
    refine h0.mono ?_
    rintro e w' ⟨t, rfl, ho, hb⟩
    exact ⟨t, rfl, ho.at, ((Below.refl _ _).alloc (Nat.le_refl _) _).trans (hb.mono (by simp))⟩
  go_wp2_with fail
  refine hap.mono ?_
  rintro _ w2 ⟨t, rfl, hv2, hb2⟩
  have H2 : Hid (Below w.heap.size w w2 ∧ VnAt w2 v1 t) := ⟨H1.out.trans (hb2.mono H1.out.size), hv2⟩
  clear hv2 hb2 hap H1
  obtain ⟨W3, eW, HX⟩ : ∃ W3, W3 = w2.alloc (.cells #[.slice (t.a 0) (v1 0).length (t.c 0), .slice (t.a 1) (v1 1).length (t.c 1), .slice (t.a 2) (v1 2).length (t.c 2), .slice (t.a 3) (v1 3).length (t.c 3)] TVn) ∧ Hid (Aw w w2.heap.size t W3) := by
    have hb : Below w2.heap.size w2 (w2.alloc (.cells (vA v1 t) TVn)) := (Below.refl _ _).alloc (Nat.le_refl _) _
    exact ⟨_, rfl, ⟨w2, rfl, H2.out.1, H2.out.2, hb⟩, Box.new _ _ _⟩
  have HWL : Hid (w.heap.size ≤ w2.heap.size) := H2.out.1.size
  go_upto_region 2 with fail
  rw [← eW]
  generalize w2.heap.size = p1 at HX HWL ⊢
  have hwl : w.heap.size ≤ p1 := HWL.out
  clear eW H2 HWL
  go_cut [3, 4] (fun s3 s4 wz => ∃ p3 : Nat, s3 = at_ p3 ∧ s4 = .int .i64 143 ∧ Hid (Aw w p1 t wz))
  case first =>
    have HXD : Hid (Aw w p1 t W3.drew) := HX.out.later (Below.refl _ _).drew
    obtain ⟨z0, z1, z2, z3⟩ := HXD.out.box.fourV
    have hlt3 := HX.out.box.lt
    have hne3 : p1 ≠ W3.heap.size := by omega
    have hne4 : W3.heap.size ≠ p1 := by omega
    obtain ⟨y0, y1, y2, y3⟩ := (HX.out.later ((Below.refl _ _).alloc (Nat.le_refl _) (.cells #[.slice none 0 0, .slice none 0 0, .slice none 0 0, .slice none 0 0] TVn)).drew).box.fourV
    go_region_held3 (fun V => V.cell? ⟨p1, 0, none⟩ = some (.slice (t.a 0) (v1 0).length (t.c 0)) ∧ V.cell? ⟨p1, 1, none⟩ = some (.slice (t.a 1) (v1 1).length (t.c 1)) ∧ V.cell? ⟨p1, 2, none⟩ = some (.slice (t.a 2) (v1 2).length (t.c 2)) ∧ V.cell? ⟨p1, 3, none⟩ = some (.slice (t.a 3) (v1 3).length (t.c 3))) (first | exact ⟨z0, z1, z2, z3⟩ | exact ⟨y0, y1, y2, y3⟩ | go_keep)
      (first
        | (go_at_call 25; refine (HF.out _ _ _ _ _).mono ?_; rintro _ vx ⟨rfl, hvx⟩; have HY : Hid (Aw w p1 t vx) := (by first | exact HXD.out.later hvx | exact (HX.out.later ((Below.refl _ _).alloc (Nat.le_refl _) _).drew).later hvx); (try (have KX : Hid (Box vx W3.heap.size TVn #[.slice none 0 0, .slice none 0 0, .slice none 0 0, .slice none 0 0]) := (by have h9 : Box (W3.alloc (.cells #[.slice none 0 0, .slice none 0 0, .slice none 0 0, .slice none 0 0] TVn)).drew W3.heap.size TVn #[.slice none 0 0, .slice none 0 0, .slice none 0 0, .slice none 0 0] := Box.new W3 TVn #[.slice none 0 0, .slice none 0 0, .slice none 0 0, .slice none 0 0]; exact h9.kept (hvx.block _ h9.lt)))); have hsx : W3.heap.size ≤ vx.heap.size := (by have := hvx.size; simp at this; omega); clear hvx z0 z1 z2 z3; obtain ⟨z0, z1, z2, z3⟩ := HY.out.box.fourV; have hlx := HY.out.box.lt; have hnx : p1 ≠ vx.heap.size := Nat.ne_of_lt hlx)
        | (go_at_call 11; refine Calls.mono (Aw.apply f4a (f_wf _ _ _ _) 143 noV apply2 (w := w) (p1 := p1) (by first | exact HY.out.later ((Below.refl _ _).alloc (Nat.le_refl _) _) | exact HY.out.later (((Below.refl _ _).alloc (Nat.le_refl _) _).alloc (by simp) _)) (by first | exact Box.new _ _ _ | exact (Box.new _ _ _).alloc _ | (have := Box.new (vx.alloc (.cells #[.slice none 0 0, .slice none 0 0, .slice none 0 0, .slice none 0 0] TVn)) TF (fA f4a); rw [World.size_alloc] at this; exact this))) ?_; rintro _ vy ⟨t2, rfl, HZ, hby⟩; clear z0 z1 z2 z3; obtain ⟨z0, z1, z2, z3⟩ := HZ.out.1.box.fourV
           have hp1 := HY.out.box.lt
           first
             | (have KB : Hid (Box vy (vx.heap.size + 1) TVn #[.slice none 0 0, .slice none 0 0, .slice none 0 0, .slice none 0 0]) := (by
                  have h9 := Box.new (vx.alloc (.cells (fA f4a) TF)) TVn #[.slice none 0 0, .slice none 0 0, .slice none 0 0, .slice none 0 0]; rw [World.size_alloc] at h9
                  exact h9.kept (hby.block _ h9.lt))
                have k0 := KB.out.cell 0
                have k1 := KB.out.cell 1
                have k2 := KB.out.cell 2
                have k3 := KB.out.cell 3
                have ks := KB.out.soft
                have kn : p1 < vx.heap.size + 1 := (by omega)
                have kn1 : p1 ≠ vx.heap.size + 1 := (by omega)
                have kn2 : vx.heap.size + 1 ≠ p1 := (by omega)
                have KO : Hid (OwnV vy (vx.heap.size + 1 + 1) noV t2) := (by
                  intro n hn
                  refine (HZ.out.2 n hn).less ?_
                  simp
                  try omega)
                clear hby)
             | (have KB : Hid (Box vy (vx.heap.size) TVn #[.slice none 0 0, .slice none 0 0, .slice none 0 0, .slice none 0 0]) := (by
                  have h9 := (Box.new vx TVn #[.slice none 0 0, .slice none 0 0, .slice none 0 0, .slice none 0 0]).alloc (.cells (fA f4a) TF)
                  exact h9.kept (hby.block _ h9.lt))
                have k0 := KB.out.cell 0
                have k1 := KB.out.cell 1
                have k2 := KB.out.cell 2
                have k3 := KB.out.cell 3
                have ks := KB.out.soft
                have kn : p1 < vx.heap.size := (by omega)
                have kn1 : p1 ≠ vx.heap.size := (by omega)
                have kn2 : vx.heap.size ≠ p1 := (by omega)
                have KO : Hid (OwnV vy (vx.heap.size + 1) noV t2) := (by
                  intro n hn
                  refine (HZ.out.2 n hn).less ?_
                  simp
                  try omega)
                clear hby)
             | (have KB : Hid (Box vy (W3.heap.size) TVn #[.slice none 0 0, .slice none 0 0, .slice none 0 0, .slice none 0 0]) := (by
                  have h9 := KX.out.alloc (.cells (fA f4a) TF)
                  exact h9.kept (hby.block _ h9.lt))
                have k0 := KB.out.cell 0
                have k1 := KB.out.cell 1
                have k2 := KB.out.cell 2
                have k3 := KB.out.cell 3
                have ks := KB.out.soft
                have kn : p1 < W3.heap.size := (by omega)
                have kn1 : p1 ≠ W3.heap.size := (by omega)
                have kn2 : W3.heap.size ≠ p1 := (by omega)
                have KO : Hid (OwnV vy (W3.heap.size + 1) noV t2) := (by
                  intro n hn
                  refine (HZ.out.2 n hn).less ?_
                  simp
                  try omega)
                clear hby)
             | clear hby))
    all_goals go_wp2_with fail
    all_goals go_meet
    all_goals first
      | exact ⟨_, rfl, rfl, HZ.out.1.later ((Below.refl _ _).alloc (Nat.le_refl _) _)⟩
      | exact ⟨_, rfl, rfl, (((HZ.out.1.set kn _ _).set kn _ _).set kn _ _).set kn _ _⟩
  case rest =>
    obtain ⟨p3, rfl, rfl, HX3⟩ := hcut
    clear HX
    go_upto_region 3 with fail
    go_cut [5, 6] (fun s5 s6 wz => ∃ (p5 : Nat) (t3 : SV), s5 = at_ p5 ∧ s6 = .int .i64 0 ∧ Hid (Nw w p5 v2 t3 wz))
    case first =>
      have HXD : Hid (Aw w p1 t wc.drew) := HX3.out.later (Below.refl _ _).drew
      obtain ⟨z0, z1, z2, z3⟩ := HXD.out.box.fourV
      have hlt3 := HX3.out.box.lt
      have hne3 : p1 ≠ wc.heap.size := by omega
      have hne4 : wc.heap.size ≠ p1 := by omega
      obtain ⟨y0, y1, y2, y3⟩ := (HX3.out.later ((Below.refl _ _).alloc (Nat.le_refl _) (.cells #[.slice none 0 0, .slice none 0 0, .slice none 0 0, .slice none 0 0] TVn)).drew).box.fourV
      go_region_held3 (fun V => V.cell? ⟨p1, 0, none⟩ = some (.slice (t.a 0) (v1 0).length (t.c 0)) ∧ V.cell? ⟨p1, 1, none⟩ = some (.slice (t.a 1) (v1 1).length (t.c 1)) ∧ V.cell? ⟨p1, 2, none⟩ = some (.slice (t.a 2) (v1 2).length (t.c 2)) ∧ V.cell? ⟨p1, 3, none⟩ = some (.slice (t.a 3) (v1 3).length (t.c 3))) (first | exact ⟨z0, z1, z2, z3⟩ | exact ⟨y0, y1, y2, y3⟩ | go_keep)
        (first
          | (go_at_call 25; refine (HF.out _ _ _ _ _).mono ?_; rintro _ vx ⟨rfl, hvx⟩; have HY : Hid (Aw w p1 t vx) := (by first | exact HXD.out.later hvx | exact (HX3.out.later ((Below.refl _ _).alloc (Nat.le_refl _) _).drew).later hvx); (try (have KX : Hid (Box vx wc.heap.size TVn #[.slice none 0 0, .slice none 0 0, .slice none 0 0, .slice none 0 0]) := (by have h9 : Box (wc.alloc (.cells #[.slice none 0 0, .slice none 0 0, .slice none 0 0, .slice none 0 0] TVn)).drew wc.heap.size TVn #[.slice none 0 0, .slice none 0 0, .slice none 0 0, .slice none 0 0] := Box.new wc TVn #[.slice none 0 0, .slice none 0 0, .slice none 0 0, .slice none 0 0]; exact h9.kept (hvx.block _ h9.lt)))); have hsx : wc.heap.size ≤ vx.heap.size := (by have := hvx.size; simp at this; omega); clear hvx z0 z1 z2 z3; obtain ⟨z0, z1, z2, z3⟩ := HY.out.box.fourV; have hlx := HY.out.box.lt; have hnx : p1 ≠ vx.heap.size := Nat.ne_of_lt hlx)
          | (go_at_call 11; refine Calls.mono (Aw.apply f4b (f_wf _ _ _ _) 0 v2 apply3 (w := w) (p1 := p1) (by first | exact HY.out.later ((Below.refl _ _).alloc (Nat.le_refl _) _) | exact HY.out.later (((Below.refl _ _).alloc (Nat.le_refl _) _).alloc (by simp) _)) (by first | exact Box.new _ _ _ | exact (Box.new _ _ _).alloc _ | (have := Box.new (vx.alloc (.cells #[.slice none 0 0, .slice none 0 0, .slice none 0 0, .slice none 0 0] TVn)) TF (fA f4b); rw [World.size_alloc] at this; exact this))) ?_; rintro _ vy ⟨t2, rfl, HZ, hby⟩; clear z0 z1 z2 z3; obtain ⟨z0, z1, z2, z3⟩ := HZ.out.1.box.fourV
             have hp1 := HY.out.box.lt
             first
               | (have KB : Hid (Box vy (vx.heap.size + 1) TVn #[.slice none 0 0, .slice none 0 0, .slice none 0 0, .slice none 0 0]) := (by
                    have h9 := Box.new (vx.alloc (.cells (fA f4b) TF)) TVn #[.slice none 0 0, .slice none 0 0, .slice none 0 0, .slice none 0 0]; rw [World.size_alloc] at h9
                    exact h9.kept (hby.block _ h9.lt))
                  have k0 := KB.out.cell 0
                  have k1 := KB.out.cell 1
                  have k2 := KB.out.cell 2
                  have k3 := KB.out.cell 3
                  have ks := KB.out.soft
                  have kn : p1 < vx.heap.size + 1 := (by omega)
                  have kn1 : p1 ≠ vx.heap.size + 1 := (by omega)
                  have kn2 : vx.heap.size + 1 ≠ p1 := (by omega)
                  have KO : Hid (OwnV vy (vx.heap.size + 1 + 1) v2 t2) := (by
                    intro n hn
                    refine (HZ.out.2 n hn).less ?_
                    simp
                    try omega)
                  clear hby)
               | (have KB : Hid (Box vy (vx.heap.size) TVn #[.slice none 0 0, .slice none 0 0, .slice none 0 0, .slice none 0 0]) := (by
                    have h9 := (Box.new vx TVn #[.slice none 0 0, .slice none 0 0, .slice none 0 0, .slice none 0 0]).alloc (.cells (fA f4b) TF)
                    exact h9.kept (hby.block _ h9.lt))
                  have k0 := KB.out.cell 0
                  have k1 := KB.out.cell 1
                  have k2 := KB.out.cell 2
                  have k3 := KB.out.cell 3
                  have ks := KB.out.soft
                  have kn : p1 < vx.heap.size := (by omega)
                  have kn1 : p1 ≠ vx.heap.size := (by omega)
                  have kn2 : vx.heap.size ≠ p1 := (by omega)
                  have KO : Hid (OwnV vy (vx.heap.size + 1) v2 t2) := (by
                    intro n hn
                    refine (HZ.out.2 n hn).less ?_
                    simp
                    try omega)
                  clear hby)
               | (have KB : Hid (Box vy (wc.heap.size) TVn #[.slice none 0 0, .slice none 0 0, .slice none 0 0, .slice none 0 0]) := (by
                    have h9 := KX.out.alloc (.cells (fA f4b) TF)
                    exact h9.kept (hby.block _ h9.lt))
                  have k0 := KB.out.cell 0
                  have k1 := KB.out.cell 1
                  have k2 := KB.out.cell 2
                  have k3 := KB.out.cell 3
                  have ks := KB.out.soft
                  have kn : p1 < wc.heap.size := (by omega)
                  have kn1 : p1 ≠ wc.heap.size := (by omega)
                  have kn2 : wc.heap.size ≠ p1 := (by omega)
                  have KO : Hid (OwnV vy (wc.heap.size + 1) v2 t2) := (by
                    intro n hn
                    refine (HZ.out.2 n hn).less ?_
                    simp
                    try omega)
                  clear hby)
               | clear hby))
      all_goals go_wp2_with fail
      all_goals go_meet
      all_goals first
        | exact ⟨_, t2, rfl, rfl, Nw.new HZ.out.1.below HZ.out.2⟩
        | exact ⟨_, t2, rfl, rfl, Nw.set HZ.out.1.below KO.out (by omega) (by have := HZ.out.1.below.size; omega) KB.out⟩
    case rest =>
      obtain ⟨p5, t3, rfl, rfl, HN⟩ := hcut
      clear HX3
      obtain ⟨z0, z1, z2, z3⟩ := HN.out.box.fourV
      have hov := over_any v2 t3 1 ⟨#[98]⟩ ⟨#[122]⟩ wc HN.out.at_ (by rw [v2_len]; decide)
      rw [over2] at hov
      go_wp2_with fail
      refine hov.mono ?_
      rintro _ w4 ⟨a4, c4, rfl, ho4, hb4⟩
      have H4 : Hid (Nw w p5 v2 t3 w4 ∧ FlAt w4 a4 2 c4 [f3, f4b]) := ⟨⟨HN.out.below.trans (hb4.mono HN.out.below.size), HN.out.at_.below hb4, HN.out.box.kept (hb4.block _ HN.out.box.lt)⟩, ho4.fs⟩
      clear ho4 hb4 hov z0 z1 z2 z3
      obtain ⟨z0, z1, z2, z3⟩ := H4.out.1.box.fourV
      have has := ask_any v2 t3 ⟨#[100]⟩ w4 H4.out.1.at_ (by rw [v2_len]; decide)
      rw [ask2] at has
      go_wp2_with fail
      refine has.mono ?_
      rintro _ w5 ⟨a5, c5, rfl, ho5, hb5⟩
      have H5 : Hid (Below w.heap.size w w5) := H4.out.1.below.trans (hb5.mono H4.out.1.below.size)
      have hfl4 : FlAt w5 a4 2 c4 [f3, f4b] := H4.out.2.below hb5
      have hfl5 : FlAt w5 a5 1 c5 [f4b] := ho5.fs
      obtain ⟨b4, o4, hx4, _, hc4⟩ := hfl4.at (k := 0) (by decide)
      obtain ⟨b5, o5, hx5, _, hc5⟩ := hfl5.at (k := 0) (by decide)
      have g4 : w5.cell? ⟨b4, o4 + 1, none⟩ = some (.int .u64 3) := (hc4 w5 (Below.refl _ _)).c1
      have g5 : w5.cell? ⟨b5, o5 + 1, none⟩ = some (.int .u64 4) := (hc5 w5 (Below.refl _ _)).c1
      have hx4' : ∀ W : World, (Instr.indexAt 23 (.slice a4 2 c4) (.int .i64 0)).run Try.prog W = .ok (.pointer (some ⟨b4, o4, none⟩)) W := hx4
      have hx5' : ∀ W : World, (Instr.indexAt 23 (.slice a5 1 c5) (.int .i64 0)).run Try.prog W = .ok (.pointer (some ⟨b5, o5, none⟩)) W := hx5
      clear hx4 hx5 hc4 hc5 hfl4 hfl5 ho5 hb5 has z0 z1 z2 z3
      have e4 : ([f3, f4b] : List PF).length = 2 := rfl
      have e5 : ([f4b] : List PF).length = 1 := rfl
      simp only [e4, e5]
      clear e4 e5
      go_wp2
      go_ret
      exact ⟨ret1 rfl, H5.out⟩
end Go.Proofs.Ytcdfgcjecmpjhaa
