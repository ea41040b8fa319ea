/- The contracts of edit's takers: number, count, gone, key. -/
import Derived.Test.YtmlfbihlbiikeaaGreatDoorQa05
import Derived.Test.YtmlfbihlbiikeaaGreatDoorQa14
import Derived.Test.YtmlfbihlbiikeaaGreatDoorQa15
import Derived.Maps.AppendAt
namespace Go.Proofs.YtmlfbihlbiikeaaGreatDoor
open Go.RowKit
set_option linter.unusedVariables false
set_option linter.unusedSimpArgs false
abbrev TT : TypeId := 261
structure Tk (w0 w : World) (p : Nat) (b : List UInt8) : Prop where
  here : ∃ a n c, Box w p TT #[.slice a n c] ∧ BsAt w0 a n c b
  base : Below w0.heap.size w0 w
  new : w0.heap.size ≤ p
theorem Tk.lt {w0 w : World} {p : Nat} {b : List UInt8} (h : Tk w0 w p b) : p < w.heap.size := by
  obtain ⟨_, _, _, h1, _⟩ := h.here
  exact h1.lt
theorem Tk.stepB {w0 w w' : World} {p : Nat} {b : List UInt8} (h : Tk w0 w p b) (hc : Chg (· = p) w w') : Below w0.heap.size w0 w' := h.base.trans (hc.below (fun k e => by have := h.new; omega) h.base.size)
theorem Tk.call {w0 w w' : World} {p : Nat} {b : List UInt8} (h : Tk w0 w p b) (hb : Below w.heap.size w w') : Tk w0 w' p b := by
  obtain ⟨a, n, c, h1, h2⟩ := h.here
  exact ⟨⟨a, n, c, h1.kept (hb.block _ h1.lt), h2⟩, h.base.trans (hb.mono h.base.size), h.new⟩
theorem Tk.same {w0 w w' : World} {p : Nat} {b : List UInt8} (h : Tk w0 w p b) (hk : w'.heap[p]? = w.heap[p]?) (hb : Below w0.heap.size w0 w') : Tk w0 w' p b := by
  obtain ⟨a, n, c, h1, h2⟩ := h.here
  exact ⟨⟨a, n, c, h1.kept hk, h2⟩, hb, h.new⟩
theorem numR_some {b : List UInt8} {n k : Nat} (h : uvRead b = (n, k, 0)) : numR b = some (n, b.drop k) := by unfold numR; rw [h]; rfl
theorem numR_none {b : List UInt8} {n k e : Nat} (h : uvRead b = (n, k, e)) (he : e ≠ 0) : numR b = none := by unfold numR; rw [h]; simp [he]
set_option maxRecDepth 100000 in
set_option maxHeartbeats 1000000 in
theorem number_at {w0 w : World} {p : Nat} {b : List UInt8} (h : Tk w0 w p b) :
    Calls Tryz.prog 192 #[at_ p] w fun r w' => Chg (· = p) w w' ∧ w'.heap.size = w.heap.size ∧ ((numR b = none ∧ r = gaveUp) ∨ ∃ x b', numR b = some (x, b') ∧ r = .returned (.int .u64 (x : Int)) ∧ Tk w0 w' p b') := by
  obtain ⟨a, n, c, hbx, hbs⟩ := h.here
  have HT : Hid (Tk w0 w p b) := h
  have hc : w.cell? ⟨p, 0, none⟩ = some (.slice a n c) := hbx.cell 0
  have hz := hbx.soft 0
  have hok := uvRead_ok b
  obtain ⟨x, k, er, hr⟩ : ∃ x k er, uvRead b = (x, k, er) := ⟨_, _, _, rfl⟩
  rw [hr] at hok
  have hu := uvarint_eq (hbs.below (Nat.le_refl _) h.base) hr
  have hsz := hbs.size
  have HB : Hid (Box w p TT #[.slice a n c]) := hbx
  by_cases he : er = 0
  · subst he
    simp at hok
    have hkn : k ≤ n := by omega
    obtain ⟨a', hs, hb'⟩ := slice_any hbs k hkn
    have HN : Hid (numR b = some (x, b.drop k) ∧ BsAt w0 a' (n - k) (c - k) (b.drop k)) := ⟨numR_some hr, hb' _ _ hbs⟩
    clear hok hr hb' hbs hbx h hsz
    go_enter Tryz.func192, Tryz.ntmps192
    go_wp2_with fail
    refine hu.mono ?_
    rintro _ w1 ⟨rfl, hw⟩
    obtain rfl : w = w1 := hw.symm
    go_wp2_with fail
    refine (must_yes _).mono ?_
    rintro _ _ ⟨rfl, rfl⟩
    go_wp2
    go_ret
    have hch : Chg (· = p) w (w.setCell ⟨p, 0, none⟩ (.slice a' (n - k) (c - k))) := Chg.set (R := (· = p)) (Chg.refl _ _) (fun _ => rfl) _ _
    exact ⟨hch, by simp, .inr ⟨x, _, HN.out.1, ret1 rfl, ⟨_, _, _, (HB.out.set 0 _).eq (by simp), HN.out.2⟩, HT.out.stepB hch, HT.out.new⟩⟩
  · have HN : Hid (numR b = none) := numR_none hr he
    have hne : ((er : Int) == 0) = false := by simp; omega
    clear hok hr hbs hbx h
    go_enter Tryz.func192, Tryz.ntmps192
    go_wp2_with fail
    refine hu.mono ?_
    rintro _ w1 ⟨rfl, hw⟩
    obtain rfl : w = w1 := hw.symm
    go_wp2_with fail
    refine (must_no _).mono ?_
    rintro _ _ ⟨rfl, rfl⟩
    exact ⟨rfl, Chg.refl _ _, rfl, .inl ⟨HN.out, rfl⟩⟩
abbrev numV (p : Nat) : Value := .func (.func 192) #[at_ p] #[]
set_option maxRecDepth 100000 in
set_option maxHeartbeats 1000000 in
theorem count_at {w0 w : World} {p : Nat} {b : List UInt8} (lim : Nat) (h : Tk w0 w p b) :
    Calls Tryz.prog 193 #[numV p, .int .u64 (lim : Int)] w fun r w' => Chg (· = p) w w' ∧ ((cntR lim b = none ∧ r = gaveUp) ∨ ∃ x b', cntR lim b = some (x, b') ∧ x ≤ lim ∧ r = .returned (.int .u64 (x : Int)) ∧ Tk w0 w' p b') := by
  have hn := number_at h
  go_enter Tryz.func193, Tryz.ntmps193
  go_wp2_with fail
  refine hn.mono ?_
  rintro _ w1 ⟨hc, _, ⟨hno, rfl⟩ | ⟨x, b', hx, rfl, htk⟩⟩
  · exact ⟨rfl, hc, .inl ⟨by unfold cntR; rw [hno]; rfl, rfl⟩⟩
  · have H1 : Hid (Chg (· = p) w w1 ∧ Tk w0 w1 p b' ∧ numR b = some (x, b')) := ⟨hc, htk, hx⟩
    clear hc htk hx hn
    by_cases hle : x ≤ lim
    · go_wp2_with fail
      have hd : decide ((x : Int) ≤ (lim : Int)) = true := decide_eq_true (by omega)
      try rw [hd]
      refine (must_yes _).mono ?_
      rintro _ _ ⟨rfl, rfl⟩
      go_wp2
      go_ret
      exact ⟨H1.out.1, .inr ⟨x, b', by unfold cntR; rw [H1.out.2.2, Option.bind_some, if_pos (by omega)], by omega, ret1 rfl, H1.out.2.1⟩⟩
    · go_wp2_with fail
      have hd : decide ((x : Int) ≤ (lim : Int)) = false := decide_eq_false (by omega)
      try rw [hd]
      refine (must_no _).mono ?_
      rintro _ _ ⟨rfl, rfl⟩
      exact ⟨rfl, H1.out.1, .inl ⟨by unfold cntR; rw [H1.out.2.2, Option.bind_some, if_neg (by omega)], rfl⟩⟩
theorem conv_toI (k : Nat) (W : World) : (convert 23 3 (.int .u64 (k : Int))).run Tryz.prog W = .ok (.int .i64 (toI k)) W := by
  unfold toI
  generalize (k : Int) = z
  simp [convert, run_underlying Tryz.underlying23, run_underlying Tryz.underlying3, go_sem]
theorem Tk.alloc {w0 w : World} {p : Nat} {b : List UInt8} (h : Tk w0 w p b) (o : Obj) : Tk w0 (w.alloc o) p b := h.call ((Below.refl _ _).alloc (Nat.le_refl _) _)
set_option maxRecDepth 100000 in
set_option maxHeartbeats 1000000 in
theorem gone_at {w0 w : World} {p : Nat} {b : List UInt8} (h : Tk w0 w p b) :
    Calls Tryz.prog 194 #[numV p] w fun r w' => Chg (· = p) w w' ∧ ((takeG b = none ∧ r = gaveUp) ∨ ∃ g b', takeG b = some (g, b') ∧ r = .returned (.agg #[.int .i64 g.level, .int .u64 (g.num : Int)]) ∧ Tk w0 w' p b') := by
  have hn := number_at (h.alloc (.cells #[.int .i64 0, .int .u64 0] TG))
  have HP : Hid (Tk w0 w p b ∧ p < w.heap.size) := ⟨h, h.lt⟩
  have HC0 : Hid (Chg (· = p) w (w.alloc (.cells #[.int .i64 0, .int .u64 0] TG)) ∧ Box (w.alloc (.cells #[.int .i64 0, .int .u64 0] TG)) w.heap.size TG #[.int .i64 0, .int .u64 0]) := ⟨(Chg.refl _ _).alloc _, Box.new _ _ _⟩
  clear h
  go_enter Tryz.func194, Tryz.ntmps194
  go_wp2_with fail
  refine hn.mono ?_
  rintro _ w1 ⟨hc, _, ⟨hno, rfl⟩ | ⟨x, b', hx, rfl, htk⟩⟩
  · exact ⟨rfl, HC0.out.1.andThen hc (fun _ _ e => e), .inl ⟨by unfold takeG; rw [hno]; rfl, rfl⟩⟩
  · have H1 : Hid (Chg (· = p) w w1 ∧ numR b = some (x, b') ∧ Box w1 w.heap.size TG #[.int .i64 0, .int .u64 0]) := ⟨HC0.out.1.andThen hc (fun _ _ e => e), hx, HC0.out.2.kept (hc.block _ HC0.out.2.lt (by have := HP.out.2; omega))⟩
    have hcv := conv_toI x
    have hn2 := number_at htk
    have HTX : Hid (toI x = toI x) := rfl
    clear hc htk hx hn
    go_wp2_with fail
    refine hn2.mono ?_
    rintro _ w2 ⟨hc2, _, ⟨hno, rfl⟩ | ⟨y, b2, hy, rfl, htk2⟩⟩
    · exact ⟨rfl, H1.out.1.andThen hc2 (fun _ _ e => e), .inl ⟨by unfold takeG; rw [H1.out.2.1, Option.bind_some, hno]; rfl, rfl⟩⟩
    · have H2 : Hid (Chg (· = p) w w2 ∧ Tk w0 w2 p b2 ∧ Box w2 w.heap.size TG #[.int .i64 0, .int .u64 0]) := ⟨H1.out.1.andThen hc2 (fun _ _ e => e), htk2, H1.out.2.2.kept (hc2.block _ H1.out.2.2.lt (by have := HP.out.2; omega))⟩
      have HG : Hid (takeG b = some (⟨toI x, y⟩, b2)) := by
        show takeG b = _
        unfold takeG
        rw [H1.out.2.1, Option.bind_some, hy]
        rfl
      have c0 : w2.cell? ⟨w.heap.size, 0, none⟩ = some (.int .i64 0) := H2.out.2.2.cell 0
      have c1 : w2.cell? ⟨w.heap.size, 1, none⟩ = some (.int .u64 0) := H2.out.2.2.cell 1
      have z0 := H2.out.2.2.soft 0
      have z1 := H2.out.2.2.soft 1
      clear hc2 htk2 hy hn2
      generalize toI x = lv at HG hcv
      go_wp2
      have hlt := HP.out.2
      refine bodyPost_ret (v := .agg #[.int .i64 lv, .int .u64 (y : Int)]) (by simp [results, Tryz.results194, go_sem, c0, c1]) rfl ⟨(H2.out.1.set (fun e => by omega) _ _).set (fun e => by omega) _ _, .inr ⟨⟨lv, y⟩, b2, HG.out, rfl, ?_⟩⟩
      have hb := (Below.refl w.heap.size w2)
      refine H2.out.2.1.same ?_ ?_
      · rw [Below.heap_setCell _ _ _ _ (by show p ≠ w.heap.size; omega), Below.heap_setCell _ _ _ _ (by show p ≠ w.heap.size; omega)]
      · have hw := HP.out.1.base.size
        exact (H2.out.2.1.base.setCell (by show w0.heap.size ≤ w.heap.size; exact hw) _).setCell (by show w0.heap.size ≤ w.heap.size; exact hw) _
theorem txt_fits (bs : List UInt8) (h : (txtRead bs).2.2 = 0) : (txtRead bs).2.1 ≤ bs.length ∧ (txtRead bs).1.length ≤ bs.length := by
  have hu := uvRead_ok bs
  unfold txtRead at h ⊢
  by_cases h1 : (uvRead bs).2.2 ≠ 0
  · rw [if_pos h1] at h
    exact absurd h h1
  · rw [if_neg h1] at h ⊢
    by_cases h2 : bs.length - (uvRead bs).2.1 < (uvRead bs).1
    · rw [if_pos h2] at h
      simp at h
    · rw [if_neg h2]
      simp only [List.length_take, List.length_drop]
      omega
theorem text_eq {a : Option Addr} {len cap : Nat} {bs : List UInt8} {w : World} (h : BsAt w a len cap bs) {t : List UInt8} {k er : Nat} (hr : txtRead bs = (t, k, er)) :
    Calls Tryz.prog 227 #[.slice a len cap] w fun e w' => e = .returned (.tuple #[.string (strOf t), .int .i64 (k : Nat), .int .i64 (er : Nat)]) ∧ w' = w := by
  have := text_any a len cap bs w h
  rw [hr] at this
  exact this
theorem keyR_some {b t : List UInt8} {k : Nat} (h : txtRead b = (t, k, 0)) (hk : keyOk t = true) : keyR b = some (decKey t, b.drop k) := by unfold keyR; rw [h]; simp [hk]
theorem keyR_none {b t : List UInt8} {k e : Nat} (h : txtRead b = (t, k, e)) (he : e ≠ 0 ∨ keyOk t = false) : keyR b = none := by
  unfold keyR
  rw [h]
  rcases he with he | he <;> simp [he]
def k0 : Array Value := #[.string ⟨#[]⟩, .int .u64 0, .int .i64 0]
set_option maxRecDepth 100000 in
set_option maxHeartbeats 2000000 in
theorem key_at {w0 w : World} {p : Nat} {b : List UInt8} (h : Tk w0 w p b) (hl : b.length ≤ 200000000000000) :
    Calls Tryz.prog 195 #[at_ p] w fun r w' => Chg (· = p) w w' ∧ ((keyR b = none ∧ r = gaveUp) ∨ ∃ k b', keyR b = some (k, b') ∧ r = .returned (.agg #[.string k.user, .int .u64 (k.seq : Int), .int .i64 k.kind]) ∧ Tk w0 w' p b') := by
  obtain ⟨W1, e1, HW⟩ : ∃ W1, W1 = w.alloc (.cells k0 57) ∧ Hid (Chg (· = p) w W1 ∧ Box W1 w.heap.size 57 k0 ∧ Tk w0 W1 p b ∧ p ≠ w.heap.size) := ⟨_, rfl, (Chg.refl _ _).alloc _, Box.new _ _ _, h.alloc _, by have := h.lt; omega⟩
  have hpn := HW.out.2.2.2
  obtain ⟨a, n, c, hbx0, hbs⟩ := h.here
  have hc : w.cell? ⟨p, 0, none⟩ = some (.slice a n c) := hbx0.cell 0
  have hz := hbx0.soft 0
  have hpl : p < w.heap.size := hbx0.lt
  have hc1 : (w.alloc (.cells #[.string ⟨#[]⟩, .int .u64 0, .int .i64 0] 57)).cell? ⟨p, 0, none⟩ = some (.slice a n c) := (hbx0.alloc _).cell 0
  have hbx : Box W1 p TT #[.slice a n c] := by rw [e1]; exact hbx0.alloc _
  obtain ⟨t, k, er, hr⟩ : ∃ t k er, txtRead b = (t, k, er) := ⟨_, _, _, rfl⟩
  have hfit := txt_fits b
  rw [hr] at hfit
  simp only at hfit
  have hu := text_eq (hbs.below (Nat.le_refl _) HW.out.2.2.1.base) hr
  have hsz := hbs.size
  have HB : Hid (Box W1 p TT #[.slice a n c]) := hbx
  have HP : Hid (Tk w0 w p b) := h
  rw [e1] at hu
  by_cases he : er = 0
  · subst he
    obtain ⟨hkl, htl⟩ := hfit rfl
    have hkn : k ≤ n := by omega
    obtain ⟨a', hs, hb'⟩ := slice_any hbs k hkn
    have HS : Hid (BsAt w0 a' (n - k) (c - k) (b.drop k)) := hb' _ _ hbs
    have HR : Hid (txtRead b = (t, k, 0)) := hr
    have hts : (strOf t).size = t.length := str_len t
    have hcv : ∀ W : World, (convert 9 29 (.string (strOf t))).run Tryz.prog W = .ok (.slice (some ⟨W.heap.size, 0, none⟩) t.length (grownCap W t.length 0 5))
        (W.drew.alloc (.cells (bytesRow (strOf t) (grownCap W t.length 0 5)) 5 ((bytesRow (strOf t) (grownCap W t.length 0 5)).size, (bytesRow (strOf t) (grownCap W t.length 0 5)).size + 1))) := fun W => by
      have := run_bytes_of_string W 9 29 5 (strOf t) Tryz.underlying9 Tryz.underlying29 Tryz.underlying5
      rw [hts] at this
      exact this
    have HD : Hid (∀ (W : World) (g : Nat), g = W.heap.size → Calls Tryz.prog 228 #[.slice (some ⟨g, 0, none⟩) t.length (grownCap W t.length 0 5)] (W.drew.alloc (.cells (bytesRow (strOf t) (grownCap W t.length 0 5)) 5 ((bytesRow (strOf t) (grownCap W t.length 0 5)).size, (bytesRow (strOf t) (grownCap W t.length 0 5)).size + 1))) fun e w' => e = .returned (.tuple #[.agg #[.string (decKey t).user, .int .u64 ((decKey t).seq : Int), .int .i64 (decKey t).kind], .int .i64 ((keyErr t : Nat) : Int)]) ∧ Below W.heap.size W w') := fun W g hg => by
      subst hg
      have h1 := BsAt.ofStr W (strOf t) (grownCap W t.length 0 5) ((bytesRow (strOf t) (grownCap W t.length 0 5)).size, (bytesRow (strOf t) (grownCap W t.length 0 5)).size + 1) (by rw [hts]; exact grownCap_ge _ _ _ _) (grownCap_le_maxLen _ _ _ _ (by unfold maxLen; omega))
      rw [hts, show (strOf t).data.toList = t by simp [strOf]] at h1
      refine (decode_any _ _ _ t _ h1).mono ?_
      rintro e w' ⟨rfl, hb⟩
      exact ⟨rfl, (((Below.refl _ W).drew).alloc (Nat.le_refl _) _).trans (hb.mono (by simp))⟩
    have HKE : Hid (keyErr t = if keyOk t then 0 else 20) := rfl
    have HDK : Hid (keyOk t = true → keyR b = some (decKey t, b.drop k)) := fun hk => keyR_some hr hk
    have HDN : Hid (keyOk t = false → keyR b = none) := fun hk => keyR_none hr (.inr hk)
    clear hb' hbs hbx hbx0 h hsz hfit hr hts hkl htl
    generalize decKey t = dk at HD HDK
    go_enter Tryz.func195, Tryz.ntmps195
    go_wp2_with fail
    refine hu.mono ?_
    rintro _ w1 ⟨rfl, hw⟩
    obtain rfl : W1 = w1 := by rw [e1]; exact hw.symm
    have d0 : W1.cell? ⟨p, 0, none⟩ = some (.slice a n c) := HB.out.cell 0
    have y0 := HB.out.soft 0
    clear hw hu hc hz hc1 e1
    go_wp2_with fail
    refine (must_yes _).mono ?_
    rintro _ _ ⟨rfl, rfl⟩
    have H2 : Hid (Chg (· = p) w (W1.setCell ⟨p, 0, none⟩ (.slice a' (n - k) (c - k))) ∧ Box (W1.setCell ⟨p, 0, none⟩ (.slice a' (n - k) (c - k))) w.heap.size 57 k0 ∧ Tk w0 (W1.setCell ⟨p, 0, none⟩ (.slice a' (n - k) (c - k))) p (b.drop k) ∧ W1.heap.size = (W1.setCell ⟨p, 0, none⟩ (.slice a' (n - k) (c - k))).heap.size) := by
      have hch : Chg (· = p) W1 (W1.setCell ⟨p, 0, none⟩ (.slice a' (n - k) (c - k))) := Chg.set (R := (· = p)) (Chg.refl _ _) (fun _ => rfl) _ _
      exact ⟨HW.out.1.andThen hch (fun _ _ e => e), HW.out.2.1.other (Ne.symm hpn) _ _, ⟨⟨_, _, _, (HB.out.set 0 _).eq (by simp), HS.out⟩, HW.out.2.2.1.stepB hch, HW.out.2.2.1.new⟩, by simp⟩
    go_wp2_with fail
    generalize W1.setCell ⟨p, 0, none⟩ (.slice a' (n - k) (c - k)) = W2 at H2 ⊢
    refine (HD.out W2 W1.heap.size H2.out.2.2.2).mono ?_
    rintro _ w3 ⟨rfl, hb3⟩
    have H3 : Hid (Chg (· = p) w w3 ∧ Box w3 w.heap.size 57 k0 ∧ Tk w0 w3 p (b.drop k)) := ⟨H2.out.1.andThen (Chg.of hb3) (fun _ _ e => e), H2.out.2.1.kept (hb3.block _ H2.out.2.1.lt), H2.out.2.2.1.call hb3⟩
    have h3n : w.heap.size < w3.heap.size := H3.out.2.1.lt
    clear hb3 H2
    obtain ⟨W4, e4, H4⟩ : ∃ W4, W4 = w3.alloc (.cells #[.string dk.user, .int .u64 (dk.seq : Int), .int .i64 dk.kind] 57) ∧ Hid (Chg (· = p) w W4 ∧ Box W4 w.heap.size 57 k0 ∧ Tk w0 W4 p (b.drop k) ∧ Box W4 w3.heap.size 57 #[.string dk.user, .int .u64 (dk.seq : Int), .int .i64 dk.kind]) := ⟨_, rfl, H3.out.1.alloc _, H3.out.2.1.alloc _, H3.out.2.2.alloc _, Box.new _ _ _⟩
    have HE4 : Hid (∀ W, W = w3.alloc (.cells #[.string dk.user, .int .u64 (dk.seq : Int), .int .i64 dk.kind] 57) → W = W4) := by rintro W rfl; exact e4.symm
    clear e4
    cases hk : keyOk t with
    | false =>
      have HK : Hid (keyR b = none) := HDN.out hk
      rw [show keyErr t = 20 by rw [HKE.out, hk]; rfl]
      go_wp2_with fail
      refine (must_no _).mono ?_
      rintro _ w5 ⟨rfl, hw5⟩
      obtain rfl : w5 = W4 := HE4.out _ hw5.symm
      exact ⟨rfl, H4.out.1, .inl ⟨HK.out, rfl⟩⟩
    | true =>
      have HK : Hid (keyR b = some (dk, b.drop k)) := HDK.out hk
      rw [show keyErr t = 0 by rw [HKE.out, hk]; rfl]
      go_wp2_with fail
      refine (must_yes _).mono ?_
      rintro _ w5 ⟨rfl, hw5⟩
      obtain rfl : w5 = W4 := HE4.out _ hw5.symm
      have x0 : w5.cell? ⟨w.heap.size, 0, none⟩ = some (.string ⟨#[]⟩) := H4.out.2.1.cell 0
      have x1 : w5.cell? ⟨w.heap.size, 1, none⟩ = some (.int .u64 0) := H4.out.2.1.cell 1
      have x2 : w5.cell? ⟨w.heap.size, 2, none⟩ = some (.int .i64 0) := H4.out.2.1.cell 2
      have q0 : w5.cell? ⟨w3.heap.size, 0, none⟩ = some (.string dk.user) := H4.out.2.2.2.cell 0
      have q1 : w5.cell? ⟨w3.heap.size, 1, none⟩ = some (.int .u64 (dk.seq : Int)) := H4.out.2.2.2.cell 1
      have q2 : w5.cell? ⟨w3.heap.size, 2, none⟩ = some (.int .i64 dk.kind) := H4.out.2.2.2.cell 2
      have z0 := H4.out.2.1.soft 0
      have z1 := H4.out.2.1.soft 1
      have z2 := H4.out.2.1.soft 2
      clear hw5 HE4 H3
      go_wp2
      refine bodyPost_ret (v := .agg #[.string dk.user, .int .u64 (dk.seq : Int), .int .i64 dk.kind]) (by simp [results, Tryz.results195, go_sem, x0, x1, x2]) rfl ⟨((H4.out.1.set (fun e => by omega) _ _).set (fun e => by omega) _ _).set (fun e => by omega) _ _, .inr ⟨dk, b.drop k, HK.out, rfl, ?_⟩⟩
      refine H4.out.2.2.1.same ?_ ?_
      · rw [Below.heap_setCell _ _ _ _ hpn, Below.heap_setCell _ _ _ _ hpn, Below.heap_setCell _ _ _ _ hpn]
      · have hw := HP.out.base.size
        exact ((H4.out.2.2.1.base.setCell (by show w0.heap.size ≤ w.heap.size; exact hw) _).setCell (by show w0.heap.size ≤ w.heap.size; exact hw) _).setCell (by show w0.heap.size ≤ w.heap.size; exact hw) _
  · have HN : Hid (keyR b = none) := keyR_none hr (.inl he)
    have hne : ((er : Int) == 0) = false := by simp; omega
    clear hfit hr hbs hbx h
    go_enter Tryz.func195, Tryz.ntmps195
    go_wp2_with fail
    refine hu.mono ?_
    rintro _ w1 ⟨rfl, hw⟩
    go_wp2_with fail
    refine (must_no _).mono ?_
    rintro _ w2 ⟨rfl, hw2⟩
    refine ⟨rfl, ?_, .inl ⟨HN.out, rfl⟩⟩
    rw [← hw2]
    first | exact (e1 ▸ HW.out.1 : Chg (· = p) w (w.alloc (.cells k0 57))) | (rw [hw, ← e1]; exact HW.out.1)
end Go.Proofs.YtmlfbihlbiikeaaGreatDoor
namespace Go.Proofs.YtmlfbihlbiikeaaGreatDoor
open Go.RowKit
set_option linter.unusedVariables false
set_option linter.unusedSimpArgs false
theorem step_pushV {ops : Array Oper} {o : Oper} {a : Act} {K : Act → World → Prop} {Q : Exit → Act → World → Prop} {E : Prop} (W : World) (hgd : o.guard = none) (s x : Operand) (t e : TypeId)
    (ho : o.op = .call { callee := .builtin .append, args := #[s, x], argTypes := #[t, t] }) (ht : Tryz.prog.underlying t = some (.slice e)) (z : Value) (size bytes : Nat) (hinfo : (Tryz.prog.info? e).map (fun i => (i.zero, i.size, i.bytes)) = some (some z, size, bytes)) (hzs : z.cells.size = size) (hsz : 0 < size)
    (B : Nat) (a1 : Option Addr) (n1 c1 : Nat) (xs : List Value) (hs : a.eval s = .slice a1 n1 c1) (hown : W.ownsRow B e size (.slice a1 n1 c1) n1 xs)
    (cv : Array Value) (hcv : cv.size = size) (h1 : ∀ u ∈ cv.toList, u.oneCell' = true) (g : Nat) (hg : g = W.heap.size) (hx : a.eval x = .slice (some ⟨g, 0, none⟩) 1 1)
    (hm : n1 + 1 ≤ maxLen) (hb : (n1 + 1) * bytes ≤ 140737488355328) (hB : B ≤ W.heap.size)
    (h : ∀ a' c' w', w'.ownsRow B e size (.slice a' (n1 + 1) c') (n1 + 1) (xs ++ cv.toList) → Below B W w' → (W.alloc (.cells cv e)).grownBy w' (blkOf a1) → K (a.put o.dst (.slice a' (n1 + 1) c')) w') :
    if Region.wanted o (yielded ops a.tmps) = true then Oper.wp Tryz.prog o a (W.alloc (.cells cv e)) K Q else E := by
  subst hg
  have hw : Region.wanted o (yielded ops a.tmps) = true := by simp [Region.wanted, hgd]
  rw [if_pos hw]
  obtain ⟨i, hi, hz0, hz1, hz2⟩ := info_parts hinfo
  have hown2 := hown.alloc (.cells cv e)
  have hlt : ∀ k, (Value.slice a1 n1 c1).ownBlock = some k → B ≤ k := fun k hk => (hown.lt k hk).1
  have hB2 : B ≤ (W.alloc (.cells cv e)).heap.size := by simp; omega
  have hcell : ∀ j u, cv.toList[j]? = some u → (W.alloc (.cells cv e)).cell? ((⟨W.heap.size, 0, none⟩ : Addr).add j) = some u := by
    intro j u hu
    rw [Addr.add_lit, Nat.zero_add, (Box.new W e cv).cell, ← Array.getElem?_toList]
    exact hu
  obtain ⟨v', w', hr, h2, h3, h4, h5⟩ := run_append_own_at (P := Tryz.prog) (W.alloc (.cells cv e)) B t o.type e i z size bytes ht hi hz0 hz1 hz2 hzs hsz _ n1 _ hown2 ⟨W.heap.size, 0, none⟩ 1 1 cv.toList (by simp [hcv]) hcell h1 hm hb hB2
  unfold Oper.wp execOp
  simp only [ho, resolve, invoke, builtin, Sem.run_bind, Sem.run_pure, Result.andThen_ok, List.map_toArray, List.map_cons, List.map_nil, hs, hx, hr]
  obtain ⟨a', c', rfl⟩ := slice_of_row h2
  exact h a' c' w' h2 (((Below.refl _ _).alloc hB _).trans ((Below.refl B _).grown h3 hB2 hlt)) (by rw [← own_blk a1 n1 c1]; exact h3)
theorem step_pushG {ops : Array Oper} {o : Oper} {a : Act} {K : Act → World → Prop} {Q : Exit → Act → World → Prop} {E : Prop} (W : World) (hgd : o.guard = none) (s x : Operand)
    (ho : o.op = .call { callee := .builtin .append, args := #[s, x], argTypes := #[63, 63] })
    (B : Nat) (a1 : Option Addr) (n1 c1 : Nat) (l : List PG) (hs : a.eval s = .slice a1 n1 c1) (hown : OwnG W B a1 n1 c1 l) (v : PG) (g : Nat) (hg : g = W.heap.size) (hx : a.eval x = .slice (some ⟨g, 0, none⟩) 1 1)
    (hb : n1 + 1 ≤ 1000000) (hB : B ≤ W.heap.size)
    (h : ∀ a' c' w', OwnG w' B a' (n1 + 1) c' (l ++ [v]) → Below B W w' → (W.alloc (.cells (gA v) TG)).grownBy w' (blkOf a1) → K (a.put o.dst (.slice a' (n1 + 1) c')) w') :
    if Region.wanted o (yielded ops a.tmps) = true then Oper.wp Tryz.prog o a (W.alloc (.cells (gA v) TG)) K Q else E := by
  refine step_pushV W hgd s x _ TG ho Tryz.underlying63 _ 2 16 infoG rfl (by decide) B a1 n1 c1 _ hs hown.row (gA v) rfl (by have := gc_one [v]; simpa [gA, gc] using this) g hg hx (by unfold maxLen; omega) (by omega) hB (fun a' c' w' hr hb hg => h a' c' w' ⟨by rw [List.length_append, hown.size]; rfl, ?_⟩ hb hg)
  rw [List.flatMap_append]
  simpa [gA, gc] using hr
theorem step_pushF {ops : Array Oper} {o : Oper} {a : Act} {K : Act → World → Prop} {Q : Exit → Act → World → Prop} {E : Prop} (W : World) (hgd : o.guard = none) (s x : Operand)
    (ho : o.op = .call { callee := .builtin .append, args := #[s, x], argTypes := #[41, 41] })
    (B : Nat) (a1 : Option Addr) (n1 c1 : Nat) (l : List PF) (hs : a.eval s = .slice a1 n1 c1) (hown : OwnF W B a1 n1 c1 l) (v : PF) (g : Nat) (hg : g = W.heap.size) (hx : a.eval x = .slice (some ⟨g, 0, none⟩) 1 1)
    (hb : n1 + 1 ≤ 1000000) (hB : B ≤ W.heap.size)
    (h : ∀ a' c' w', OwnF w' B a' (n1 + 1) c' (l ++ [v]) → Below B W w' → (W.alloc (.cells (fA v) TF)).grownBy w' (blkOf a1) → K (a.put o.dst (.slice a' (n1 + 1) c')) w') :
    if Region.wanted o (yielded ops a.tmps) = true then Oper.wp Tryz.prog o a (W.alloc (.cells (fA v) TF)) K Q else E := by
  refine step_pushV W hgd s x _ TF ho Tryz.underlying41 _ 9 88 infoF rfl (by decide) B a1 n1 c1 _ hs hown.row (fA v) rfl (by have := fc_one [v]; simpa [fA, fc] using this) g hg hx (by unfold maxLen; omega) (by omega) hB (fun a' c' w' hr hb hg => h a' c' w' ⟨by rw [List.length_append, hown.size]; rfl, ?_⟩ hb hg)
  rw [List.flatMap_append]
  simpa [fA, fc] using hr
structure TkS (w W : World) (b : List UInt8) (x : PE) (s : SE) : Prop where
  tk : Tk w W (w.heap.size + 1) b
  res : Box W w.heap.size TE (eA ez sz0)
  var : Box W (w.heap.size + 2) TE (eA x s)
  gs : OwnG W (w.heap.size + 3) s.a x.dels.length s.c x.dels
  fs : OwnF W (w.heap.size + 3) s.a' x.adds.length s.c' x.adds
theorem TkS.base {w W : World} {b : List UInt8} {x : PE} {s : SE} (h : TkS w W b x s) : Below w.heap.size w W := h.tk.base
theorem TkS.big {w W : World} {b : List UInt8} {x : PE} {s : SE} (h : TkS w W b x s) : w.heap.size + 3 ≤ W.heap.size := h.var.lt
theorem TkS.turn {w W W' : World} {b b' : List UInt8} {x : PE} {s : SE} (h : TkS w W b x s) (hc : Chg (· = w.heap.size + 1) W W') (ht : Tk w W' (w.heap.size + 1) b') : TkS w W' b' x s :=
  ⟨ht, h.res.kept (hc.block _ h.res.lt (by omega)), h.var.kept (hc.block _ h.var.lt (by omega)),
    h.gs.kept fun k e => hc.block _ (tag_lt (h.gs.tag e)) (by have := h.gs.ge e; omega), h.fs.kept fun k e => hc.block _ (tag_lt (h.fs.tag e)) (by have := h.fs.ge e; omega)⟩
theorem TkS.call {w W W' : World} {b : List UInt8} {x : PE} {s : SE} (h : TkS w W b x s) (hb : Below W.heap.size W W') : TkS w W' b x s :=
  ⟨h.tk.call hb, h.res.kept (hb.block _ h.res.lt), h.var.kept (hb.block _ h.var.lt), h.gs.below hb, h.fs.below hb⟩
theorem TkS.drew {w W : World} {b : List UInt8} {x : PE} {s : SE} (h : TkS w W b x s) : TkS w W.drew b x s := h.call (Below.refl _ _).drew
theorem TkS.alloc {w W : World} {b : List UInt8} {x : PE} {s : SE} (h : TkS w W b x s) (o : Obj) : TkS w (W.alloc o) b x s := h.call ((Below.refl _ _).alloc (Nat.le_refl _) _)
theorem TkS.die {w W W' : World} {b : List UInt8} {x : PE} {s : SE} (h : TkS w W b x s) (hc : Chg (· = w.heap.size + 1) W W') : Below w.heap.size w W' := h.tk.stepB hc
def PE.addG (x : PE) (g : PG) : PE := ⟨x.log, x.next, x.last, x.dels ++ [g], x.adds⟩
def PE.addF (x : PE) (f : PF) : PE := ⟨x.log, x.next, x.last, x.dels, x.adds ++ [f]⟩
theorem TkS.pushG {w W w' : World} {b : List UInt8} {x : PE} {s : SE} (h : TkS w W b x s) {g : PG} {a' : Option Addr} {c' : Nat} (ho : OwnG w' (w.heap.size + 3) a' (x.dels.length + 1) c' (x.dels ++ [g])) (hb : Below (w.heap.size + 3) W w') (O : Obj) (hg : (W.alloc O).grownBy w' (blkOf s.a)) :
    TkS w (w'.setCell ⟨w.heap.size + 2, 3, none⟩ (.slice a' (x.dels.length + 1) c')) b (x.addG g) ⟨a', c', s.a', s.c'⟩ := by
  have hbig := h.big
  refine ⟨h.tk.same ?_ ((h.base.trans (hb.mono (by omega))).setCell (by simp) _), ?_, ?_, ?_, ?_⟩
  · rw [Below.heap_setCell _ _ _ _ (by show w.heap.size + 1 ≠ w.heap.size + 2; omega)]
    exact hb.block _ (by omega)
  · exact (h.res.kept (hb.block _ (by omega))).other (by omega) _ _
  · have := (h.var.kept (hb.block _ (by omega))).set 3 (.slice a' (x.dels.length + 1) c')
    refine this.eq ?_
    simp [eA, PE.addG]
  · have := ho.kept (w' := w'.setCell ⟨w.heap.size + 2, 3, none⟩ (.slice a' (x.dels.length + 1) c')) fun k e => Below.heap_setCell _ _ _ _ (by have := ho.ge e; show k ≠ w.heap.size + 2; omega)
    simpa [PE.addG] using this
  · refine h.fs.kept fun k e => ?_
    rw [Below.heap_setCell _ _ _ _ (by have := h.fs.ge e; show k ≠ w.heap.size + 2; omega)]
    rw [(Chg.grown hg).block k (by have := tag_lt (h.fs.tag e); simp; omega) (fun e' => tag_ne (h.gs.tag e') (h.fs.tag e) (by decide) rfl)]
    exact Below.heap_alloc _ _ _ (tag_lt (h.fs.tag e))
theorem TkS.pushF {w W w' : World} {b : List UInt8} {x : PE} {s : SE} (h : TkS w W b x s) {f : PF} {a' : Option Addr} {c' : Nat} (ho : OwnF w' (w.heap.size + 3) a' (x.adds.length + 1) c' (x.adds ++ [f])) (hb : Below (w.heap.size + 3) W w') (O : Obj) (hg : (W.alloc O).grownBy w' (blkOf s.a')) :
    TkS w (w'.setCell ⟨w.heap.size + 2, 4, none⟩ (.slice a' (x.adds.length + 1) c')) b (x.addF f) ⟨s.a, s.c, a', c'⟩ := by
  have hbig := h.big
  refine ⟨h.tk.same ?_ ((h.base.trans (hb.mono (by omega))).setCell (by simp) _), ?_, ?_, ?_, ?_⟩
  · rw [Below.heap_setCell _ _ _ _ (by show w.heap.size + 1 ≠ w.heap.size + 2; omega)]
    exact hb.block _ (by omega)
  · exact (h.res.kept (hb.block _ (by omega))).other (by omega) _ _
  · have := (h.var.kept (hb.block _ (by omega))).set 4 (.slice a' (x.adds.length + 1) c')
    refine this.eq ?_
    simp [eA, PE.addF]
  · refine h.gs.kept fun k e => ?_
    rw [Below.heap_setCell _ _ _ _ (by have := h.gs.ge e; show k ≠ w.heap.size + 2; omega)]
    rw [(Chg.grown hg).block k (by have := tag_lt (h.gs.tag e); simp; omega) (fun e' => tag_ne (h.fs.tag e') (h.gs.tag e) (by decide) rfl)]
    exact Below.heap_alloc _ _ _ (tag_lt (h.gs.tag e))
  · have := ho.kept (w' := w'.setCell ⟨w.heap.size + 2, 4, none⟩ (.slice a' (x.adds.length + 1) c')) fun k e => Below.heap_setCell _ _ _ _ (by have := ho.ge e; show k ≠ w.heap.size + 2; omega)
    simpa [PE.addF] using this
end Go.Proofs.YtmlfbihlbiikeaaGreatDoor
