/- The contracts of the document's own reader: num, level, key. -/
import Derived.Test.YtiflepadjcpjjaaE13Take
import Derived.Test.YtiflepadjcpjjaaQa10
namespace Go.Proofs.Ytiflepadjcpjjaa
open Go.RowKit
set_option linter.unusedVariables false
set_option linter.unusedSimpArgs false
abbrev TRd : TypeId := 59
/-- What was got of bytes that are left, or that they may not be. -/
def Got {α : Type} (st : Option (List UInt8)) (f : List UInt8 → Option (α × List UInt8)) (v : α) (st' : Option (List UInt8)) : Prop :=
  (st.bind f = none ∧ st' = none) ∨ ∃ b', st.bind f = some (v, b') ∧ st' = some b'
theorem Got.bind {α β : Type} {st st' : Option (List UInt8)} {f : List UInt8 → Option (α × List UInt8)} {v : α} (h : Got st f v st') (K : α → List UInt8 → Option β) : (st.bind fun b => (f b).bind fun p => K p.1 p.2) = st'.bind fun b => K v b := by
  rcases h with ⟨h1, rfl⟩ | ⟨b', h1, rfl⟩
  · cases st with
    | none => rfl
    | some b =>
      simp only [Option.bind_some] at h1 ⊢
      rw [h1]
      rfl
  · cases st with
    | none => cases h1
    | some b =>
      simp only [Option.bind_some] at h1 ⊢
      rw [h1]
      rfl
/-- A reader at p: bytes that are left, or none. -/
structure Rd (w0 w : World) (p : Nat) (st : Option (List UInt8)) : Prop where
  here : ∃ a n c b, Box w p TRd #[.slice a n c, .bool st.isNone] ∧ BsAt w0 a n c b ∧ b.length ≤ 200000000000000 ∧ ∀ b', st = some b' → b = b'
  base : Below w0.heap.size w0 w
  new : w0.heap.size ≤ p
theorem Rd.lt {w0 w : World} {p : Nat} {st : Option (List UInt8)} (h : Rd w0 w p st) : p < w.heap.size := by
  obtain ⟨_, _, _, _, h1, _⟩ := h.here
  exact h1.lt
theorem Rd.stepB {w0 w w' : World} {p : Nat} {st : Option (List UInt8)} (h : Rd w0 w p st) (hc : Chg (· = p) w w') : Below w0.heap.size w0 w' := h.base.trans (hc.below (fun k e => by have := h.new; omega) h.base.size)
theorem Rd.same {w0 w w' : World} {p : Nat} {st : Option (List UInt8)} (h : Rd w0 w p st) (hk : w'.heap[p]? = w.heap[p]?) (hb : Below w0.heap.size w0 w') : Rd w0 w' p st := by
  obtain ⟨a, n, c, b, h1, h2⟩ := h.here
  exact ⟨⟨a, n, c, b, h1.kept hk, h2⟩, hb, h.new⟩
theorem Rd.call {w0 w w' : World} {p : Nat} {st : Option (List UInt8)} (h : Rd w0 w p st) (hb : Below w.heap.size w w') : Rd w0 w' p st := h.same (hb.block _ h.lt) (h.base.trans (hb.mono h.base.size))
theorem Rd.alloc {w0 w : World} {p : Nat} {st : Option (List UInt8)} (h : Rd w0 w p st) (o : Obj) : Rd w0 (w.alloc o) p st := h.call ((Below.refl _ _).alloc (Nat.le_refl _) _)
/-- It was found that they may not be. -/
theorem Rd.bad {w0 w : World} {p : Nat} {st : Option (List UInt8)} (h : Rd w0 w p st) : Chg (· = p) w (w.setCell ⟨p, 1, none⟩ (.bool true)) ∧ Rd w0 (w.setCell ⟨p, 1, none⟩ (.bool true)) p none := by
  obtain ⟨a, n, c, b, h1, h2, h3, _⟩ := h.here
  have hch : Chg (· = p) w (w.setCell ⟨p, 1, none⟩ (.bool true)) := Chg.set (R := (· = p)) (Chg.refl _ _) (fun _ => rfl) _ _
  exact ⟨hch, ⟨a, n, c, b, (h1.set 1 _).eq (by simp), h2, h3, fun b' e => by cases e⟩, h.stepB hch, h.new⟩
theorem Rd.next {w0 w : World} {p : Nat} {st : Option (List UInt8)} (h : Rd w0 w p st) {a a' : Option Addr} {n c n' c' : Nat} {b' : List UInt8} {x : Bool} (h1 : Box w p TRd #[.slice a n c, .bool false]) (h2 : BsAt w0 a' n' c' b') (hl : b'.length ≤ 200000000000000) : Chg (· = p) w (w.setCell ⟨p, 0, none⟩ (.slice a' n' c')) ∧ Rd w0 (w.setCell ⟨p, 0, none⟩ (.slice a' n' c')) p (some b') := by
  have hch : Chg (· = p) w (w.setCell ⟨p, 0, none⟩ (.slice a' n' c')) := Chg.set (R := (· = p)) (Chg.refl _ _) (fun _ => rfl) _ _
  exact ⟨hch, ⟨a', n', c', b', (h1.set 0 _).eq (by simp), h2, hl, fun b'' e => (by cases e; rfl)⟩, h.stepB hch, h.new⟩
set_option maxRecDepth 100000 in
set_option maxHeartbeats 1000000 in
theorem rnum_at {w0 w : World} {p : Nat} {st : Option (List UInt8)} (h : Rd w0 w p st) :
    Calls Try.prog 30 #[at_ p] w fun r w' => ∃ (v : Nat) (st' : Option (List UInt8)), r = .returned (.int .u64 (v : Int)) ∧ v < 18446744073709551616 ∧ Chg (· = p) w w' ∧ w'.heap.size = w.heap.size ∧ Rd w0 w' p st' ∧ Got st numR v st' := by
  obtain ⟨a, n, c, b, hbx, hbs, hbl, hst⟩ := h.here
  have HT : Hid (Rd w0 w p st) := h
  have hc : w.cell? ⟨p, 0, none⟩ = some (.slice a n c) := hbx.cell 0
  have hc1 : w.cell? ⟨p, 1, none⟩ = some (.bool st.isNone) := hbx.cell 1
  have hz := hbx.soft 0
  have hz1 := hbx.soft 1
  have hok := uvRead_ok b
  obtain ⟨x, k, er, hr⟩ : ∃ x k er, uvRead b = (x, k, er) := ⟨_, _, _, rfl⟩
  rw [hr] at hok
  have hu := ruvarint_eq (hbs.below (Nat.le_refl _) h.base) hr
  have hsz := hbs.size
  have HB : Hid (Box w p TRd #[.slice a n c, .bool st.isNone]) := hbx
  by_cases he : er = 0
  · subst he
    simp at hok
    cases st with
    | none =>
      have HG : Hid (Got none numR 0 none) := .inl ⟨rfl, rfl⟩
      clear hok hr hbs hbx h hsz hst
      simp only [Option.isNone_none] at hc1
      go_enter Try.func30, Try.ntmps30
      go_wp2_with fail
      refine hu.mono ?_
      rintro _ w1 ⟨rfl, hw⟩
      obtain rfl : w = w1 := hw.symm
      go_wp2
      go_ret
      exact ⟨0, none, ret1 rfl, by omega, HT.out.bad.1, by simp, HT.out.bad.2, HG.out⟩
    | some b0 =>
      obtain rfl : b = b0 := hst b0 rfl
      have hkn : k ≤ n := by omega
      obtain ⟨a', hs, hb'⟩ := slice_any hbs k hkn
      have HN : Hid (Got (some b) numR x (some (b.drop k)) ∧ BsAt w0 a' (n - k) (c - k) (b.drop k) ∧ (b.drop k).length ≤ 200000000000000 ∧ x < 18446744073709551616) := ⟨.inr ⟨b.drop k, numR_some hr, rfl⟩, hb' _ _ hbs, by rw [List.length_drop]; omega, hok.1⟩
      clear hok hr hb' hbs hbx h hsz hst
      simp only [Option.isNone_some] at hc1 HB
      go_enter Try.func30, Try.ntmps30
      go_wp2_with fail
      refine hu.mono ?_
      rintro _ w1 ⟨rfl, hw⟩
      obtain rfl : w = w1 := hw.symm
      go_wp2
      go_ret
      have hnx := HT.out.next (x := true) HB.out HN.out.2.1 HN.out.2.2.1
      exact ⟨x, _, ret1 rfl, HN.out.2.2.2, hnx.1, by simp, hnx.2, HN.out.1⟩
  · have HG : Hid (Got st numR 0 none) := by
      refine .inl ⟨?_, rfl⟩
      cases st with
      | none => rfl
      | some b0 =>
        obtain rfl : b = b0 := hst b0 rfl
        exact numR_none hr he
    have hne : ((er : Int) != 0) = true := by simp; omega
    clear hok hr hbs hbx h hst
    go_enter Try.func30, Try.ntmps30
    go_wp2_with fail
    refine hu.mono ?_
    rintro _ w1 ⟨rfl, hw⟩
    obtain rfl : w = w1 := hw.symm
    go_wp2
    go_ret
    exact ⟨0, none, ret1 rfl, by omega, HT.out.bad.1, by simp, HT.out.bad.2, HG.out⟩
theorem got_lev {st st1 : Option (List UInt8)} {v : Nat} (h : Got st numR v st1) (hv : v ≤ 4) : Got st rlev (v : Int) st1 := by
  rcases h with ⟨h1, rfl⟩ | ⟨b', h1, rfl⟩
  · refine .inl ⟨?_, rfl⟩
    cases st with
    | none => rfl
    | some b =>
      simp only [Option.bind_some] at h1 ⊢
      unfold rlev
      rw [h1]
      rfl
  · refine .inr ⟨b', ?_, rfl⟩
    cases st with
    | none => cases h1
    | some b =>
      simp only [Option.bind_some] at h1 ⊢
      unfold rlev
      rw [h1, Option.bind_some, if_pos hv]
theorem got_lev_no {st st1 : Option (List UInt8)} {v : Nat} (h : Got st numR v st1) (hv : ¬ v ≤ 4) : Got st rlev 0 none := by
  refine .inl ⟨?_, rfl⟩
  rcases h with ⟨h1, rfl⟩ | ⟨b', h1, rfl⟩
  · cases st with
    | none => rfl
    | some b =>
      simp only [Option.bind_some] at h1 ⊢
      unfold rlev
      rw [h1]
      rfl
  · cases st with
    | none => cases h1
    | some b =>
      simp only [Option.bind_some] at h1 ⊢
      unfold rlev
      rw [h1, Option.bind_some, if_neg hv]
set_option maxRecDepth 100000 in
set_option maxHeartbeats 1000000 in
theorem rlevel_at {w0 w : World} {p : Nat} {st : Option (List UInt8)} (h : Rd w0 w p st) :
    Calls Try.prog 31 #[at_ p] w fun r w' => ∃ (v : Int) (st' : Option (List UInt8)), r = .returned (.int .i64 v) ∧ Chg (· = p) w w' ∧ w'.heap.size = w.heap.size ∧ Rd w0 w' p st' ∧ Got st rlev v st' := by
  have hn := rnum_at h
  go_enter Try.func31, Try.ntmps31
  go_wp2_with fail
  refine hn.mono ?_
  rintro _ w1 ⟨v, st1, rfl, hv, hc, hsz, hrd, hg⟩
  have H1 : Hid (Chg (· = p) w w1 ∧ w1.heap.size = w.heap.size ∧ Rd w0 w1 p st1 ∧ Got st numR v st1) := ⟨hc, hsz, hrd, hg⟩
  clear hc hsz hrd hg hn h
  by_cases h4 : v ≤ 4
  · have hcv := fun W => conv_toI v W
    rw [toI_small (by omega)] at hcv
    go_wp2
    go_ret
    exact ⟨(v : Int), st1, ret1 rfl, H1.out.1, H1.out.2.1, H1.out.2.2.1, got_lev H1.out.2.2.2 (by omega)⟩
  · obtain ⟨a, n, c, b, hbx, _⟩ := H1.out.2.2.1.here
    have c1 : w1.cell? ⟨p, 1, none⟩ = some (.bool st1.isNone) := hbx.cell 1
    have z1 := hbx.soft 1
    clear hbx
    go_wp2
    go_ret
    exact ⟨0, none, ret1 rfl, H1.out.1.andThen H1.out.2.2.1.bad.1 (fun _ _ e => e), by simp; exact H1.out.2.1, H1.out.2.2.1.bad.2, got_lev_no H1.out.2.2.2 (by omega)⟩
end Go.Proofs.Ytiflepadjcpjjaa
/- The contract of the document's own reader's key. -/
namespace Go.Proofs.Ytiflepadjcpjjaa
open Go.RowKit
set_option linter.unusedVariables false
set_option linter.unusedSimpArgs false
theorem rtext_eq {a : Option Addr} {len cap : Nat} {bs : List UInt8} {w : World} (h : BsAt w a len cap bs) {t : List UInt8} {k er : Nat} (hr : txtRead bs = (t, k, er)) :
    Calls Try.prog 46 #[.slice a len cap] w fun e w' => e = .returned (.tuple #[.string (strOf t), .int .i64 (k : Nat), .int .i64 (er : Nat)]) ∧ w' = w := by
  have := rtext_any a len cap bs w h
  rw [hr] at this
  exact this
theorem rkey_set {w0 w V : World} {p : Nat} {st : Option (List UInt8)} {arr : Array Value} (h1 : Chg (· = p) w V) (h2 : Box V w.heap.size 42 arr) (ha : arr.size = 3) (h3 : Rd w0 V p st) (hpn : p ≠ w.heap.size) (hw : w0.heap.size ≤ w.heap.size) (x y z : Value) :
    Chg (· = p) w (((V.setCell ⟨w.heap.size, 0, none⟩ x).setCell ⟨w.heap.size, 1, none⟩ y).setCell ⟨w.heap.size, 2, none⟩ z) ∧ Box (((V.setCell ⟨w.heap.size, 0, none⟩ x).setCell ⟨w.heap.size, 1, none⟩ y).setCell ⟨w.heap.size, 2, none⟩ z) w.heap.size 42 #[x, y, z] ∧ Rd w0 (((V.setCell ⟨w.heap.size, 0, none⟩ x).setCell ⟨w.heap.size, 1, none⟩ y).setCell ⟨w.heap.size, 2, none⟩ z) p st := by
  refine ⟨((h1.set (fun e => by omega) _ _).set (fun e => by omega) _ _).set (fun e => by omega) _ _, ?_, h3.same ?_ ?_⟩
  · obtain ⟨l⟩ := arr
    match l, ha with
    | [u0, u1, u2], _ => exact (((h2.set 0 x).set 1 y).set 2 z).eq (by simp)
  · rw [Below.heap_setCell _ _ _ _ hpn, Below.heap_setCell _ _ _ _ hpn, Below.heap_setCell _ _ _ _ hpn]
  · exact ((h3.base.setCell (by show w0.heap.size ≤ w.heap.size; exact hw) _).setCell (by show w0.heap.size ≤ w.heap.size; exact hw) _).setCell (by show w0.heap.size ≤ w.heap.size; exact hw) _
def ik0 : IK := ⟨⟨#[]⟩, 0, 0⟩
set_option maxRecDepth 100000 in
set_option maxHeartbeats 2000000 in
theorem rkey_at {w0 w : World} {p : Nat} {st : Option (List UInt8)} (h : Rd w0 w p st) :
    Calls Try.prog 32 #[at_ p] w fun r w' => ∃ (v : IK) (st' : Option (List UInt8)), r = .returned (.agg #[.string v.user, .int .u64 (v.seq : Int), .int .i64 v.kind]) ∧ Chg (· = p) w w' ∧ Rd w0 w' p st' ∧ Got st keyR v st' := by
  obtain ⟨W1, e1, HW⟩ : ∃ W1, W1 = w.alloc (.cells k0 42) ∧ Hid (Chg (· = p) w W1 ∧ Box W1 w.heap.size 42 k0 ∧ Rd w0 W1 p st ∧ p ≠ w.heap.size) := ⟨_, rfl, (Chg.refl _ _).alloc _, Box.new _ _ _, h.alloc _, by have := h.lt; omega⟩
  have hpn := HW.out.2.2.2
  obtain ⟨a, n, c, b, hbx0, hbs, hbl, hst⟩ := h.here
  have hc : w.cell? ⟨p, 0, none⟩ = some (.slice a n c) := hbx0.cell 0
  have hc1 : w.cell? ⟨p, 1, none⟩ = some (.bool st.isNone) := hbx0.cell 1
  have hz := hbx0.soft 0
  have hpl : p < w.heap.size := hbx0.lt
  have hd0 : (w.alloc (.cells #[.string ⟨#[]⟩, .int .u64 0, .int .i64 0] 42)).cell? ⟨p, 0, none⟩ = some (.slice a n c) := (hbx0.alloc _).cell 0
  have hbx : Box W1 p TRd #[.slice a n c, .bool st.isNone] := by rw [e1]; exact hbx0.alloc _
  obtain ⟨t, k, er, hr⟩ : ∃ t k er, txtRead b = (t, k, er) := ⟨_, _, _, rfl⟩
  have hfit := txt_fits b
  rw [hr] at hfit
  simp only at hfit
  have hu := rtext_eq (hbs.below (Nat.le_refl _) HW.out.2.2.1.base) hr
  have hsz := hbs.size
  have HB : Hid (Box W1 p TRd #[.slice a n c, .bool st.isNone]) := hbx
  have HP : Hid (Rd w0 w p st) := h
  rw [e1] at hu
  have hw00 : w0.heap.size ≤ w.heap.size := h.base.size
  by_cases hgood : er = 0 ∧ st = some b
  · obtain ⟨rfl, rfl⟩ := hgood
    obtain ⟨hkl, htl⟩ := hfit rfl
    have hkn : k ≤ n := by omega
    obtain ⟨a', hs, hb'⟩ := slice_any hbs k hkn
    have HS : Hid (BsAt w0 a' (n - k) (c - k) (b.drop k) ∧ (b.drop k).length ≤ 200000000000000) := ⟨hb' _ _ hbs, by rw [List.length_drop]; omega⟩
    have hts : (strOf t).size = t.length := str_len t
    have hcv : ∀ W : World, (convert 9 28 (.string (strOf t))).run Try.prog W = .ok (.slice (some ⟨W.heap.size, 0, none⟩) t.length (grownCap W t.length 0 5))
        (W.drew.alloc (.cells (bytesRow (strOf t) (grownCap W t.length 0 5)) 5 ((bytesRow (strOf t) (grownCap W t.length 0 5)).size, (bytesRow (strOf t) (grownCap W t.length 0 5)).size + 1))) := fun W => by
      have := run_bytes_of_string W 9 28 5 (strOf t) Try.underlying9 Try.underlying28 Try.underlying5
      rw [hts] at this
      exact this
    have HD : Hid (∀ (W : World) (g : Nat), g = W.heap.size → Calls Try.prog 47 #[.slice (some ⟨g, 0, none⟩) t.length (grownCap W t.length 0 5)] (W.drew.alloc (.cells (bytesRow (strOf t) (grownCap W t.length 0 5)) 5 ((bytesRow (strOf t) (grownCap W t.length 0 5)).size, (bytesRow (strOf t) (grownCap W t.length 0 5)).size + 1))) fun e w' => e = .returned (.tuple #[.agg #[.string (decKey t).user, .int .u64 ((decKey t).seq : Int), .int .i64 (decKey t).kind], .int .i64 ((keyErr t : Nat) : Int)]) ∧ Below W.heap.size W w') := fun W g hg => by
      subst hg
      have h1 := BsAt.ofStr W (strOf t) (grownCap W t.length 0 5) ((bytesRow (strOf t) (grownCap W t.length 0 5)).size, (bytesRow (strOf t) (grownCap W t.length 0 5)).size + 1) (by rw [hts]; exact grownCap_ge _ _ _ _) (grownCap_le_maxLen _ _ _ _ (by unfold maxLen; omega))
      rw [hts, show (strOf t).data.toList = t by simp [strOf]] at h1
      refine (rdecode_any _ _ _ t _ h1).mono ?_
      rintro e w' ⟨rfl, hb⟩
      exact ⟨rfl, (((Below.refl _ W).drew).alloc (Nat.le_refl _) _).trans (hb.mono (by simp))⟩
    have HKE : Hid (keyErr t = if keyOk t then 0 else 20) := rfl
    have HDK : Hid (keyOk t = true → Got (some b) keyR (decKey t) (some (b.drop k))) := fun hk => .inr ⟨b.drop k, keyR_some hr hk, rfl⟩
    have HDN : Hid (keyOk t = false → Got (some b) keyR (decKey t) none) := fun hk => .inl ⟨keyR_none hr (.inr hk), rfl⟩
    clear hb' hbs hbx hbx0 h hsz hfit hr hts hkl htl hst
    generalize decKey t = dk at HD HDK HDN
    simp only [Option.isNone_some] at hc1 HB
    go_enter Try.func32, Try.ntmps32
    go_wp2_with fail
    refine hu.mono ?_
    rintro _ w1 ⟨rfl, hw⟩
    obtain rfl : W1 = w1 := by rw [e1]; exact hw.symm
    have d0 : W1.cell? ⟨p, 0, none⟩ = some (.slice a n c) := HB.out.cell 0
    have d1 : W1.cell? ⟨p, 1, none⟩ = some (.bool false) := HB.out.cell 1
    have y0 := HB.out.soft 0
    clear hw hu hc hc1 hz hd0 e1
    have H2 : Hid (Chg (· = p) w (W1.setCell ⟨p, 0, none⟩ (.slice a' (n - k) (c - k))) ∧ Box (W1.setCell ⟨p, 0, none⟩ (.slice a' (n - k) (c - k))) w.heap.size 42 k0 ∧ Rd w0 (W1.setCell ⟨p, 0, none⟩ (.slice a' (n - k) (c - k))) p (some (b.drop k)) ∧ W1.heap.size = (W1.setCell ⟨p, 0, none⟩ (.slice a' (n - k) (c - k))).heap.size) := by
      have hnx := HW.out.2.2.1.next (x := true) HB.out HS.out.1 HS.out.2
      exact ⟨HW.out.1.andThen hnx.1 (fun _ _ e => e), HW.out.2.1.other (Ne.symm hpn) _ _, hnx.2, by simp⟩
    go_wp2_with fail
    generalize W1.setCell ⟨p, 0, none⟩ (.slice a' (n - k) (c - k)) = W2 at H2 ⊢
    refine (HD.out W2 W1.heap.size H2.out.2.2.2).mono ?_
    rintro _ w3 ⟨rfl, hb3⟩
    have H3 : Hid (Chg (· = p) w w3 ∧ Box w3 w.heap.size 42 k0 ∧ Rd w0 w3 p (some (b.drop k))) := ⟨H2.out.1.andThen (Chg.of hb3) (fun _ _ e => e), H2.out.2.1.kept (hb3.block _ H2.out.2.1.lt), H2.out.2.2.1.call hb3⟩
    have h3n : w.heap.size < w3.heap.size := H3.out.2.1.lt
    have h3p : p < w3.heap.size := H3.out.2.2.lt
    clear hb3 H2
    have H4 : Hid (Chg (· = p) w (w3.alloc (.cells #[.string dk.user, .int .u64 (dk.seq : Int), .int .i64 dk.kind] 42)) ∧ Box (w3.alloc (.cells #[.string dk.user, .int .u64 (dk.seq : Int), .int .i64 dk.kind] 42)) w.heap.size 42 k0 ∧ Rd w0 (w3.alloc (.cells #[.string dk.user, .int .u64 (dk.seq : Int), .int .i64 dk.kind] 42)) p (some (b.drop k)) ∧ Box (w3.alloc (.cells #[.string dk.user, .int .u64 (dk.seq : Int), .int .i64 dk.kind] 42)) w3.heap.size 42 #[.string dk.user, .int .u64 (dk.seq : Int), .int .i64 dk.kind]) := ⟨H3.out.1.alloc _, H3.out.2.1.alloc _, H3.out.2.2.alloc _, Box.new _ _ _⟩
    have x0 : w3.cell? ⟨w.heap.size, 0, none⟩ = some (.string ⟨#[]⟩) := H3.out.2.1.cell 0
    have x1 : w3.cell? ⟨w.heap.size, 1, none⟩ = some (.int .u64 0) := H3.out.2.1.cell 1
    have x2 : w3.cell? ⟨w.heap.size, 2, none⟩ = some (.int .i64 0) := H3.out.2.1.cell 2
    have z0 := H3.out.2.1.soft 0
    have z1 := H3.out.2.1.soft 1
    have z2 := H3.out.2.1.soft 2
    cases hk : keyOk t with
    | false =>
      have HK : Hid (Got (some b) keyR dk none) := HDN.out hk
      rw [show keyErr t = 20 by rw [HKE.out, hk]; rfl]
      obtain ⟨a9, n9, c9, b9, hbx9, _⟩ := H3.out.2.2.here
      have u1 : w3.cell? ⟨p, 1, none⟩ = some (.bool false) := hbx9.cell 1
      have v1 := hbx9.soft 1
      clear hbx9 d0 d1 y0
      go_wp2
      have hst := rkey_set (H3.out.1.andThen H3.out.2.2.bad.1 (fun _ _ e => e)) (H3.out.2.1.other (Ne.symm hpn) 1 (.bool true)) rfl H3.out.2.2.bad.2 hpn hw00 (.string dk.user) (.int .u64 (dk.seq : Int)) (.int .i64 dk.kind)
      have HF : Hid (Chg (· = p) w (((((w3.setCell ⟨p, 1, none⟩ (.bool true)).setCell ⟨w.heap.size, 0, none⟩ (.string dk.user)).setCell ⟨w.heap.size, 1, none⟩ (.int .u64 (dk.seq : Int))).setCell ⟨w.heap.size, 2, none⟩ (.int .i64 dk.kind)).alloc (.cells #[.string dk.user, .int .u64 (dk.seq : Int), .int .i64 dk.kind] 42)) ∧ Box (((((w3.setCell ⟨p, 1, none⟩ (.bool true)).setCell ⟨w.heap.size, 0, none⟩ (.string dk.user)).setCell ⟨w.heap.size, 1, none⟩ (.int .u64 (dk.seq : Int))).setCell ⟨w.heap.size, 2, none⟩ (.int .i64 dk.kind)).alloc (.cells #[.string dk.user, .int .u64 (dk.seq : Int), .int .i64 dk.kind] 42)) w.heap.size 42 #[.string dk.user, .int .u64 (dk.seq : Int), .int .i64 dk.kind] ∧ Rd w0 (((((w3.setCell ⟨p, 1, none⟩ (.bool true)).setCell ⟨w.heap.size, 0, none⟩ (.string dk.user)).setCell ⟨w.heap.size, 1, none⟩ (.int .u64 (dk.seq : Int))).setCell ⟨w.heap.size, 2, none⟩ (.int .i64 dk.kind)).alloc (.cells #[.string dk.user, .int .u64 (dk.seq : Int), .int .i64 dk.kind] 42)) p none) := ⟨hst.1.alloc _, hst.2.1.alloc _, hst.2.2.alloc _⟩
      generalize ((((w3.setCell ⟨p, 1, none⟩ (.bool true)).setCell ⟨w.heap.size, 0, none⟩ (.string dk.user)).setCell ⟨w.heap.size, 1, none⟩ (.int .u64 (dk.seq : Int))).setCell ⟨w.heap.size, 2, none⟩ (.int .i64 dk.kind)).alloc (.cells #[.string dk.user, .int .u64 (dk.seq : Int), .int .i64 dk.kind] 42) = wf at HF ⊢
      have r0 : wf.cell? ⟨w.heap.size, 0, none⟩ = some (.string dk.user) := HF.out.2.1.cell 0
      have r1 : wf.cell? ⟨w.heap.size, 1, none⟩ = some (.int .u64 (dk.seq : Int)) := HF.out.2.1.cell 1
      have r2 : wf.cell? ⟨w.heap.size, 2, none⟩ = some (.int .i64 dk.kind) := HF.out.2.1.cell 2
      exact bodyPost_ret (v := .agg #[.string dk.user, .int .u64 (dk.seq : Int), .int .i64 dk.kind]) (by simp [results, Try.results32, go_sem, r0, r1, r2]) rfl ⟨dk, none, rfl, HF.out.1, HF.out.2.2, HK.out⟩
    | true =>
      have HK : Hid (Got (some b) keyR dk (some (b.drop k))) := HDK.out hk
      rw [show keyErr t = 0 by rw [HKE.out, hk]; rfl]
      clear d0 d1 y0
      go_wp2
      have hst := rkey_set H3.out.1 H3.out.2.1 rfl H3.out.2.2 hpn hw00 (.string dk.user) (.int .u64 (dk.seq : Int)) (.int .i64 dk.kind)
      have HF : Hid (Chg (· = p) w ((((w3.setCell ⟨w.heap.size, 0, none⟩ (.string dk.user)).setCell ⟨w.heap.size, 1, none⟩ (.int .u64 (dk.seq : Int))).setCell ⟨w.heap.size, 2, none⟩ (.int .i64 dk.kind)).alloc (.cells #[.string dk.user, .int .u64 (dk.seq : Int), .int .i64 dk.kind] 42)) ∧ Box ((((w3.setCell ⟨w.heap.size, 0, none⟩ (.string dk.user)).setCell ⟨w.heap.size, 1, none⟩ (.int .u64 (dk.seq : Int))).setCell ⟨w.heap.size, 2, none⟩ (.int .i64 dk.kind)).alloc (.cells #[.string dk.user, .int .u64 (dk.seq : Int), .int .i64 dk.kind] 42)) w.heap.size 42 #[.string dk.user, .int .u64 (dk.seq : Int), .int .i64 dk.kind] ∧ Rd w0 ((((w3.setCell ⟨w.heap.size, 0, none⟩ (.string dk.user)).setCell ⟨w.heap.size, 1, none⟩ (.int .u64 (dk.seq : Int))).setCell ⟨w.heap.size, 2, none⟩ (.int .i64 dk.kind)).alloc (.cells #[.string dk.user, .int .u64 (dk.seq : Int), .int .i64 dk.kind] 42)) p (some (b.drop k))) := ⟨hst.1.alloc _, hst.2.1.alloc _, hst.2.2.alloc _⟩
      generalize (((w3.setCell ⟨w.heap.size, 0, none⟩ (.string dk.user)).setCell ⟨w.heap.size, 1, none⟩ (.int .u64 (dk.seq : Int))).setCell ⟨w.heap.size, 2, none⟩ (.int .i64 dk.kind)).alloc (.cells #[.string dk.user, .int .u64 (dk.seq : Int), .int .i64 dk.kind] 42) = wf at HF ⊢
      have r0 : wf.cell? ⟨w.heap.size, 0, none⟩ = some (.string dk.user) := HF.out.2.1.cell 0
      have r1 : wf.cell? ⟨w.heap.size, 1, none⟩ = some (.int .u64 (dk.seq : Int)) := HF.out.2.1.cell 1
      have r2 : wf.cell? ⟨w.heap.size, 2, none⟩ = some (.int .i64 dk.kind) := HF.out.2.1.cell 2
      exact bodyPost_ret (v := .agg #[.string dk.user, .int .u64 (dk.seq : Int), .int .i64 dk.kind]) (by simp [results, Try.results32, go_sem, r0, r1, r2]) rfl ⟨dk, some (b.drop k), rfl, HF.out.1, HF.out.2.2, HK.out⟩
  · have HG : Hid (Got st keyR ik0 none) := by
      refine .inl ⟨?_, rfl⟩
      cases st with
      | none => rfl
      | some b0 =>
        obtain rfl : b = b0 := hst b0 rfl
        exact keyR_none hr (.inl (fun e => hgood ⟨e, rfl⟩))
    have hbad : ((((er : Int) != 0) || st.isNone) = true) := by
      cases st with
      | none => simp
      | some b0 =>
        obtain rfl : b = b0 := hst b0 rfl
        have : er ≠ 0 := fun e => hgood ⟨e, rfl⟩
        simp
        omega
    have H2 : Hid (Chg (· = p) w (W1.setCell ⟨p, 1, none⟩ (.bool true)) ∧ Box (W1.setCell ⟨p, 1, none⟩ (.bool true)) w.heap.size 42 k0 ∧ Rd w0 (W1.setCell ⟨p, 1, none⟩ (.bool true)) p none) := ⟨HW.out.1.andThen HW.out.2.2.1.bad.1 (fun _ _ e => e), HW.out.2.1.other (Ne.symm hpn) _ _, HW.out.2.2.1.bad.2⟩
    clear hfit hr hbs hbx hbx0 h hgood hst
    by_cases he : er = 0
    · subst he
      cases st with
      | some b0 => simp at hbad
      | none =>
        simp only [Option.isNone_none] at hc1 HB
        go_enter Try.func32, Try.ntmps32
        go_wp2_with fail
        refine hu.mono ?_
        rintro _ w1 ⟨rfl, hw⟩
        obtain rfl : W1 = w1 := by rw [e1]; exact hw.symm
        have d1 : W1.cell? ⟨p, 1, none⟩ = some (.bool true) := HB.out.cell 1
        have y1 := HB.out.soft 1
        have x0 : W1.cell? ⟨w.heap.size, 0, none⟩ = some (.string ⟨#[]⟩) := HW.out.2.1.cell 0
        have x1 : W1.cell? ⟨w.heap.size, 1, none⟩ = some (.int .u64 0) := HW.out.2.1.cell 1
        have x2 : W1.cell? ⟨w.heap.size, 2, none⟩ = some (.int .i64 0) := HW.out.2.1.cell 2
        have z0 := HW.out.2.1.soft 0
        have z1 := HW.out.2.1.soft 1
        have z2 := HW.out.2.1.soft 2
        clear hw hu hc hc1 hz hd0 e1
        go_wp2
        refine bodyPost_ret (v := .agg #[.string ⟨#[]⟩, .int .u64 0, .int .i64 0]) (by simp [results, Try.results32, go_sem, x0, x1, x2, hpn]) rfl ⟨ik0, none, rfl, (rkey_set H2.out.1 H2.out.2.1 rfl H2.out.2.2 hpn hw00 _ _ _).1, (rkey_set H2.out.1 H2.out.2.1 rfl H2.out.2.2 hpn hw00 _ _ _).2.2, HG.out⟩
    · have hne : ((er : Int) != 0) = true := by simp; omega
      go_enter Try.func32, Try.ntmps32
      go_wp2_with fail
      refine hu.mono ?_
      rintro _ w1 ⟨rfl, hw⟩
      obtain rfl : W1 = w1 := by rw [e1]; exact hw.symm
      have d1 : W1.cell? ⟨p, 1, none⟩ = some (.bool st.isNone) := HB.out.cell 1
      have y1 := HB.out.soft 1
      have x0 : W1.cell? ⟨w.heap.size, 0, none⟩ = some (.string ⟨#[]⟩) := HW.out.2.1.cell 0
      have x1 : W1.cell? ⟨w.heap.size, 1, none⟩ = some (.int .u64 0) := HW.out.2.1.cell 1
      have x2 : W1.cell? ⟨w.heap.size, 2, none⟩ = some (.int .i64 0) := HW.out.2.1.cell 2
      have z0 := HW.out.2.1.soft 0
      have z1 := HW.out.2.1.soft 1
      have z2 := HW.out.2.1.soft 2
      clear hw hu hc hc1 hz hd0 e1
      go_wp2
      refine bodyPost_ret (v := .agg #[.string ⟨#[]⟩, .int .u64 0, .int .i64 0]) (by simp [results, Try.results32, go_sem, x0, x1, x2, hpn]) rfl ⟨ik0, none, rfl, (rkey_set H2.out.1 H2.out.2.1 rfl H2.out.2.2 hpn hw00 _ _ _).1, (rkey_set H2.out.1 H2.out.2.1 rfl H2.out.2.2 hpn hw00 _ _ _).2.2, HG.out⟩
end Go.Proofs.Ytiflepadjcpjjaa
