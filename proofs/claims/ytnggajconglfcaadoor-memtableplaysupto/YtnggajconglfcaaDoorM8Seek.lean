/- The contracts of the shelf's seek and placeFor. -/
import Derived.Test.YtnggajconglfcaaDoorM8Sh
import Derived.Deep.RegionHeld3
namespace Go.Proofs.YtnggajconglfcaaDoor
open Go.RowKit
set_option linter.unusedVariables false
set_option linter.unusedSimpArgs false
/-- The first text that is not less. -/
def firstOf (L : List ByteArray) (t : ByteArray) : Option ByteArray := L.find? fun b => !kl b t
theorem find_cnt (S : PS) (t : ByteArray) : ∀ L : List Nat, (L.map S.key).find? (fun b => !kl b t) = (L.map S.key)[cnt (fun j => kl (S.key j) t) L]?
  | [] => rfl
  | x :: r => by
    have ih := find_cnt S t r
    unfold cnt at ih ⊢
    rw [List.map_cons, List.find?_cons, List.takeWhile_cons]
    cases hk : kl (S.key x) t with
    | true => simpa using ih
    | false => simp
section
variable {w w' : World} {ls : List LG} {la : Option Addr} {lc : Nat} {t : ByteArray} {r : Nat}
theorem find_none_of {L : List ByteArray} (h : ∀ b ∈ L, kl b t = true) : L.find? (fun b => !kl b t) = none := by
  rw [List.find?_eq_none]
  intro b hb
  simp [h b hb]
theorem ShAt.ahead (h : ShAt w ls la lc) (hp : Place ls t r) : ∀ b ∈ texts (ls.take r), kl b t = true := by
  intro b hb
  obtain ⟨l, hl, hb⟩ := mem_texts.1 hb
  obtain ⟨i, hi, rfl⟩ := List.mem_iff_getElem.1 hl
  have hi' : i < r ∧ i < ls.length := by
    simp at hi
    omega
  simp at hb
  have h1 := hp.lo i hi'.2 hi'.1
  rcases (h.each _ (List.getElem_mem hi'.2)).le_last hb with rfl | h2
  · exact h1
  · exact kl_trans h2 h1
theorem ShAt.first_end (h : ShAt w ls la lc) (hp : Place ls t r) (hr : r = ls.length) : firstOf (texts ls) t = none := by
  have := h.ahead hp
  rw [hr, List.take_length] at this
  exact find_none_of this
theorem ShAt.first_in (h : ShAt w ls la lc) (hp : Place ls t r) (hr : r < ls.length) : cntK ls[r].S t < (ls[r].S.lev 0).length ∧ firstOf (texts ls) t = some (keyAt ls[r].S (cntK ls[r].S t)) := by
  have hli := h.each _ (List.getElem_mem hr)
  have hlast := hp.hi r hr (Nat.le_refl _)
  have hf := find_cnt ls[r].S t (ls[r].S.lev 0)
  have hlt : cntK ls[r].S t < (ls[r].S.lev 0).length := by
    have hle := cnt_le (fun j => kl (ls[r].S.key j) t) (ls[r].S.lev 0)
    rcases Nat.lt_or_ge (cnt (fun j => kl (ls[r].S.key j) t) (ls[r].S.lev 0)) (ls[r].S.lev 0).length with h1 | h1
    · exact h1
    · have hm : ls[r].last ∈ (ls[r].S.lev 0).map ls[r].S.key := hli.last_mem
      rw [List.getElem?_eq_none (by simpa using h1), List.find?_eq_none] at hf
      have := hf _ hm
      rw [hlast] at this
      simp at this
  refine ⟨hlt, ?_⟩
  unfold firstOf
  rw [texts_split hr, List.find?_append, find_none_of (h.ahead hp), List.find?_append]
  have e : ls[r].t.find? (fun b => !kl b t) = some (keyAt ls[r].S (cntK ls[r].S t)) := by
    show ((ls[r].S.lev 0).map ls[r].S.key).find? (fun b => !kl b t) = _
    rw [hf]
    unfold keyAt PS.lk
    have hlt' : cnt (fun j => kl (ls[r].S.key j) t) (ls[r].S.lev 0) < ((ls[r].S.lev 0).map ls[r].S.key).length := by simpa using hlt
    rw [List.getElem?_eq_getElem hlt']
    simp [List.getD, hlt]
  rw [e]
  rfl
set_option maxRecDepth 100000 in
set_option maxHeartbeats 400000 in
theorem shseek_at (h : ShAt w ls la lc) {p : Nat} (t : ByteArray) (hp : w.cell? ⟨p, 0, none⟩ = some (.slice la ls.length lc)) (hn : ls.length < 4611686018427387904) :
    Calls Tryd.prog 28 #[at_ p, .string t] w fun e w' => (e = .returned (.tuple #[.string ((firstOf (texts ls) t).getD ⟨#[]⟩), .bool (firstOf (texts ls) t).isSome])) ∧ Below w.heap.size w w' := by
  have HP := placeOf_at h (t := t) hp hn
  have HS : Hid (ShAt w ls la lc) := h
  have hpl : p < w.heap.size := World.block_lt_of_cell? w _ hp
  clear h
  go_enter Tryd.func28, Tryd.ntmps28
  go_wp2_with fail
  refine HP.mono ?_
  rintro _ w1 ⟨r, rfl, hr, hb⟩
  have hle := hr.le
  have hp1 : w1.cell? ⟨p, 0, none⟩ = some (.slice la ls.length lc) := by rw [hb.cell hpl]; exact hp
  have HB : Hid (Below w.heap.size w w1) := hb
  have HR : Hid (Place ls t r) := hr
  clear HP hr hb
  by_cases he : r = ls.length
  · have HF : Hid (firstOf (texts ls) t = none) := HS.out.first_end HR.out he
    subst he
    go_wp2
    go_ret2
    rw [HF.out]
    exact ⟨ret2 rfl rfl, HB.out⟩
  · have hlt : r < ls.length := by omega
    have hne : ((r : Int) == (ls.length : Int)) = false := by simp; omega
    have HF : Hid (_ ∧ _) := HS.out.first_in HR.out hlt
    have S1 := HS.out.below HB.out
    obtain ⟨b, hla, hc⟩ := S1.cell hlt
    have HK := seek_at (S1.each _ (List.getElem_mem hlt)).at' t
    have hll := S1.len_le
    unfold maxLen at hll
    rw [decide_eq_true HF.out.1] at HK
    have HF2 : Hid (firstOf (texts ls) t = some (keyAt ls[r].S (cntK ls[r].S t))) := HF.out.2
    generalize keyAt ls[r].S (cntK ls[r].S t) = X at HK HF2
    generalize ls[r].p = pr at HK hc
    rw [hla] at hp1
    have hiz : (r : Int) < (ls.length : Int) := by omega
    clear HF S1 he
    go_wp2_with fail
    refine HK.mono ?_
    rintro _ w2 ⟨rfl, hb2⟩
    have HB2 : Hid (Below w.heap.size w w2) := HB.out.trans (hb2.mono HB.out.size)
    clear hb2 HK
    go_wp2
    go_ret2
    rw [HF2.out]
    exact ⟨ret2 rfl rfl, HB2.out⟩
set_option maxRecDepth 100000 in
set_option maxHeartbeats 400000 in
theorem placeFor_at (h : ShAt w ls la lc) {p : Nat} (t : ByteArray) (hp : w.cell? ⟨p, 0, none⟩ = some (.slice la ls.length lc)) (hn : ls.length < 4611686018427387904) (h1 : 0 < ls.length) :
    Calls Tryd.prog 34 #[at_ p, .string t] w fun e w' => ∃ r : Nat, e = .returned (.int .i64 ((min r (ls.length - 1) : Nat) : Int)) ∧ Place ls t r ∧ Below w.heap.size w w' := by
  have hpl : p < w.heap.size := World.block_lt_of_cell? w _ hp
  have HP : Hid (∀ W : World, Below w.heap.size w W → Calls Tryd.prog 41 #[at_ p, .string t] W fun e w' => ∃ r : Nat, e = .returned (.int .i64 (r : Int)) ∧ Place ls t r ∧ Below W.heap.size W w') := fun W hW => placeOf_at (h.below hW) (t := t) (by rw [hW.cell hpl]; exact hp) hn
  have hll := h.len_le
  unfold maxLen at hll
  clear h
  have HB : Hid (Below w.heap.size w w.drew) := (Below.refl _ _).drew
  have c0 : w.drew.cell? ⟨p, 0, none⟩ = some (.slice la ls.length lc) := hp
  have HC : Hid (w.cell? ⟨p, 0, none⟩ = some (.slice la ls.length lc) ∧ p < w.heap.size) := ⟨hp, hpl⟩
  clear hp hpl
  generalize hN : ls.length = n at *
  go_enter Tryd.func34, Tryd.ntmps34
  go_wp2_with fail
  go_region_held3 (fun w' => w'.cell? ⟨p, 0, none⟩ = some (.slice la n lc)) (first | exact c0 | go_keep)
    (first
     | (go_at_call 41; refine (HP.out _ HB.out).mono ?_; rintro _ vx ⟨r, rfl, hr, hbx⟩
        have HR : Hid (Place ls t r) := hr
        have hrn := hr.le
        have HB : Hid (Below w.heap.size w vx) := HB.out.trans (hbx.mono HB.out.size)
        have c0 : vx.cell? ⟨p, 0, none⟩ = some (.slice la n lc) := by rw [HB.out.cell HC.out.2]; exact HC.out.1
        clear hbx hr))
  all_goals go_wp2
  all_goals go_ret
  all_goals refine ⟨r, ret1 (congrArg (Value.int .i64) ?_), HR.out, HB.out⟩
  all_goals (have hwn : IntKind.i64.wrap ((n : Int) - 1) = (n : Int) - 1 := IntWalk.i64_in _ (by omega); rw [hwn]; omega)
end
end Go.Proofs.YtnggajconglfcaaDoor
