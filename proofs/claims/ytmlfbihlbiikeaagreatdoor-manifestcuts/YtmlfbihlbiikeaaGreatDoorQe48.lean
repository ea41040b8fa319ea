/- What a loss of power leaves, as loads tell it; rows of edits that are laid behind one another. -/
import Derived.Test.YtmlfbihlbiikeaaGreatDoorQe38
import Derived.Test.YtmlfbihlbiikeaaGreatDoorQe27
set_option linter.unusedVariables false
set_option linter.unusedSimpArgs false
set_option maxRecDepth 100000
namespace Go.Proofs.YtmlfbihlbiikeaaGreatDoor
open Go.RowKit
def Tells15 (c : Cr) (k : Kn) (y : PSt) : Prop := ∃ (num cut : Nat) (L : List PE), k.quiet ∧ (1 ≤ num ∧ num ≤ 1099511627776) ∧ Holds c (nameP 3 num) ((manOf L).take cut) ∧ cut ≤ (manOf L).length ∧ (manOf L).length ≤ 100000000 ∧ (∀ x ∈ L, x.err = 0) ∧ L.length ≤ 500 ∧ toldP num ((manOf L).take cut) = some y
theorem Tells15.std {c : Cr} {k : Kn} {num : Nat} {s : PSt} (hk : k.quiet) (h : Std num s) (h1 : 1 ≤ num) (h2 : num ≤ 1000) (hh : Holds c (nameP 3 s.num) s.bytes) : Tells15 c k s :=
 ⟨s.num, (manOf s.eds).length, s.eds, hk, by have := h.num; omega, by rw [List.take_length]; exact hh, Nat.le_refl _, Nat.le_trans h.len (by decide), h.ok.errs, Nat.le_trans h.edl (by decide), by rw [List.take_length]; exact h.told⟩
section
variable {J : Face} {w0 w w' : World} {p : Nat} {S : PFs} {R : Nat → Prop}
theorem fw_tells (H : FsOk J) {c : Cr} {kn : Kn} {y : PSt} (h : Fw J w0 p (pf c kn) R w) (ht : Tells15 c kn y) :
 Calls Tryz.prog 20 #[at_ p] w fun e w' => ∃ t, e = .returned (.tuple #[sV y t, .int .i64 0]) ∧ ∃ R', Fw J w0 p (pf c kn) R' w' ∧ Nx R R' w w' ∧ VS w' R' y.v t := by
 obtain ⟨num, cut, L, a, b, d, e, f, g, i, j⟩ := ht
 exact fw_load H h a b d e f g i j
end
theorem write_cut2 {s t : PSt} {k : Kn} {n : Nat} (hs : Std 5 s) (ht : Std 9 t) (hk : Fine k n) (f : Int) (picks : List Int) :
 ∃ c4 k4 e, writeP t ((pf (cr1 (manD 53) s.bytes) k).setFuse f) = (pf c4 k4, e) ∧ ∃ c5 k5 y, (pf c4 k4).crash picks = pf c5 k5 ∧ Tells15 c5 k5 y ∧ (y = t ∨ (e ≠ 0 ∧ y = s)) := by
 have h5 : nameP 3 s.num = manD 53 := by rw [hs.num]; exact name_5
 have h9 : nameP 3 t.num = manD 57 := by rw [ht.num]; exact name_9
 have l1 := hs.len
 have l2 := ht.len
 obtain ⟨c4, k4, e, a, _, c5, k5, b, d, _, g⟩ := write_cut (s := s) ht.chk (by rw [hs.num]; decide) (by rw [h5, h9]; decide) (by rw [h5]; exact fresh_5) hk f picks (by omega)
 rw [h5] at a
 refine ⟨c4, k4, e, a, c5, k5, ?_⟩
 rcases g with g | ⟨g1, g2⟩
 · exact ⟨t, b, Tells15.std d ht (by decide) (by decide) g, .inl rfl⟩
 · exact ⟨s, b, Tells15.std d hs (by decide) (by decide) g2, .inr ⟨g1, rfl⟩⟩
theorem append_cut2 {s : PSt} {x : PE} {u : PV} {k : Kn} {n : Nat} (hs : Std 5 s) (hx : applyV s.v x = (0, u)) (hk : Fine k n) (f : Int) (picks : List Int) :
 ∃ c4 k4 e, appendP 5 x ((pf (cr1 (manD 53) s.bytes) k).setFuse f) = (pf c4 k4, e) ∧ ∃ c5 k5 y, (pf c4 k4).crash picks = pf c5 k5 ∧ Tells15 c5 k5 y ∧ (y = s.turn x u ∨ (e ≠ 0 ∧ y = s)) := by
 have h5 : nameP 3 s.num = manD 53 := by rw [hs.num]; exact name_5
 have l1 := hs.len
 obtain ⟨_, hxe, _⟩ := apply_zero hx
 obtain ⟨c4, k4, e, a, _, c5, k5, cut, b, d, _, hc, hh, hge, he⟩ := append_cut (s := s) (x := x) (by rw [hs.num]; decide) (by rw [h5]; exact fresh_5) hxe hk f picks (by omega)
 rw [h5, hs.num] at a
 have hb : s.bytes = manOf s.eds := rfl
 have hst : stepS s x = some (s.turn x u) := by unfold stepS; rw [hx, if_pos rfl]
 have hfull : stepsS (PSt.zero s.num) (s.eds ++ [x]) = some (s.turn x u) := by
  rw [told_adds hs.ok hs.four]
  show (stepS s x).bind (fun t => some t) = _
  rw [hst]
  rfl
 have hjust := told_just hs.ok hs.four
 have herr : ∀ y ∈ s.eds ++ [x], y.err = 0 := fun y hy => (List.mem_append.1 hy).elim (hs.ok.errs y) fun hy => by rw [List.mem_singleton.1 hy]; exact hxe
 have hel : (s.eds ++ [x]).length ≤ 500 := by rw [List.length_append]; have := hs.edl; simp; omega
 have hln : (manOf (s.eds ++ [x])).length ≤ 100000000 := by
  have h1 := PE.lay_len x
  rw [PE.lay_yes hxe] at h1
  have h2 := put_short (manOf s.eds).length x.enc
  rw [manOf_snoc, List.length_append]
  rw [hb] at l1
  omega
 have hcase : ∃ y, toldP s.num ((manOf (s.eds ++ [x])).take cut) = some y ∧ (y = s.turn x u ∨ (e ≠ 0 ∧ y = s)) := by
  by_cases h0 : e = 0
  · rw [he h0, List.take_length, told_whole s.num _ (by simp) herr, hfull]
    exact ⟨_, rfl, .inl rfl⟩
  · have hm := told_more s.num s.eds x (eds_ne s) hs.ok.errs hxe (cut - (manOf s.eds).length)
    have e1 : (manOf (s.eds ++ [x])).take cut = manOf s.eds ++ (putP (manOf s.eds).length true x.enc).take (cut - (manOf s.eds).length) := by
     rw [manOf_snoc, List.take_append, List.take_of_length_le (by rw [← hb]; exact hge)]
    rw [e1]
    rcases hm with hm | ⟨hm, _⟩
    · exact ⟨s, by rw [hm, hjust], .inr ⟨h0, rfl⟩⟩
    · exact ⟨_, by rw [hm, hfull], .inl rfl⟩
 obtain ⟨y, hy, hyy⟩ := hcase
 exact ⟨c4, k4, e, a, c5, k5, y, b, ⟨s.num, cut, s.eds ++ [x], d, by have := hs.num; omega, hh, hc, hln, herr, hel, hy⟩, hyy⟩
theorem ec_one (l : List (PE × SE)) : ∀ v ∈ l.flatMap ec, v.oneCell' = true := by
 intro v hv
 obtain ⟨e, _, he⟩ := List.mem_flatMap.1 hv
 simp [ec] at he
 rcases he with rfl | rfl | rfl | rfl | rfl <;> rfl
theorem step_appE {ops : Array Oper} {o : Oper} {a : Act} {w : World} {K : Act → World → Prop} {Q : Exit → Act → World → Prop} {E : Prop} (hgd : o.guard = none) (s x : Operand)
 (ho : o.op = .call { callee := .builtin .append, args := #[s, x], argTypes := #[TEs, TEs] })
 (B : Nat) (a1 : Option Addr) (n1 c1 : Nat) (l : List (PE × SE)) (hs : a.eval s = .slice a1 n1 c1) (hown : OwnE w B a1 n1 c1 l)
 (a2 : Option Addr) (n2 c2 : Nat) (m : List (PE × SE)) (hx : a.eval x = .slice a2 n2 c2) (hm : m.length = n2) (hsrc : VsAt 5 w a2 n2 c2 (m.flatMap ec)) (hb : (n1 + n2) * 72 ≤ 140737488355328) (hB : B ≤ w.heap.size)
 (h : ∀ a' c' w', OwnE w' B a' (n1 + n2) c' (l ++ m) → Below B w w' → w.grownBy w' (blkOf a1) → K (a.put o.dst (.slice a' (n1 + n2) c')) w') :
 if Region.wanted o (yielded ops a.tmps) = true then Oper.wp Tryz.prog o a w K Q else E := by
 have hw : Region.wanted o (yielded ops a.tmps) = true := by simp [Region.wanted, hgd]
 rw [if_pos hw]
 obtain ⟨i, hi, hz0, hz1, hz2⟩ := info_parts infoEd
 have hlt : ∀ k, (Value.slice a1 n1 c1).ownBlock = some k → B ≤ k := fun k hk => (hown.row.lt k hk).1
 have hl := hown.size
 cases a2 with
 | none =>
  have hc0 := hsrc.bare rfl
  have hle := hsrc.le
  obtain rfl : n2 = 0 := by omega
  obtain rfl : c2 = 0 := hc0
  obtain rfl := List.eq_nil_of_length_eq_zero hm
  have hrun := run_append_owned_none (P := Tryz.prog) (w := w) B TEs o.type TE i 5 Tryz.underlying52 hi (.slice a1 n1 c1) n1 (l.flatMap ec) hown.row
  unfold Oper.wp execOp
  simp only [ho, resolve, invoke, builtin, Sem.run_bind, Sem.run_pure, Result.andThen_ok, List.map_toArray, List.map_cons, List.map_nil, hs, hx, hrun]
  exact h a1 c1 w (by simpa using hown) (Below.refl _ _) (World.grownBy.refl _ _)
 | some ad =>
  obtain ⟨v', w', hr, h2, h3, h4, h5⟩ := run_append_own_at (P := Tryz.prog) w B TEs o.type TE i _ 5 72 Tryz.underlying52 hi hz0 hz1 hz2 rfl (by decide) (.slice a1 n1 c1) n1 (l.flatMap ec) hown.row ad n2 c2 (m.flatMap ec) (by rw [flat_len ec_len, hm]) (hsrc.src ad rfl) (ec_one m) (by unfold maxLen; omega) hb hB
  unfold Oper.wp execOp
  simp only [ho, resolve, invoke, builtin, Sem.run_bind, Sem.run_pure, Result.andThen_ok, List.map_toArray, List.map_cons, List.map_nil, hs, hx, hr]
  obtain ⟨a', c', rfl⟩ := slice_of_row h2
  exact h a' c' w' ⟨by rw [List.length_append]; omega, by rw [List.flatMap_append]; exact h2⟩ ((Below.refl B w).grown h3 hB hlt) (by rw [← own_blk a1 n1 c1]; exact h3)
end Go.Proofs.YtmlfbihlbiikeaaGreatDoor
