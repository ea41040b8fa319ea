/- What edits laid behind make of a manifest, plainly; loads that find no state. -/
import Derived.Test.YtmlfbihlbiikeabGreatDoorQa38
import Derived.Test.YtmlfbihlbiikeabGreatDoorQa28
namespace Go.Proofs.YtmlfbihlbiikeabGreatDoor
open Go.RowKit
set_option linter.unusedVariables false
set_option linter.unusedSimpArgs false
theorem enc_few {x : PE} (h : x.err = 0) (hd : x.dels.length ≤ 200) : x.enc.length ≤ 24000 := by
  obtain ⟨_, h2, _, _, _, _, h7⟩ := PE.err_zero h
  have e1 := uvEnc_length x.log
  have e2 := uvEnc_length x.next
  have e3 := uvEnc_length x.last
  have e4 := uvEnc_length x.dels.length
  have e5 := uvEnc_length x.adds.length
  have d1 := flat_le (f := PG.enc) (m := 20) (l := x.dels) (fun g _ => PG.enc_len g)
  have d2 := flat_le (f := PF.enc) (m := 194) (l := x.adds) (fun f hf => PF.enc_len (h7 f hf))
  unfold PE.enc
  simp only [List.length_append]
  omega
theorem told_gone {s s2 : PSt} (h : s.Ok) (h4 : Four s.v) {l : List PE} {x : PE} (he : ∀ y ∈ l, y.err = 0) (hx : x.err = 0) (hs : stepsS s l = some s2) (hn : (applyV s2.v x).1 ≠ 0) : toldP s.num (manOf (s.eds ++ (l ++ [x]))) = none := by
  rw [told_whole s.num (s.eds ++ (l ++ [x])) (by simp [PSt.eds]) (fun y hy => (List.mem_append.1 hy).elim (h.errs y) fun hy => (List.mem_append.1 hy).elim (he y) fun hy => by rw [List.mem_singleton.1 hy]; exact hx), told_adds h h4, stepsS_snoc, hs, Option.bind_some]
  unfold stepS
  rw [if_neg hn]
theorem told_next {s s2 : PSt} (h : s.Ok) (h4 : Four s.v) {l : List PE} {x : PE} {u : PV} (he : ∀ y ∈ l, y.err = 0) (hx : x.err = 0) (hs : stepsS s l = some s2) (hn : applyV s2.v x = (0, u)) : stepsS s (l ++ [x]) = some (s2.turn x u) ∧ toldP s.num (manOf (s.eds ++ (l ++ [x]))) = some (s2.turn x u) := by
  have h1 : stepsS s (l ++ [x]) = some (s2.turn x u) := by
    rw [stepsS_snoc, hs, Option.bind_some]
    unfold stepS
    rw [hn, if_pos rfl]
  exact ⟨h1, told_behind h h4 _ (fun y hy => (List.mem_append.1 hy).elim (he y) fun hy => by rw [List.mem_singleton.1 hy]; exact hx) h1⟩
theorem turn_four {s : PSt} {x : PE} {u : PV} (h : Four s.v) (hn : applyV s.v x = (0, u)) : Four (s.turn x u).v := four_apply h hn
theorem man_more (s : PSt) (l : List PE) (x : PE) : manOf (s.eds ++ (l ++ [x])) = manOf (s.eds ++ l) ++ putP (manOf (s.eds ++ l)).length true x.enc := by
  rw [← List.append_assoc, manOf_snoc]
theorem man_grow (s : PSt) (l : List PE) (x : PE) (hx : x.enc.length ≤ 24000) : (manOf (s.eds ++ (l ++ [x]))).length ≤ (manOf (s.eds ++ l)).length + 27000 := by
  rw [man_more, List.length_append]
  have := put_short (manOf (s.eds ++ l)).length x.enc
  omega
def PSt.as (s : PSt) (n : Nat) : PSt := ⟨n, s.v, s.log, s.next, s.last⟩
theorem as_ok {s : PSt} (h : s.Ok) (n : Nat) : (s.as n).Ok := ⟨h.v, h.log, h.next, h.last⟩
section
variable {J : Face} {w0 w w' : World} {p : Nat} {S : PFs} {R : Nat → Prop}
theorem fw_loadN (H : FsOk J) {c : Cr} {kn : Kn} {num : Nat} {L : List PE} (h : Fw J w0 p (pf c kn) R w) (hk : kn.quiet) (hn : 1 ≤ num ∧ num ≤ 1099511627776) (hh : Holds c (nameP 3 num) (manOf L)) (hB : (manOf L).length ≤ 100000000) (he : ∀ x ∈ L, x.err = 0) (hL : L.length ≤ 500) (hT : toldP num (manOf L) = none) :
    Calls Tryz.prog 14 #[at_ p] w fun e w' => ∃ t, e = .returned (.tuple #[sV zS t, .int .i64 151]) ∧ ∃ R', Fw J w0 p (pf c kn) R' w' ∧ Nx R R' w w' ∧ VS w' R' zS.v t := by
  obtain ⟨h1, h2⟩ := holds_reads hk hn hh
  obtain ⟨h3, h4⟩ := line_suffix (nameP 3 num)
  have hm := (man_mn hn.1 hn.2).2
  have hl : loadP (pf c kn) = (zS, 151) := by
    unfold loadP
    simp only [h1, h3, h4, h2, man_back hn.1 hn.2, hT]
    simp
  have := fw_load0 H h (by
    rw [h1]
    dsimp only
    rw [h4, h2]
    exact ⟨by unfold lineF; simp; omega, hB⟩) (by
    rw [h1]
    dsimp only
    rw [h4, h2, man_back hn.1 hn.2]
    have := few_cut num L (Nat.le_refl _) he hL
    rw [List.take_length] at this
    exact this)
  rw [hl] at this
  exact this
end
def sA0 : PSt := ⟨5, noV, 1, 6, 2⟩
theorem sA0_ok : sA0.Ok := ⟨VOk.none, by decide, by decide, by decide⟩
theorem sA0_chk : chkS sA0 = 0 := chkS_yes sA0_ok (by decide) (by decide)
theorem sA0_len : (manOf sA0.eds).length ≤ 22000 := by
  have h := bytes_len sA0_ok (m := 0) (by decide)
  exact h
end Go.Proofs.YtmlfbihlbiikeabGreatDoor
