/- The contract of the document's own ends. -/
import Derived.Test.YtehkcgjiimfdjaaPbMem
namespace Go.Proofs.Ytehkcgjiimfdjaa
open Go.RowKit
def RT.ends (c : List Ins) (x : RT) : RT := if c.length ≤ x.pl then { x with en := true } else x
def endsTo (code : List (List Ins)) (l : List RT) : Nat → List RT
  | 0 => l
  | k + 1 => (endsTo code l k).set k (((l.getD k rt0)).ends (code.getD k []))
def RW.ends (code : List (List Ins)) (G : RW) : RW := { G with ts := endsTo code G.ts G.ts.length }
theorem endsTo_len (code : List (List Ins)) (l : List RT) : ∀ k, (endsTo code l k).length = l.length
  | 0 => rfl
  | k + 1 => by rw [endsTo, List.length_set, endsTo_len code l k]
theorem endsTo_at (code : List (List Ins)) (l : List RT) : ∀ (k i : Nat), i < l.length → (endsTo code l k).getD i rt0 = if i < k then (l.getD i rt0).ends (code.getD i []) else l.getD i rt0
  | 0, i, h => by simp [endsTo]
  | k + 1, i, h => by
    have ih := endsTo_at code l k i h
    have hl := endsTo_len code l k
    rw [endsTo]
    by_cases e : k = i
    · subst e
      rw [if_pos (by omega)]
      simp [List.getD, hl, h]
    · have e2 : ((endsTo code l k).set k ((l.getD k rt0).ends (code.getD k []))).getD i rt0 = (endsTo code l k).getD i rt0 := by simp [List.getD, List.getElem?_set_ne e]
      rw [e2, ih]
      by_cases h2 : i < k
      · rw [if_pos h2, if_pos (by omega)]
      · rw [if_neg h2, if_neg (by omega)]
theorem cells_en {x : RT} (h : x.r.length = 4) (v : Bool) : ({ x with en := v } : RT).cells = x.cells.set 5 (.bool v) := by
  obtain ⟨pl, r, en, bd, cd, wt⟩ := x
  match r, h with
  | [r0, r1, r2, r3], _ => rfl
theorem CdAt.lenAt {w : World} {a : Option Addr} {len cap : Nat} {code : List (List Ins)} (h : CdAt w a len cap code) {i : Nat} (hi : i < len) : ∃ b off aj cj, a = some ⟨b, off, none⟩ ∧ w.cell? ⟨b, off + i, none⟩ = some (.slice aj (code.getD i []).length cj) ∧ b < w.heap.size := by
  obtain ⟨b, off, rfl, hc⟩ := h.here (by omega)
  obtain ⟨aj, cj, h1, _⟩ := hc i hi
  exact ⟨b, off, aj, cj, rfl, h1, World.block_lt_of_cell? w _ h1⟩
set_option maxRecDepth 100000 in
set_option maxHeartbeats 1000000 in
theorem ends_at {w0 w : World} {p q : Nat} {a : Option Addr} {len cap : Nat} {code : List (List Ins)} {G : RW} (h : Wd w0 w p q (.slice a len cap) G) (hC : CdAt w0 a len cap code) (hlen : len = G.ts.length) (h64 : ∀ i, i < len → (code.getD i []).length ≤ 64) :
    Calls Try.prog 19 #[at_ p] w fun e w' => e = .returned (.tuple #[]) ∧ Wd w0 w' p q (.slice a len cap) (G.ends code) := by
  have hmany := h.many
  have HW0 : Hid (Wd w0 w p q (.slice a len cap) { G with ts := endsTo code G.ts 0 }) := h
  have HC : Hid (CdAt w0 a len cap code) := hC
  have HN : Hid (len = G.ts.length) := hlen
  have H64 : Hid (∀ i, i < len → (code.getD i []).length ≤ 64) := h64
  have hn8 : len ≤ 8 := by omega
  have hle := hC.le
  have hmx := hC.max
  unfold maxLen at hmx
  clear h hC hlen h64 hmany
  go_enter Try.func19, Try.ntmps19
  go_wp2_with fail
  go_loopw [2] (fun ix wr => ∃ k : Nat, k ≤ len ∧ ix = .int .i64 (k : Int) ∧ Hid (Wd w0 wr p q (.slice a len cap) { G with ts := endsTo code G.ts k })) (fun ix _ => len - (intOf ix).toNat)
  case atStart => exact ⟨0, Nat.zero_le _, rfl, HW0⟩
  case round =>
    obtain ⟨k, hk, rfl, HW⟩ := hrel
    obtain ⟨b0, b1, _⟩ := HW.out.cell
    simp only at b1
    rw [endsTo_len, ← HN.out] at b1
    by_cases hlt : k < len
    · have hkg : k < G.ts.length := by rw [← HN.out]; exact hlt
      have hkl : k < (endsTo code G.ts k).length := by rw [endsTo_len]; exact hkg
      have t0 := (HW.out.tcell hkl).1
      have t5 := (HW.out.tcell hkl).2.2.2.2.2.1
      have s5 := HW.out.row.soft (k * 9 + 5)
      have hat : ({ G with ts := endsTo code G.ts k } : RW).t k = G.ts.getD k rt0 := by
        show (endsTo code G.ts k).getD k rt0 = _
        rw [endsTo_at code G.ts k k hkg, if_neg (by omega)]
      rw [hat] at t0 t5
      have hr : (G.ts.getD k rt0).r.length = 4 := by rw [← hat]; exact HW.out.reg hkl
      obtain ⟨cb, co, aj, cj, hca, k0, hcb⟩ := (HC.out.below (Nat.le_refl _) HW.out.base).lenAt hlt
      have hc64 := H64.out k hlt
      have HX : Hid (endsTo code G.ts (k + 1) = (endsTo code G.ts k).set k ((G.ts.getD k rt0).ends (code.getD k []))) := rfl
      have HAT : Hid (({ G with ts := endsTo code G.ts k } : RW).t k = G.ts.getD k rt0) := hat
      obtain ⟨cl, HCL⟩ : ∃ cl, Hid (cl = (code.getD k []).length) := ⟨_, rfl⟩
      rw [← HCL.out] at k0 hc64
      obtain ⟨pl, HPL⟩ : ∃ pl, Hid (pl = (G.ts.getD k rt0).pl) := ⟨_, rfl⟩
      rw [← HPL.out] at t0
      have hx1 : (0 : Int) ≤ (k : Int) := by omega
      have hx2 : (k : Int) < (len : Int) := by omega
      have hpq := HW.out.ne
      subst hca
      clear hat
      by_cases hz : cl ≤ pl
      · have HP1 : Hid (Wd w0 (wr.setCell ⟨q, k * 9 + 5, none⟩ (.bool true)) p q (.slice (some ⟨cb, co, none⟩) len cap) { G with ts := endsTo code G.ts (k + 1) }) := by
          unfold Hid
          rw [HX.out]
          have e : (G.ts.getD k rt0).ends (code.getD k []) = { G.ts.getD k rt0 with en := true } := by unfold RT.ends; rw [if_pos (by rw [← HCL.out, ← HPL.out]; exact hz)]
          rw [e]
          exact HW.out.put1 hkl (by omega) (x := { G.ts.getD k rt0 with en := true }) hr (by rw [HAT.out]; exact cells_en hr true)
        have hz' : (cl : Int) ≤ (pl : Int) := by omega
        go_wp2
        go_region
        go_wp2
        go_roundw
        case rel => exact ⟨k + 1, by omega, by go_num, HP1.out.drew⟩
        case measure => simp [intOf]; omega
      · have HP1 : Hid (Wd w0 wr p q (.slice (some ⟨cb, co, none⟩) len cap) { G with ts := endsTo code G.ts (k + 1) }) := by
          unfold Hid
          rw [HX.out]
          have e : (G.ts.getD k rt0).ends (code.getD k []) = G.ts.getD k rt0 := by unfold RT.ends; rw [if_neg (by rw [← HCL.out, ← HPL.out]; exact hz)]
          have e2 : (endsTo code G.ts k).set k (G.ts.getD k rt0) = endsTo code G.ts k := by
            have h1 := endsTo_at code G.ts k k hkg
            rw [if_neg (by omega)] at h1
            rw [← h1]
            simp [List.getD, hkl]
          rw [e, e2]
          exact HW.out
        have hz' : ¬ (cl : Int) ≤ (pl : Int) := by omega
        go_wp2
        go_region
        go_wp2
        go_roundw
        case rel => exact ⟨k + 1, by omega, by go_num, HP1.out.drew⟩
        case measure => simp [intOf]; omega
    · obtain rfl : k = len := by omega
      go_wp2
      go_returns
      refine ⟨rfl, ?_⟩
      have := HW.out
      rw [HN.out] at this
      rw [HN.out]
      exact this
end Go.Proofs.Ytehkcgjiimfdjaa
