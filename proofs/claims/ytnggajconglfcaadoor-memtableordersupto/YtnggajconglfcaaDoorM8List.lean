/- The contract of memtable's listOf: a list of texts. -/
import Derived.Test.YtnggajconglfcaaDoorM8Sh
namespace Go.Proofs.YtnggajconglfcaaDoor
open Go.RowKit
set_option linter.unusedVariables false
set_option linter.unusedSimpArgs false
theorem sorted_same : ∀ {l k : List ByteArray}, l.Pairwise (fun a b => kl a b = true) → k.Pairwise (fun a b => kl a b = true) → (∀ x, x ∈ l ↔ x ∈ k) → l = k
  | [], [], _, _, _ => rfl
  | [], y :: s, _, _, h => absurd ((h y).2 (by simp)) (by simp)
  | x :: r', [], _, _, h => absurd ((h x).1 (by simp)) (by simp)
  | x :: r', y :: s, hl, hk, h => by
    have asym : ∀ a b : ByteArray, kl a b = true → kl b a = true → False := fun a b h1 h2 => by
      rw [kl_asym h1] at h2
      cases h2
    have hl' := List.pairwise_cons.1 hl
    have hk' := List.pairwise_cons.1 hk
    have hxy : x = y := by
      rcases List.mem_cons.1 ((h x).1 (by simp)) with e | e
      · exact e
      · rcases List.mem_cons.1 ((h y).2 (by simp)) with e2 | e2
        · exact e2.symm
        · exact (asym x y (hl'.1 y e2) (hk'.1 x e)).elim
    subst hxy
    have hnx : x ∉ r' := fun e => asym x x (hl'.1 x e) (hl'.1 x e)
    have hns : x ∉ s := fun e => asym x x (hk'.1 x e) (hk'.1 x e)
    rw [sorted_same hl'.2 hk'.2 fun z => ⟨fun hz => by
      rcases List.mem_cons.1 ((h z).1 (List.mem_cons_of_mem _ hz)) with e | e
      · exact absurd (e ▸ hz) hnx
      · exact e, fun hz => by
      rcases List.mem_cons.1 ((h z).2 (List.mem_cons_of_mem _ hz)) with e | e
      · exact absurd (e ▸ hz) hns
      · exact e⟩]
theorem sizeStr (w : World) : (sizeOf (Tryd.prog.elem 71)).run Tryd.prog w = .ok 1 w := by kernel_rfl
set_option maxRecDepth 100000 in
theorem idxStr (w : World) {a : Option Addr} {b off n c i : Nat} (ha : a = some ⟨b, off, none⟩) (hi : i < n) : (Instr.indexAt 71 (.slice a n c) (.int .i64 (i : Int))).run Tryd.prog w = .ok (.pointer (some ⟨b, off + i, none⟩)) w := by
  subst ha
  have h1 : (0 : Int) ≤ (i : Int) ∧ (i : Int) < (n : Int) := by omega
  rw [run_indexAt_slice (P := Tryd.prog) (h := Tryd.underlying71), if_pos h1, sizeStr]
  simp [Result.andThen, Addr.add_lit]
/-- What listOf leaves. -/
structure Listed (w w' : World) (l : LG) (L : List ByteArray) : Prop where
  at' : SkAt w' l.p l.S l.g
  all : l.S.all
  room : l.S.room = 1000
  keys : l.S.keys = L
  base : Below w.heap.size w w'
  mine : ∀ k, l.foot k → w.heap.size ≤ k
theorem Listed.t {w w' : World} {l : LG} {L : List ByteArray} (h : Listed w w' l L) (hs : L.Pairwise (fun a b => kl a b = true)) : l.t = L :=
  sorted_same h.at'.inv.lk_sorted hs fun x => by
    show x ∈ l.S.lk 0 ↔ _
    rw [h.at'.inv.lk_mem h.all, h.keys]
set_option maxRecDepth 100000 in
set_option maxHeartbeats 1000000 in
theorem listOf_at {w : World} {a : Option Addr} {n c : Nat} {L : List ByteArray} (h : StAt w a n c L) (hs : L.Pairwise (fun a b => kl a b = true)) (hn : n ≤ 1000) (hz : ∀ b ∈ L, b.size ≤ 9223372036854775807) (hg : Glob w) :
    Calls Tryd.prog 33 #[.slice a n c] w fun e w' => ∃ l : LG, e = .returned (at_ l.p) ∧ Listed w w' l L := by
  have HN := new_at 1000 w (by omega)
  have HS : Hid (StAt w a n c L) := h
  have HP : Hid (L.Pairwise (fun a b => kl a b = true)) := hs
  have HZ : Hid (∀ b ∈ L, b.size ≤ 9223372036854775807) := hz
  have HG : Hid (Glob w) := hg
  have hcm := h.max
  have hln := h.le
  unfold maxLen at hcm
  clear h hs hz hg
  go_enter Tryd.func33, Tryd.ntmps33
  go_wp2_with fail
  refine HN.mono ?_
  rintro _ w1 ⟨p, g0, rfl, h1, h2, h3⟩
  have HX : Hid (SkAt w1 p (PS.new 1000) g0 ∧ Below w.heap.size w w1 ∧ ∀ k, Foot p g0 k → w.heap.size ≤ k) := ⟨h1, h2, h3⟩
  clear HN h1 h2 h3
  go_wp2_with fail
  go_loopw [13] (fun x wr => ∃ k : Nat, k ≤ n ∧ x = .int .i64 (k : Int) ∧ Hid (∃ S g, SkAt wr p S g ∧ S.all ∧ S.room = 1000 ∧ S.keys = L.take k ∧ Below w.heap.size w wr ∧ ∀ j, Foot p g j → w.heap.size ≤ j)) (fun x _ => n - (intOf x).toNat)
  case atStart => exact ⟨0, Nat.zero_le _, rfl, PS.new 1000, g0, HX.out.1, fun i hi => absurd hi (Nat.not_lt_zero _), rfl, rfl, HX.out.2⟩
  case round =>
    obtain ⟨k, hk, rfl, HR⟩ := hrel
    by_cases hkn : k < n
    · obtain ⟨S, g, r1, r2, r3, r4, r5, r6⟩ := HR.out
      have st := HS.out
      obtain ⟨b, off, rfl, hc⟩ := st.here (by omega)
      have hkl : k < L.length := by rw [st.size]; exact hkn
      have hck := (st.below r5).here (by omega)
      have hcell : wr.cell? ⟨b, off + k, none⟩ = some (.string (L.getD k ⟨#[]⟩)) := by
        obtain ⟨b', off', e, hc'⟩ := hck
        simp only [Option.some.injEq, Addr.mk.injEq] at e
        obtain ⟨rfl, rfl, _⟩ := e
        exact hc' k hkn
      have hkey : L.getD k ⟨#[]⟩ = L[k] := by simp [List.getD, hkl]
      rw [hkey] at hcell
      have hidx := fun W => idxStr W (a := some ⟨b, off, none⟩) (b := b) (off := off) (n := n) (c := c) rfl hkn
      have hlen : S.ops.length = k := by
        have := congrArg List.length r4
        simp [PS.keys] at this
        omega
      have hnew : L[k] ∉ S.keys := by
        rw [r4]
        intro hm
        have hpw := HP.out
        rw [← List.take_append_drop k L] at hpw
        have := (List.pairwise_append.1 hpw).2.2 _ hm L[k] (by rw [List.drop_eq_getElem_cons hkl]; exact List.mem_cons_self)
        rw [kl_irr] at this
        cases this
      have HH := fun W hW => heightOf_at (w := W) (k + 1) (by omega) (by omega) hW
      have HL := fun (h : Nat) (hh : 1 ≤ h ∧ h ≤ 8) => lay_new (h := h) r1 r2 (HZ.out _ (List.getElem_mem hkl)) hh hnew (by rw [r3, hlen]; omega)
      have HGr : Hid (Glob wr) := HG.out.of_below0 r5
      have HQ : Hid (Below w.heap.size w wr ∧ ∀ j, Foot p g j → w.heap.size ≤ j) := ⟨r5, r6⟩
      have HK : Hid (S.keys = L.take k ∧ S.room = 1000 ∧ k < L.length) := ⟨r4, r3, hkl⟩
      have HT : Hid (L.take (k + 1) = L.take k ++ [L[k]]) := List.take_succ_eq_append_getElem hkl
      generalize L[k] = X at hcell HL HT
      clear r1 r2 r3 r4 r5 r6 st hc hck hkey hnew
      rw [show (((k + 1 : Nat) : Int)) = (k : Int) + 1 by omega] at HH
      go_wp2_with fail
      refine (HH _ HGr.out).mono ?_
      rintro _ w2 ⟨hh, hh1, hh2, rfl, hw2⟩
      subst hw2
      go_wp2_with fail
      refine (HL hh ⟨hh1, hh2⟩).mono ?_
      rintro _ w3 ⟨rfl, S3, g3, hl3⟩
      have HE : Hid (∃ S g, SkAt w3 p S g ∧ S.all ∧ S.room = 1000 ∧ S.keys = L.take (k + 1) ∧ Below w.heap.size w w3 ∧ ∀ j, Foot p g j → w.heap.size ≤ j) := by
        refine ⟨S3, g3, hl3.at', hl3.all, by rw [hl3.room]; exact HK.out.2.1, by rw [hl3.keys, HT.out, HK.out.1], HQ.out.1.trans (hl3.chg.below HQ.out.2 HQ.out.1.size), fun j hj => ?_⟩
        rcases hl3.foot j hj with h | h
        · exact HQ.out.2 j h
        · exact Nat.le_trans HQ.out.1.size h
      clear hl3 HL HH hcell hidx
      go_wp2
      go_roundw
      case rel => exact ⟨k + 1, hkn, by go_num, HE.out⟩
      case measure => simp only [intOf]; omega
    · go_wp2
      go_ret
      obtain ⟨S, g, r1, r2, r3, r4, r5, r6⟩ := HR.out
      have e : L.take k = L := List.take_of_length_le (by have := HS.out.size; omega)
      exact ⟨⟨p, S, g⟩, ret1 rfl, r1, r2, r3, by rw [← e]; exact r4, r5, r6⟩
end Go.Proofs.YtnggajconglfcaaDoor
