/- The contract of Keys. -/
import Derived.Test.YtnggajconglfcaaDoorS7Mem
import Derived.Test.YtnggajconglfcaaDoorS7Rows
import Derived.Test.YtnggajconglfcaaDoorS7Ops
namespace Go.Proofs.YtnggajconglfcaaDoor
open Go.RowKit
set_option linter.unusedVariables false
def PS.lk (S : PS) (l : Nat) : List ByteArray := (S.lev l).map S.key
set_option maxRecDepth 100000 in
theorem keys_none (p : Option Addr) (n : Int) (w : World) (h : p = none ∨ n < 0 ∨ 8 ≤ n) : Calls Tryd.prog 31 #[.pointer p, .int .i64 n] w fun e w' => e = .returned (.slice none 0 0) ∧ w' = w := by
  cases p with
  | none =>
    clear h
    go_enter Tryd.func31, Tryd.ntmps31
    go_wp2
    go_returns
    exact ⟨rfl, rfl⟩
  | some a =>
    rcases h with h | h | h
    · cases h
    · go_enter Tryd.func31, Tryd.ntmps31
      go_wp2
      go_returns
      exact ⟨rfl, rfl⟩
    · have h0 : ¬ n < 0 := by omega
      go_enter Tryd.func31, Tryd.ntmps31
      go_wp2
      go_returns
      exact ⟨rfl, rfl⟩
section
variable {w : World} {p : Nat} {S : PS} {g : SG}
theorem nodup_count (l : List Nat) : ∀ (n : Nat), l.Nodup → (∀ x ∈ l, x < n) → l.length ≤ n := fun n hn hlt => by
  have h1 : l.length = (l.toArray.size) := by simp
  have := List.Nodup.length_le_of_subset hn (l₂ := List.range n) (fun x hx => List.mem_range.2 (hlt x hx))
  simpa using this
theorem PS.Inv.levLen (h : S.Inv) {l : Nat} (hl : l < 8) : (S.lev l).length ≤ 1000 := by
  have h1 := nodup_count (S.lev l) S.ops.length (h.nodup hl) (fun x hx => h.lt hl hx)
  have h2 := h.size
  have h3 := h.room
  omega
set_option maxRecDepth 100000 in
set_option maxHeartbeats 1000000 in
theorem keys_at (h : SkAt w p S g) {l : Nat} (hl : l < 8) : Calls Tryd.prog 31 #[at_ p, .int .i64 (l : Int)] w fun e w' => ∃ a c, e = .returned (.slice a (S.lev l).length c) ∧ OwnS w' w.heap.size a (S.lev l).length c (S.lk l) ∧ Below w.heap.size w w' := by
  have HS : Hid (SkAt w p S g) := h
  have hlen := h.inv.levLen hl
  have hc := h.link (a := 0) hl (.inl rfl)
  have hnd := h.inv.nodup hl
  simp only [plc, nxt_zero] at hc
  have hc' : w.cell? ⟨p, 1 + 1 + l, none⟩ = some (lnk g (S.lev l).head?) := hc
  have HND : Hid (S.lev l).Nodup := hnd
  clear h hc hnd
  obtain ⟨n, HN⟩ : ∃ n, Hid (n = (S.lev l).length) := ⟨_, rfl⟩
  rw [← HN.out] at hlen ⊢
  go_enter Tryd.func31, Tryd.ntmps31
  go_wp2_with fail
  go_loopw [5, 6] (fun o x wr => ∃ (k : Nat) (a : Option Addr) (c : Nat), k ≤ n ∧ o = .slice a k c ∧ x = lnk g (S.lev l)[k]? ∧ Hid (OwnS wr w.heap.size a k c ((S.lk l).take k)) ∧ Hid (Below w.heap.size w wr)) (fun o _ _ => n - lenOf o)
  case atStart => exact ⟨0, none, 0, Nat.zero_le _, rfl, by rw [List.head?_eq_getElem?], OwnS.nil _ _, Below.refl _ _⟩
  case round =>
    obtain ⟨k, a, c, hk, rfl, rfl, HO, HB⟩ := hrel
    by_cases hlt : k < n
    · have hlt' : k < (S.lev l).length := by rw [← HN.out]; exact hlt
      have hx : (S.lev l)[k]? = some (S.lev l)[k] := by simp [hlt']
      obtain ⟨x, hx0⟩ : ∃ x, x = (S.lev l)[k] := ⟨_, rfl⟩
      have HX : Hid (x = (S.lev l)[k]) := hx0
      clear hx0
      rw [hx, ← HX.out]
      have hmem : x ∈ S.lev l := by rw [HX.out]; exact List.getElem_mem hlt'
      have hsr : SkAt wr p S g := HS.out.below HB.out
      have hxl := hsr.inv.lt hl hmem
      have ck := hsr.keyCell hxl
      have cl := HS.out.link (a := x + 1) hl (.inr ⟨x, rfl, hmem⟩)
      have e2 : nxt (S.lev l) (x + 1) = (S.lev l)[k + 1]? := by rw [HX.out]; exact nxt_at HND.out k hlt'
      rw [e2] at cl
      have CL : Hid (w.cell? ⟨g.n x, 0 + 1 + l, none⟩ = some (lnk g (S.lev l)[k + 1]?)) := cl
      have hgx : g.n x < w.heap.size := by
        obtain ⟨arr, hb⟩ := HS.out.nodeBox hxl
        exact hb.lt
      have HT : Hid ((S.lk l).take (k + 1) = (S.lk l).take k ++ [S.key x]) := by
        unfold Hid
        rw [HX.out, List.take_succ_eq_append_getElem (by simpa [PS.lk] using hlt')]
        simp [PS.lk]
      rw [show lnk g (some x) = at_ (g.n x) from rfl]
      clear hx hmem hsr hxl cl e2 hc'
      go_wp2_with (first | (at_builtin; refine wpList_pushS wr rfl _ _ rfl w.heap.size a k c _ rfl HO.out (S.key x) rfl (by omega) HB.out.size ?_; intro r c' w' hr hg
                            have hb' : Below w.heap.size w w' := (HB.out.alloc HB.out.size _).grown hg (by simp; have := HB.out.size; omega) (fun k e => HO.out.ge e)
                            have cl' : w'.cell? ⟨g.n x, 1 + l, none⟩ = some (lnk g (S.lev l)[k + 1]?) := by rw [hb'.cell (p := ⟨g.n x, 1 + l, none⟩) hgx]; have := CL.out; rw [Nat.zero_add] at this; exact this
                            have HR : Hid (OwnS w' w.heap.size (some ⟨r, 0, none⟩) (k + 1) c' ((S.lk l).take (k + 1))) := by unfold Hid; rw [HT.out]; exact hr
                            have HB' : Hid (Below w.heap.size w w') := hb'
                            clear hr hg hb' ck))
      go_roundw
      case rel => exact ⟨k + 1, some ⟨r, 0, none⟩, c', by omega, rfl, rfl, HR, HB'⟩
      case measure => simp only [lenOf]; omega
    · obtain rfl : k = n := by omega
      have hx : (S.lev l)[k]? = none := by rw [List.getElem?_eq_none]; rw [← HN.out]; exact Nat.le_refl _
      rw [hx, show lnk g none = .pointer none from rfl]
      go_wp2
      go_returns
      refine ⟨a, c, rfl, ?_, HB.out⟩
      have ht : (S.lk l).take k = S.lk l := List.take_of_length_le (by simp [PS.lk]; rw [← HN.out]; exact Nat.le_refl _)
      have := HO.out
      rw [ht] at this
      exact this
end
end Go.Proofs.YtnggajconglfcaaDoor
