/- Bytes appended to the call's own, as a step of a region that draws its order; what parts of slices are. -/
import Derived.Test.YtiflepadjcpjjaaSliceAny
import Derived.Deep.RegionLaw
import Derived.Maps.AppendAt
namespace Go.Proofs.Ytiflepadjcpjjaa
open Go.RowKit
theorem step_appB {ops : Array Oper} {o : Oper} {a : Act} {w : World} {K : Act → World → Prop} {Q : Exit → Act → World → Prop} {E : Prop} (hgd : o.guard = none) (s x : Operand)
    (ho : o.op = .call { callee := .builtin .append, args := #[s, x], argTypes := #[28, 28] })
    (B : Nat) (a1 : Option Addr) (n1 c1 : Nat) (bs : List UInt8) (hs : a.eval s = .slice a1 n1 c1) (hown : OwnB w B a1 n1 c1 bs)
    (a2 : Option Addr) (n2 c2 : Nat) (cs : List UInt8) (hx : a.eval x = .slice a2 n2 c2) (hsrc : BsAt w a2 n2 c2 cs)
    (hl : n1 + n2 ≤ 140737488355328) (hB : B ≤ w.heap.size)
    (h : ∀ a' c' w', OwnB w' B a' (n1 + n2) c' (bs ++ cs) → Below B w w' → K (a.put o.dst (.slice a' (n1 + n2) c')) w') :
    if Region.wanted o (yielded ops a.tmps) = true then Oper.wp Try.prog o a w K Q else E := by
  have hw : Region.wanted o (yielded ops a.tmps) = true := by simp [Region.wanted, hgd]
  rw [if_pos hw]
  obtain ⟨i, hi, hz0, hz1, hz2⟩ := info_parts infoU8
  have hsz := hsrc.size
  have hlt : ∀ k, (Value.slice a1 n1 c1).ownBlock = some k → B ≤ k := fun k hk => (hown.row.lt k hk).1
  cases a2 with
  | none =>
    have hc0 := hsrc.bare rfl
    have hle := hsrc.le
    obtain rfl : n2 = 0 := by omega
    subst hc0
    obtain rfl := List.eq_nil_of_length_eq_zero hsz
    have hrun := run_append_owned_none (P := Try.prog) (w := w) B 28 o.type 5 i 1 Try.underlying28 hi _ n1 _ hown.row
    unfold Oper.wp
    simp [execOp, ho, resolve, invoke, builtin, hs, hx, hrun, Result.andThen]
    exact h a1 c1 w (by simpa using hown) (Below.refl _ _)
  | some ad =>
    have hcell : ∀ j u, (cellsB cs)[j]? = some u → w.cell? (ad.add j) = some u := by
      intro j u hu
      have hj : j < cs.length := by have := (List.getElem?_eq_some_iff.1 hu).1; rwa [cellsB_length] at this
      obtain ⟨b, off, he, hc⟩ := hsrc.here (by omega)
      obtain rfl := Option.some.inj he
      rw [cellsB_get cs j hj] at hu
      obtain rfl := Option.some.inj hu
      rw [Addr.add_lit]
      exact hc j (by omega)
    obtain ⟨v', w', hr, h2, h3, h4, h5⟩ := run_append_own_at (P := Try.prog) w B 28 o.type 5 i (.int .u8 0) 1 1 Try.underlying28 hi hz0 hz1 hz2 rfl (by decide) _ n1 _ hown.row ad n2 c2 (cellsB cs) (by rw [cellsB_length]; omega) hcell (cellsB_one cs) (by unfold maxLen; omega) (by omega) hB
    unfold Oper.wp execOp
    simp only [ho, resolve, invoke, builtin, Sem.run_bind, Sem.run_pure, Result.andThen_ok, List.map_toArray, List.map_cons, List.map_nil, hs, hx, hr]
    rw [← cellsB_append] at h2
    obtain ⟨a', c', rfl, ho'⟩ := own_of_row h2
    exact h a' c' w' ho' ((Below.refl B w).grown h3 hB hlt)
/-- The first k bytes. -/
theorem slice_to {w0 : World} {bs0 : List UInt8} {a : Option Addr} {len cap : Nat} (h : BsAt w0 a len cap bs0) (k : Nat) (hk : k ≤ len) :
    ∃ a', (∀ W : World, (Instr.slice 28 (.slice a len cap) none (some (.int .i64 (k : Int))) none).run Try.prog W = .ok (.slice a' k cap) W) ∧
      (∀ (W : World) (bs : List UInt8), BsAt W a len cap bs → BsAt W a' k cap (bs.take k)) := by
  have hle := h.le
  have hmx := h.max
  cases a with
  | none =>
    obtain rfl := h.bare rfl
    obtain rfl : k = 0 := by omega
    refine ⟨none, fun W => ?_, fun W bs hb => hb.upTo 0 (by omega)⟩
    simp [Instr.slice, run_underlying Try.underlying28, go_sem]
  | some ad =>
    obtain ⟨b, off, s⟩ := ad
    by_cases hc : cap = 0
    · subst hc
      obtain rfl : k = 0 := by omega
      refine ⟨some ⟨b, off, s⟩, fun W => ?_, fun W bs hb => hb.upTo 0 (by omega)⟩
      simp [Instr.slice, run_underlying Try.underlying28, go_sem]
    · refine ⟨some ⟨b, off, s⟩, fun W => ?_, fun W bs hb => hb.upTo k hk⟩
      simp [Instr.slice, run_underlying Try.underlying28, go_sem]
      intro hh
      omega
/-- The bytes from lo to hi. -/
theorem slice_mid {w0 : World} {bs0 : List UInt8} {a : Option Addr} {len cap : Nat} (h : BsAt w0 a len cap bs0) (lo hi : Nat) (hlo : lo ≤ hi) (hhi : hi ≤ len) :
    ∃ a', (∀ W : World, (Instr.slice 28 (.slice a len cap) (some (.int .i64 (lo : Int))) (some (.int .i64 (hi : Int))) none).run Try.prog W = .ok (.slice a' (hi - lo) (cap - lo)) W) ∧
      (∀ (W : World) (bs : List UInt8), BsAt W a len cap bs → BsAt W a' (hi - lo) (cap - lo) ((bs.drop lo).take (hi - lo))) := by
  have hle := h.le
  have hmx := h.max
  cases a with
  | none =>
    obtain rfl := h.bare rfl
    obtain rfl : hi = 0 := by omega
    obtain rfl : lo = 0 := by omega
    refine ⟨none, fun W => ?_, fun W bs hb => hb.upTo 0 (by omega)⟩
    simp [Instr.slice, run_underlying Try.underlying28, go_sem]
  | some ad =>
    obtain ⟨b, off, s⟩ := ad
    by_cases hc : cap - lo = 0
    · obtain rfl : lo = cap := by omega
      obtain rfl : hi = lo := by omega
      refine ⟨some ⟨b, off, s⟩, fun W => ?_, fun W bs hb => ?_⟩
      · simp [Instr.slice, run_underlying Try.underlying28, go_sem]
      · rw [Nat.sub_self, List.take_zero]
        exact BsAt.empty _ _ (by omega)
    · refine ⟨some ((⟨b, off, s⟩ : Addr).add lo), fun W => ?_, fun W bs hb => ?_⟩
      · have h1 : hi ≤ cap := by omega
        have h3 : ¬ cap = lo := by omega
        simp [Instr.slice, run_underlying Try.underlying28, go_sem, h1, hlo, h3]
      · rcases Nat.eq_zero_or_pos (hi - lo) with h0 | h0
        · rw [h0, List.take_zero]
          exact BsAt.empty _ _ (by omega)
        · obtain ⟨b', o', e, _⟩ := hb.here (by omega)
          simp only [Option.some.injEq, Addr.mk.injEq] at e
          obtain ⟨rfl, rfl, rfl⟩ := e
          rw [Addr.add_lit]
          exact hb.sub lo (hi - lo) (by omega)
end Go.Proofs.Ytiflepadjcpjjaa
