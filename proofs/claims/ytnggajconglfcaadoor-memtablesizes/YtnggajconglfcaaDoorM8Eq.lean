/- Keys held against one another; a part of a row. -/
import Derived.Test.YtnggajconglfcaaDoorM8Law
import Derived.Test.YtnggajconglfcaaDoorKeyEq
namespace Go.Proofs.YtnggajconglfcaaDoor
open Go.RowKit
set_option linter.unusedVariables false
set_option linter.unusedSimpArgs false
theorem KsAt.upTo {w : World} {a : Option Addr} {n c : Nat} {l : List KV} (h : KsAt w a n c l) {k : Nat} (hk : k ≤ n) : KsAt w a k c (l.take k) := by
  have hs := h.size
  refine ⟨by simp; omega, Nat.le_trans hk h.le, h.max, fun hp => ?_⟩
  obtain ⟨b, off, ha, hc⟩ := h.here (by omega)
  refine ⟨b, off, ha, fun j hj => ?_⟩
  rw [hc j (by omega)]
  have e : l = l.take k ++ l.drop k := (List.take_append_drop k l).symm
  conv => lhs; rw [e]
  rw [cellsKV_append, List.getElem?_append_left (by rw [cellsKV_len, List.length_take]; omega)]
theorem KsAt.drewN {w : World} {a : Option Addr} {n c : Nat} {l : List KV} (h : KsAt w a n c l) (d : Nat) : KsAt (w.drewN d) a n c l := ⟨h.size, h.le, h.max, h.here⟩
theorem Glob.drewN {w : World} (h : Glob w) (d : Nat) : Glob (w.drewN d) := ⟨h.maxLen, h.tab⟩
theorem keyEq_iff {a b : IK} : keyEq a.user b.user (a.seq : Int) (b.seq : Int) a.kind b.kind = true ↔ a = b := by
  unfold keyEq
  rw [ByteArray.toList_eq, ByteArray.toList_eq]
  obtain ⟨u, q, k⟩ := a
  obtain ⟨u', q', k'⟩ := b
  simp only [Bool.and_eq_true, beq_iff_eq, IK.mk.injEq]
  constructor
  · rintro ⟨h1, h2, h3⟩
    exact ⟨ba_ext h1, by omega, h3⟩
  · rintro ⟨rfl, rfl, rfl⟩
    exact ⟨rfl, rfl, rfl⟩
end Go.Proofs.YtnggajconglfcaaDoor
