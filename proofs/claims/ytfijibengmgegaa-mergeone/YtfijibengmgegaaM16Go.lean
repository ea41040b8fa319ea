/- The contracts of the document's own Go and Told. -/
import Derived.Test.YtfijibengmgegaaM16Ref
namespace Go.Proofs.Ytfijibengmgegaa
open Go.RowKit
set_option linter.unusedVariables false
set_option linter.unusedSimpArgs false
theorem normO_fit {l : List KV} {j i : Nat} (h : normO l j = some i) : i < l.length := by
  unfold normO at h
  split at h
  · cases h; assumption
  · cases h
theorem goP_fit {l : List KV} {g : Nat} {k : IK} {o : Option Nat} (ho : ∀ i, o = some i → i < l.length) {i : Nat} (h : goP l g k o = some i) : i < l.length := by
  unfold goP at h
  split at h
  · exact normO_fit h
  · split at h
    · cases h
    · cases h; omega
  · exact normO_fit h
  · cases o with
    | none => cases h
    | some j => exact normO_fit h
  · cases o with
    | none => cases h
    | some j =>
      have := ho j rfl
      simp only [Option.bind_some] at h
      split at h
      · cases h
      · cases h; omega
  · exact ho i h
theorem normO_enc (l : List KV) (i : Nat) : encI (normO l i) = if i < l.length then (i : Int) else -1 := by
  unfold normO
  split <;> rfl
/-- What a step keeps. -/
def KeyA (k : IK) : Array Value := #[.string k.user, .int .u64 (k.seq : Int), .int .i64 k.kind]
structure GoS (w W : World) (B M p : Nat) (l : List KV) (a : Option Addr) (c : Nat) (k : IK) (i : Int) : Prop where
  chg : Chg (fun q => q = p) w W
  ge : B ≤ p
  lt : p < w.heap.size
  top : p < M ∧ M ≤ w.heap.size ∧ ∀ q, blkOf a = some q → q < M
  box : Box W p TRI #[.slice a l.length c, .int .i64 i]
  own : OwnK W B a l.length c l
  key : Box W w.heap.size 33 (KeyA k)
theorem GoS.set {w W : World} {B M p : Nat} {l : List KV} {a : Option Addr} {c : Nat} {k : IK} {i : Int} (h : GoS w W B M p l a c k i) (j : Int) : GoS w (W.setCell ⟨p, 1, none⟩ (.int .i64 j)) B M p l a c k j := by
  have hne : ∀ q, blkOf a = some q → q ≠ p := fun q hq => tag_ne (h.own.tag hq) h.box.tag (by decide)
  exact ⟨h.chg.set (fun _ => rfl) 1 _, h.ge, h.lt, h.top, by simpa using h.box.set 1 (.int .i64 j), h.own.kept fun q hq => Below.heap_setCell _ _ _ _ (hne q hq), h.key.other (by have := h.lt; omega) 1 _⟩
theorem GoS.below {w W W' : World} {B M p : Nat} {l : List KV} {a : Option Addr} {c : Nat} {k : IK} {i : Int} (h : GoS w W B M p l a c k i) (hb : Below W.heap.size W W') : GoS w W' B M p l a c k i :=
  ⟨h.chg.andThen (Chg.of (R := fun _ => False) hb) (fun _ _ x => x.elim), h.ge, h.lt, h.top, h.box.kept (hb.block _ h.box.lt), h.own.below hb, h.key.kept (hb.block _ h.key.lt)⟩
theorem GoS.rf {w W : World} {B M p : Nat} {l : List KV} {a : Option Addr} {c : Nat} {k : IK} {i : Int} {o : Option Nat} (h : GoS w W B M p l a c k i) (e : i = encI o) (hf : ∀ j, o = some j → j < l.length) : Rf W B M p l o := ⟨h.ge, h.top.1, Nat.le_trans h.top.2.1 h.chg.size, ⟨a, c, by rw [← e]; exact h.box, h.own, h.top.2.2⟩, hf⟩
theorem GoS.cells {w W : World} {B M p : Nat} {l : List KV} {a : Option Addr} {c : Nat} {k : IK} {i : Int} (h : GoS w W B M p l a c k i) : W.cell? ⟨p, 0, none⟩ = some (.slice a l.length c) ∧ W.cell? ⟨p, 1, none⟩ = some (.int .i64 i) ∧ W.frozen? ⟨p, 1, none⟩ = false := ⟨h.box.cell 0, h.box.cell 1, h.box.soft 1⟩
theorem GoS.keys {w W : World} {B M p : Nat} {l : List KV} {a : Option Addr} {c : Nat} {k : IK} {i : Int} (h : GoS w W B M p l a c k i) : W.cell? ⟨w.heap.size, 0, none⟩ = some (.string k.user) ∧ W.cell? ⟨w.heap.size, 1, none⟩ = some (.int .u64 (k.seq : Int)) ∧ W.cell? ⟨w.heap.size, 2, none⟩ = some (.int .i64 k.kind) := ⟨h.key.cell 0, h.key.cell 1, h.key.cell 2⟩
theorem Rf.start {w : World} {B M p : Nat} {l : List KV} {o : Option Nat} (h : Rf w B M p l o) (k : IK) : ∃ a c, GoS w (w.alloc (.cells (KeyA k) 33)) B M p l a c k (encI o) := by
  obtain ⟨a, c, h1, h2, h3⟩ := h.here
  exact ⟨a, c, (Chg.refl _ w).alloc _, h.ge, h1.lt, ⟨h.lt, h.top, h3⟩, h1.alloc _, h2.alloc _, Box.new _ _ _⟩
abbrev keyV (k : IK) : Value := .agg #[.string k.user, .int .u64 (k.seq : Int), .int .i64 k.kind]
set_option maxRecDepth 100000 in
set_option maxHeartbeats 4000000 in
theorem rgo_1 {w : World} {B M p : Nat} {l : List KV} {o : Option Nat} (h : Rf w B M p l o) (k : IK) (hl : l.length ≤ 1000000) :
    Calls Try.prog 15 #[at_ p, .int .i64 1, keyV k] w fun e w' => e = .returned (.tuple #[]) ∧ Rf w' B M p l (goP l 1 k o) ∧ Chg (fun q => q = p) w w' := by
  have HF : Hid (∀ j, goP l 1 k o = some j → j < l.length) := fun j hj => goP_fit h.fit hj
  have HO : Hid (∀ i, o = some i → i < l.length) := h.fit
  obtain ⟨a, c, hs⟩ := h.start k
  have HS : Hid (GoS w (w.alloc (.cells (KeyA k) 33)) B M p l a c k (encI o)) := hs
  have H1 : Hid (GoS w ((w.alloc (.cells (KeyA k) 33)).setCell ⟨p, 1, none⟩ (.int .i64 (0))) B M p l a c k (0)) := hs.set (0)
  obtain ⟨x0, x1, x2⟩ := hs.cells
  obtain ⟨y0, y1, y2⟩ := H1.out.cells
  clear hs h
  unfold KeyA at x0 x1 x2 y0 y1 y2 H1
  go_enter Try.func15, Try.ntmps15
  by_cases h0 : l.length = 0
  · have hz : (l.length : Int) ≤ 0 := by omega
    have HE : Hid ((-1 : Int) = encI (goP l 1 k o)) := by
      show _ = encI (normO l 0)
      rw [normO_enc, if_neg (by omega)]
    go_wp2_with fail
    generalize (w.alloc (Obj.cells #[Value.string k.user, Value.int IntKind.u64 (k.seq : Int), Value.int IntKind.i64 k.kind] 33)).setCell ⟨p, 1, none⟩ (.int .i64 (0)) = W at H1 y0 y1 y2 ⊢
    clear x0 x1 x2 HS
    go_quiet (fail)
    go_wp2
    go_returns
    exact ⟨rfl, ((H1.out.below (Below.drewM (Below.refl _ _) _)).set (-1)).rf HE.out HF.out, ((H1.out.below (Below.drewM (Below.refl _ _) _)).set (-1)).chg⟩
  · have hz : ¬ (l.length : Int) ≤ 0 := by omega
    have HE : Hid ((0 : Int) = encI (goP l 1 k o)) := by
      show _ = encI (normO l 0)
      rw [normO_enc, if_pos (by omega)]
      rfl
    go_wp2_with fail
    generalize (w.alloc (Obj.cells #[Value.string k.user, Value.int IntKind.u64 (k.seq : Int), Value.int IntKind.i64 k.kind] 33)).setCell ⟨p, 1, none⟩ (.int .i64 (0)) = W at H1 y0 y1 y2 ⊢
    clear x0 x1 x2 HS
    go_quiet (fail)
    go_wp2
    go_returns
    exact ⟨rfl, (H1.out.below (Below.drewM (Below.refl _ _) _)).rf HE.out HF.out, (H1.out.below (Below.drewM (Below.refl _ _) _)).chg⟩
set_option maxRecDepth 100000 in
set_option maxHeartbeats 4000000 in
theorem rgo_2 {w : World} {B M p : Nat} {l : List KV} {o : Option Nat} (h : Rf w B M p l o) (k : IK) (hl : l.length ≤ 1000000) :
    Calls Try.prog 15 #[at_ p, .int .i64 2, keyV k] w fun e w' => e = .returned (.tuple #[]) ∧ Rf w' B M p l (goP l 2 k o) ∧ Chg (fun q => q = p) w w' := by
  have HF : Hid (∀ j, goP l 2 k o = some j → j < l.length) := fun j hj => goP_fit h.fit hj
  have HO : Hid (∀ i, o = some i → i < l.length) := h.fit
  obtain ⟨a, c, hs⟩ := h.start k
  have HS : Hid (GoS w (w.alloc (.cells (KeyA k) 33)) B M p l a c k (encI o)) := hs
  have H1 : Hid (GoS w ((w.alloc (.cells (KeyA k) 33)).setCell ⟨p, 1, none⟩ (.int .i64 ((l.length : Int) - 1))) B M p l a c k ((l.length : Int) - 1)) := hs.set ((l.length : Int) - 1)
  obtain ⟨x0, x1, x2⟩ := hs.cells
  obtain ⟨y0, y1, y2⟩ := H1.out.cells
  clear hs h
  unfold KeyA at x0 x1 x2 y0 y1 y2 H1
  have hw1 : IntKind.i64.wrap ((l.length : Int) - 1) = (l.length : Int) - 1 := by rw [IntKind.wrap_i64]; omega
  have hz : ¬ (l.length : Int) ≤ (l.length : Int) - 1 := by omega
  have HE : Hid ((l.length : Int) - 1 = encI (goP l 2 k o)) := by
    show _ = encI (if l.length = 0 then none else some (l.length - 1))
    by_cases h0 : l.length = 0
    · rw [if_pos h0, h0]; rfl
    · rw [if_neg h0]; show _ = ((l.length - 1 : Nat) : Int); omega
  go_enter Try.func15, Try.ntmps15
  go_wp2_with fail
  generalize (w.alloc (Obj.cells #[Value.string k.user, Value.int IntKind.u64 (k.seq : Int), Value.int IntKind.i64 k.kind] 33)).setCell ⟨p, 1, none⟩ (.int .i64 ((l.length : Int) - 1)) = W at H1 y0 y1 y2 ⊢
  clear x0 x1 x2 HS
  go_quiet (fail)
  go_wp2
  go_returns
  exact ⟨rfl, (H1.out.below (Below.drewM (Below.refl _ _) _)).rf HE.out HF.out, (H1.out.below (Below.drewM (Below.refl _ _) _)).chg⟩
set_option maxRecDepth 100000 in
set_option maxHeartbeats 4000000 in
theorem rgo_4 {w : World} {B M p : Nat} {l : List KV} {o : Option Nat} (h : Rf w B M p l o) (k : IK) (hl : l.length ≤ 1000000) :
    Calls Try.prog 15 #[at_ p, .int .i64 4, keyV k] w fun e w' => e = .returned (.tuple #[]) ∧ Rf w' B M p l (goP l 4 k o) ∧ Chg (fun q => q = p) w w' := by
  have HF : Hid (∀ j, goP l 4 k o = some j → j < l.length) := fun j hj => goP_fit h.fit hj
  have HO : Hid (∀ i, o = some i → i < l.length) := h.fit
  obtain ⟨a, c, hs⟩ := h.start k
  cases o with
  | none =>
    have HE : Hid ((-1 : Int) = encI (goP l 4 k none)) := rfl
    rw [show encI none = -1 from rfl] at hs
    have H1 : Hid (GoS w (w.alloc (.cells (KeyA k) 33)) B M p l a c k (-1)) := hs
    have HS := H1
    obtain ⟨y0, y1, y2⟩ := hs.cells
    clear hs h
    unfold KeyA at y0 y1 y2 H1
    have hz : ¬ (l.length : Int) ≤ -1 := by omega
    go_enter Try.func15, Try.ntmps15
    go_wp2_with fail
    generalize (w.alloc (Obj.cells #[Value.string k.user, Value.int IntKind.u64 (k.seq : Int), Value.int IntKind.i64 k.kind] 33)) = W at H1 y0 y1 y2 ⊢
    clear HS
    go_quiet (fail)
    go_wp2
    go_returns
    exact ⟨rfl, (H1.out.below (Below.drewM (Below.refl _ _) _)).rf HE.out HF.out, (H1.out.below (Below.drewM (Below.refl _ _) _)).chg⟩
  | some i =>
    have hil := HO.out i rfl
    rw [show encI (some i) = (i : Int) from rfl] at hs
    have hw1 : IntKind.i64.wrap ((i : Int) + 1) = (i : Int) + 1 := by rw [IntKind.wrap_i64]; omega
    have HS : Hid (GoS w (w.alloc (.cells (KeyA k) 33)) B M p l a c k (i : Int)) := hs
    have H1 : Hid (GoS w ((w.alloc (.cells (KeyA k) 33)).setCell ⟨p, 1, none⟩ (.int .i64 ((i : Int) + 1))) B M p l a c k ((i : Int) + 1)) := hs.set _
    obtain ⟨x0, x1, x2⟩ := hs.cells
    obtain ⟨y0, y1, y2⟩ := H1.out.cells
    clear hs h
    unfold KeyA at x0 x1 x2 y0 y1 y2 H1
    go_enter Try.func15, Try.ntmps15
    by_cases h0 : i + 1 < l.length
    · have hz : ¬ (l.length : Int) ≤ (i : Int) + 1 := by omega
      have HE : Hid ((i : Int) + 1 = encI (goP l 4 k (some i))) := by
        show _ = encI (normO l (i + 1))
        rw [normO_enc, if_pos h0]
        rfl
      go_wp2_with fail
      generalize (w.alloc (Obj.cells #[Value.string k.user, Value.int IntKind.u64 (k.seq : Int), Value.int IntKind.i64 k.kind] 33)).setCell ⟨p, 1, none⟩ (.int .i64 ((i : Int) + 1)) = W at H1 y0 y1 y2 ⊢
      clear x0 x1 x2 HS
      go_quiet (fail)
      go_wp2
      go_returns
      exact ⟨rfl, (H1.out.below (Below.drewM (Below.refl _ _) _)).rf HE.out HF.out, (H1.out.below (Below.drewM (Below.refl _ _) _)).chg⟩
    · have hz : (l.length : Int) ≤ (i : Int) + 1 := by omega
      have HE : Hid ((-1 : Int) = encI (goP l 4 k (some i))) := by
        show _ = encI (normO l (i + 1))
        rw [normO_enc, if_neg h0]
      go_wp2_with fail
      generalize (w.alloc (Obj.cells #[Value.string k.user, Value.int IntKind.u64 (k.seq : Int), Value.int IntKind.i64 k.kind] 33)).setCell ⟨p, 1, none⟩ (.int .i64 ((i : Int) + 1)) = W at H1 y0 y1 y2 ⊢
      clear x0 x1 x2 HS
      go_quiet (fail)
      go_wp2
      go_returns
      exact ⟨rfl, ((H1.out.below (Below.drewM (Below.refl _ _) _)).set (-1)).rf HE.out HF.out, ((H1.out.below (Below.drewM (Below.refl _ _) _)).set (-1)).chg⟩
set_option maxRecDepth 100000 in
set_option maxHeartbeats 4000000 in
theorem rgo_5 {w : World} {B M p : Nat} {l : List KV} {o : Option Nat} (h : Rf w B M p l o) (k : IK) (hl : l.length ≤ 1000000) :
    Calls Try.prog 15 #[at_ p, .int .i64 5, keyV k] w fun e w' => e = .returned (.tuple #[]) ∧ Rf w' B M p l (goP l 5 k o) ∧ Chg (fun q => q = p) w w' := by
  have HF : Hid (∀ j, goP l 5 k o = some j → j < l.length) := fun j hj => goP_fit h.fit hj
  have HO : Hid (∀ i, o = some i → i < l.length) := h.fit
  obtain ⟨a, c, hs⟩ := h.start k
  cases o with
  | none =>
    have HE : Hid ((-1 : Int) = encI (goP l 5 k none)) := rfl
    rw [show encI none = -1 from rfl] at hs
    have H1 : Hid (GoS w (w.alloc (.cells (KeyA k) 33)) B M p l a c k (-1)) := hs
    have HS := H1
    obtain ⟨y0, y1, y2⟩ := hs.cells
    clear hs h
    unfold KeyA at y0 y1 y2 H1
    have hz : ¬ (l.length : Int) ≤ -1 := by omega
    go_enter Try.func15, Try.ntmps15
    go_wp2_with fail
    generalize (w.alloc (Obj.cells #[Value.string k.user, Value.int IntKind.u64 (k.seq : Int), Value.int IntKind.i64 k.kind] 33)) = W at H1 y0 y1 y2 ⊢
    clear HS
    go_quiet (fail)
    go_wp2
    go_returns
    exact ⟨rfl, (H1.out.below (Below.drewM (Below.refl _ _) _)).rf HE.out HF.out, (H1.out.below (Below.drewM (Below.refl _ _) _)).chg⟩
  | some i =>
    have hil := HO.out i rfl
    rw [show encI (some i) = (i : Int) from rfl] at hs
    have hw1 : IntKind.i64.wrap ((i : Int) - 1) = (i : Int) - 1 := by rw [IntKind.wrap_i64]; omega
    have HS : Hid (GoS w (w.alloc (.cells (KeyA k) 33)) B M p l a c k (i : Int)) := hs
    have H1 : Hid (GoS w ((w.alloc (.cells (KeyA k) 33)).setCell ⟨p, 1, none⟩ (.int .i64 ((i : Int) - 1))) B M p l a c k ((i : Int) - 1)) := hs.set _
    obtain ⟨x0, x1, x2⟩ := hs.cells
    obtain ⟨y0, y1, y2⟩ := H1.out.cells
    clear hs h
    unfold KeyA at x0 x1 x2 y0 y1 y2 H1
    go_enter Try.func15, Try.ntmps15
    have hz : ¬ (l.length : Int) ≤ (i : Int) - 1 := by omega
    have HE : Hid ((i : Int) - 1 = encI (goP l 5 k (some i))) := by
      show _ = encI (if i = 0 then none else some (i - 1))
      by_cases h0 : i = 0
      · rw [if_pos h0, h0]; rfl
      · rw [if_neg h0]; show _ = ((i - 1 : Nat) : Int); omega
    go_wp2_with fail
    generalize (w.alloc (Obj.cells #[Value.string k.user, Value.int IntKind.u64 (k.seq : Int), Value.int IntKind.i64 k.kind] 33)).setCell ⟨p, 1, none⟩ (.int .i64 ((i : Int) - 1)) = W at H1 y0 y1 y2 ⊢
    clear x0 x1 x2 HS
    go_quiet (fail)
    go_wp2
    go_returns
    exact ⟨rfl, (H1.out.below (Below.drewM (Below.refl _ _) _)).rf HE.out HF.out, (H1.out.below (Below.drewM (Below.refl _ _) _)).chg⟩
end Go.Proofs.Ytfijibengmgegaa
