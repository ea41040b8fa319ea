/- A table in memory; the contracts of New, Size and Freeze. -/
import Derived.Test.YtnggajconglfcaaDoorM8Put0
import Derived.Test.YtnggajconglfcaaDoorM8Map
import Derived.WalkArith
namespace Go.Proofs.YtnggajconglfcaaDoor
open Go.RowKit
set_option linter.unusedVariables false
set_option linter.unusedSimpArgs false
structure TG where
  ls : List LG
  la : Option Addr
  lc : Nat
  m : Option Nat
def tbArr (G : TG) (T : PT) : Array Value := #[.slice G.la G.ls.length G.lc, .map G.m, .int .i64 (T.size : Int), .bool T.frozen]
structure TbAt (w : World) (p : Nat) (T : PT) (G : TG) : Prop where
  inv : T.Inv
  box : Box w p TT (tbArr G T)
  sh : ShAt w G.ls G.la G.lc
  map : MOpt w G.m T.kvs
  mapart : ∀ b, G.m = some b → ¬ ShFoot G.ls G.la b
  texts : texts G.ls = T.kvs.map (·.1.txt)
def TFoot (p : Nat) (G : TG) (k : Nat) : Prop := k = p ∨ ShFoot G.ls G.la k ∨ G.m = some k
section
variable {w w' : World} {p : Nat} {T : PT} {G : TG}
theorem TbAt.kept (h : TbAt w p T G) (hk : ∀ k, TFoot p G k → w'.heap[k]? = w.heap[k]?) : TbAt w' p T G :=
  ⟨h.inv, h.box.kept (hk p (.inl rfl)), h.sh.kept fun k hf => hk k (.inr (.inl hf)), h.map.kept fun b e => hk b (.inr (.inr e)), h.mapart, h.texts⟩
theorem MOpt.lt {m : Option Nat} {l : List KV} (h : MOpt w m l) {b : Nat} (e : m = some b) : b < w.heap.size := by
  subst e
  exact tag_lt (MpAt.tag h)
theorem TbAt.lt (h : TbAt w p T G) {k : Nat} (hk : TFoot p G k) : k < w.heap.size := by
  rcases hk with rfl | hk | hk
  · exact h.box.lt
  · exact h.sh.lt hk
  · exact h.map.lt hk
theorem TbAt.below (h : TbAt w p T G) (hb : Below w.heap.size w w') : TbAt w' p T G := h.kept fun k hk => hb.block k (h.lt hk)
theorem TbAt.chg {R : Nat → Prop} (h : TbAt w p T G) (hc : Chg R w w') (hR : ∀ k, R k → ¬ TFoot p G k) : TbAt w' p T G := h.kept fun k hk => hc.block k (h.lt hk) fun hr => hR k hr hk
theorem flat_len {w : World} {la : Option Addr} {lc : Nat} {ls : List LG} (h : ∀ l ∈ ls, LiOk w l) : ls.length ≤ (Go.Proofs.YtnggajconglfcaaDoor.texts ls).length := by
  induction ls with
  | nil => exact Nat.le_refl _
  | cons x r ih =>
    have h1 := ih fun l hl => h l (List.mem_cons_of_mem _ hl)
    have h2 : 0 < x.t.length := List.length_pos_iff.2 (h x (by simp)).t_ne
    unfold Go.Proofs.YtnggajconglfcaaDoor.texts at h1 ⊢
    rw [List.flatMap_cons, List.length_append, List.length_cons]
    omega
theorem TbAt.few (h : TbAt w p T G) : G.ls.length ≤ T.kvs.length := by
  have := flat_len (la := G.la) (lc := G.lc) h.sh.each
  rw [h.texts, List.length_map] at this
  exact this
theorem lsize_le {l : List KV} (h : ∀ e ∈ l, EOk e) : lsize l ≤ l.length * 1080 := by
  induction l with
  | nil => simp [lsize]
  | cons x r ih =>
    have h1 := ih fun e he => h e (List.mem_cons_of_mem _ he)
    have h2 := h x (by simp)
    have h3 := (IK.ok_of h2.key).2
    have h4 := h2.val
    have e : lsize (x :: r) = esize x + lsize r := by simp [lsize]
    have e2 : esize x = x.1.user.size + x.2.size + 16 := rfl
    rw [e, e2, List.length_cons]
    omega
theorem IK.wf_of {k : IK} (h : k.err = 0) : k.Wf := by
  obtain ⟨⟨h1, h2⟩, h3⟩ := IK.ok_of h
  exact ⟨by unfold maxLen; omega, WalkArith.wf_u64 (by omega), WalkArith.wf_i64 (by omega)⟩
set_option maxRecDepth 100000 in
theorem memNew_at (w : World) : Calls Tryd.prog 10 #[] w fun e w' => ∃ p G, e = .returned (at_ p) ∧ TbAt w' p PT.new G ∧ Below w.heap.size w w' ∧ ∀ k, TFoot p G k → w.heap.size ≤ k := by
  go_enter Tryd.func10, Tryd.ntmps10
  go_wp2
  go_ret
  refine ⟨w.heap.size, ⟨[], none, 0, none⟩, ret1 rfl, ⟨PT.new_inv, Box.new w TT _, ⟨World.ownsRow_nil _ _ _ 1, fun l hl => absurd hl (by simp), List.Pairwise.nil, List.Pairwise.nil⟩, rfl, fun b e => absurd e (by simp), rfl⟩, (Below.refl _ _).alloc (Nat.le_refl _) _, fun k hk => ?_⟩
  rcases hk with rfl | (hk | ⟨l, hl, _⟩) | hk
  · exact Nat.le_refl _
  · cases hk
  · simp at hl
  · cases hk
set_option maxRecDepth 100000 in
theorem size_at (h : TbAt w p T G) : Calls Tryd.prog 16 #[at_ p] w fun e w' => e = .returned (.int .i64 (T.size : Int)) ∧ w' = w := by
  have c2 : w.cell? ⟨p, 2, none⟩ = some (.int .i64 (T.size : Int)) := h.box.cell 2
  clear h
  go_enter Tryd.func16, Tryd.ntmps16
  go_wp2
  go_ret
  exact ⟨ret1 rfl, rfl⟩
set_option maxRecDepth 100000 in
theorem freeze_at (h : TbAt w p T G) : Calls Tryd.prog 15 #[at_ p] w fun e w' => e = .returned (.tuple #[]) ∧ TbAt w' p { T with frozen := true } G ∧ Chg (TFoot p G) w w' := by
  have c3 : w.cell? ⟨p, 3, none⟩ = some (.bool T.frozen) := h.box.cell 3
  have f3 := h.box.soft 3
  have HS : Hid (TbAt w p T G) := h
  clear h
  go_enter Tryd.func15, Tryd.ntmps15
  go_wp2
  go_returns
  have h := HS.out
  have hnp := h.sh.not_p h.box
  have hmp : ∀ b, G.m = some b → b ≠ p := fun b e hc => by
    have ht : tag w b = some 1000 := by
      have := h.map
      rw [e] at this
      exact MpAt.tag this
    rw [hc, h.box.tag] at ht
    exact absurd (Option.some.inj ht) (by decide)
  refine ⟨rfl, ⟨⟨h.inv.ok, h.inv.sorted⟩, ?_, h.sh.kept fun k hk => Below.heap_setCell _ _ _ _ (fun e => hnp (by have e' : k = p := e; rw [← e']; exact hk)), h.map.kept fun b e => Below.heap_setCell _ _ _ _ (hmp b e), h.mapart, h.texts⟩, (Chg.refl _ _).set (fun _ => .inl rfl) 3 _⟩
  exact (h.box.set 3 _).eq rfl
end
/-- A table that a call made itself. -/
structure Own8 (w0 w : World) (p : Nat) (T : PT) (G : TG) : Prop where
  at' : TbAt w p T G
  base : Below w0.heap.size w0 w
  mine : ∀ k, TFoot p G k → w0.heap.size ≤ k
section
variable {w0 w w' : World} {p : Nat} {T T' : PT} {G G' : TG}
theorem Own8.below (h : Own8 w0 w p T G) (hb : Below w.heap.size w w') : Own8 w0 w' p T G := ⟨h.at'.below hb, h.base.trans (hb.mono h.base.size), h.mine⟩
theorem Own8.chg (h : Own8 w0 w p T G) (hs : TbAt w' p T' G') (hc : Chg (TFoot p G) w w') (hf : ∀ k, TFoot p G' k → TFoot p G k ∨ w.heap.size ≤ k) : Own8 w0 w' p T' G' :=
  ⟨hs, h.base.trans (hc.below h.mine h.base.size), fun k hk => by
    rcases hf k hk with h1 | h1
    · exact h.mine k h1
    · exact Nat.le_trans h.base.size h1⟩
theorem Own8.made (h : TbAt w' p T G) (hb : Below w.heap.size w w') (hm : ∀ k, TFoot p G k → w.heap.size ≤ k) (h0 : Below w0.heap.size w0 w) : Own8 w0 w' p T G := ⟨h, h0.trans (hb.mono h0.size), fun k hk => Nat.le_trans h0.size (hm k hk)⟩
end
end Go.Proofs.YtnggajconglfcaaDoor
