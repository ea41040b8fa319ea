/- Where an edit of a row lies; a version that was just made, in a variable. -/
import Derived.Test.YtcdfgcjecmpjhaaV14Args
import Derived.Test.YtcdfgcjecmpjhaaV14App
namespace Go.Proofs.Ytcdfgcjecmpjhaa
open Go.RowKit
set_option linter.unusedVariables false
set_option linter.unusedSimpArgs false
/-- Five cells from a place on. -/
structure E5 (W : World) (b o : Nat) (x : PE) (s : SE) : Prop where
  c0 : W.cell? ⟨b, o, none⟩ = some (.int .u64 (x.log : Int))
  c1 : W.cell? ⟨b, o + 1, none⟩ = some (.int .u64 (x.next : Int))
  c2 : W.cell? ⟨b, o + 2, none⟩ = some (.int .u64 (x.last : Int))
  c3 : W.cell? ⟨b, o + 3, none⟩ = some (.slice s.a x.dels.length s.c)
  c4 : W.cell? ⟨b, o + 4, none⟩ = some (.slice s.a' x.adds.length s.c')
theorem EsAt.at {w : World} {a : Option Addr} {n c : Nat} {l : List (PE × SE)} (h : EsAt w a n c l) {k : Nat} (hk : k < l.length) : ∃ b o : Nat, (∀ W : World, (Instr.indexAt 27 (.slice a n c) (.int .i64 (k : Int))).run Try.prog W = .ok (.pointer (some ⟨b, o, none⟩)) W) ∧ b < w.heap.size ∧ (∀ W : World, Below w.heap.size w W → E5 W b o l[k].1 l[k].2) := by
  have hs := h.size
  obtain ⟨b, off, rfl, hc⟩ := h.row.here (by omega)
  have e0 := hc (k * 5 + 0) (by omega)
  have e1 := hc (k * 5 + 1) (by omega)
  have e2 := hc (k * 5 + 2) (by omega)
  have e3 := hc (k * 5 + 3) (by omega)
  have e4 := hc (k * 5 + 4) (by omega)
  rw [flat_get ec_len l k _ hk (by omega)] at e0 e1 e2 e3 e4
  simp only [Nat.add_zero, ← Nat.add_assoc] at e0 e1 e2 e3 e4
  have hlt : b < w.heap.size := World.block_lt_of_cell? w _ e0
  refine ⟨b, off + k * 5, fun W => ?_, hlt, fun W hW => ⟨by rw [hW.cell hlt]; exact e0, by rw [hW.cell hlt]; exact e1, by rw [hW.cell hlt]; exact e2, by rw [hW.cell hlt]; exact e3, by rw [hW.cell hlt]; exact e4⟩⟩
  have h1 : (0 : Int) ≤ (k : Int) ∧ (k : Int) < (n : Int) := by omega
  have hsz : (sizeOf (Try.prog.elem 27)).run Try.prog W = .ok 5 W := by kernel_rfl
  rw [run_indexAt_slice (P := Try.prog) (h := (by kernel_rfl : Try.prog.underlying 27 = some (.slice (Try.prog.elem 27)))), if_pos h1, hsz]
  simp [Result.andThen, Addr.add_lit]
theorem EsAt.below {w w' : World} {a : Option Addr} {n c : Nat} {l : List (PE × SE)} (h : EsAt w a n c l) (hb : Below w.heap.size w w') : EsAt w' a n c l :=
  ⟨h.size, h.row.below (by omega) hb, fun e he => ⟨(h.each e he).1.below hb, (h.each e he).2⟩⟩
/-- The first ones of a row. -/
theorem EsAt.take {w : World} {a : Option Addr} {n c : Nat} {l : List (PE × SE)} (h : EsAt w a n c l) {m : Nat} (hm : m ≤ n) : EsAt w a m c (l.take m) := by
  have hs := h.size
  refine ⟨by rw [List.length_take]; omega, ⟨?_, by have := h.row.le; omega, h.row.max, h.row.bare, fun hp => ?_⟩, fun e he => h.each e (List.mem_of_mem_take he)⟩
  · rw [flat_len ec_len, List.length_take]
    omega
  · obtain ⟨b, off, e, hc⟩ := h.row.here (by omega)
    refine ⟨b, off, e, fun j hj => ?_⟩
    rw [hc j (by omega), show l.flatMap ec = (l.take m).flatMap ec ++ (l.drop m).flatMap ec by rw [← List.flatMap_append, List.take_append_drop], List.getElem?_append_left (by rw [flat_len ec_len, List.length_take]; omega)]
theorem FlAt.take {w : World} {a : Option Addr} {n c : Nat} {l : List PF} (h : FlAt w a n c l) {m : Nat} (hm : m ≤ n) : FlAt w a m c (l.take m) := by
  have hs := h.size
  refine ⟨by rw [List.length_take]; omega, ⟨?_, by have := h.row.le; omega, h.row.max, h.row.bare, fun hp => ?_⟩⟩
  · rw [flat_len fc_len, List.length_take]
    omega
  · obtain ⟨b, off, e, hc⟩ := h.row.here (by omega)
    refine ⟨b, off, e, fun j hj => ?_⟩
    rw [hc j (by omega), show l.flatMap fc = (l.take m).flatMap fc ++ (l.drop m).flatMap fc by rw [← List.flatMap_append, List.take_append_drop], List.getElem?_append_left (by rw [flat_len fc_len, List.length_take]; omega)]
/-- A version that was just made lies in a variable; all of it is new since wr. -/
structure Ow (wr : World) (p : Nat) (u : PV) (t : SV) (V : World) : Prop where
  below : Below wr.heap.size wr V
  own : OwnV V wr.heap.size u t
  box : Box V p TVn (vA u t)
  ge : wr.heap.size ≤ p
theorem Ow.new {wr V : World} {B : Nat} {u : PV} {t : SV} (hb : Below wr.heap.size wr V) (ho : OwnV V B u t) (hB : wr.heap.size ≤ B) : Ow wr V.heap.size u t (V.alloc (.cells (vA u t) TVn)) :=
  ⟨hb.alloc hb.size _, fun n hn => ((ho n hn).below ((Below.refl _ _).alloc (Nat.le_refl _) _)).less hB, Box.new _ _ _, hb.size⟩
theorem Ow.set {wr V : World} {B p : Nat} {u : PV} {t : SV} (hb : Below wr.heap.size wr V) (ho : OwnV V B u t) (hp : p < B) (hw : wr.heap.size ≤ p) (hx : Box V p TVn #[.slice none 0 0, .slice none 0 0, .slice none 0 0, .slice none 0 0]) : Ow wr p u t ((((V.setCell ⟨p, 0, none⟩ (.slice (t.a 0) (u 0).length (t.c 0))).setCell ⟨p, 1, none⟩ (.slice (t.a 1) (u 1).length (t.c 1))).setCell ⟨p, 2, none⟩ (.slice (t.a 2) (u 2).length (t.c 2))).setCell ⟨p, 3, none⟩ (.slice (t.a 3) (u 3).length (t.c 3))) := by
  have hc : Chg (fun k => k = p) V ((((V.setCell ⟨p, 0, none⟩ (.slice (t.a 0) (u 0).length (t.c 0))).setCell ⟨p, 1, none⟩ (.slice (t.a 1) (u 1).length (t.c 1))).setCell ⟨p, 2, none⟩ (.slice (t.a 2) (u 2).length (t.c 2))).setCell ⟨p, 3, none⟩ (.slice (t.a 3) (u 3).length (t.c 3))) := ((((Chg.refl (fun k => k = p) V).set (fun _ => rfl) _ _).set (fun _ => rfl) _ _).set (fun _ => rfl) _ _).set (fun _ => rfl) _ _
  refine ⟨hb.trans (hc.below (fun k hk => by omega) hb.size), fun n hn => ?_, ((((hx.set 0 _).set 1 _).set 2 _).set 3 _).eq rfl, hw⟩
  have h1 := ho n hn
  exact (h1.kept (fun g hg => hc.block _ (tag_lt (h1.tag hg)) (fun e => by have := h1.ge hg; omega))).less (by omega)
theorem Ow.later {wr V V' : World} {p : Nat} {u : PV} {t : SV} (h : Ow wr p u t V) (hb : Below V.heap.size V V') : Ow wr p u t V' :=
  ⟨h.below.trans (hb.mono h.below.size), h.own.below hb, h.box.kept (hb.block _ h.box.lt), h.ge⟩
end Go.Proofs.Ytcdfgcjecmpjhaa
