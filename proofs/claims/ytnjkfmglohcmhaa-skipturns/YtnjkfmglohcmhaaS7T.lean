/- A list, what is done, and what each level was: in memory. -/
import Derived.Test.YtnjkfmglohcmhaaS7D
import Derived.Test.YtnjkfmglohcmhaaS7Idx2
import Derived.Test.YtnjkfmglohcmhaaS7Help2
import Derived.Deep.OwnRows
namespace Go.Proofs.Ytnjkfmglohcmhaa
open Go.RowKit
set_option linter.unusedVariables false
def boolArr (l : List Bool) : Array Value := (l.map Value.bool).toArray
theorem boolArr_at {l : List Bool} {i : Nat} (hi : i < l.length) : (boolArr l)[i]? = some (.bool (l.getD i false)) := by simp [boolArr, List.getD, hi]
theorem boolArr_set {l : List Bool} {i : Nat} (b : Bool) : (boolArr l).setIfInBounds i (.bool b) = boolArr (l.set i b) := by simp [boolArr, List.map_set]
def wasArr (v : Nat → Value) : Array Value := #[v 0, v 1, v 2, v 3, v 4, v 5, v 6, v 7]
theorem wasArr_at {v : Nat → Value} {l : Nat} (hl : l < 8) : (wasArr v)[l]? = some (v l) := by
  match l, hl with
  | 0, _ | 1, _ | 2, _ | 3, _ | 4, _ | 5, _ | 6, _ | 7, _ => rfl
theorem wasArr_set {v : Nat → Value} {l : Nat} (hl : l < 8) (x : Value) : (wasArr v).setIfInBounds l x = wasArr (updV v l x) := by
  match l, hl with
  | 0, _ | 1, _ | 2, _ | 3, _ | 4, _ | 5, _ | 6, _ | 7, _ => simp [wasArr, updV]
theorem wasArr_congr {v v' : Nat → Value} (h : ∀ l, l < 8 → v l = v' l) : wasArr v = wasArr v' := by
  unfold wasArr
  rw [h 0 (by decide), h 1 (by decide), h 2 (by decide), h 3 (by decide), h 4 (by decide), h 5 (by decide), h 6 (by decide), h 7 (by decide)]
structure T7 (w0 w : World) (p : Nat) (S : PS) (g : SG) (ka : Option Addr) (kc : Nat) (ha : Option Addr) (hc db wb : Nat) (dl : List Bool) (va : Nat → Option Addr) (vc : Nat → Nat) (L : Nat → List ByteArray) : Prop where
  l7 : L7 w0 w p S g ka kc ha hc
  dn : Box w db 4 (boolArr dl)
  wz : Box w wb 29 (wasArr fun l => .slice (va l) (L l).length (vc l))
  rows : ∀ l, l < 8 → OwnS w w0.heap.size (va l) (L l).length (vc l) (L l)
  dm : w0.heap.size ≤ db
  wm : w0.heap.size ≤ wb
section
variable {w0 w w' : World} {p : Nat} {S S' : PS} {g : SG} {ka ha : Option Addr} {kc hc db wb : Nat} {dl : List Bool} {va : Nat → Option Addr} {vc : Nat → Nat} {L : Nat → List ByteArray}
theorem T7.below (h : T7 w0 w p S g ka kc ha hc db wb dl va vc L) (hb : Below w.heap.size w w') : T7 w0 w' p S g ka kc ha hc db wb dl va vc L :=
  ⟨h.l7.below hb, h.dn.kept (hb.block _ h.dn.lt), h.wz.kept (hb.block _ h.wz.lt), fun l hl => (h.rows l hl).below hb, h.dm, h.wm⟩
theorem Box.offFoot {q : Nat} {t : TypeId} {arr : Array Value} (h : Box w q t arr) (hs : SkAt w p S g) (ht : ∀ u, skTag u → u ≠ t) : ¬ Foot p g q := fun hf => by
  obtain ⟨u, h1, h2⟩ := hs.tags hf
  exact tag_ne h1 h.tag (ht u h2) rfl
theorem T7.step (h : T7 w0 w p S g ka kc ha hc db wb dl va vc L) (hs : SkAt w' p S' g) (hc' : Chg (Foot p g) w w') (hg : Goes S S') : T7 w0 w' p S' g ka kc ha hc db wb dl va vc L :=
  ⟨h.l7.step hs hc' hg, h.dn.kept (hc'.block _ h.dn.lt (h.dn.offFoot h.l7.own.at' fun u hu => (skTag_str hu).2.2.1)), h.wz.kept (hc'.block _ h.wz.lt (h.wz.offFoot h.l7.own.at' fun u hu => (skTag_str hu).2.2.2)), fun l hl => (h.rows l hl).chg hc' (fun k hk => (h.rows l hl).off h.l7.own.at' hk), h.dm, h.wm⟩
theorem L7.set (h : L7 w0 w p S g ka kc ha hc) {q : Nat} {t : TypeId} {arr : Array Value} (hb : Box w q t arr) (hq : w0.heap.size ≤ q) (h1 : ∀ u, skTag u → u ≠ t) (h2 : (9 : Nat) ≠ t) (h3 : (3 : Nat) ≠ t) (j : Nat) (v : Value) : L7 w0 (w.setCell ⟨q, j, none⟩ v) p S g ka kc ha hc := by
  have keep : ∀ k, k ≠ q → (w.setCell ⟨q, j, none⟩ v).heap[k]? = w.heap[k]? := fun k hk => Below.heap_setCell _ _ _ _ hk
  exact ⟨⟨h.own.at'.keep fun k hk => keep k (fun e => hb.offFoot h.own.at' h1 (e ▸ hk)), h.own.base.setCell hq v, h.own.mine⟩, h.keys.kept fun k hk => keep k (tag_ne (h.keys.tag hk) hb.tag h2), h.hs.kept fun k hk => keep k (tag_ne (h.hs.tag hk) hb.tag h3)⟩
theorem T7.setDone (h : T7 w0 w p S g ka kc ha hc db wb dl va vc L) (i : Nat) (b : Bool) : T7 w0 (w.setCell ⟨db, i, none⟩ (.bool b)) p S g ka kc ha hc db wb (dl.set i b) va vc L :=
  ⟨h.l7.set h.dn h.dm (fun u hu => (skTag_str hu).2.2.1) (by decide) (by decide) i _, (h.dn.set i (.bool b)).eq (boolArr_set b), h.wz.other (tag_ne h.wz.tag h.dn.tag (by decide)) _ _, fun l hl => (h.rows l hl).kept fun k hk => Below.heap_setCell _ _ _ _ (tag_ne ((h.rows l hl).tag hk) h.dn.tag (by decide)), h.dm, h.wm⟩
def updA (f : Nat → Option Addr) (l : Nat) (x : Option Addr) : Nat → Option Addr := fun k => if k = l then x else f k
def updL (f : Nat → List ByteArray) (l : Nat) (x : List ByteArray) : Nat → List ByteArray := fun k => if k = l then x else f k
theorem T7.setWas (h : T7 w0 w p S g ka kc ha hc db wb dl va vc L) {i : Nat} (hi : i < 8) {a : Option Addr} {c : Nat} {l : List ByteArray} (ho : OwnS w w0.heap.size a l.length c l) : T7 w0 (w.setCell ⟨wb, i, none⟩ (.slice a l.length c)) p S g ka kc ha hc db wb dl (updA va i a) (upd vc i c) (updL L i l) := by
  have keep : ∀ k, k ≠ wb → (w.setCell ⟨wb, i, none⟩ (.slice a l.length c)).heap[k]? = w.heap[k]? := fun k hk => Below.heap_setCell _ _ _ _ hk
  refine ⟨h.l7.set h.wz h.wm (fun u hu => (skTag_str hu).2.2.2) (by decide) (by decide) i _, h.dn.other (tag_ne h.dn.tag h.wz.tag (by decide)) _ _, ?_, fun k hk => ?_, h.dm, h.wm⟩
  · refine ((h.wz.set i _).eq (wasArr_set hi _)).eq (wasArr_congr fun k hk => ?_)
    unfold updV updA upd updL
    split <;> rfl
  · unfold updA upd updL
    split
    · exact ho.kept fun k hk => keep k (tag_ne (ho.tag hk) h.wz.tag (by decide))
    · exact (h.rows k hk).kept fun x hx => keep x (tag_ne ((h.rows k hk).tag hx) h.wz.tag (by decide))
end
theorem infoBool : (Try.prog.info? 4).map (fun i => (i.zero, i.size, i.bytes)) = some (some (.bool false), 1, 1) := by kernel_rfl
theorem infoStrs : (Try.prog.info? 29).map (fun i => (i.zero, i.size, i.bytes)) = some (some (.slice none 0 0), 1, 24) := by kernel_rfl
theorem made_bools (n : Nat) (hn : n ≤ 1000) (w : World) : (Instr.makeSlice 32 (.int .i64 (n : Int)) (.int .i64 (n : Int))).run Try.prog w = .ok (.slice (some ⟨w.heap.size, 0, none⟩) n n) (w.alloc (.cells (boolArr (List.replicate n false)) 4)) := by
  rw [run_make_row' (P := Try.prog) 32 4 (.bool false) 1 Try.underlying32 infoBool rfl .i64 .i64 n (by omega) (by omega) w]
  have e : madeCells #[.bool false] n = boolArr (List.replicate n false) := by
    apply Array.ext_getElem?
    intro i
    by_cases hi : i < n
    · simp [madeCells, boolArr, hi, Nat.mod_one]
    · simp [madeCells, boolArr, hi]
  rw [e]
theorem made_rows (w : World) : (Instr.makeSlice 33 (.int .i64 8) (.int .i64 8)).run Try.prog w = .ok (.slice (some ⟨w.heap.size, 0, none⟩) 8 8) (w.alloc (.cells (wasArr fun _ => .slice none 0 0) 29)) := by
  have := run_make_row' (P := Try.prog) 33 29 (.slice none 0 0) 24 Try.underlying33 infoStrs rfl .i64 .i64 8 (by omega) (by omega) w
  have e : madeCells #[.slice none 0 0] 8 = wasArr (fun _ => .slice none 0 0) := by
    apply Array.ext_getElem?
    intro i
    by_cases hi : i < 8
    · rw [wasArr_at hi]
      simp [madeCells, hi, Nat.mod_one]
    · rw [Array.getElem?_eq_none (by simp [madeCells]; omega), Array.getElem?_eq_none (by simp [wasArr]; omega)]
  rw [e] at this
  exact this
end Go.Proofs.Ytnjkfmglohcmhaa
