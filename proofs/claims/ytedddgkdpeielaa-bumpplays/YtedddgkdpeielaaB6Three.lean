/- An arena and three rows of ints beside it; a number is put behind a row. -/
import Derived.Test.YtedddgkdpeielaaB6Ar
import Derived.Test.YtedddgkdpeielaaB6Fn
import Derived.Deep.AppendLies
namespace Go.Proofs.Ytedddgkdpeielaa
open Go.RowKit
theorem OwnN.nil (w : World) (B : Nat) : OwnN w B none 0 0 [] := ⟨rfl, World.ownsRow_nil _ _ _ 1, by simp⟩
theorem OwnN.tag {w : World} {B : Nat} {a : Option Addr} {n c : Nat} {l : List Int} (h : OwnN w B a n c l) {k : Nat} (hk : blkOf a = some k) : tag w k = some 3 := row_tag h.row (by rw [own_blk]; exact hk)
theorem OwnN.ge {w : World} {B : Nat} {a : Option Addr} {n c : Nat} {l : List Int} (h : OwnN w B a n c l) {k : Nat} (hk : blkOf a = some k) : B ≤ k := (h.row.lt k (by rw [own_blk]; exact hk)).1
theorem OwnN.kept {w w' : World} {B : Nat} {a : Option Addr} {n c : Nat} {l : List Int} (h : OwnN w B a n c l) (hk : ∀ k, blkOf a = some k → w'.heap[k]? = w.heap[k]?) : OwnN w' B a n c l := ⟨h.size, row_same h.row (fun b e => hk b (by rw [← own_blk a n c]; exact e)), h.wf⟩
theorem OwnN.chg {R : Nat → Prop} {w w' : World} {B : Nat} {a : Option Addr} {n c : Nat} {l : List Int} (h : OwnN w B a n c l) (hc : Chg R w w') (hR : ∀ k, blkOf a = some k → ¬ R k) : OwnN w' B a n c l := h.kept fun k hk => hc.block k (tag_lt (h.tag hk)) (hR k hk)
theorem OwnN.alloc {w : World} {B : Nat} {a : Option Addr} {n c : Nat} {l : List Int} (h : OwnN w B a n c l) (o : Obj) : OwnN (w.alloc o) B a n c l := ⟨h.size, h.row.alloc o, h.wf⟩
/-- A number is put behind a row. -/
theorem wpList_push (W : World) {ops : Array Oper} {rest : List Oper} {o : Oper} {a : Act} {Q : Exit → Act → World → Prop} (hgd : o.guard = none) (s x : Operand)
    (ho : o.op = .call { callee := .builtin .append, args := #[s, x], argTypes := #[36, 36] })
    (B : Nat) (a1 : Option Addr) (n1 c1 : Nat) (l : List Int) (hs : a.eval s = .slice a1 n1 c1) (hown : OwnN W B a1 n1 c1 l) (v : Int) (hv : in64 v)
    (hx : a.eval x = .slice (some ⟨W.heap.size, 0, none⟩) 1 1) (hn : n1 ≤ 1000000) (hB : B ≤ W.heap.size)
    (h : ∀ g c' w', OwnN w' B (some ⟨g, 0, none⟩) (n1 + 1) c' (l ++ [v]) → (W.alloc (.cells #[.int .i64 v] 3)).grownBy w' (blkOf a1) → (blkOf a1 = some g ∨ W.heap.size < g) → wpList Try.prog ops Q rest (a.put o.dst (.slice (some ⟨g, 0, none⟩) (n1 + 1) c')) w') :
    wpList Try.prog ops Q (o :: rest) a (W.alloc (.cells #[.int .i64 v] 3)) := by
  obtain ⟨i, hi, hz0, hz1, hz2⟩ := info_parts infoI64
  refine wpList_append_lies _ hgd s x 36 ho B 3 i _ 1 8 Try.underlying36 hi hz0 hz1 hz2 rfl (by decide) _ n1 _ hs (hown.alloc _).row ⟨W.heap.size, 0, none⟩ 1 1 [.int .i64 v] hx rfl (World.news_of_block (cs := #[.int .i64 v]) (Box.new W _ _)) (by intro u hu; rw [List.mem_singleton.1 hu]; rfl) (by omega) (by unfold maxLen; omega) (by omega) (by simp; omega) (W.heap.size + 1) (by simp) ?_
  intro g c' w' hr hg hl _
  rw [own_blk] at hg hl
  refine h g c' w' ⟨by simp; exact hown.size, by simpa [cellsN] using hr, fun n hn => ?_⟩ hg (hl.imp id (fun e => by omega))
  rcases List.mem_append.1 hn with hn | hn
  · exact hown.wf n hn
  · rw [List.mem_singleton.1 hn]
    exact hv
def Off (a b : Option Addr) : Prop := ∀ k, blkOf a = some k → blkOf b ≠ some k
theorem Off.symm {a b : Option Addr} (h : Off a b) : Off b a := fun k hb ha => h k ha hb
structure Three (w0 w : World) (p : Nat) (A : PA) (x : Option Addr) (nx cx : Nat) (X : List Int) (y : Option Addr) (ny cy : Nat) (Y : List Int) (z : Option Addr) (nz cz : Nat) (Z : List Int) : Prop where
  ar : ArAt w p A
  ox : OwnN w w0.heap.size x nx cx X
  oy : OwnN w w0.heap.size y ny cy Y
  oz : OwnN w w0.heap.size z nz cz Z
  xy : Off x y
  xz : Off x z
  yz : Off y z
  hp : w0.heap.size ≤ p
  base : Below w0.heap.size w0 w
section
variable {w0 w w' : World} {p : Nat} {A A' : PA} {x y z : Option Addr} {nx cx ny cy nz cz : Nat} {X Y Z : List Int}
theorem OwnN.offAr {B : Nat} {a : Option Addr} {n c : Nat} {l : List Int} (h : OwnN w B a n c l) (ha : ArAt w p A) {k : Nat} (hk : blkOf a = some k) : k ≠ p := tag_ne (h.tag hk) ha.box.tag (by decide)
theorem Three.turn (h : Three w0 w p A x nx cx X y ny cy Y z nz cz Z) (hc : Chg (On p) w w') (ha : ArAt w' p A') : Three w0 w' p A' x nx cx X y ny cy Y z nz cz Z :=
  ⟨ha, h.ox.chg hc (fun _ hk => h.ox.offAr h.ar hk), h.oy.chg hc (fun _ hk => h.oy.offAr h.ar hk), h.oz.chg hc (fun _ hk => h.oz.offAr h.ar hk), h.xy, h.xz, h.yz, h.hp, h.base.trans (hc.below (fun k hk => by rw [hk]; exact h.hp) h.base.size)⟩
/-- One row has grown. -/
theorem grown_keeps {v : Int} {a b : Option Addr} {n c : Nat} {l : List Int} {B g : Nat} (hb : OwnN w B b n c l) (hab : Off a b) (hg : (w.alloc (.cells #[.int .i64 v] 3)).grownBy w' (blkOf a)) (hl : blkOf a = some g ∨ w.heap.size < g) : OwnN w' B b n c l ∧ Off (some ⟨g, 0, none⟩) b := by
  have hb2 := hb.alloc (.cells #[.int .i64 v] 3)
  refine ⟨hb2.kept fun k hk => hg.block k (tag_lt (hb2.tag hk)) (fun e => hab k e.symm hk), fun k hk => ?_⟩
  obtain rfl : g = k := by simpa [blkOf] using hk
  rcases hl with e | e
  · exact hab _ e
  · intro e2
    have := tag_lt (hb.tag e2)
    omega
theorem grown_base {v : Int} {a : Option Addr} {n c : Nat} {l : List Int} (h : Below w0.heap.size w0 w) (ha : OwnN w w0.heap.size a n c l) (hg : (w.alloc (.cells #[.int .i64 v] 3)).grownBy w' (blkOf a)) : Below w0.heap.size w0 w' :=
  (h.alloc h.size _).grown hg (by simp; have := h.size; omega) (fun k e => ha.ge e)
theorem grown_ar {v : Int} {B : Nat} {a : Option Addr} {n c : Nat} {l : List Int} (h : ArAt w p A) (ha : OwnN w B a n c l) (hg : (w.alloc (.cells #[.int .i64 v] 3)).grownBy w' (blkOf a)) : ArAt w' p A :=
  (h.alloc _).kept (hg.block p (h.alloc _).lt (fun e => ha.offAr h e.symm rfl))
theorem Three.pushX (h : Three w0 w p A x nx cx X y ny cy Y z nz cz Z) {v : Int} {g c' n' : Nat} {X' : List Int} (hr : OwnN w' w0.heap.size (some ⟨g, 0, none⟩) n' c' X') (hg : (w.alloc (.cells #[.int .i64 v] 3)).grownBy w' (blkOf x)) (hl : blkOf x = some g ∨ w.heap.size < g) : Three w0 w' p A (some ⟨g, 0, none⟩) n' c' X' y ny cy Y z nz cz Z := by
  obtain ⟨y1, y2⟩ := grown_keeps h.oy h.xy hg hl
  obtain ⟨z1, z2⟩ := grown_keeps h.oz h.xz hg hl
  exact ⟨grown_ar h.ar h.ox hg, hr, y1, z1, y2, z2, h.yz, h.hp, grown_base h.base h.ox hg⟩
theorem Three.pushY (h : Three w0 w p A x nx cx X y ny cy Y z nz cz Z) {v : Int} {g c' n' : Nat} {Y' : List Int} (hr : OwnN w' w0.heap.size (some ⟨g, 0, none⟩) n' c' Y') (hg : (w.alloc (.cells #[.int .i64 v] 3)).grownBy w' (blkOf y)) (hl : blkOf y = some g ∨ w.heap.size < g) : Three w0 w' p A x nx cx X (some ⟨g, 0, none⟩) n' c' Y' z nz cz Z := by
  obtain ⟨x1, x2⟩ := grown_keeps h.ox h.xy.symm hg hl
  obtain ⟨z1, z2⟩ := grown_keeps h.oz h.yz hg hl
  exact ⟨grown_ar h.ar h.oy hg, x1, hr, z1, x2.symm, h.xz, z2, h.hp, grown_base h.base h.oy hg⟩
theorem Three.pushZ (h : Three w0 w p A x nx cx X y ny cy Y z nz cz Z) {v : Int} {g c' n' : Nat} {Z' : List Int} (hr : OwnN w' w0.heap.size (some ⟨g, 0, none⟩) n' c' Z') (hg : (w.alloc (.cells #[.int .i64 v] 3)).grownBy w' (blkOf z)) (hl : blkOf z = some g ∨ w.heap.size < g) : Three w0 w' p A x nx cx X y ny cy Y (some ⟨g, 0, none⟩) n' c' Z' := by
  obtain ⟨x1, x2⟩ := grown_keeps h.ox h.xz.symm hg hl
  obtain ⟨y1, y2⟩ := grown_keeps h.oy h.yz.symm hg hl
  exact ⟨grown_ar h.ar h.oz hg, x1, y1, hr, h.xy, x2.symm, y2.symm, h.hp, grown_base h.base h.oz hg⟩
/-- A number of a row. -/
theorem OwnN.at {B : Nat} {a : Option Addr} {n c : Nat} {l : List Int} (h : OwnN w B a n c l) {k : Nat} (hk : k < n) : ∃ g, a = some ⟨g, 0, none⟩ ∧ w.cell? ⟨g, k, none⟩ = some (.int .i64 (l.getD k 0)) := by
  obtain ⟨g, rfl⟩ := (row_addr h.row).2.2.2 (by omega)
  refine ⟨g, rfl, ?_⟩
  have hs := h.size
  rw [h.row.cellAt k (by omega), cellsN_get l k (by omega)]
end
end Go.Proofs.Ytedddgkdpeielaa
