/- A file system in memory: its blocks, and what each holds. -/
import Derived.Test.YtkelahekfkhcfaaFsBox
import Derived.Test.YtkelahekfkhcfaaFsInv
namespace Go.Proofs.Ytkelahekfkhcfaa
open Go.RowKit
theorem Chg.refl (R : Nat → Prop) (w : World) : Chg R w w := ⟨rfl, rfl, rfl, Nat.le_refl _, fun _ _ _ => rfl⟩
theorem Chg.wide {R R' : Nat → Prop} {w w' : World} (h : Chg R w w') (hR : ∀ k, k < w.heap.size → R k → R' k) : Chg R' w w' := ⟨h.os, h.tape, h.output, h.size, fun k hk hn => h.block k hk (fun hr => hn (hR k hk hr))⟩
theorem Chg.andThen {R R' : Nat → Prop} {a b c : World} (h : Chg R a b) (k : Chg R' b c) (hR : ∀ k, k < a.heap.size → R' k → R k) : Chg R a c :=
  ⟨k.os.trans h.os, k.tape.trans h.tape, k.output.trans h.output, Nat.le_trans h.size k.size, fun i hi hn => (k.block i (Nat.lt_of_lt_of_le hi h.size) (fun hr => hn (hR i hi hr))).trans (h.block i hi hn)⟩
theorem Chg.grown {row : Option Nat} {w w' : World} (h : w.grownBy w' row) : Chg (fun k => row = some k) w w' := ⟨h.os, h.tape, h.output, h.size, fun k hk hn => h.block k hk (fun e => hn e.symm)⟩
theorem Chg.below {R : Nat → Prop} {w w' : World} (h : Below w.heap.size w w') : Chg R w w' := ⟨h.os, h.tape, h.output, h.size, fun k hk _ => h.block k hk⟩
theorem Chg.drew {R : Nat → Prop} {w w' : World} (h : Chg R w w') : Chg R w w'.drew := ⟨h.os, h.tape, h.output, h.size, h.block⟩
theorem Chg.alloc {R : Nat → Prop} {w w' : World} (h : Chg R w w') (o : Obj) : Chg R w (w'.alloc o) :=
  ⟨h.os, h.tape, h.output, by have := h.size; simp; omega, fun k hk hr => (Below.heap_alloc _ _ k (Nat.lt_of_lt_of_le hk h.size)).trans (h.block k hk hr)⟩
theorem Chg.set {R : Nat → Prop} {w w' : World} (h : Chg R w w') {p : Nat} (hp : p < w.heap.size → R p) (j : Nat) (v : Value) : Chg R w (w'.setCell ⟨p, j, none⟩ v) :=
  ⟨h.os, h.tape, h.output, by have := h.size; simpa using this, fun k hk hr => (Below.heap_setCell _ _ _ k (fun e => hr (by rw [e] at hk ⊢; exact hp hk))).trans (h.block k hk hr)⟩
/-- A file in memory: its block, and its bytes' slice. -/
structure FG where
  blk : Nat
  a : Option Addr
  cap : Nat
def FG.row (f : FG) : Option Nat := (Value.slice f.a 0 0).ownBlock
theorem FG.row_eq (f : FG) (n c : Nat) : (Value.slice f.a n c).ownBlock = f.row := by
  unfold FG.row
  cases f.a <;> rfl
structure FileAt (w : World) (f : FG) (x : PFile) : Prop where
  box : Box w f.blk 79 #[.slice f.a x.b.length f.cap, .int .i64 ((x.last : Nat) : Int)]
  own : OwnB w 0 f.a x.b.length f.cap x.b
theorem row_same {w w' : World} {B : Nat} {e : TypeId} {size n : Nat} {v : Value} {xs : List Value} (h : w.ownsRow B e size v n xs) (hk : ∀ b, v.ownBlock = some b → w'.heap[b]? = w.heap[b]?) : w'.ownsRow B e size v n xs := by
  refine ⟨h.1, ?_⟩
  rcases h.2 with hn | ⟨g, c, cur, hv, hB, hg, rest⟩
  · exact .inl hn
  · exact .inr ⟨g, c, cur, hv, hB, (hk g (by rw [hv]; rfl)).trans hg, rest⟩
theorem FileAt.kept {w w' : World} {f : FG} {x : PFile} (h : FileAt w f x) (hb : w'.heap[f.blk]? = w.heap[f.blk]?) (hr : ∀ b, f.row = some b → w'.heap[b]? = w.heap[b]?) : FileAt w' f x :=
  ⟨h.box.kept hb, ⟨h.own.size, row_same h.own.row (fun b e => hr b (by rw [← f.row_eq]; exact e))⟩⟩
/-- A change of names, as it is kept. -/
def cellsC1 (blk : Nat → Nat) (c : PChange) : List Value :=
  if c.kind = 1 then [.string ByteArray.empty, .string (strOf c.name), at_ (blk c.file)]
  else if c.kind = 2 then [.string (strOf c.name), .string (strOf c.to), .pointer none]
  else [.string (strOf c.name), .string ByteArray.empty, .pointer none]
def cellsC (blk : Nat → Nat) : List PChange → List Value
  | [] => []
  | c :: r => cellsC1 blk c ++ cellsC blk r
theorem cellsC1_length (blk : Nat → Nat) (c : PChange) : (cellsC1 blk c).length = 3 := by
  unfold cellsC1
  split
  · rfl
  · split <;> rfl
theorem cellsC_length (blk : Nat → Nat) : ∀ l, (cellsC blk l).length = l.length * 3
  | [] => rfl
  | c :: r => by
    have := cellsC_length blk r
    have := cellsC1_length blk c
    simp [cellsC]
    omega
theorem cellsC_append (blk : Nat → Nat) : ∀ l m, cellsC blk (l ++ m) = cellsC blk l ++ cellsC blk m
  | [], _ => rfl
  | c :: r, m => by rw [List.cons_append, cellsC, cellsC, cellsC_append blk r m, List.append_assoc]
theorem cellsC1_congr {blk blk' : Nat → Nat} {c : PChange} (h : c.kind = 1 → blk c.file = blk' c.file) : cellsC1 blk c = cellsC1 blk' c := by
  unfold cellsC1
  split
  · rename_i e
    rw [h e]
  · rfl
theorem cellsC_congr {blk blk' : Nat → Nat} : ∀ {l : List PChange}, (∀ c ∈ l, c.kind = 1 → blk c.file = blk' c.file) → cellsC blk l = cellsC blk' l
  | [], _ => rfl
  | c :: r, h => by rw [cellsC, cellsC, cellsC1_congr (h c (List.mem_cons_self ..)), cellsC_congr fun d hd => h d (List.mem_cons_of_mem _ hd)]
/-- What is not seen: where all lies. -/
structure Gh where
  fl : Nat → FG
  live : Nat → Prop
  mn : Option Nat
  ml : Option Nat
  sa : Option Addr
  sc : Nat
def Gh.blk (g : Gh) (k : Nat) : Nat := (g.fl k).blk
def Gh.srow (g : Gh) : Option Nat := (Value.slice g.sa 0 0).ownBlock
theorem Gh.srow_eq (g : Gh) (n c : Nat) : (Value.slice g.sa n c).ownBlock = g.srow := by
  unfold Gh.srow
  cases g.sa <;> rfl
def cellsOf (S : PFs) (g : Gh) : FsC := ⟨S.quota, S.bulk S.names, S.asked, S.fused, if S.fused then S.fuse else 0, S.fails, if S.fails then S.fail else 0, g.mn, g.ml, g.sa, S.since.length, g.sc⟩
structure FsAt (w : World) (p : Nat) (S : PFs) (g : Gh) : Prop where
  fs : FsB w p (cellsOf S g)
  nm : NmAt w g.mn g.blk S.names
  lm : NmAt w g.ml g.blk S.lasts
  apart : ∀ m, g.mn = some m → g.ml ≠ some m
  sn : w.ownsRow 0 74 3 (.slice g.sa S.since.length g.sc) S.since.length (cellsC g.blk S.since)
  files : ∀ k, g.live k → FileAt w (g.fl k) (S.fileOf k)
  inj : ∀ k j, g.live k → g.live j → k ≠ j → (g.fl k).blk ≠ (g.fl j).blk ∧ ∀ b, (g.fl k).row = some b → (g.fl j).row ≠ some b
  liveN : ∀ x ∈ S.names, g.live x.file
  liveL : ∀ x ∈ S.lasts, g.live x.file
  liveS : ∀ c ∈ S.since, c.kind = 1 → g.live c.file
/-- The blocks besides the first. -/
def Inner (g : Gh) (k : Nat) : Prop := g.mn = some k ∨ g.ml = some k ∨ g.srow = some k ∨ ∃ j, g.live j ∧ (k = (g.fl j).blk ∨ (g.fl j).row = some k)
def Foot (p : Nat) (g : Gh) (k : Nat) : Prop := k = p ∨ Inner g k
def tagOf : Obj → Nat
  | .cells _ t _ => t
  | .map _ _ => 1000
  | _ => 2000
def tag (w : World) (k : Nat) : Option Nat := (w.heap[k]?).map tagOf
theorem tag_ne {w : World} {a b i j : Nat} (ha : tag w a = some i) (hb : tag w b = some j) (h : i ≠ j) : a ≠ b := by
  rintro rfl
  rw [ha] at hb
  exact h (Option.some.inj hb)
theorem tag_lt {w : World} {a i : Nat} (ha : tag w a = some i) : a < w.heap.size := by
  unfold tag at ha
  cases h : w.heap[a]? with
  | none => rw [h] at ha; cases ha
  | some o => exact (Array.getElem?_eq_some_iff.1 h).1
theorem Box.tag {w : World} {p : Nat} {t : TypeId} {arr : Array Value} (h : Box w p t arr) : tag w p = some t := by
  unfold Go.Proofs.Ytkelahekfkhcfaa.tag
  rw [show w.heap[p]? = _ from h]
  rfl
theorem NmAt.tag {w : World} {m : Nat} {blk : Nat → Nat} {l : List PName} (h : NmAt w (some m) blk l) : tag w m = some 1000 := by
  obtain ⟨es, clock, hb⟩ := h.isMap
  unfold Go.Proofs.Ytkelahekfkhcfaa.tag
  rw [hb]
  rfl
theorem row_tag {w : World} {B : Nat} {e : TypeId} {size n : Nat} {v : Value} {xs : List Value} (h : w.ownsRow B e size v n xs) {b : Nat} (hb : v.ownBlock = some b) : tag w b = some e := by
  rcases h.2 with ⟨hv, _⟩ | ⟨g, c, cur, hv, _, hg, _⟩
  · rw [hv] at hb; cases hb
  · rw [hv] at hb
    obtain rfl := Option.some.inj hb
    unfold tag
    rw [hg]
    rfl
section
variable {w : World} {p : Nat} {S : PFs} {g : Gh}
theorem FsAt.tagP (h : FsAt w p S g) : tag w p = some 64 := Box.tag h.fs
theorem FsAt.tagN (h : FsAt w p S g) {m : Nat} (e : g.mn = some m) : tag w m = some 1000 := by
  have := h.nm
  rw [e] at this
  exact this.tag
theorem FsAt.tagL (h : FsAt w p S g) {m : Nat} (e : g.ml = some m) : tag w m = some 1000 := by
  have := h.lm
  rw [e] at this
  exact this.tag
theorem FsAt.tagS (h : FsAt w p S g) {b : Nat} (e : g.srow = some b) : tag w b = some 74 := row_tag h.sn (by rw [g.srow_eq]; exact e)
theorem FsAt.tagF (h : FsAt w p S g) {k : Nat} (hk : g.live k) : tag w (g.fl k).blk = some 79 := (h.files k hk).box.tag
theorem FsAt.tagR (h : FsAt w p S g) {k b : Nat} (hk : g.live k) (e : (g.fl k).row = some b) : tag w b = some 5 := row_tag (h.files k hk).own.row (by rw [FG.row_eq]; exact e)
theorem FsAt.foot_lt (h : FsAt w p S g) {k : Nat} (hk : Foot p g k) : k < w.heap.size := by
  rcases hk with rfl | e | e | e | ⟨j, hj, rfl | e⟩
  · exact tag_lt h.tagP
  · exact tag_lt (h.tagN e)
  · exact tag_lt (h.tagL e)
  · exact tag_lt (h.tagS e)
  · exact tag_lt (h.tagF hj)
  · exact tag_lt (h.tagR hj e)
theorem FsAt.inner_ne (h : FsAt w p S g) {k : Nat} (hk : Inner g k) : k ≠ p := by
  rcases hk with e | e | e | ⟨j, hj, rfl | e⟩
  · exact tag_ne (h.tagN e) h.tagP (by decide)
  · exact tag_ne (h.tagL e) h.tagP (by decide)
  · exact tag_ne (h.tagS e) h.tagP (by decide)
  · exact tag_ne (h.tagF hj) h.tagP (by decide)
  · exact tag_ne (h.tagR hj e) h.tagP (by decide)
/-- The first block alone turns. -/
theorem FsAt.frame {w' : World} {S' : PFs} (h : FsAt w p S g) (hs : ∀ k, Inner g k → w'.heap[k]? = w.heap[k]?) (hfs : FsB w' p (cellsOf S' g)) (e1 : S'.names = S.names) (e2 : S'.lasts = S.lasts) (e3 : S'.since = S.since) (e4 : S'.files = S.files) : FsAt w' p S' g where
  fs := hfs
  nm := by rw [e1]; exact h.nm.kept fun m e => hs m (.inl e)
  lm := by rw [e2]; exact h.lm.kept fun m e => hs m (.inr (.inl e))
  apart := h.apart
  sn := by rw [e3]; exact row_same h.sn fun b e => hs b (.inr (.inr (.inl (by rw [← g.srow_eq]; exact e))))
  files := fun k hk => by
    have : S'.fileOf k = S.fileOf k := by unfold PFs.fileOf; rw [e4]
    rw [this]
    exact (h.files k hk).kept (hs _ (.inr (.inr (.inr ⟨k, hk, .inl rfl⟩)))) fun b e => hs b (.inr (.inr (.inr ⟨k, hk, .inr e⟩)))
  inj := h.inj
  liveN := by rw [e1]; exact h.liveN
  liveL := by rw [e2]; exact h.liveL
  liveS := by rw [e3]; exact h.liveS
end
end Go.Proofs.Ytkelahekfkhcfaa
