/- The contract of New. -/
import Derived.Test.YtnggajconglfcaaDoorPdMem
import Derived.Carry
import Derived.Deep.AppendLies
import Derived.Laws.OwnMore
namespace Go.Proofs.YtnggajconglfcaaDoor
open Go.RowKit
set_option linter.unusedVariables false
def PS.new (room : Nat) : PS := ⟨room, [], fun _ => []⟩
theorem PS.new_inv {room : Nat} (h : room ≤ 1000) : (PS.new room).Inv where
  room := h
  size := Nat.zero_le _
  uniq := fun i j hi => absurd hi (Nat.not_lt_zero _)
  long := fun i hi => absurd hi (Nat.not_lt_zero _)
  sorted := fun l hl => List.Pairwise.nil
  mem := fun l hl i => by simp [PS.new]
  ok := fun i hi => absurd hi (Nat.not_lt_zero _)
theorem SkAt.made (w : World) {room : Nat} (h : room ≤ 1000) : SkAt ((w.alloc (.map #[] 0)).alloc (.cells (listArr room (fun _ => .pointer none) w.heap.size none 0 0) TL)) (w.heap.size + 1) (PS.new room) ⟨[], [], w.heap.size, none, 0⟩ where
  inv := PS.new_inv h
  head := by
    have := Box.new (w.alloc (.map #[] 0)) TL (listArr room (fun _ => .pointer none) w.heap.size none 0 0)
    simp at this
    exact this
  nlen := rfl
  olen := rfl
  ond := List.Pairwise.nil
  node := fun i hi => absurd hi (Nat.not_lt_zero _)
  op := fun i hi => absurd hi (Nat.not_lt_zero _)
  row := World.ownsRow_nil _ _ _ _
  map := ⟨.map [], (World.ownsMap_made w Tryd.prog 9 unitElem).alloc _, fun s => by simp [Maps.has, PS.keys, PS.new]⟩
set_option maxRecDepth 100000 in
theorem new_bad (n : Int) (w : World) (h : n < 0 ∨ 1000 < n) : Calls Tryd.prog 45 #[.int .i64 n] w fun e w' => e = .returned (.tuple #[.pointer none, .int .i64 1]) ∧ w' = w := by
  rcases h with h | h
  · go_enter Tryd.func45, Tryd.ntmps45
    go_wp2
    go_returns
    exact ⟨rfl, rfl⟩
  · have h0 : ¬ n < 0 := by omega
    go_enter Tryd.func45, Tryd.ntmps45
    go_wp2
    go_returns
    exact ⟨rfl, rfl⟩
set_option maxRecDepth 100000 in
theorem new_at (room : Nat) (w : World) (h : room ≤ 1000) : Calls Tryd.prog 45 #[.int .i64 (room : Int)] w fun e w' => ∃ p g, e = .returned (.tuple #[at_ p, .int .i64 0]) ∧ SkAt w' p (PS.new room) g ∧ Below w.heap.size w w' ∧ (∀ k, Foot p g k → w.heap.size ≤ k) := by
  have hmm : ∀ w : World, (Instr.makeMap 91 none).run Tryd.prog w = .ok (.map (some w.heap.size)) (w.alloc (.map #[] 0)) := fun w => by kernel_rfl
  go_enter Tryd.func45, Tryd.ntmps45
  go_wp2
  go_returns
  refine ⟨w.heap.size + 1, _, ?_, SkAt.made w h, ?_, ?_⟩
  · rfl
  · exact ((Below.refl _ _).alloc (Nat.le_refl _) _).alloc (by simp) _
  · intro k hk
    rcases hk with rfl | hk | hk | rfl | hk
    · omega
    · cases hk
    · cases hk
    · exact Nat.le_refl _
    · cases hk
end Go.Proofs.YtnggajconglfcaaDoor
/- Rows of texts and of ints that a call owns; one more is put behind. -/
namespace Go.Proofs.YtnggajconglfcaaDoor
open Go.RowKit
theorem OwnN.nil (w : World) (B : Nat) : OwnN w B none 0 0 [] := ⟨rfl, World.ownsRow_nil _ _ _ 1, by simp⟩
theorem OwnN.tag {w : World} {B : Nat} {a : Option Addr} {n c : Nat} {l : List Int} (h : OwnN w B a n c l) {k : Nat} (hk : blkOf a = some k) : tag w k = some 3 := row_tag h.row (by rw [own_blk]; exact hk)
theorem OwnN.ge {w : World} {B : Nat} {a : Option Addr} {n c : Nat} {l : List Int} (h : OwnN w B a n c l) {k : Nat} (hk : blkOf a = some k) : B ≤ k := (h.row.lt k (by rw [own_blk]; exact hk)).1
theorem OwnN.kept {w w' : World} {B : Nat} {a : Option Addr} {n c : Nat} {l : List Int} (h : OwnN w B a n c l) (hk : ∀ k, blkOf a = some k → w'.heap[k]? = w.heap[k]?) : OwnN w' B a n c l := ⟨h.size, row_same h.row (fun b e => hk b (by rw [← own_blk a n c]; exact e)), h.wf⟩
theorem OwnN.chg {R : Nat → Prop} {w w' : World} {B : Nat} {a : Option Addr} {n c : Nat} {l : List Int} (h : OwnN w B a n c l) (hc : Chg R w w') (hR : ∀ k, blkOf a = some k → ¬ R k) : OwnN w' B a n c l := h.kept fun k hk => hc.block k (tag_lt (h.tag hk)) (hR k hk)
theorem OwnN.alloc {w : World} {B : Nat} {a : Option Addr} {n c : Nat} {l : List Int} (h : OwnN w B a n c l) (o : Obj) : OwnN (w.alloc o) B a n c l := ⟨h.size, h.row.alloc o, h.wf⟩
def cellsS (l : List ByteArray) : List Value := l.map Value.string
/-- A row of texts of the call's own. -/
structure OwnS (w : World) (B : Nat) (a : Option Addr) (len cap : Nat) (l : List ByteArray) : Prop where
  size : l.length = len
  row : w.ownsRow B 9 1 (.slice a len cap) len (cellsS l)
/-- The slice value reads as texts. -/
structure StAt (w : World) (a : Option Addr) (len cap : Nat) (l : List ByteArray) : Prop where
  size : l.length = len
  le : len ≤ cap
  max : cap ≤ maxLen
  here : 0 < len → ∃ b off, a = some ⟨b, off, none⟩ ∧ ∀ j, j < len → w.cell? ⟨b, off + j, none⟩ = some (.string (l.getD j ⟨#[]⟩))
section
variable {w w' : World} {B : Nat} {a : Option Addr} {n c : Nat} {l : List ByteArray}
theorem OwnS.st (h : OwnS w B a n c l) : StAt w a n c l := by
  obtain ⟨h1, h2, h3, h4⟩ := row_addr h.row
  have hs := h.size
  refine ⟨hs, h1, h2, fun hp => ?_⟩
  obtain ⟨g, rfl⟩ := h4 hp
  refine ⟨g, 0, rfl, fun j hj => ?_⟩
  rw [Nat.zero_add, h.row.cellAt j (by omega)]
  simp [cellsS, List.getD, show j < l.length by omega]
theorem StAt.below (h : StAt w a n c l) (hb : Below w.heap.size w w') : StAt w' a n c l := ⟨h.size, h.le, h.max, fun hp => by
  obtain ⟨b, off, ha, hc⟩ := h.here hp
  refine ⟨b, off, ha, fun j hj => ?_⟩
  rw [hb.cell (World.block_lt_of_cell? w _ (hc j hj))]
  exact hc j hj⟩
theorem OwnS.nil (w : World) (B : Nat) : OwnS w B none 0 0 [] := ⟨rfl, World.ownsRow_nil _ _ _ 1⟩
theorem OwnS.tag (h : OwnS w B a n c l) {k : Nat} (hk : blkOf a = some k) : tag w k = some 9 := row_tag h.row (by rw [own_blk]; exact hk)
theorem OwnS.ge (h : OwnS w B a n c l) {k : Nat} (hk : blkOf a = some k) : B ≤ k := (h.row.lt k (by rw [own_blk]; exact hk)).1
theorem OwnS.kept (h : OwnS w B a n c l) (hk : ∀ k, blkOf a = some k → w'.heap[k]? = w.heap[k]?) : OwnS w' B a n c l := ⟨h.size, row_same h.row (fun b e => hk b (by rw [← own_blk a n c]; exact e))⟩
theorem OwnS.chg {R : Nat → Prop} (h : OwnS w B a n c l) (hc : Chg R w w') (hR : ∀ k, blkOf a = some k → ¬ R k) : OwnS w' B a n c l := h.kept fun k hk => hc.block k (tag_lt (h.tag hk)) (hR k hk)
theorem OwnS.below (h : OwnS w B a n c l) (hb : Below w.heap.size w w') : OwnS w' B a n c l := h.kept fun k hk => hb.block k (tag_lt (h.tag hk))
theorem OwnS.alloc (h : OwnS w B a n c l) (o : Obj) : OwnS (w.alloc o) B a n c l := ⟨h.size, h.row.alloc o⟩
theorem OwnS.less (h : OwnS w B a n c l) {B' : Nat} (hB : B' ≤ B) : OwnS w B' a n c l := by
  refine ⟨h.size, h.row.1, ?_⟩
  rcases h.row.2 with hn | ⟨g, c, cur, hv, hb, rest⟩
  · exact .inl hn
  · exact .inr ⟨g, c, cur, hv, Nat.le_trans hB hb, rest⟩
end
theorem infoS : (Tryd.prog.info? 9).map (fun i => (i.zero, i.size, i.bytes)) = some (some (.string ⟨#[]⟩), 1, 16) := by kernel_rfl
theorem wpList_pushS (W : World) {ops : Array Oper} {rest : List Oper} {o : Oper} {a : Act} {Q : Exit → Act → World → Prop} (hgd : o.guard = none) (s x : Operand)
    (ho : o.op = .call { callee := .builtin .append, args := #[s, x], argTypes := #[71, 71] })
    (B : Nat) (a1 : Option Addr) (n1 c1 : Nat) (l : List ByteArray) (hs : a.eval s = .slice a1 n1 c1) (hown : OwnS W B a1 n1 c1 l) (v : ByteArray)
    (hx : a.eval x = .slice (some ⟨W.heap.size, 0, none⟩) 1 1) (hn : n1 ≤ 1000000) (hB : B ≤ W.heap.size)
    (h : ∀ g c' w', OwnS w' B (some ⟨g, 0, none⟩) (n1 + 1) c' (l ++ [v]) → (W.alloc (.cells #[.string v] 9)).grownBy w' (blkOf a1) → wpList Tryd.prog ops Q rest (a.put o.dst (.slice (some ⟨g, 0, none⟩) (n1 + 1) c')) w') :
    wpList Tryd.prog ops Q (o :: rest) a (W.alloc (.cells #[.string v] 9)) := by
  obtain ⟨i, hi, hz0, hz1, hz2⟩ := info_parts infoS
  refine wpList_append_lies _ hgd s x 71 ho B 9 i _ 1 16 Tryd.underlying71 hi hz0 hz1 hz2 rfl (by decide) _ n1 _ hs (hown.alloc _).row ⟨W.heap.size, 0, none⟩ 1 1 [.string v] hx rfl (World.news_of_block (cs := #[.string v]) (Box.new W _ _)) (by intro u hu; rw [List.mem_singleton.1 hu]; rfl) (by omega) (by unfold maxLen; omega) (by omega) (by simp; omega) (W.heap.size + 1) (by simp) ?_
  intro g c' w' hr hg hl _
  rw [own_blk] at hg
  exact h g c' w' ⟨by simp; exact hown.size, by simpa [cellsS] using hr⟩ hg
def lenOf : Value → Nat
  | .slice _ n _ => n
  | _ => 0
end Go.Proofs.YtnggajconglfcaaDoor
/- The contract of Keys. -/
namespace Go.Proofs.YtnggajconglfcaaDoor
open Go.RowKit
set_option linter.unusedVariables false
def PS.lk (S : PS) (l : Nat) : List ByteArray := (S.lev l).map S.key
set_option maxRecDepth 100000 in
theorem keys_none (p : Option Addr) (n : Int) (w : World) (h : p = none ∨ n < 0 ∨ 8 ≤ n) : Calls Tryd.prog 31 #[.pointer p, .int .i64 n] w fun e w' => e = .returned (.slice none 0 0) ∧ w' = w := by
  cases p with
  | none =>
    clear h
    go_enter Tryd.func31, Tryd.ntmps31
    go_wp2
    go_returns
    exact ⟨rfl, rfl⟩
  | some a =>
    rcases h with h | h | h
    · cases h
    · go_enter Tryd.func31, Tryd.ntmps31
      go_wp2
      go_returns
      exact ⟨rfl, rfl⟩
    · have h0 : ¬ n < 0 := by omega
      go_enter Tryd.func31, Tryd.ntmps31
      go_wp2
      go_returns
      exact ⟨rfl, rfl⟩
section
variable {w : World} {p : Nat} {S : PS} {g : SG}
theorem nodup_count (l : List Nat) : ∀ (n : Nat), l.Nodup → (∀ x ∈ l, x < n) → l.length ≤ n := fun n hn hlt => by
  have h1 : l.length = (l.toArray.size) := by simp
  have := List.Nodup.length_le_of_subset hn (l₂ := List.range n) (fun x hx => List.mem_range.2 (hlt x hx))
  simpa using this
theorem PS.Inv.levLen (h : S.Inv) {l : Nat} (hl : l < 8) : (S.lev l).length ≤ 1000 := by
  have h1 := nodup_count (S.lev l) S.ops.length (h.nodup hl) (fun x hx => h.lt hl hx)
  have h2 := h.size
  have h3 := h.room
  omega
set_option maxRecDepth 100000 in
set_option maxHeartbeats 1000000 in
theorem keys_at (h : SkAt w p S g) {l : Nat} (hl : l < 8) : Calls Tryd.prog 31 #[at_ p, .int .i64 (l : Int)] w fun e w' => ∃ a c, e = .returned (.slice a (S.lev l).length c) ∧ OwnS w' w.heap.size a (S.lev l).length c (S.lk l) ∧ Below w.heap.size w w' := by
  have HS : Hid (SkAt w p S g) := h
  have hlen := h.inv.levLen hl
  have hc := h.link (a := 0) hl (.inl rfl)
  have hnd := h.inv.nodup hl
  simp only [plc, nxt_zero] at hc
  have hc' : w.cell? ⟨p, 1 + 1 + l, none⟩ = some (lnk g (S.lev l).head?) := hc
  have HND : Hid (S.lev l).Nodup := hnd
  clear h hc hnd
  obtain ⟨n, HN⟩ : ∃ n, Hid (n = (S.lev l).length) := ⟨_, rfl⟩
  rw [← HN.out] at hlen ⊢
  go_enter Tryd.func31, Tryd.ntmps31
  go_wp2_with fail
  go_loopw [5, 6] (fun o x wr => ∃ (k : Nat) (a : Option Addr) (c : Nat), k ≤ n ∧ o = .slice a k c ∧ x = lnk g (S.lev l)[k]? ∧ Hid (OwnS wr w.heap.size a k c ((S.lk l).take k)) ∧ Hid (Below w.heap.size w wr)) (fun o _ _ => n - lenOf o)
  case atStart => exact ⟨0, none, 0, Nat.zero_le _, rfl, by rw [List.head?_eq_getElem?], OwnS.nil _ _, Below.refl _ _⟩
  case round =>
    obtain ⟨k, a, c, hk, rfl, rfl, HO, HB⟩ := hrel
    by_cases hlt : k < n
    · have hlt' : k < (S.lev l).length := by rw [← HN.out]; exact hlt
      have hx : (S.lev l)[k]? = some (S.lev l)[k] := by simp [hlt']
      obtain ⟨x, hx0⟩ : ∃ x, x = (S.lev l)[k] := ⟨_, rfl⟩
      have HX : Hid (x = (S.lev l)[k]) := hx0
      clear hx0
      rw [hx, ← HX.out]
      have hmem : x ∈ S.lev l := by rw [HX.out]; exact List.getElem_mem hlt'
      have hsr : SkAt wr p S g := HS.out.below HB.out
      have hxl := hsr.inv.lt hl hmem
      have ck := hsr.keyCell hxl
      have cl := HS.out.link (a := x + 1) hl (.inr ⟨x, rfl, hmem⟩)
      have e2 : nxt (S.lev l) (x + 1) = (S.lev l)[k + 1]? := by rw [HX.out]; exact nxt_at HND.out k hlt'
      rw [e2] at cl
      have CL : Hid (w.cell? ⟨g.n x, 0 + 1 + l, none⟩ = some (lnk g (S.lev l)[k + 1]?)) := cl
      have hgx : g.n x < w.heap.size := by
        obtain ⟨arr, hb⟩ := HS.out.nodeBox hxl
        exact hb.lt
      have HT : Hid ((S.lk l).take (k + 1) = (S.lk l).take k ++ [S.key x]) := by
        unfold Hid
        rw [HX.out, List.take_succ_eq_append_getElem (by simpa [PS.lk] using hlt')]
        simp [PS.lk]
      rw [show lnk g (some x) = at_ (g.n x) from rfl]
      clear hx hmem hsr hxl cl e2 hc'
      go_wp2_with (first | (at_builtin; refine wpList_pushS wr rfl _ _ rfl w.heap.size a k c _ rfl HO.out (S.key x) rfl (by omega) HB.out.size ?_; intro r c' w' hr hg
                            have hb' : Below w.heap.size w w' := (HB.out.alloc HB.out.size _).grown hg (by simp; have := HB.out.size; omega) (fun k e => HO.out.ge e)
                            have cl' : w'.cell? ⟨g.n x, 1 + l, none⟩ = some (lnk g (S.lev l)[k + 1]?) := by rw [hb'.cell (p := ⟨g.n x, 1 + l, none⟩) hgx]; have := CL.out; rw [Nat.zero_add] at this; exact this
                            have HR : Hid (OwnS w' w.heap.size (some ⟨r, 0, none⟩) (k + 1) c' ((S.lk l).take (k + 1))) := by unfold Hid; rw [HT.out]; exact hr
                            have HB' : Hid (Below w.heap.size w w') := hb'
                            clear hr hg hb' ck))
      go_roundw
      case rel => exact ⟨k + 1, some ⟨r, 0, none⟩, c', by omega, rfl, rfl, HR, HB'⟩
      case measure => simp only [lenOf]; omega
    · obtain rfl : k = n := by omega
      have hx : (S.lev l)[k]? = none := by rw [List.getElem?_eq_none]; rw [← HN.out]; exact Nat.le_refl _
      rw [hx, show lnk g none = .pointer none from rfl]
      go_wp2
      go_returns
      refine ⟨a, c, rfl, ?_, HB.out⟩
      have ht : (S.lk l).take k = S.lk l := List.take_of_length_le (by simp [PS.lk]; rw [← HN.out]; exact Nat.le_refl _)
      have := HO.out
      rw [ht] at this
      exact this
end
end Go.Proofs.YtnggajconglfcaaDoor
/- Where one comes to from the highest level down: plainly. -/
namespace Go.Proofs.YtnggajconglfcaaDoor
open Go.RowKit
/-- The place behind so many. -/
def place (L : List Nat) (k : Nat) : Nat := if k = 0 then 0 else L.getD (k - 1) 0 + 1
def cnt (P : Nat → Bool) (L : List Nat) : Nat := (L.takeWhile P).length
theorem cnt_le (P : Nat → Bool) : ∀ L : List Nat, cnt P L ≤ L.length
  | [] => Nat.le_refl _
  | x :: r => by
    have ih := cnt_le P r
    unfold cnt at ih ⊢
    rw [List.takeWhile_cons]
    split
    · simp; omega
    · simp
theorem cnt_lt (P : Nat → Bool) : ∀ (L : List Nat) (k : Nat), k < cnt P L → ∃ h : k < L.length, P L[k] = true
  | [], k, h => by simp [cnt] at h
  | x :: r, k, h => by
    unfold cnt at h
    rw [List.takeWhile_cons] at h
    split at h
    · rename_i hp
      cases k with
      | zero => exact ⟨by simp, by simpa using hp⟩
      | succ k =>
        obtain ⟨h1, h2⟩ := cnt_lt P r k (by unfold cnt; simpa using h)
        exact ⟨by simpa using h1, by simpa using h2⟩
    · simp at h
theorem cnt_at (P : Nat → Bool) : ∀ (L : List Nat) (h : cnt P L < L.length), P L[cnt P L] = false
  | [], h => by simp at h
  | x :: r, h => by
    by_cases hp : P x = true
    · have e : cnt P (x :: r) = cnt P r + 1 := by simp [cnt, hp]
      have h' : cnt P r < r.length := by rw [e] at h; simpa using h
      have ih := cnt_at P r h'
      simp only [e, List.getElem_cons_succ]
      exact ih
    · have e : cnt P (x :: r) = 0 := by simp [cnt, hp]
      simp only [e, List.getElem_cons_zero]
      simpa using hp
theorem cnt_ge (P : Nat → Bool) : ∀ (L : List Nat) (k : Nat), k ≤ L.length → (∀ i (h : i < L.length), i < k → P L[i] = true) → k ≤ cnt P L
  | _, 0, _, _ => Nat.zero_le _
  | [], k + 1, h, _ => by simp at h
  | x :: r, k + 1, h, hp => by
    have h0 := hp 0 (by simp) (by omega)
    simp only [List.getElem_cons_zero] at h0
    have e : cnt P (x :: r) = cnt P r + 1 := by simp [cnt, h0]
    rw [e]
    have := cnt_ge P r k (by simpa using h) (fun i hi hik => by
      have := hp (i + 1) (by simpa using hi) (by omega)
      simpa using this)
    omega
/-- Where in a row is a block? -/
def posIn (b : Nat) : List Nat → Nat
  | [] => 0
  | x :: r => if x = b then 0 else posIn b r + 1
theorem posIn_at : ∀ (L : List Nat), L.Nodup → ∀ (k : Nat) (h : k < L.length), posIn L[k] L = k
  | [], _, k, h => by simp at h
  | x :: r, hn, 0, h => by simp [posIn]
  | x :: r, hn, k + 1, h => by
    have hn' := List.nodup_cons.1 hn
    have hk : k < r.length := by simpa using h
    have hne : ¬ x = r[k] := fun e => hn'.1 (e ▸ List.getElem_mem hk)
    simp only [List.getElem_cons_succ, posIn, if_neg hne]
    rw [posIn_at r hn'.2 k hk]
section
variable {w : World} {p : Nat} {S : PS} {g : SG}
/-- What passes stands ahead of what does not. -/
def Falls (S : PS) (P : Nat → Bool) : Prop := ∀ x y, kl (S.key x) (S.key y) = true → P y = true → P x = true
theorem PS.Inv.enter (h : S.Inv) {P : Nat → Bool} (hP : Falls S P) {l : Nat} (hl : l + 1 < 8) : ∃ k, k ≤ cnt P (S.lev l) ∧ place (S.lev (l + 1)) (cnt P (S.lev (l + 1))) = place (S.lev l) k := by
  by_cases h0 : cnt P (S.lev (l + 1)) = 0
  · exact ⟨0, Nat.zero_le _, by simp [place, h0]⟩
  · obtain ⟨h1, h2⟩ := cnt_lt P (S.lev (l + 1)) (cnt P (S.lev (l + 1)) - 1) (by omega)
    have hm : (S.lev (l + 1))[cnt P (S.lev (l + 1)) - 1] ∈ S.lev l := by
      have := (h.mem (l + 1) hl _).1 (List.getElem_mem h1)
      exact (h.mem l (by omega) _).2 ⟨this.1, by omega⟩
    obtain ⟨i, hi, e⟩ := List.getElem_of_mem hm
    refine ⟨i + 1, cnt_ge P _ _ (by omega) (fun j hj hji => ?_), ?_⟩
    · by_cases e2 : j = i
      · subst e2
        rw [e]
        exact h2
      · have hs := List.pairwise_iff_getElem.1 (h.sorted l (by omega)) j i hj hi (by omega)
        rw [e] at hs
        exact hP _ _ hs h2
    · unfold place
      rw [if_neg h0, if_neg (by omega)]
      simp [List.getD, h1, hi, e]
theorem SkAt.posOf (h : SkAt w p S g) {l : Nat} (hl : l < 8) {k : Nat} (hk : k < (S.lev l).length) : posIn (g.n (S.lev l)[k]) ((S.lev l).map g.n) = k := by
  have hn : ((S.lev l).map g.n).Nodup := by
    unfold List.Nodup
    rw [List.pairwise_map]
    refine (h.inv.nodup hl).imp_of_mem fun {x y} hx hy hxy e => hxy (h.inj (h.inv.lt hl hx) (h.inv.lt hl hy) e)
  have := posIn_at _ hn k (by simpa using hk)
  simpa using this
end
end Go.Proofs.YtnggajconglfcaaDoor
