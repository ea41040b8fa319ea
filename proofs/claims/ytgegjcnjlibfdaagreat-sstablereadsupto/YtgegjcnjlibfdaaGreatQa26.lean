/- The document's own tables in memory; its index, plainly. -/
import Derived.Test.YtgegjcnjlibfdaaGreatQa23
import Derived.Test.YtgegjcnjlibfdaaGreatT12StoredB
import Derived.Test.YtgegjcnjlibfdaaGreatT12Open
import Derived.Test.YtgegjcnjlibfdaaGreatT12All
import Derived.Test.YtgegjcnjlibfdaaGreatChecked
import Derived.Test.YtgegjcnjlibfdaaGreatQa03
import Derived.Test.YtgegjcnjlibfdaaGreatQa01
import Derived.Test.YtgegjcnjlibfdaaGreatQa00
import Derived.Test.YtgegjcnjlibfdaaGreatKeyPlain
import Derived.Test.YtgegjcnjlibfdaaGreatQa08
namespace Go.Proofs.YtgegjcnjlibfdaaGreat
set_option maxRecDepth 100000
open Go.RowKit
set_option linter.unusedVariables false
set_option linter.unusedSimpArgs false
abbrev TRP : TypeId := 88
abbrev TRT : TypeId := 47
/-- A block's place with its last key. -/
structure PlR where
  k : IK
  p : Nat
  s : Nat
def prc (d : PlR) : List Value := [.string d.k.user, .int .u64 (d.k.seq : Int), .int .i64 d.k.kind, .int .i64 (d.p : Int), .int .i64 (d.s : Int)]
def cellsP (l : List PlR) : List Value := l.flatMap prc
theorem cellsP_len : ∀ l : List PlR, (cellsP l).length = l.length * 5
  | [] => rfl
  | d :: r => by
    have := cellsP_len r
    simp only [cellsP, List.flatMap_cons, List.length_append, List.length_cons] at *
    rw [this]
    simp [prc]
    omega
theorem cellsP_get : ∀ (l : List PlR) (k i : Nat) (hk : k < l.length), i < 5 → (cellsP l)[k * 5 + i]? = (prc l[k])[i]?
  | d :: r, 0, i, hk, hi => by
    show (prc d ++ cellsP r)[0 * 5 + i]? = _
    rw [List.getElem?_append_left (by simp [prc]; omega)]
    simp
  | d :: r, k + 1, i, hk, hi => by
    show (prc d ++ cellsP r)[(k + 1) * 5 + i]? = _
    rw [List.getElem?_append_right (by simp [prc]; omega)]
    have := cellsP_get r k i (by simpa using hk) hi
    rw [show (k + 1) * 5 + i - (prc d).length = k * 5 + i by simp [prc]; omega, this]
    rfl
theorem cellsP_append (a b : List PlR) : cellsP (a ++ b) = cellsP a ++ cellsP b := by simp [cellsP]
theorem prc_one (d : PlR) : ∀ u ∈ prc d, u.oneCell' = true := by
  intro u hu
  simp [prc] at hu
  rcases hu with rfl | rfl | rfl | rfl | rfl <;> rfl
theorem infoPl12 : (Tryz.prog.info? TRP).map (fun i => (i.zero, i.size, i.bytes)) = some (some (.agg #[.string ⟨#[]⟩, .int .u64 0, .int .i64 0, .int .i64 0, .int .i64 0]), 5, 48) := by kernel_rfl
structure OwnP (w : World) (B : Nat) (a : Option Addr) (n c : Nat) (l : List PlR) : Prop where
  size : l.length = n
  row : w.ownsRow B TRP 5 (.slice a n c) n (cellsP l)
theorem OwnP.nil (w : World) (B : Nat) : OwnP w B none 0 0 [] := ⟨rfl, World.ownsRow_nil _ _ _ 5⟩
theorem OwnP.tag {w : World} {B : Nat} {a : Option Addr} {n c : Nat} {l : List PlR} (h : OwnP w B a n c l) {k : Nat} (hk : blkOf a = some k) : tag w k = some TRP := row_tag h.row (by rw [own_blk]; exact hk)
theorem OwnP.ge {w : World} {B : Nat} {a : Option Addr} {n c : Nat} {l : List PlR} (h : OwnP w B a n c l) {k : Nat} (hk : blkOf a = some k) : B ≤ k := (h.row.lt k (by rw [own_blk]; exact hk)).1
theorem OwnP.kept {w w' : World} {B : Nat} {a : Option Addr} {n c : Nat} {l : List PlR} (h : OwnP w B a n c l) (hk : ∀ k, blkOf a = some k → w'.heap[k]? = w.heap[k]?) : OwnP w' B a n c l := ⟨h.size, row_same h.row (fun b e => hk b (by rw [← own_blk a n c]; exact e))⟩
theorem OwnP.below {w w' : World} {B : Nat} {a : Option Addr} {n c : Nat} {l : List PlR} (h : OwnP w B a n c l) (hb : Below w.heap.size w w') : OwnP w' B a n c l := h.kept fun k hk => hb.block k (tag_lt (h.tag hk))
theorem OwnP.alloc {w : World} {B : Nat} {a : Option Addr} {n c : Nat} {l : List PlR} (h : OwnP w B a n c l) (o : Obj) : OwnP (w.alloc o) B a n c l := ⟨h.size, h.row.alloc o⟩
theorem step_pushP {ops : Array Oper} {o : Oper} {a : Act} {K : Act → World → Prop} {Q : Exit → Act → World → Prop} {E : Prop} (W : World) (hgd : o.guard = none) (s x : Operand)
    (ho : o.op = .call { callee := .builtin .append, args := #[s, x], argTypes := #[45, 45] })
    (B : Nat) (a1 : Option Addr) (n1 c1 : Nat) (l : List PlR) (hs : a.eval s = .slice a1 n1 c1) (hown : OwnP W B a1 n1 c1 l)
    (v : PlR) (cv : Array Value) (hcv : cv.toList = prc v) (g : Nat) (hg : g = W.heap.size) (hx : a.eval x = .slice (some ⟨g, 0, none⟩) 1 1)
    (hb : n1 + 1 ≤ 2000000000000) (hB : B ≤ W.heap.size)
    (h : ∀ a' c' w', OwnP w' B a' (n1 + 1) c' (l ++ [v]) → Below B W w' → (W.alloc (.cells cv TRP)).grownBy w' (blkOf a1) → K (a.put o.dst (.slice a' (n1 + 1) c')) w') :
    if Region.wanted o (yielded ops a.tmps) = true then Oper.wp Tryz.prog o a (W.alloc (.cells cv TRP)) K Q else E := by
  subst hg
  have hw : Region.wanted o (yielded ops a.tmps) = true := by simp [Region.wanted, hgd]
  rw [if_pos hw]
  obtain ⟨i, hi, hz0, hz1, hz2⟩ := info_parts infoPl12
  have hl := hown.size
  have hown2 := hown.alloc (.cells cv TRP)
  have hlt : ∀ k, (Value.slice a1 n1 c1).ownBlock = some k → B ≤ k := fun k hk => (hown.row.lt k hk).1
  have hB2 : B ≤ (W.alloc (.cells cv TRP)).heap.size := by simp; omega
  have hcell : ∀ j u, (prc v)[j]? = some u → (W.alloc (.cells cv TRP)).cell? ((⟨W.heap.size, 0, none⟩ : Addr).add j) = some u := by
    intro j u hu
    rw [Addr.add_lit, Nat.zero_add, (Box.new W TRP cv).cell, ← Array.getElem?_toList, hcv]
    exact hu
  obtain ⟨v', w', hr, h2, h3, h4, h5⟩ := run_append_own_at (P := Tryz.prog) (W.alloc (.cells cv TRP)) B 45 o.type TRP i _ 5 48 Tryz.underlying45 hi hz0 hz1 hz2 rfl (by decide) _ n1 _ hown2.row ⟨W.heap.size, 0, none⟩ 1 1 (prc v) (by simp [prc]) hcell (prc_one v) (by unfold maxLen; omega) (by omega) hB2
  unfold Oper.wp execOp
  simp only [ho, resolve, invoke, builtin, Sem.run_bind, Sem.run_pure, Result.andThen_ok, List.map_toArray, List.map_cons, List.map_nil, hs, hx, hr]
  obtain ⟨a', c', rfl⟩ := slice_of_row h2
  refine h a' c' w' ⟨by rw [List.length_append]; simp; omega, ?_⟩ (((Below.refl _ _).alloc hB _).trans ((Below.refl B _).grown h3 hB2 hlt)) (by rw [← own_blk a1 n1 c1]; exact h3)
  rw [cellsP_append]
  simpa [cellsP] using h2
theorem OwnP.less {w : World} {B : Nat} {a : Option Addr} {n c : Nat} {l : List PlR} (h : OwnP w B a n c l) {B' : Nat} (hB : B' ≤ B) : OwnP w B' a n c l := by
  refine ⟨h.size, h.row.1, ?_⟩
  rcases h.row.2 with hn | ⟨g, c, cur, hv, hb, rest⟩
  · exact .inl hn
  · exact .inr ⟨g, c, cur, hv, Nat.le_trans hB hb, rest⟩
theorem OwnP.cells {w : World} {B : Nat} {a : Option Addr} {n c : Nat} {l : List PlR} (h : OwnP w B a n c l) (hp : 0 < n) : ∃ g, a = some ⟨g, 0, none⟩ ∧ ∀ j, j < n * 5 → w.cell? ⟨g, j, none⟩ = (cellsP l)[j]? := by
  obtain ⟨g, hg⟩ := (row_addr h.row).2.2.2 hp
  subst hg
  refine ⟨g, rfl, fun j hj => ?_⟩
  rcases h.row.2 with ⟨hn, _⟩ | ⟨g2, c2, cur, hv, hb, hbk, h1, h2, h3, h4⟩
  · cases hn
  · cases hv
    rw [cell_of_row w g j cur _ _ hbk, ← Array.getElem?_toList, ← h4, List.getElem?_take]
    rw [if_pos hj]
theorem OwnP.cells5 {w : World} {B : Nat} {a : Option Addr} {n c : Nat} {l : List PlR} (h : OwnP w B a n c l) {i : Nat} (hi : i < l.length) : ∃ g, a = some ⟨g, 0, none⟩ ∧ w.cell? ⟨g, i * 5, none⟩ = some (.string l[i].k.user) ∧ w.cell? ⟨g, i * 5 + 1, none⟩ = some (.int .u64 (l[i].k.seq : Int)) ∧ w.cell? ⟨g, i * 5 + 2, none⟩ = some (.int .i64 l[i].k.kind) ∧ w.cell? ⟨g, i * 5 + 3, none⟩ = some (.int .i64 (l[i].p : Int)) ∧ w.cell? ⟨g, i * 5 + 4, none⟩ = some (.int .i64 (l[i].s : Int)) := by
  have hs := h.size
  obtain ⟨g, rfl, hc⟩ := h.cells (by omega)
  refine ⟨g, rfl, ?_, ?_, ?_, ?_, ?_⟩
  · rw [hc _ (by omega)]
    have := cellsP_get l i 0 hi (by omega)
    rw [Nat.add_zero] at this
    rw [this]
    rfl
  · rw [hc _ (by omega), cellsP_get l i 1 hi (by omega)]
    rfl
  · rw [hc _ (by omega), cellsP_get l i 2 hi (by omega)]
    rfl
  · rw [hc _ (by omega), cellsP_get l i 3 hi (by omega)]
    rfl
  · rw [hc _ (by omega), cellsP_get l i 4 hi (by omega)]
    rfl
theorem idxP (W : World) {a : Option Addr} {b n c i : Nat} (ha : a = some ⟨b, 0, none⟩) (hi : i < n) : (Instr.indexAt 45 (.slice a n c) (.int .i64 (i : Int))).run Tryz.prog W = .ok (.pointer (some ⟨b, i * 5, none⟩)) W := by
  subst ha
  have h1 : (0 : Int) ≤ (i : Int) ∧ (i : Int) < (n : Int) := by omega
  have hsz : (sizeOf (Tryz.prog.elem 45)).run Tryz.prog W = .ok 5 W := by kernel_rfl
  rw [run_indexAt_slice (P := Tryz.prog) (h := (by kernel_rfl : Tryz.prog.underlying 45 = some (.slice (Tryz.prog.elem 45)))), if_pos h1, hsz]
  simp [Result.andThen, Addr.add_lit]
/-- The blocks that places tell. -/
def plBl (body : List UInt8) (l : List PlR) : List (List UInt8 × IK) := l.map fun d => (segB body d.p (d.s + 4), d.k)
/-- Ahead of entry k of the index: at0 the place behind what was told. -/
structure RI (body : List UInt8) (nb : Nat) (l : List KV) (k at0 : Nat) (pl : List PlR) : Prop where
  cnt : pl.length = k
  top : at0 ≤ (nb + 4) * k
  good : at0 ≤ body.length → idxGo body 0 l = (idxGo body at0 (l.drop k)).map (plBl body pl ++ ·)
  bad : body.length < at0 → idxGo body 0 l = none
  inb : at0 ≤ body.length → ∀ d ∈ pl, d.p + d.s + 4 ≤ body.length
theorem RI.start (body : List UInt8) (nb : Nat) (l : List KV) : RI body nb l 0 0 [] := ⟨rfl, by omega, fun _ => by simp [plBl], fun h => by omega, fun _ d hd => by cases hd⟩
theorem RI.no {body : List UInt8} {nb : Nat} {l : List KV} {k at0 : Nat} {pl : List PlR} (h : RI body nb l k at0 pl) (hk : k < l.length) (hb : body.length ≤ nb) (hno : ∀ y, plOf l[k].2.data.toList = some (at0, y) → nb < y) : idxGo body 0 l = none := by
  by_cases hg : at0 ≤ body.length
  · rw [h.good hg, List.drop_eq_getElem_cons hk]
    have : idxGo body at0 (l[k] :: l.drop (k + 1)) = none := by
      cases hp : plOf l[k].2.data.toList with
      | none => exact idx_step_no1 hp
      | some z =>
        obtain ⟨x, y⟩ := z
        refine idx_step_no2 hp ?_
        rintro ⟨rfl, h2⟩
        have := hno y hp
        omega
    rw [this]
    rfl
  · exact h.bad (by omega)
theorem RI.yes {body : List UInt8} {nb : Nat} {l : List KV} {k at0 : Nat} {pl : List PlR} (h : RI body nb l k at0 pl) (hk : k < l.length) {y : Nat} (hp : plOf l[k].2.data.toList = some (at0, y)) (hy : y ≤ nb) : RI body nb l (k + 1) (at0 + y + 4) (pl ++ [⟨l[k].1, at0, y⟩]) := by
  have hmul : (nb + 4) * (k + 1) = (nb + 4) * k + (nb + 4) := Nat.mul_succ _ _
  have h1 := h.top
  refine ⟨by simp [h.cnt], by omega, fun hg => ?_, fun hb => ?_, fun hg d hd => ?_⟩
  · rw [h.good (by omega), List.drop_eq_getElem_cons hk, idx_step_yes hp hg, Option.map_map]
    congr 1
    funext z
    simp [plBl]
  · by_cases hg : at0 ≤ body.length
    · rw [h.good hg, List.drop_eq_getElem_cons hk, idx_step_no2 hp (fun h => by omega)]
      rfl
    · exact h.bad (by omega)
  · rcases List.mem_append.1 hd with hd | hd
    · exact h.inb (by omega) d hd
    · rw [List.mem_singleton.1 hd]
      exact hg
theorem RI.done {body : List UInt8} {nb : Nat} {l : List KV} {k at0 : Nat} {pl : List PlR} (h : RI body nb l k at0 pl) (hk : k = l.length) : idxGo body 0 l = if at0 = body.length then some (plBl body pl) else none := by
  subst hk
  by_cases hg : at0 ≤ body.length
  · rw [h.good hg, List.drop_length]
    unfold idxGo
    split
    · simp
    · rfl
  · rw [h.bad (by omega), if_neg (by omega)]
/-- The document's own table in memory: of the bytes that lie at ab. -/
structure RTb (W : World) (B q : Nat) (ab : Option Addr) (nb cb : Nat) (b : List UInt8) (fa fn cnt : Nat) (pl : List PlR) : Prop where
  ge : B ≤ q
  here : ∃ (af al : Option Addr) (cf cl : Nat), Box W q TRT #[.slice ab nb cb, .slice af fn cf, .slice al pl.length cl, .int .u64 (cnt : Int)] ∧ OwnP W B al pl.length cl pl ∧ ∀ V, BsAt V ab nb cb b → BsAt V af fn cf (segB b fa fn)
theorem RTb.keep {W W' : World} {B q : Nat} {ab : Option Addr} {nb cb : Nat} {b : List UInt8} {fa fn cnt : Nat} {pl : List PlR} (h : RTb W B q ab nb cb b fa fn cnt pl) (hk : ∀ k, B ≤ k → k < W.heap.size → W'.heap[k]? = W.heap[k]?) : RTb W' B q ab nb cb b fa fn cnt pl := by
  obtain ⟨af, al, cf, cl, h1, h2, h3⟩ := h.here
  exact ⟨h.ge, af, al, cf, cl, h1.kept (hk _ h.ge h1.lt), h2.kept (fun k e => hk k (h2.ge e) (tag_lt (h2.tag e))), h3⟩
theorem RTb.below {W W' : World} {B q : Nat} {ab : Option Addr} {nb cb : Nat} {b : List UInt8} {fa fn cnt : Nat} {pl : List PlR} (h : RTb W B q ab nb cb b fa fn cnt pl) (hb : Below W.heap.size W W') : RTb W' B q ab nb cb b fa fn cnt pl := h.keep fun k _ hk => hb.block k hk
end Go.Proofs.YtgegjcnjlibfdaaGreat
/- The contract of the document's own Uvarint and Text: for any bytes they return what the plain functions uvRead and txtRead tell. -/
namespace Go.Proofs.YtgegjcnjlibfdaaGreat
open Go.RowKit

theorem ruv_step (acc c k : Nat) (ha : acc < 2 ^ (7 * k)) (hk : k ≤ 9) (h1 : k = 9 → c % 128 ≤ 1) :
    ((acc : Int) + (c : Int) % 128 * 2 ^ (7 * k) % 18446744073709551616) % 18446744073709551616 = ((acc + c % 128 * 2 ^ (7 * k) : Nat) : Int) := by
  obtain ⟨_, h3, h4⟩ := uv_or acc c k ha hk h1
  have e : (c : Int) % 128 * 2 ^ (7 * k) = ((c % 128 * 2 ^ (7 * k) : Nat) : Int) := by simp
  rw [e]
  omega

set_option maxRecDepth 100000 in
set_option maxHeartbeats 400000 in
theorem ruvarint_any (a : Option Addr) (len cap : Nat) (bs : List UInt8) (w : World) (h : BsAt w a len cap bs) :
    Calls Tryz.prog 40 #[.slice a len cap] w fun e w' => e = .returned (.tuple #[.int .u64 ((uvRead bs).1 : Nat), .int .i64 ((uvRead bs).2.1 : Nat), .int .i64 ((uvRead bs).2.2 : Nat)]) ∧ w' = w := by
  have hcap := h.max
  have hle := h.le
  have hlen := h.size
  unfold maxLen at hcap
  go_enter Tryz.func40, Tryz.ntmps40
  go_wp2
  go_loop [5, 6] (fun n i => ∃ k acc : Nat, k ≤ len ∧ k ≤ 9 ∧ i = .int .i64 k ∧ n = .int .u64 acc ∧ Hid (acc < 2 ^ (7 * k) ∧ uvRead bs = uvGo k acc (bs.drop k))) (fun _ i => len - (intOf i).toNat)
  case atStart => exact ⟨0, 0, Nat.zero_le _, by omega, rfl, rfl, by simp, rfl⟩
  case round =>
    obtain ⟨k, acc, hk, hk9, rfl, rfl, HR⟩ := hrel
    by_cases hlt : k < len
    · obtain ⟨b, off, rfl, hc⟩ := h.here (by omega)
      have hck := hc k hlt
      have hc8 : (bs.getD k 0).toNat < 256 := UInt8.toNat_lt _
      generalize hcd : (bs.getD k 0).toNat = c at hck hc8
      have HC : Hid ((bs.getD k 0).toNat = c) := hcd
      have HB : Hid (k < bs.length) := by unfold Hid; omega
      clear hc hcd hlen h
      by_cases h9 : 9 ≤ k
      · have h9' : ((k : Int) == 9) = true := by simp; omega
        by_cases h1 : 1 < c
        · go_wp2
          go_ret3
          have e := HR.out.2.trans (uvGo_at_long bs k acc HB.out (by omega) (by rw [HC.out]; exact h1))
          rw [e]
          exact ⟨rfl, rfl⟩
        · have h128 : c < 128 := by omega
          go_wp2
          go_ret3
          have e := HR.out.2.trans (uvGo_at_last bs k acc HB.out (by rw [HC.out]; omega) (by rw [HC.out]; exact h128))
          have e2 := ruv_step acc c k HR.out.1 hk9 (by omega)
          rw [e, HC.out]
          exact ⟨ret3 (congrArg (Value.int .u64) e2) rfl rfl, rfl⟩
      · have h9' : ((k : Int) == 9) = false := by simp; omega
        by_cases h128 : c < 128
        · go_wp2
          go_ret3
          have e := HR.out.2.trans (uvGo_at_last bs k acc HB.out (by rw [HC.out]; omega) (by rw [HC.out]; exact h128))
          rw [e, HC.out]
          have e2 := ruv_step acc c k HR.out.1 hk9 (by omega)
          exact ⟨ret3 (congrArg (Value.int .u64) e2) rfl rfl, rfl⟩
        · go_wp2
          go_round
          case rel =>
            have e := HR.out.2.trans (uvGo_at_more bs k acc HB.out (by rw [HC.out]; omega) (by rw [HC.out]; exact h128))
            rw [HC.out] at e
            have e2 := ruv_step acc c k HR.out.1 hk9 (by omega)
            exact ⟨k + 1, acc + c % 128 * 2 ^ (7 * k), by omega, by omega, by go_num, congrArg (Value.int .u64) e2, uv_next acc c k HR.out.1, e⟩
          case measure => simp [intOf]; omega
    · go_wp2
      go_ret3
      have e := HR.out.2.trans (uvGo_at_nil bs k acc (by omega))
      rw [e]
      exact ⟨rfl, rfl⟩

theorem ruvarint_eq {a : Option Addr} {len cap : Nat} {bs : List UInt8} {w : World} (h : BsAt w a len cap bs) {n k er : Nat} (hr : uvRead bs = (n, k, er)) :
    Calls Tryz.prog 40 #[.slice a len cap] w fun e w' => e = .returned (.tuple #[.int .u64 (n : Nat), .int .i64 (k : Nat), .int .i64 (er : Nat)]) ∧ w' = w := by
  have := ruvarint_any a len cap bs w h
  rw [hr] at this
  exact this
end Go.Proofs.YtgegjcnjlibfdaaGreat
/- The contract of the document's own Decode: the key of bytes, as plain functions tell it. -/
namespace Go.Proofs.YtgegjcnjlibfdaaGreat
open Go.RowKit

set_option maxRecDepth 100000 in
set_option maxHeartbeats 400000 in
theorem rdecode_any (a : Option Addr) (len cap : Nat) (bs : List UInt8) (w : World) (h : BsAt w a len cap bs) :
    Calls Tryz.prog 82 #[.slice a len cap] w fun e w' => e = .returned (.tuple #[.agg #[.string (strOf (keyUser bs)), .int .u64 ((keySeq bs : Nat) : Int), .int .i64 ((keyKind bs : Nat) : Int)], .int .i64 ((keyErr bs : Nat) : Int)]) ∧ Below w.heap.size w w' := by
  have hcap := h.max
  have hle := h.le
  have hlen := h.size
  unfold maxLen at hcap
  by_cases h1 : len < 8
  · have hno : keyOk bs = false := by rw [Bool.eq_false_iff, Ne, keyOk_iff]; omega
    have HE : Hid (keyUser bs = [] ∧ keySeq bs = 0 ∧ keyKind bs = 0 ∧ keyErr bs = 20) := by simp [Hid, keyUser, keySeq, keyKind, keyErr, hno]
    clear hlen h hno
    go_enter Tryz.func82, Tryz.ntmps82
    go_wp2
    obtain ⟨e1, e2, e3, e4⟩ := HE.out
    rw [e1, e2, e3, e4]
    refine bodyPost_ret (v := .tuple #[.agg #[.string (strOf []), .int .u64 0, .int .i64 0], .int .i64 20]) (by simp [results, Tryz.results82, go_sem, strOf]) rfl ⟨rfl, (Below.refl _ _).alloc (Nat.le_refl _) _⟩
  · by_cases h2 : 72 < len
    · have hno : keyOk bs = false := by rw [Bool.eq_false_iff, Ne, keyOk_iff]; omega
      have HE : Hid (keyUser bs = [] ∧ keySeq bs = 0 ∧ keyKind bs = 0 ∧ keyErr bs = 20) := by simp [Hid, keyUser, keySeq, keyKind, keyErr, hno]
      clear hlen h hno
      go_enter Tryz.func82, Tryz.ntmps82
      go_wp2
      obtain ⟨e1, e2, e3, e4⟩ := HE.out
      rw [e1, e2, e3, e4]
      refine bodyPost_ret (v := .tuple #[.agg #[.string (strOf []), .int .u64 0, .int .i64 0], .int .i64 20]) (by simp [results, Tryz.results82, go_sem, strOf]) rfl ⟨rfl, (Below.refl _ _).alloc (Nat.le_refl _) _⟩
    · obtain ⟨u, rfl⟩ : ∃ u, len = u + 8 := ⟨len - 8, by omega⟩
      obtain ⟨b, off, rfl, _⟩ := h.here (by omega)
      have HT : Hid (BsAt w (some ⟨b, off + u, none⟩) 8 (cap - u) (bs.drop u)) := by
        have := h.sub u 8 (by omega)
        rwa [List.take_of_length_le (by simp; omega)] at this
      have HU : Hid (BsAt w (some ⟨b, off, none⟩) u cap (bs.take u)) := h.upTo u (by omega)
      have HN : Hid (fxRead (bs.drop u) 8 = (keyNum bs, 0)) := by
        unfold fxRead keyNum Hid
        rw [if_neg (by omega), if_neg (by simp; omega), hlen]
        simp
        rw [List.take_of_length_le (by simp; omega)]
      have hlt := keyNum_lt bs
      have HX : Hid (bs.length = u + 8) := hlen
      generalize hnn : keyNum bs = n at hlt HN
      have HS : Hid ((strOf (bs.take u)).size = u) := by
        show (bs.take u).toArray.size = u
        simp
        omega
      generalize hSS : strOf (bs.take u) = S at HS
      clear hlen h
      by_cases hk : n % 256 ≤ 1
      · have hok : keyOk bs = true := by rw [keyOk_iff, hnn, HX.out]; omega
        have HE : Hid (keyUser bs = bs.take u ∧ keySeq bs = n / 256 ∧ keyKind bs = n % 256 ∧ keyErr bs = 0) := by simp [Hid, keyUser, keySeq, keyKind, keyErr, hok, HX.out, hnn]
        clear hok
        go_enter Tryz.func82, Tryz.ntmps82
        go_wp2_with (first
          | (go_at_call 81; refine (rfixed_any _ _ _ (bs.drop u) 8 _ (HT.out.alloc _)).mono ?_; rw [HN.out]; rintro e w1 ⟨rfl, rfl⟩; have hcv := conv_of (HU.out.alloc (.cells #[.string ⟨#[]⟩, .int .u64 0, .int .i64 0] 52))))
        obtain ⟨e1, e2, e3, e4⟩ := HE.out
        rw [e1, e2, e3, e4, hSS]
        refine bodyPost_ret (v := .tuple #[.agg #[.string S, .int .u64 ((n : Int) / 256), .int .i64 ((n : Int) % 256)], .int .i64 0]) (by simp [results, Tryz.results82, go_sem, *]) rfl ⟨rfl, ?_⟩
        exact (Below.refl _ _).alloc (Nat.le_refl _) _
      · have hno : keyOk bs = false := by rw [Bool.eq_false_iff, Ne, keyOk_iff, hnn]; omega
        have HE : Hid (keyUser bs = [] ∧ keySeq bs = 0 ∧ keyKind bs = 0 ∧ keyErr bs = 20) := by simp [Hid, keyUser, keySeq, keyKind, keyErr, hno]
        clear hno
        go_enter Tryz.func82, Tryz.ntmps82
        go_wp2_with (first
          | (go_at_call 81; refine (rfixed_any _ _ _ (bs.drop u) 8 _ (HT.out.alloc _)).mono ?_; rw [HN.out]; rintro e w1 ⟨rfl, rfl⟩; have hcv := conv_of (HU.out.alloc (.cells #[.string ⟨#[]⟩, .int .u64 0, .int .i64 0] 52))))
        obtain ⟨e1, e2, e3, e4⟩ := HE.out
        rw [e1, e2, e3, e4]
        refine bodyPost_ret (v := .tuple #[.agg #[.string (strOf []), .int .u64 0, .int .i64 0], .int .i64 20]) (by simp [results, Tryz.results82, go_sem, strOf, *]) rfl ⟨rfl, ?_⟩
        exact (Below.refl _ _).alloc (Nat.le_refl _) _
end Go.Proofs.YtgegjcnjlibfdaaGreat
