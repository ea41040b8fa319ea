/- Merge's iterator in memory; fit; an iterator goes to what comes first. -/
import Derived.Test.YtfijibengmgegaaM16MgK
namespace Go.Proofs.Ytfijibengmgegaa
open Go.RowKit
set_option linter.unusedVariables false
set_option linter.unusedSimpArgs false
abbrev TItr : TypeId := 58
set_option maxRecDepth 100000 in
theorem eqlP (i : Nat) (j : Int) (W : World) : (binOp .eql TPl (.agg #[.int .i64 (i : Int), .int .i64 j]) (.agg #[.int .i64 (i : Int), .int .i64 j])).run Try.prog W = .ok (.bool true) W := by
  simp [go_sem, Try.underlying55, Try.underlying3]
section
variable {w w' : World} {B hp : Nat} {la : Option Addr} {ln lc : Nat} {up : Bool} {pa : Option Addr} {pc : Nat} {ps : List PlL} {last : PlL} {L : List (List KV)} {v : Nat → Nat}
set_option maxRecDepth 100000 in
set_option maxHeartbeats 2000000 in
theorem fit_any (h : Hd w B hp la ln lc up pa pc ps last) (s : Bool) :
    Calls Try.prog 31 #[at_ hp, .int .i64 (stepI s), .agg #[.int .i64 (last.1 : Int), .int .i64 (last.2 : Int)]] w fun e w' => e = .returned (.bool (s == up)) ∧ Below w.heap.size w w' := by
  have hB0 := (Below.refl w.heap.size w).alloc (Nat.le_refl _) (.cells #[.int .i64 (last.1 : Int), .int .i64 (last.2 : Int)] TPl)
  have hh := h.below hB0
  have y1 := hh.box.cell 1
  have y4 := hh.box.cell 4
  have y5 := hh.box.cell 5
  simp only [List.getElem?_toArray, List.getElem?_cons_succ, List.getElem?_cons_zero] at y1 y4 y5
  have HB : Hid (∀ m, Below w.heap.size w ((w.alloc (.cells #[.int .i64 (last.1 : Int), .int .i64 (last.2 : Int)] TPl)).drewN m)) := fun m => Below.drewM hB0 m
  have heq := eqlP last.1 (last.2 : Int)
  have hpl := h.box.lt
  clear hh h hB0
  cases s <;> cases up <;> simp only [stepI] at y1 ⊢
  · go_enter Try.func31, Try.ntmps31
    go_wp2_with fail
    go_quiet (fail)
    go_wp2
    go_ret
    exact ⟨ret1 rfl, HB.out _⟩
  · go_enter Try.func31, Try.ntmps31
    go_wp2_with fail
    go_quiet (fail)
    go_wp2
    go_ret
    exact ⟨ret1 rfl, HB.out _⟩
  · go_enter Try.func31, Try.ntmps31
    go_wp2_with fail
    go_quiet (fail)
    go_wp2
    go_ret
    exact ⟨ret1 rfl, HB.out _⟩
  · go_enter Try.func31, Try.ntmps31
    go_wp2_with fail
    go_quiet (fail)
    go_wp2
    go_ret
    exact ⟨ret1 rfl, HB.out _⟩
end
/-- Lists whose blocks are all among these. -/
def LsR (W : World) (RL : Nat → Prop) (a : Option Addr) (n c : Nat) (L : List (List KV)) : Prop := ∀ W' : World, (∀ k, RL k → W'.heap[k]? = W.heap[k]?) → LsAt W' a n c L
theorem LsR.kept {W W' : World} {RL : Nat → Prop} {a : Option Addr} {n c : Nat} {L : List (List KV)} (h : LsR W RL a n c L) (hk : ∀ k, RL k → W'.heap[k]? = W.heap[k]?) : LsR W' RL a n c L := fun W2 h2 => h W2 fun k hr => (h2 k hr).trans (hk k hr)
theorem LsR.ls {W : World} {RL : Nat → Prop} {a : Option Addr} {n c : Nat} {L : List (List KV)} (h : LsR W RL a n c L) : LsAt W a n c L := h W fun _ _ => rfl
/-- The heads of an iterator that is somewhere. -/
structure Hs (W : World) (R RL : Nat → Prop) (p : Nat) (la : Option Addr) (lc : Nat) (L : List (List KV)) (i : Nat) (x : PlL) (up : Bool) (hp : Nat) (pa : Option Addr) (pc : Nat) (ps : List PlL) (v : Nat → Nat) : Prop where
  hd : Hd W 0 hp la L.length lc up pa pc ps x
  rh : R hp ∧ ¬ RL hp
  rp : ∀ k, blkOf pa = some k → R k ∧ ¬ RL k
  gp : Gp L up v L.length ps
  cut : CutL L v
  at' : (allP L)[i]? = some x
  next : up = true → sumV v L.length = i + 1
  prev : up = false → sumV v L.length = i
/-- An iterator in memory. -/
structure It (W : World) (R RL : Nat → Prop) (p : Nat) (la : Option Addr) (lc : Nat) (L : List (List KV)) (x : PlL) (b : Bool) (hv : Value) : Prop where
  box : Box W p TItr #[.slice la L.length lc, .int .i64 (x.1 : Int), .int .i64 (x.2 : Int), .bool b, hv]
  lt : ∀ k, R k → k < W.heap.size
  rp : R p ∧ ¬ RL p
  rl : ∀ k, RL k → R k
  ls : LsR W RL la L.length lc L
  rise : RiseL L
  few : FewL L
def Mg16 : MgRel := fun W R p L o => ∃ (RL : Nat → Prop) (la : Option Addr) (lc : Nat) (x : PlL) (hv : Value), It W R RL p la lc L x o.isSome hv ∧ ∀ i, o = some i → ∃ up hp pa pc ps v, hv = at_ hp ∧ Hs W R RL p la lc L i x up hp pa pc ps v
section
variable {W W' : World} {R RL : Nat → Prop} {p : Nat} {la : Option Addr} {lc : Nat} {L : List (List KV)} {x : PlL} {b : Bool} {hv : Value} {i hp : Nat} {up : Bool} {pa : Option Addr} {pc : Nat} {ps : List PlL} {v : Nat → Nat}
theorem It.kept (h : It W R RL p la lc L x b hv) (hs : W.heap.size ≤ W'.heap.size) (hk : ∀ k, R k → W'.heap[k]? = W.heap[k]?) : It W' R RL p la lc L x b hv := ⟨h.box.kept (hk p h.rp.1), fun k hr => Nat.lt_of_lt_of_le (h.lt k hr) hs, h.rp, h.rl, h.ls.kept fun k hr => hk k (h.rl k hr), h.rise, h.few⟩
theorem Hs.kept (h : Hs W R RL p la lc L i x up hp pa pc ps v) (hk : ∀ k, R k → W'.heap[k]? = W.heap[k]?) : Hs W' R RL p la lc L i x up hp pa pc ps v := ⟨h.hd.kept (hk hp h.rh.1) fun k e => hk k (h.rp k e).1, h.rh, h.rp, h.gp, h.cut, h.at', h.next, h.prev⟩
theorem mg_kept {o : Option Nat} (h : Mg16 W R p L o) (hs : W.heap.size ≤ W'.heap.size) (hk : ∀ k, R k → W'.heap[k]? = W.heap[k]?) : Mg16 W' R p L o := by
  obtain ⟨RL, la, lc, x, hv, h1, h2⟩ := h
  refine ⟨RL, la, lc, x, hv, h1.kept hs hk, fun i e => ?_⟩
  obtain ⟨up, hp, pa, pc, ps, v, e1, h3⟩ := h2 i e
  exact ⟨up, hp, pa, pc, ps, v, e1, h3.kept hk⟩
theorem mg_lt {o : Option Nat} (h : Mg16 W R p L o) : ∀ k, R k → k < W.heap.size := by
  obtain ⟨RL, la, lc, x, hv, h1, h2⟩ := h
  exact h1.lt
theorem mg_fit {o : Option Nat} (h : Mg16 W R p L o) : ∀ i, o = some i → i < (allL L).length := fun i e => by
  obtain ⟨RL, la, lc, x, hv, h1, h2⟩ := h
  obtain ⟨up, hp, pa, pc, ps, v, e1, h3⟩ := h2 i e
  have := (List.getElem?_eq_some_iff.1 h3.at').1
  simpa [allL] using this
theorem few_each (h : FewL L) (i : Nat) : lenL L i ≤ 4000000000000 := by
  have h1 := h.2
  rw [show (allL L).length = (allP L).length by simp [allL], all_len] at h1
  by_cases hi : i < L.length
  · have := sum_ge (lenL L) i L.length hi
    omega
  · rw [lenL_out (by omega)]
    omega
/-- Where one is when what comes next to a gap is taken. -/
def afterT (L : List (List KV)) (v : Nat → Nat) : Bool → Option Nat
  | true => normO (allL L) (sumV v L.length)
  | false => if sumV v L.length = 0 then none else some (sumV v L.length - 1)
theorem Hd.zero {w : World} {B hp : Nat} {la : Option Addr} {ln lc : Nat} {up : Bool} {pa : Option Addr} {pc : Nat} {ps : List PlL} {last : PlL} (h : Hd w B hp la ln lc up pa pc ps last) : Hd w 0 hp la ln lc up pa pc ps last := ⟨Nat.zero_le _, h.box, h.row.size, h.row.row.1, by
  rcases h.row.row.2 with hn | ⟨g, c, cur, hv, hb, rest⟩
  · exact .inl hn
  · exact .inr ⟨g, c, cur, hv, Nat.zero_le _, rest⟩⟩
end
end Go.Proofs.Ytfijibengmgegaa
