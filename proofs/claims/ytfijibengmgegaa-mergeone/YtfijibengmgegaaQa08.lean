/- The statements' gone: an iterator goes. -/
import Derived.Test.YtfijibengmgegaaQa07
namespace Go.Proofs.Ytfijibengmgegaa
open Go.RowKit
set_option linter.unusedVariables false
set_option linter.unusedSimpArgs false
/-- Where one is behind any way to go. -/
def goneO (l : List KV) (kind : Int) (k : IK) (o : Option Nat) : Option Nat := if 1 ≤ kind ∧ kind ≤ 5 then goP l kind.toNat k o else o
theorem goneO_nat {l : List KV} {g : Nat} (hg : 1 ≤ g ∧ g ≤ 5) (k : IK) (o : Option Nat) : goneO l (g : Int) k o = goP l g k o := by
  unfold goneO
  rw [if_pos (by omega)]
  rfl
abbrev TGo : TypeId := 43
def goA (kind : Int) (k : IK) : Array Value := #[.int .i64 kind, .string k.user, .int .u64 (k.seq : Int), .int .i64 k.kind]
theorem MgPost.from {D : MgRel} {R : Nat → Prop} {p : Nat} {L : List (List KV)} {o : Option Nat} {w W w' : World} (h : MgPost D R p L o W w') (hc : Chg R w W) : MgPost D R p L o w w' := by
  obtain ⟨R', h1, h2, h3⟩ := h
  exact ⟨R', h1, fun k hk => (h2 k hk).imp id fun h => Nat.le_trans hc.size h, hc.andThen h3 fun _ _ x => x⟩
set_option maxRecDepth 100000 in
set_option maxHeartbeats 4000000 in
theorem gone_any {D : MgRel} (F : MgOk D) {w : World} {R : Nat → Prop} {p : Nat} {L : List (List KV)} {o : Option Nat} (h : D w R p L o) (kind : Int) (k : IK) :
    Calls Try.prog 14 #[at_ p, .agg #[.int .i64 kind, .string k.user, .int .u64 (k.seq : Int), .int .i64 k.kind]] w fun e w' => e = .returned (.tuple #[]) ∧ MgPost D R p L (goneO (allL L) kind k o) w w' := by
  obtain ⟨W1, eW⟩ : ∃ W1, W1 = w.alloc (.cells (goA kind k) TGo) := ⟨_, rfl⟩
  have hk1 : D W1 R p L o := by rw [eW]; exact F.kept h (by simp) fun q hq => Below.heap_alloc w _ q (F.lt h q hq)
  have HC : Hid (Chg R w W1) := by rw [eW]; exact (Chg.refl _ w).alloc _
  have HD : Hid (D W1 R p L o) := hk1
  have HB : Hid (Box W1 w.heap.size TGo (goA kind k)) := by rw [eW]; exact Box.new _ _ _
  have c0 : W1.cell? ⟨w.heap.size, 0, none⟩ = some (.int .i64 kind) := HB.out.cell 0
  have c1 : W1.cell? ⟨w.heap.size, 1, none⟩ = some (.string k.user) := HB.out.cell 1
  have c2 : W1.cell? ⟨w.heap.size, 2, none⟩ = some (.int .u64 (k.seq : Int)) := HB.out.cell 2
  have c3 : W1.cell? ⟨w.heap.size, 3, none⟩ = some (.int .i64 k.kind) := HB.out.cell 3
  unfold goA at eW
  clear h hk1
  go_enter Try.func14, Try.ntmps14
  go_upto_region 1 with fail
  rw [← eW]
  clear eW
  generalize w.heap.size = q at HB c0 c1 c2 c3
  by_cases h1 : kind = 1
  · subst h1
    go_wp2_with fail
    refine (F.first HD.out).mono ?_
    rintro _ w2 ⟨rfl, hp⟩
    have HP : Hid (MgPost D R p L (goneO (allL L) 1 k o) w w2) := hp.from HC.out
    clear hp
    go_wp2
    go_returns
    exact ⟨rfl, HP.out⟩
  by_cases h2 : kind = 2
  · subst h2
    go_wp2_with fail
    refine (F.last HD.out).mono ?_
    rintro _ w2 ⟨rfl, hp⟩
    have HP : Hid (MgPost D R p L (goneO (allL L) 2 k o) w w2) := hp.from HC.out
    clear hp
    go_wp2
    go_returns
    exact ⟨rfl, HP.out⟩
  by_cases h3 : kind = 3
  · subst h3
    go_wp2_with fail
    refine (F.seek k HD.out).mono ?_
    rintro _ w2 ⟨rfl, hp⟩
    have HP : Hid (MgPost D R p L (goneO (allL L) 3 k o) w w2) := hp.from HC.out
    clear hp
    go_wp2
    go_returns
    exact ⟨rfl, HP.out⟩
  by_cases h4 : kind = 4
  · subst h4
    go_wp2_with fail
    refine (F.next HD.out).mono ?_
    rintro _ w2 ⟨rfl, hp⟩
    have HP : Hid (MgPost D R p L (goneO (allL L) 4 k o) w w2) := hp.from HC.out
    clear hp
    go_wp2
    go_returns
    exact ⟨rfl, HP.out⟩
  by_cases h5 : kind = 5
  · subst h5
    go_wp2_with fail
    refine (F.prev HD.out).mono ?_
    rintro _ w2 ⟨rfl, hp⟩
    have HP : Hid (MgPost D R p L (goneO (allL L) 5 k o) w w2) := hp.from HC.out
    clear hp
    go_wp2
    go_returns
    exact ⟨rfl, HP.out⟩
  have HO : Hid (goneO (allL L) kind k o = o) := if_neg (by omega)
  have e1 : (kind == 1) = false := by simpa using h1
  have e2 : (kind == 2) = false := by simpa using h2
  have e3 : (kind == 3) = false := by simpa using h3
  have e4 : (kind == 4) = false := by simpa using h4
  have e5 : (kind == 5) = false := by simpa using h5
  go_wp2
  go_returns
  rw [HO.out]
  exact ⟨rfl, R, HD.out, fun _ hq => .inl hq, HC.out⟩
end Go.Proofs.Ytfijibengmgegaa
/- Lists that are lent: made, and turned to nothing. -/
namespace Go.Proofs.Ytfijibengmgegaa
open Go.RowKit
set_option linter.unusedVariables false
set_option linter.unusedSimpArgs false
theorem OwnK.madeE (w : World) : OwnK (w.alloc (.cells #[] TKV)) w.heap.size (some ⟨w.heap.size, 0, none⟩) 0 0 [] := ⟨rfl, World.ownsRow_made w #[] 0 (Nat.le_refl _) (Nat.zero_le _) (by simp)⟩
/-- A row of entries from M on, below H, whatever they are. -/
def RowX (W : World) (M H : Nat) (v : Value) (m : Nat) : Prop := ∃ ad c, v = .slice ad m c ∧ (0 < m → ∃ b arr, ad = some ⟨b, 0, none⟩ ∧ M ≤ b ∧ b < H ∧ Box W b TKV arr ∧ m * 4 ≤ arr.size)
theorem OwnK.rowX {W : World} {M H : Nat} {ad : Option Addr} {m c : Nat} {l : List KV} (h : OwnK W M ad m c l) (hH : W.heap.size ≤ H) : RowX W M H (.slice ad m c) m := by
  refine ⟨ad, c, rfl, fun hm => ?_⟩
  rcases h.row.2 with ⟨_, hn⟩ | ⟨g, c', cur, hv, hb, hg, hn, _, hz, _⟩
  · omega
  · simp only [Value.slice.injEq, true_and] at hv
    obtain ⟨rfl, rfl⟩ := hv
    have hx : Box W g TKV cur := hg
    exact ⟨g, cur, rfl, hb, Nat.lt_of_lt_of_le hx.lt hH, hx, by rw [hz]; exact Nat.mul_le_mul_right 4 hn⟩
theorem RowX.kept {W W' : World} {M H : Nat} {v : Value} {m : Nat} (h : RowX W M H v m) (hk : ∀ k, M ≤ k → k < H → W'.heap[k]? = W.heap[k]?) : RowX W' M H v m := by
  obtain ⟨ad, c, hv, h1⟩ := h
  refine ⟨ad, c, hv, fun hm => ?_⟩
  obtain ⟨b, arr, h2, h3, h4, h5, h6⟩ := h1 hm
  exact ⟨b, arr, h2, h3, h4, h5.kept (hk b h3 h4), h6⟩
theorem RowX.set {W : World} {M H : Nat} {v : Value} {m b : Nat} {arr : Array Value} (h : RowX W M H v m) (hb : Box W b TKV arr) (j : Nat) (x : Value) : RowX (W.setCell ⟨b, j, none⟩ x) M H v m := by
  obtain ⟨ad, c, hv, h1⟩ := h
  refine ⟨ad, c, hv, fun hm => ?_⟩
  obtain ⟨b', arr', h2, h3, h4, h5, h6⟩ := h1 hm
  by_cases e : b' = b
  · subst e
    exact ⟨b', _, h2, h3, h4, h5.set j x, by simpa using h6⟩
  · exact ⟨b', arr', h2, h3, h4, h5.other e j x, h6⟩
/-- The lent lists: their slices, in a row of the call's own. -/
structure Lent16 (W : World) (M H : Nat) (a : Option Addr) (n c : Nat) (ms : Nat → Nat) : Prop where
  ex : ∃ vs, OwnSl W M a n c vs ∧ (∀ k, blkOf a = some k → k < H) ∧ ∀ j, j < n → ∃ v, vs[j]? = some v ∧ RowX W M H v (ms j)
theorem Lent16.kept {W W' : World} {M H : Nat} {a : Option Addr} {n c : Nat} {ms : Nat → Nat} (h : Lent16 W M H a n c ms) (hk : ∀ k, M ≤ k → k < H → W'.heap[k]? = W.heap[k]?) : Lent16 W' M H a n c ms := by
  obtain ⟨vs, h1, h2, h3⟩ := h.ex
  refine ⟨vs, h1.kept fun k e => hk k (h1.ge e) (h2 k e), h2, fun j hj => ?_⟩
  obtain ⟨v, h4, h5⟩ := h3 j hj
  exact ⟨v, h4, h5.kept hk⟩
theorem Lent16.set {W : World} {M H : Nat} {a : Option Addr} {n c : Nat} {ms : Nat → Nat} (h : Lent16 W M H a n c ms) {b : Nat} {arr : Array Value} (hb : Box W b TKV arr) (j : Nat) (x : Value) : Lent16 (W.setCell ⟨b, j, none⟩ x) M H a n c ms := by
  obtain ⟨vs, h1, h2, h3⟩ := h.ex
  refine ⟨vs, h1.kept fun k e => Below.heap_setCell _ _ _ _ (fun he => ?_), h2, fun i hi => ?_⟩
  · have e1 := h1.tag e
    have he' : k = b := he
    rw [he', hb.tag] at e1
    exact absurd (Option.some.inj e1) (by decide)
  · obtain ⟨v, h4, h5⟩ := h3 i hi
    exact ⟨v, h4, h5.set hb j x⟩
/-- Where a row's slice stands, and what it is. -/
theorem Lent16.at {W : World} {M H : Nat} {a : Option Addr} {n c : Nat} {ms : Nat → Nat} (h : Lent16 W M H a n c ms) {i : Nat} (hi : i < n) :
    ∃ (g : Nat) (ad : Option Addr) (ci : Nat), (∀ V : World, (Instr.indexAt 23 (.slice a n c) (.int .i64 (i : Int))).run Try.prog V = .ok (.pointer (some ⟨g, i, none⟩)) V) ∧ W.cell? ⟨g, i, none⟩ = some (.slice ad (ms i) ci) ∧
      (0 < ms i → ∃ b arr, ad = some ⟨b, 0, none⟩ ∧ M ≤ b ∧ b < H ∧ Box W b TKV arr ∧ ms i * 4 ≤ arr.size) := by
  obtain ⟨vs, h1, h2, h3⟩ := h.ex
  obtain ⟨_, _, _, h4⟩ := h1.cells
  obtain ⟨g, rfl, hc⟩ := h4 (by omega)
  obtain ⟨v, hv, ad, ci, rfl, hx⟩ := h3 i hi
  refine ⟨g, ad, ci, fun V => ?_, by rw [hc i hi, hv], hx⟩
  have := idxL V (b := g) (off := 0) (n := n) (c := c) hi
  rwa [Nat.zero_add] at this
end Go.Proofs.Ytfijibengmgegaa
