/- An iterator of a view: At. -/
import Derived.Test.YtjoamhcehpjepabQa13
import Derived.Test.YtjoamhcehpjepabQa12
import Derived.RangeFuncSeq
import Derived.RangeFuncCalls
import Derived.RangeFuncLeaves
import Derived.Shelf.Abstract
import Derived.Shelf.RegionOpen
import Derived.OwnWalkIn
import Derived.TacticsInMore
import Derived.LoopNIn
import Derived.LoopIn
namespace Go.Proofs.Ytjoamhcehpjepab
open Go.RowKit
set_option linter.unusedVariables false
set_option linter.unusedSimpArgs false
section
variable {T : Tl} {W W' w : World} {R RL : Nat → Prop} {p B : Nat} {la : Option Addr} {lc : Nat} {L : List (List KV)} {x last : PlL} {b : Bool} {hv : Value} {i hp : Nat} {up : Bool} {pa : Option Addr} {pc : Nat} {ps : List PlL} {v : Nat → Nat} {o : Option Nat}
theorem mv_below (h : MgV T w R p L o) (hb : Below w.heap.size w W') : MgPost (MgV T) R p L o w W' := ⟨R, mv_kept h hb.size fun k hk => hb.block k (mv_lt h k hk), fun k hk => .inl hk, Chg.of hb⟩
set_option maxRecDepth 100000 in
set_option maxHeartbeats 2000000 in
theorem at_v (h : MgV T w R p L o) : Calls Try.prog 37 #[at_ p] w fun e w' => e = .returned (.tuple #[kvV (told16 (allL L) o).1, .bool (told16 (allL L) o).2]) ∧ MgPost (MgV T) R p L o w w' := by
  have HM : Hid (MgV T w R p L o) := h
  obtain ⟨RL, la, lc, x, hv, hit, hso⟩ := h
  have x3 := hit.box.cell 3
  simp only [List.getElem?_toArray, List.getElem?_cons_succ, List.getElem?_cons_zero] at x3
  have hpl := hit.box.lt
  cases o with
  | none =>
    have x3 : w.cell? ⟨p, 3, none⟩ = some (.bool false) := x3
    have HF : Hid (MgPost (MgV T) R p L none w (w.alloc (.cells kvz4 TKV))) := mv_below HM.out ((Below.refl _ _).alloc (Nat.le_refl _) _)
    clear hit hso
    go_enter Try.func37, Try.ntmps37
    go_wp2
    exact bodyPost_ret (v := .tuple #[.agg kvz4, .bool false]) (by simp [results, Try.results37, go_sem]) rfl ⟨rfl, HF.out⟩
  | some i =>
    obtain ⟨up, hp, pa, pc, ps, v, rfl, hs⟩ := hso i rfl
    have x3 : w.cell? ⟨p, 3, none⟩ = some (.bool true) := x3
    have hval : x.1 < L.length ∧ x.2 < lenL L x.1 := by
      have h1 : validL L x := mem_allP.1 (List.mem_of_getElem? hs.at')
      have h2 : x.2 < lenL L x.1 := h1
      refine ⟨?_, h2⟩
      apply Classical.byContradiction
      intro hn
      rw [lenL_out (L := L) (i := x.1) (by omega)] at h2
      omega
    have HIT : Hid (ItV T w R RL p la lc L x true (at_ hp)) := hit
    have hq := Box.new w TKV kvz4
    have HW1 : Hid (Below w.heap.size w (w.alloc (.cells kvz4 TKV)) ∧ Box (w.alloc (.cells kvz4 TKV)) w.heap.size TKV kvz4 ∧ (w.alloc (.cells kvz4 TKV)).heap.size = w.heap.size + 1) := ⟨(Below.refl _ _).alloc (Nat.le_refl _) _, hq, by simp⟩
    have HT : Hid (told16 (allL L) (some i) = (entL L x, true)) := told_at hs.at'
    have HX : Hid (∀ W, Below w.heap.size w W → W.cell? ⟨p, 0, none⟩ = some (.slice la L.length lc) ∧ W.cell? ⟨p, 1, none⟩ = some (.int .i64 (x.1 : Int)) ∧ W.cell? ⟨p, 2, none⟩ = some (.int .i64 (x.2 : Int))) := fun W hW => by
      have hb := hit.box.kept (hW.block p hit.box.lt)
      exact ⟨hb.cell 0, hb.cell 1, hb.cell 2⟩
    have HE : Hid (∀ W, Below w.heap.size w W → Calls Try.prog 40 #[.slice la L.length lc, .agg #[.int .i64 (x.1 : Int), .int .i64 (x.2 : Int)]] W fun e w' => e = .returned (.agg #[.string (entL L x).1.user, .int .u64 ((entL L x).1.seq : Int), .int .i64 (entL L x).1.kind, .string (entL L x).2]) ∧ Below W.heap.size W w') := fun W hW => entry_any (i := x.1) (j := x.2) ((hit.below hW).ls.ls) hval.1 hval.2
    clear hit hso hs hval hq
    generalize entL L x = en at HE HT
    go_enter Try.func37, Try.ntmps37
    go_wp2_with fail
    generalize w.alloc (.cells kvz4 TKV) = w1 at HW1 ⊢
    have HB0 : Hid (Below w1.heap.size w1 w1.drew) := (Below.refl _ _).drew
    obtain ⟨y0, y1, y2⟩ := HX.out _ HW1.out.1.drew
    go_region_held3 (fun V => V.cell? ⟨p, 0, none⟩ = some (.slice la L.length lc) ∧ V.cell? ⟨p, 1, none⟩ = some (.int .i64 (x.1 : Int)) ∧ V.cell? ⟨p, 2, none⟩ = some (.int .i64 (x.2 : Int))) (first | with_reducible exact ⟨y0, y1, y2⟩ | exact HST.out | go_keep)
      (first
       | (go_at_call 40; refine (HE.out _ HW1.out.1.drew).mono ?_; rintro _ vx ⟨rfl, hbx⟩
          have HB2 : Hid (Below w.heap.size w vx ∧ Box vx w.heap.size TKV kvz4) := by
            have hb2 := HB0.out.trans (hbx.mono HB0.out.size)
            exact ⟨HW1.out.1.trans (hb2.mono (by have := HW1.out.2.2; omega)), HW1.out.2.1.kept (hb2.block _ HW1.out.2.1.lt)⟩
          have HST : Hid ((putK vx w.heap.size en).cell? ⟨p, 0, none⟩ = some (.slice la L.length lc) ∧ (putK vx w.heap.size en).cell? ⟨p, 1, none⟩ = some (.int .i64 (x.1 : Int)) ∧ (putK vx w.heap.size en).cell? ⟨p, 2, none⟩ = some (.int .i64 (x.2 : Int))) := by
            have hb := putK_other (e := en) (HIT.out.box.kept (HB2.out.1.block p HIT.out.box.lt)) (show p ≠ w.heap.size by omega)
            exact ⟨hb.cell 0, hb.cell 1, hb.cell 2⟩
          obtain ⟨y0, y1, y2⟩ := HX.out _ HB2.out.1
          have q0 := HB2.out.2.cell 0
          have q1 := HB2.out.2.cell 1
          have q2 := HB2.out.2.cell 2
          have q3 := HB2.out.2.cell 3
          simp only [List.getElem?_toArray, List.getElem?_cons_succ, List.getElem?_cons_zero] at q0 q1 q2 q3
          have qs := HB2.out.2.soft
          clear hbx))
    have HF : Hid (MgPost (MgV T) R p L (some i) w (putK vx w.heap.size en)) := mv_below HM.out ((((HB2.out.1.setCell (p := ⟨w.heap.size, 0, none⟩) (Nat.le_refl _) _).setCell (p := ⟨w.heap.size, 1, none⟩) (Nat.le_refl _) _).setCell (p := ⟨w.heap.size, 2, none⟩) (Nat.le_refl _) _).setCell (p := ⟨w.heap.size, 3, none⟩) (Nat.le_refl _) _)
    have hbk := putK_box (e := en) HB2.out.2
    clear q0 q1 q2 q3 qs y0 y1 y2 HST
    unfold putK at HF hbk
    generalize (((vx.setCell ⟨w.heap.size, 0, none⟩ (.string en.1.user)).setCell ⟨w.heap.size, 1, none⟩ (.int .u64 (en.1.seq : Int))).setCell ⟨w.heap.size, 2, none⟩ (.int .i64 en.1.kind)).setCell ⟨w.heap.size, 3, none⟩ (.string en.2) = W4 at HF hbk ⊢
    have r0 := hbk.cell 0
    have r1 := hbk.cell 1
    have r2 := hbk.cell 2
    have r3 := hbk.cell 3
    simp only [List.getElem?_toArray, List.getElem?_cons_succ, List.getElem?_cons_zero] at r0 r1 r2 r3
    go_wp2
    exact bodyPost_ret (v := .tuple #[.agg #[.string en.1.user, .int .u64 (en.1.seq : Int), .int .i64 en.1.kind, .string en.2], .bool true]) (by simp [results, Try.results37, go_sem, r0, r1, r2, r3]) rfl ⟨by rw [HT.out]; rfl, HF.out⟩
end
end Go.Proofs.Ytjoamhcehpjepab
/- What a view takes of a user, from entry to entry. -/
namespace Go.Proofs.Ytjoamhcehpjepab
open Go.RowKit
set_option linter.unusedVariables false
set_option linter.unusedSimpArgs false
abbrev kvA (e : KV) : Array Value := #[.string e.1.user, .int .u64 (e.1.seq : Int), .int .i64 e.1.kind, .string e.2]
section
variable {T : Tl} {w W W' : World} {R R' : Nat → Prop} {p : Nat} {L : List (List KV)} {o o' : Option Nat} {n0 q : Nat} {r : Option KV} {s i j m : Nat} {u : ByteArray} {S : List KV} {up : Bool}
theorem at17 (h : MgV T W R p L o) {e : KV} {b : Bool} (he : told16 (allL L) o = (e, b)) : Calls Try.prog 37 #[at_ p] W fun x w' => x = .returned (.tuple #[.agg #[.string e.1.user, .int .u64 (e.1.seq : Int), .int .i64 e.1.kind, .string e.2], .bool b]) ∧ MgPost (MgV T) R p L o W w' := by
  have := at_v h
  rw [he] at this
  exact this
theorem told_some {S : List KV} {m : Nat} (h : m < S.length) : told16 S (some m) = (S[m], true) := by
  unfold told16
  simp [List.getD, h]
theorem told_none (S : List KV) : told16 S none = (kvZ, false) := rfl
/-- A user's entries, the one way or the other. -/
def grpV (S : List KV) (i i' : Nat) (u : ByteArray) : Bool → Prop
  | true => GroupV S i i' u
  | false => GroupV S i' i u
def NewP (T : Tl) (w : World) (R : Nat → Prop) (p : Nat) (L : List (List KV)) (i s : Nat) (u : ByteArray) (up : Bool) (e : Ending) (w' : World) : Prop := ∃ i', grpV (allL L) i i' u up ∧ e = .returned (.tuple #[.agg (kvA ((lget17 (allL L) u s).getD kvZ)), .bool (lget17 (allL L) u s).isSome]) ∧ MgPost (MgV T) R p L (posV (allL L) i' up) w w'
/-- Between two entries of a user: what was found lies at n0, the entry that comes at q. -/
structure NewI (T : Tl) (w W : World) (R : Nat → Prop) (p : Nat) (L : List (List KV)) (n0 q : Nat) (o : Option Nat) (r : Option KV) : Prop where
  ne : n0 ≠ q
  bn : Box W n0 TKV (kvA (r.getD kvZ))
  bq : Box W q TKV (kvA (told16 (allL L) o).1)
  iv : ∃ R', IvS T w W R R' p L o fun k => k = n0 ∨ k = q
theorem NewI.pos (h : NewI T w W R p L n0 q o r) : posW L p W = o := by
  obtain ⟨R', h⟩ := h.iv
  exact h.it.pos
theorem NewI.cells (h : NewI T w W R p L n0 q o r) : W.cell? ⟨p, 5, none⟩ = some T.sq ∧ W.cell? ⟨p, 6, none⟩ = some T.wb ∧ W.cell? ⟨p, 7, none⟩ = some T.ws := by
  obtain ⟨R', h⟩ := h.iv
  obtain ⟨c5, c6, c7, _⟩ := h.it.cells
  exact ⟨c5, c6, c7⟩
theorem NewI.of (h : IvS T w W R R' p L o fun k => k = n0 ∨ k = q) (hne : n0 ≠ q) (bn : Box W n0 TKV (kvA (r.getD kvZ))) (bq : Box W q TKV (kvA (told16 (allL L) o).1)) : NewI T w W R p L n0 q o r := ⟨hne, bn, bq, R', h⟩
theorem NewI.below (h : NewI T w W R p L n0 q o r) (hb : Below W.heap.size W W') : NewI T w W' R p L n0 q o r := by
  obtain ⟨R', h1⟩ := h.iv
  exact ⟨h.ne, h.bn.kept (hb.block _ h.bn.lt), h.bq.kept (hb.block _ h.bq.lt), R', h1.below hb⟩
/-- What was found is written. -/
theorem NewI.found (h : NewI T w W R p L n0 q o r) (e : KV) : NewI T w ((((W.setCell ⟨n0, 0, none⟩ (.string e.1.user)).setCell ⟨n0, 1, none⟩ (.int .u64 (e.1.seq : Int))).setCell ⟨n0, 2, none⟩ (.int .i64 e.1.kind)).setCell ⟨n0, 3, none⟩ (.string e.2)) R p L n0 q o (some e) := by
  obtain ⟨R', h1⟩ := h.iv
  refine ⟨h.ne, ((((h.bn.set 0 _).set 1 _).set 2 _).set 3 _).eq (by simp), (((h.bq.other h.ne.symm _ _).other h.ne.symm _ _).other h.ne.symm _ _).other h.ne.symm _ _, R', (((h1.set (.inl rfl) _ _).set (.inl rfl) _ _).set (.inl rfl) _ _).set (.inl rfl) _ _⟩
theorem NewI.same (h : NewI T w W R p L n0 q o r) {r' : Option KV} (e : r = r') : NewI T w W R p L n0 q o r' := e ▸ h
/-- The iterator went on; the entry that was is copied; the next one is asked for. -/
structure NewJ (T : Tl) (w W : World) (R R' : Nat → Prop) (p : Nat) (L : List (List KV)) (n0 q : Nat) (o : Option Nat) (r : Option KV) : Prop where
  ne : n0 ≠ q
  bn : Box W n0 TKV (kvA (r.getD kvZ))
  bq : ∃ e : KV, Box W q TKV (kvA e)
  iv : IvS T w W R R' p L o fun k => k = n0 ∨ k = q
theorem NewJ.step (h : NewJ T w W R R' p L n0 q o r) (hp : MgPost (MgV T) R' p L o' W W') : ∃ R2, NewJ T w W' R R2 p L n0 q o' r := by
  obtain ⟨R2, h1, hk, _⟩ := h.iv.step hp
  obtain ⟨e, he⟩ := h.bq
  exact ⟨R2, h.ne, h.bn.kept (hk _ (.inl rfl)), ⟨e, he.kept (hk _ (.inr rfl))⟩, h1⟩
theorem NewI.toJ (h : NewI T w W R p L n0 q o r) : ∃ R', NewJ T w W R R' p L n0 q o r := by
  obtain ⟨R', h1⟩ := h.iv
  exact ⟨R', h.ne, h.bn, ⟨_, h.bq⟩, h1⟩
theorem NewJ.below (h : NewJ T w W R R' p L n0 q o r) (hb : Below W.heap.size W W') : NewJ T w W' R R' p L n0 q o r := by
  obtain ⟨e, he⟩ := h.bq
  exact ⟨h.ne, h.bn.kept (hb.block _ h.bn.lt), ⟨e, he.kept (hb.block _ he.lt)⟩, h.iv.below hb⟩
/-- A copy of the entry that was, in a block of its own. -/
theorem NewJ.copy (h : NewJ T w W R R' p L n0 q o r) (e : KV) : NewJ T w (W.alloc (.cells (kvA e) TKV)) R R' p L n0 W.heap.size o r := by
  refine ⟨by have := h.bn.lt; omega, h.bn.alloc _, ⟨e, Box.new _ _ _⟩, (h.iv.alloc _).less fun k hk => ?_⟩
  rcases hk with rfl | rfl
  · exact .inl (.inl rfl)
  · exact .inr rfl
/-- The next entry is written. -/
theorem NewJ.put (h : NewJ T w W R R' p L n0 q o r) {e : KV} (he : e = (told16 (allL L) o).1) : NewI T w ((((W.setCell ⟨q, 0, none⟩ (.string e.1.user)).setCell ⟨q, 1, none⟩ (.int .u64 (e.1.seq : Int))).setCell ⟨q, 2, none⟩ (.int .i64 e.1.kind)).setCell ⟨q, 3, none⟩ (.string e.2)) R p L n0 q o r := by
  obtain ⟨x, hx⟩ := h.bq
  refine ⟨h.ne, (((h.bn.other h.ne _ _).other h.ne _ _).other h.ne _ _).other h.ne _ _, ((((hx.set 0 _).set 1 _).set 2 _).set 3 _).eq (by rw [← he]; simp), R', (((h.iv.set (.inr rfl) _ _).set (.inr rfl) _ _).set (.inr rfl) _ _).set (.inr rfl) _ _⟩
/-- The first one: both blocks are new. -/
theorem NewI.begin (h : MgPost (MgV T) R p L o (w.alloc (.cells (kvA kvZ) TKV)) W) (hR : MgV T w R p L o') {e : KV} (he : e = (told16 (allL L) o).1) : NewI T w (W.alloc (.cells (kvA e) TKV)) R p L w.heap.size W.heap.size o none := by
  have h0 := (IvS.start hR).alloc (.cells (kvA kvZ) TKV)
  obtain ⟨R', h1, hk, hsz⟩ := h0.step h
  have hb := (Box.new w TKV (kvA kvZ)).kept (hk _ (.inr rfl))
  refine ⟨by have := hb.lt; omega, hb.alloc _, he ▸ Box.new _ _ _, R', (h1.alloc _).less fun k hk => ?_⟩
  rcases hk with rfl | rfl
  · exact .inl (.inr rfl)
  · exact .inr rfl
theorem NewI.fin (h : NewI T w W R p L n0 q o r) {e : KV} (he : e = r.getD kvZ) : MgPost (MgV T) R p L o w ((((W.setCell ⟨n0, 0, none⟩ (.string e.1.user)).setCell ⟨n0, 1, none⟩ (.int .u64 (e.1.seq : Int))).setCell ⟨n0, 2, none⟩ (.int .i64 e.1.kind)).setCell ⟨n0, 3, none⟩ (.string e.2)) ∧ Box ((((W.setCell ⟨n0, 0, none⟩ (.string e.1.user)).setCell ⟨n0, 1, none⟩ (.int .u64 (e.1.seq : Int))).setCell ⟨n0, 2, none⟩ (.int .i64 e.1.kind)).setCell ⟨n0, 3, none⟩ (.string e.2)) n0 TKV (kvA e) := by
  have h1 := h.found e
  obtain ⟨R', h2⟩ := h1.iv
  exact ⟨h2.post, h1.bn⟩
theorem lget_on (hab : i ≤ m) (hm : m < S.length) (hu : S[m].1.user = u) : lget17 (segL S i (m + 1)) u s = (lget17 (segL S i m) u s).or (if S[m].1.seq ≤ s then some S[m] else none) := by
  rw [seg_on hab hm]
  unfold lget17
  rw [List.find?_append]
  congr 1
  by_cases h : S[m].1.seq ≤ s
  · rw [if_pos h, List.find?_cons_of_pos (by simp [hu, h])]
  · rw [if_neg h, List.find?_cons_of_neg (by simp [h])]
    rfl
theorem lget_back (hab : m < i) (hm : i ≤ S.length) (hu : (S[m]'(by omega)).1.user = u) : lget17 (segL S m i) u s = if (S[m]'(by omega)).1.seq ≤ s then some (S[m]'(by omega)) else lget17 (segL S (m + 1) i) u s := by
  rw [seg_back hab hm]
  unfold lget17
  by_cases h : (S[m]'(by omega)).1.seq ≤ s
  · rw [if_pos h, List.find?_cons_of_pos (by simp [hu, h])]
  · rw [if_neg h, List.find?_cons_of_neg (by simp [h])]
theorem cut_lo (h : CutV s S i j) (hi : i < S.length) (h0 : 0 < i) : (S[i - 1]'(by omega)).1.user ≠ S[i].1.user := fun e => by
  obtain ⟨P, h1, _⟩ := h.ex
  have a := (h1 (i - 1) (by omega)).1 (by omega)
  rw [e] at a
  have := (h1 i hi).2 a
  omega
theorem cut_hi (h : CutV s S i j) (hi : i < S.length) (h0 : 0 < i) : S[i].1.user ≠ (S[i - 1]'(by omega)).1.user := fun e => cut_lo h hi h0 e.symm
end
end Go.Proofs.Ytjoamhcehpjepab
/- What a view sees, told by a function that is ranged over: up to the first one. -/
namespace Go.Proofs.Ytjoamhcehpjepab
open Go.RowKit Go.Shelf
set_option linter.unusedVariables false
set_option linter.unusedSimpArgs false
attribute [local go_sem] Oper.semAt_some
theorem cell_al17 {W : World} {a : Addr} {v : Value} (o : Obj) (h : W.cell? a = some v) : (W.alloc o).cell? a = some v := by
  rw [((Below.refl W.heap.size W).alloc (Nat.le_refl _) o).cell (World.block_lt_of_cell? W _ h)]
  exact h
/-- What is asked of newest, one way. -/
def NewC (ws : Value) (up : Bool) : Prop := ∀ (T : Tl) (w : World) (R : Nat → Prop) (p : Nat) (L : List (List KV)) (s i j m : Nat) (u : ByteArray), T.ws = ws → T.wb = .bool (!up) → T.sq = .int .u64 (s : Int) → MgV T w R p L (posV (allL L) i up) → CutV s (allL L) i j → posV (allL L) i up = some m → (hm : m < (allL L).length) → (allL L)[m].1.user = u → Calls Try.prog 38 #[at_ p, .string u] w fun e w' => NewP T w R p L i s u up e w'
/-- Between two users. -/
structure SeeI (T : Tl) (w W : World) (R : Nat → Prop) (p : Nat) (L : List (List KV)) (q : Nat) (o : Option Nat) : Prop where
  bq : Box W q TKV (kvA (told16 (allL L) o).1)
  iv : ∃ R', IvS T w W R R' p L o fun k => k = q
section
variable {T : Tl} {w W W' : World} {R R' : Nat → Prop} {p : Nat} {L : List (List KV)} {o o' : Option Nat} {q : Nat} {s i i' j : Nat} {u : ByteArray} {up : Bool} {S : List KV}
theorem told_is (S : List KV) (o : Option Nat) : (told16 S o).2 = o.isSome := by cases o <;> rfl
theorem past_v (hs : SortU S) (h : CutV s S i j) (g : grpV S i i' u up) : PastV s S up i i' j u := by
  cases up with
  | true => exact past_on hs h g
  | false => exact past_back hs h g
theorem pos_lt {m : Nat} (hi : i ≤ S.length) (h : posV S i up = some m) : m < S.length := by
  cases up with
  | true =>
    unfold posV normO at h
    by_cases hl : i < S.length
    · rw [if_pos hl] at h; cases h; exact hl
    · rw [if_neg hl] at h; cases h
  | false =>
    unfold posV at h
    by_cases hl : i = 0
    · rw [if_pos hl] at h; cases h
    · rw [if_neg hl] at h; cases h; omega
theorem far_lt {m : Nat} (hi : i ≤ S.length) (h : posV S i up = some m) (g : grpV S i i' u up) : farV S.length up (posV S i' up) < farV S.length up (some m) := by
  cases up with
  | true =>
    have g : GroupV S i i' u := g
    have h1 := g.lt
    have h2 := g.le
    unfold posV normO at h
    rw [if_pos (by omega)] at h
    cases h
    show farV _ true (normO S i') < S.length - i
    unfold normO
    by_cases hl : i' < S.length
    · rw [if_pos hl]
      show S.length - i' < _
      omega
    · rw [if_neg hl]
      show 0 < _
      omega
  | false =>
    have g : GroupV S i' i u := g
    have h1 := g.lt
    have h2 := g.le
    unfold posV at h
    rw [if_neg (by omega)] at h
    cases h
    show farV _ false (posV S i' false) < i - 1 + 1
    unfold posV
    by_cases hl : i' = 0
    · rw [if_pos hl]
      show 0 < _
      omega
    · rw [if_neg hl]
      show i' - 1 + 1 < _
      omega
end
set_option maxRecDepth 100000 in
set_option maxHeartbeats 4000000 in
theorem seen1_any {T : Tl} {w : World} {R : Nat → Prop} {p : Nat} {L : List (List KV)} {s i j l bv : Nat} {up : Bool} {ws : Value} (n : Nat) (hn : 1 ≤ n) (HNC : NewC ws up) (hws : T.ws = ws) (hwb : T.wb = .bool (!up)) (hsq : T.sq = .int .u64 (s : Int)) (h : MgV T w R p L (posV (allL L) i up)) (hcut : CutV s (allL L) i j)
    (hbv : Box w bv 26 #[at_ p]) (hbR : ¬ R bv) (Q : World → Prop)
    (hY : ∀ (k i' : Nat) (R' : Nat → Prop) (W : World), nextV (seenL s (allL L)) j up = some k → k < (seenL s (allL L)).length → CutV s (allL L) i' (afterJ k up) → IvS T w W R R' p L (posV (allL L) i' up) (fun _ => False) → YieldAt Fence.wide n Try.prog l #[.agg #[.string ((seenL s (allL L)).getD k i0).1, .string ((seenL s (allL L)).getD k i0).2]] W fun e W2 => e = .returned (.bool false) ∧ Q W2) :
    CallsIn Fence.wide (n + 1) Try.prog 36 #[.func (.yield l) #[] #[], at_ bv] w fun e w' => e = .returned (.tuple #[]) ∧ ((nextV (seenL s (allL L)) j up = none ∧ ∃ R', IvS T w w' R R' p L none (fun _ => False)) ∨ (∃ k, nextV (seenL s (allL L)) j up = some k ∧ Q w')) := by
  have HS0 : Hid (SortU (allL L)) := all_sortU h.rise
  have HFX : Hid (NewC ws up ∧ T.ws = ws ∧ T.wb = .bool (!up) ∧ T.sq = .int .u64 (s : Int) ∧ MgV T w R p L (posV (allL L) i up) ∧ ¬ R bv ∧ Box w bv 26 #[at_ p]) := ⟨HNC, hws, hwb, hsq, h, hbR, hbv⟩
  have HY : Hid (∀ (k i' : Nat) (R' : Nat → Prop) (W : World), nextV (seenL s (allL L)) j up = some k → k < (seenL s (allL L)).length → CutV s (allL L) i' (afterJ k up) → IvS T w W R R' p L (posV (allL L) i' up) (fun _ => False) → YieldAt Fence.wide n Try.prog l #[.agg #[.string ((seenL s (allL L)).getD k i0).1, .string ((seenL s (allL L)).getD k i0).2]] W fun e W2 => e = .returned (.bool false) ∧ Q W2) := hY
  have HV : Hid (∀ (W : World) (R' : Nat → Prop) (o : Option Nat) (K : Nat → Prop), IvS T w W R R' p L o K → W.cell? ⟨bv, 0, none⟩ = some (at_ p)) := fun W R' o K hW => (hbv.kept (hW.chg.block bv hbv.lt hbR)).cell 0
  have HC0 : Hid (CutV s (allL L) i j) := hcut
  obtain ⟨e0, bb0, ht0⟩ : ∃ e0 bb0, told16 (allL L) (posV (allL L) i up) = (e0, bb0) := ⟨_, _, rfl⟩
  have HT0 : Hid (told16 (allL L) (posV (allL L) i up) = (e0, bb0)) := ht0
  have HAT0 := at17 h ht0
  have x1 := hbv.cell 0
  simp only [List.getElem?_toArray, List.getElem?_cons_succ, List.getElem?_cons_zero] at x1
  clear ht0 h hcut hY HNC hws hwb hsq hbv hbR
  refine callsIn_of_wp Try.func36 rfl trivial ?_ rfl
  simp only [Try.ntmps36, List.size_toArray, List.length_cons, List.length_nil, Nat.reduceAdd, Nat.reduceSub, Array.replicate_succ, Array.replicate_zero, List.push_toArray, List.append_toArray, List.nil_append, List.cons_append]
  gi_wp2_with (refine ⟨trivial, ?_⟩; gi_at_call 37; refine (callsIn_wide.2 HAT0).mono ?_; rintro _ v0 ⟨rfl, hp0⟩)
  obtain ⟨R0, hi0, _, _⟩ := (IvS.start HFX.out.2.2.2.2.1).step hp0
  have HF0 : Hid (SeeI T w (v0.alloc (.cells #[.string e0.1.user, .int .u64 (e0.1.seq : Int), .int .i64 e0.1.kind, .string e0.2] TKV)) R p L v0.heap.size (posV (allL L) i up)) := ⟨by rw [HT0.out]; exact Box.new _ _ _, R0, (hi0.alloc _).less fun k hk => .inr hk⟩
  have HB0 : Hid (bb0 = (posV (allL L) i up).isSome) := by
    have := congrArg Prod.snd HT0.out
    rw [told_is] at this
    exact this.symm
  clear hi0 hp0 HAT0 x1
  gi_loopw [3, 4] (fun s3 s4 wr => ∃ (i q : Nat), s3 = at_ q ∧ s4 = .bool (posV (allL L) i up).isSome ∧ Hid (CutV s (allL L) i j) ∧ Hid (SeeI T w wr R p L q (posV (allL L) i up))) (fun _ _ wr => farV (allL L).length up (posW L p wr))
  case atStart => exact ⟨i, v0.heap.size, rfl, by rw [HB0.out], HC0.out, HF0.out⟩
  case round =>
    clear HF0 HT0 HC0 HB0
    obtain ⟨i, q, rfl, rfl, HC, HN⟩ := hrel
    cases hpos : posV (allL L) i up with
    | none =>
      have HF : Hid (nextV (seenL s (allL L)) j up = none ∧ ∃ R', IvS T w wr R R' p L none (fun _ => False)) := by
        refine ⟨pos_none HS0.out HC.out hpos, ?_⟩
        obtain ⟨R', h1⟩ := HN.out.iv
        rw [hpos] at h1
        exact ⟨R', h1.less fun _ hk => hk.elim⟩
      clear HN HC hpos
      gi_wp2
      go_end0
      exact ⟨rfl, .inl HF.out⟩
    | some m =>
      have HP : Hid (posV (allL L) i up = some m) := hpos
      have HM : Hid (m < (allL L).length) := pos_lt HC.out.le hpos
      rw [hpos] at HN
      clear hpos
      obtain ⟨E, hE⟩ : ∃ E, E = (allL L)[m]'HM.out := ⟨_, rfl⟩
      have HE0 : Hid (E = (allL L)[m]'HM.out) := hE
      have hbq := HN.out.bq
      have htm : told16 (allL L) (some m) = (E, true) := by rw [hE]; exact told_some _
      rw [htm] at hbq
      clear htm
      have b0 := hbq.cell 0
      have b1 := hbq.cell 1
      have b2 := hbq.cell 2
      have b3 := hbq.cell 3
      simp only [List.getElem?_toArray, List.getElem?_cons_succ, List.getElem?_cons_zero] at b0 b1 b2 b3
      clear hE hbq
      obtain ⟨RI, hIV⟩ := HN.out.iv
      have x1 := HV.out wr RI _ _ hIV
      have HNW := HFX.out.1 T wr RI p L s i j m E.1.user HFX.out.2.1 HFX.out.2.2.1 HFX.out.2.2.2.1 (by rw [HP.out]; exact hIV.it) HC.out HP.out HM.out (by rw [← HE0.out])
      have HIV : Hid (IvS T w wr R RI p L (some m) fun k => k = q) := hIV
      have HM0 : posW L p wr = some m := hIV.it.pos
      clear hIV HN
      gi_wp2_with fail
      refine ⟨trivial, ?_⟩
      refine (callsIn_wide.2 HNW).mono ?_
      rintro _ v2 ⟨i', hgr, rfl, hp2⟩
      have HPV : Hid (PastV s (allL L) up i i' j E.1.user) := past_v HS0.out HC.out hgr
      have HMS : Hid (farV (allL L).length up (posV (allL L) i' up) < farV (allL L).length up (some m)) := far_lt HC.out.le HP.out hgr
      obtain ⟨R2, hI2, hk2, _⟩ := HIV.out.step hp2
      have HI2 : Hid (IvS T w v2 R R2 p L (posV (allL L) i' up) fun k => k = q) := hI2
      have y1 := HV.out v2 R2 _ _ hI2
      have e2 : v2.heap[q]? = wr.heap[q]? := hk2 q rfl
      have b0' : v2.cell? ⟨q, 0, none⟩ = some (.string E.1.user) := by rw [← b0]; unfold World.cell?; rw [e2]
      have b1' : v2.cell? ⟨q, 1, none⟩ = some (.int .u64 (E.1.seq : Int)) := by rw [← b1]; unfold World.cell?; rw [e2]
      have b2' : v2.cell? ⟨q, 2, none⟩ = some (.int .i64 E.1.kind) := by rw [← b2]; unfold World.cell?; rw [e2]
      have b3' : v2.cell? ⟨q, 3, none⟩ = some (.string E.2) := by rw [← b3]; unfold World.cell?; rw [e2]
      clear hgr hp2 hk2 hI2 HIV HNW b0 b1 b2 b3 x1 e2
      obtain ⟨rk, hrk⟩ : ∃ rk, (lget17 (allL L) E.1.user s).getD kvZ = rk := ⟨_, rfl⟩
      rw [hrk]
      cases hrv : lget17 (allL L) E.1.user s with
      | none =>
        have HCN : Hid (CutV s (allL L) i' j) := HPV.out.no fun e he => by rw [hrv] at he; cases he
        clear hrv HPV hrk
        have HC2 : Hid (IvS T w ((v2.alloc (.cells #[.string rk.1.user, .int .u64 (rk.1.seq : Int), .int .i64 rk.1.kind, .string rk.2] TKV)).alloc (.cells #[.string E.1.user, .int .u64 (E.1.seq : Int), .int .i64 E.1.kind, .string E.2] TKV)) R R2 p L (posV (allL L) i' up) fun k => k = v2.heap.size + 1) := ((HI2.out.alloc _).alloc _).less fun k hk => .inr (by rw [hk]; simp)
        have HQE : Hid (Box ((v2.alloc (.cells #[.string rk.1.user, .int .u64 (rk.1.seq : Int), .int .i64 rk.1.kind, .string rk.2] TKV)).alloc (.cells #[.string E.1.user, .int .u64 (E.1.seq : Int), .int .i64 E.1.kind, .string E.2] TKV)) (v2.heap.size + 1) TKV #[.string E.1.user, .int .u64 (E.1.seq : Int), .int .i64 E.1.kind, .string E.2]) := by
          have := Box.new (v2.alloc (.cells #[.string rk.1.user, .int .u64 (rk.1.seq : Int), .int .i64 rk.1.kind, .string rk.2] TKV)) TKV #[.string E.1.user, .int .u64 (E.1.seq : Int), .int .i64 E.1.kind, .string E.2]
          rw [World.size_alloc] at this
          exact this
        clear HI2
        have d0 := cell_al17 (.cells #[.string rk.1.user, .int .u64 (rk.1.seq : Int), .int .i64 rk.1.kind, .string rk.2] TKV) b0'
        have d1 := cell_al17 (.cells #[.string rk.1.user, .int .u64 (rk.1.seq : Int), .int .i64 rk.1.kind, .string rk.2] TKV) b1'
        have d2 := cell_al17 (.cells #[.string rk.1.user, .int .u64 (rk.1.seq : Int), .int .i64 rk.1.kind, .string rk.2] TKV) b2'
        have d3 := cell_al17 (.cells #[.string rk.1.user, .int .u64 (rk.1.seq : Int), .int .i64 rk.1.kind, .string rk.2] TKV) b3'
        have y2 := cell_al17 (.cells #[.string E.1.user, .int .u64 (E.1.seq : Int), .int .i64 E.1.kind, .string E.2] TKV) (cell_al17 (.cells #[.string rk.1.user, .int .u64 (rk.1.seq : Int), .int .i64 rk.1.kind, .string rk.2] TKV) y1)
        clear b0' b1' b2' b3'
        gi_wp2_with fail
        obtain ⟨en, bn, htn⟩ : ∃ en bn, told16 (allL L) (posV (allL L) i' up) = (en, bn) := ⟨_, _, rfl⟩
        have HTN : Hid (told16 (allL L) (posV (allL L) i' up) = (en, bn)) := htn
        have HBN : Hid (bn = (posV (allL L) i' up).isSome) := by
          have := congrArg Prod.snd htn
          rw [told_is] at this
          exact this.symm
        have HAT := at17 HC2.out.it htn
        clear htn
        refine ⟨fun _ h => (by cases h), ?_⟩
        gi_wp2_with fail
        refine ⟨trivial, ?_⟩
        refine (callsIn_wide.2 HAT).mono ?_
        rintro _ va ⟨rfl, hpa⟩
        obtain ⟨RA, hA, hkA, _⟩ := HC2.out.step hpa
        have hqe := HQE.out.kept (hkA _ rfl)
        have g0 := hqe.cell 0
        have g1 := hqe.cell 1
        have g2 := hqe.cell 2
        have g3 := hqe.cell 3
        simp only [List.getElem?_toArray, List.getElem?_cons_succ, List.getElem?_cons_zero] at g0 g1 g2 g3
        have gs := hqe.soft
        have HF : Hid (SeeI T w ((((va.setCell ⟨v2.heap.size + 1, 0, none⟩ (.string en.1.user)).setCell ⟨v2.heap.size + 1, 1, none⟩ (.int .u64 (en.1.seq : Int))).setCell ⟨v2.heap.size + 1, 2, none⟩ (.int .i64 en.1.kind)).setCell ⟨v2.heap.size + 1, 3, none⟩ (.string en.2)) R p L (v2.heap.size + 1) (posV (allL L) i' up)) := by
          refine ⟨?_, RA, (((hA.set rfl _ _).set rfl _ _).set rfl _ _).set rfl _ _⟩
          rw [HTN.out]
          exact ((((hqe.set 0 _).set 1 _).set 2 _).set 3 _).eq (by simp)
        have HFP : Hid (posW L p ((((va.setCell ⟨v2.heap.size + 1, 0, none⟩ (.string en.1.user)).setCell ⟨v2.heap.size + 1, 1, none⟩ (.int .u64 (en.1.seq : Int))).setCell ⟨v2.heap.size + 1, 2, none⟩ (.int .i64 en.1.kind)).setCell ⟨v2.heap.size + 1, 3, none⟩ (.string en.2)) = posV (allL L) i' up) := by
          obtain ⟨R', h'⟩ := HF.out.iv
          exact h'.it.pos
        clear hA hkA hqe hpa HAT HC2
        gi_wp2
        go_roundw
        case rel => exact ⟨i', v2.heap.size + 1, rfl, by rw [HBN.out], HCN.out, HF.out⟩
        case measure =>
          rw [HFP.out, HM0]
          exact HMS.out
      | some rv =>
        rw [hrv] at hrk
        obtain rfl : rv = rk := hrk
        by_cases hk1 : rv.1.kind = 1
        · obtain ⟨k, hnx, hkl, hik, hcn⟩ := HPV.out.sm rv hrv hk1
          have hu : rv.1.user = E.1.user := (lget_user hrv).1
          have hgd : (seenL s (allL L)).getD k i0 = (rv.1.user, rv.2) := by
            rw [List.getD_eq_getElem?_getD, List.getElem?_eq_getElem hkl, hu]
            exact hik
          have HYD := HY.out k i' R2 (v2.alloc (.cells #[.string rv.1.user, .int .u64 (rv.1.seq : Int), .int .i64 rv.1.kind, .string rv.2] TKV)) hnx hkl hcn ((HI2.out.alloc _).less fun _ hk => hk.elim)
          have HNX : Hid (nextV (seenL s (allL L)) j up = some k) := hnx
          rw [hgd] at HYD
          obtain ⟨fn, tmps, assign, body, hy, hR⟩ := HYD
          dsimp only at hy
          have hkb : (rv.1.kind == 1) = true := by simp [hk1]
          clear hnx hkl hik hcn hu hgd hrv HPV HI2 hk1
          gi_wp2
          refine hR.mono ?_
          rintro _ W3 ⟨rfl, hq⟩
          gi_wp2
          refine bodyPost_ret (results_none rfl _ _ _) rfl ?_
          exact ⟨rfl, .inr ⟨k, HNX.out, hq⟩⟩
        · have HCN : Hid (CutV s (allL L) i' j) := HPV.out.no fun e he => by
            rw [hrv] at he
            obtain rfl := Option.some.inj he
            exact hk1
          have hkb : (rv.1.kind == 1) = false := by simp [hk1]
          clear hrv HPV hk1
          have HC2 : Hid (IvS T w ((v2.alloc (.cells #[.string rv.1.user, .int .u64 (rv.1.seq : Int), .int .i64 rv.1.kind, .string rv.2] TKV)).alloc (.cells #[.string E.1.user, .int .u64 (E.1.seq : Int), .int .i64 E.1.kind, .string E.2] TKV)) R R2 p L (posV (allL L) i' up) fun k => k = v2.heap.size + 1) := ((HI2.out.alloc _).alloc _).less fun k hk => .inr (by rw [hk]; simp)
          have HQE : Hid (Box ((v2.alloc (.cells #[.string rv.1.user, .int .u64 (rv.1.seq : Int), .int .i64 rv.1.kind, .string rv.2] TKV)).alloc (.cells #[.string E.1.user, .int .u64 (E.1.seq : Int), .int .i64 E.1.kind, .string E.2] TKV)) (v2.heap.size + 1) TKV #[.string E.1.user, .int .u64 (E.1.seq : Int), .int .i64 E.1.kind, .string E.2]) := by
            have := Box.new (v2.alloc (.cells #[.string rv.1.user, .int .u64 (rv.1.seq : Int), .int .i64 rv.1.kind, .string rv.2] TKV)) TKV #[.string E.1.user, .int .u64 (E.1.seq : Int), .int .i64 E.1.kind, .string E.2]
            rw [World.size_alloc] at this
            exact this
          clear HI2
          have d0 := cell_al17 (.cells #[.string rv.1.user, .int .u64 (rv.1.seq : Int), .int .i64 rv.1.kind, .string rv.2] TKV) b0'
          have d1 := cell_al17 (.cells #[.string rv.1.user, .int .u64 (rv.1.seq : Int), .int .i64 rv.1.kind, .string rv.2] TKV) b1'
          have d2 := cell_al17 (.cells #[.string rv.1.user, .int .u64 (rv.1.seq : Int), .int .i64 rv.1.kind, .string rv.2] TKV) b2'
          have d3 := cell_al17 (.cells #[.string rv.1.user, .int .u64 (rv.1.seq : Int), .int .i64 rv.1.kind, .string rv.2] TKV) b3'
          have y2 := cell_al17 (.cells #[.string E.1.user, .int .u64 (E.1.seq : Int), .int .i64 E.1.kind, .string E.2] TKV) (cell_al17 (.cells #[.string rv.1.user, .int .u64 (rv.1.seq : Int), .int .i64 rv.1.kind, .string rv.2] TKV) y1)
          clear b0' b1' b2' b3'
          gi_wp2_with fail
          obtain ⟨en, bn, htn⟩ : ∃ en bn, told16 (allL L) (posV (allL L) i' up) = (en, bn) := ⟨_, _, rfl⟩
          have HTN : Hid (told16 (allL L) (posV (allL L) i' up) = (en, bn)) := htn
          have HBN : Hid (bn = (posV (allL L) i' up).isSome) := by
            have := congrArg Prod.snd htn
            rw [told_is] at this
            exact this.symm
          have HAT := at17 HC2.out.it htn
          clear htn
          refine ⟨fun _ h => (by cases h), ?_⟩
          gi_wp2_with fail
          refine ⟨trivial, ?_⟩
          refine (callsIn_wide.2 HAT).mono ?_
          rintro _ va ⟨rfl, hpa⟩
          obtain ⟨RA, hA, hkA, _⟩ := HC2.out.step hpa
          have hqe := HQE.out.kept (hkA _ rfl)
          have g0 := hqe.cell 0
          have g1 := hqe.cell 1
          have g2 := hqe.cell 2
          have g3 := hqe.cell 3
          simp only [List.getElem?_toArray, List.getElem?_cons_succ, List.getElem?_cons_zero] at g0 g1 g2 g3
          have gs := hqe.soft
          have HF : Hid (SeeI T w ((((va.setCell ⟨v2.heap.size + 1, 0, none⟩ (.string en.1.user)).setCell ⟨v2.heap.size + 1, 1, none⟩ (.int .u64 (en.1.seq : Int))).setCell ⟨v2.heap.size + 1, 2, none⟩ (.int .i64 en.1.kind)).setCell ⟨v2.heap.size + 1, 3, none⟩ (.string en.2)) R p L (v2.heap.size + 1) (posV (allL L) i' up)) := by
            refine ⟨?_, RA, (((hA.set rfl _ _).set rfl _ _).set rfl _ _).set rfl _ _⟩
            rw [HTN.out]
            exact ((((hqe.set 0 _).set 1 _).set 2 _).set 3 _).eq (by simp)
          have HFP : Hid (posW L p ((((va.setCell ⟨v2.heap.size + 1, 0, none⟩ (.string en.1.user)).setCell ⟨v2.heap.size + 1, 1, none⟩ (.int .u64 (en.1.seq : Int))).setCell ⟨v2.heap.size + 1, 2, none⟩ (.int .i64 en.1.kind)).setCell ⟨v2.heap.size + 1, 3, none⟩ (.string en.2)) = posV (allL L) i' up) := by
            obtain ⟨R', h'⟩ := HF.out.iv
            exact h'.it.pos
          clear hA hkA hqe hpa HAT HC2
          gi_wp2
          go_roundw
          case rel => exact ⟨i', v2.heap.size + 1, rfl, by rw [HBN.out], HCN.out, HF.out⟩
          case measure =>
            rw [HFP.out, HM0]
            exact HMS.out
end Go.Proofs.Ytjoamhcehpjepab
/- An iterator of a view: Next, Prev. -/
namespace Go.Proofs.Ytjoamhcehpjepab
open Go.RowKit
set_option linter.unusedVariables false
set_option linter.unusedSimpArgs false
section
variable {T : Tl} {W W' w : World} {R RL : Nat → Prop} {p B : Nat} {la : Option Addr} {lc : Nat} {L : List (List KV)} {x last : PlL} {b : Bool} {hv : Value} {i hp : Nat} {up : Bool} {pa : Option Addr} {pc : Nat} {ps : List PlL} {v : Nat → Nat} {o : Option Nat}
/-- Heads that it had. -/
theorem IvP.own {w1 : World} (h : IvP T w1 R p hp la lc L pa o W') (hb : Below w.heap.size w w1) (hp1 : R p) (h1 : R hp) (h2 : ∀ k, blkOf pa = some k → R k) : MgPost (MgV T) R p L o w W' := by
  obtain ⟨R', g1, g2, g3, g4⟩ := h
  refine ⟨R', g1, fun k hk => ?_, (Chg.of (R := R) hb).andThen g3 fun k hk hkk => ?_⟩
  · rcases g2 k hk with e | e | e
    · exact .inl e
    · exact .inl (e ▸ h1)
    · exact .inl (h2 k e)
  · rcases hkk with e | e | e
    · exact e ▸ hp1
    · exact e ▸ h1
    · exact h2 k e
/-- Heads that were just laid, stored. -/
theorem IvP.laid {w1 : World} {u : Value} (h : IvP T (w1.setCell ⟨p, 4, none⟩ u) R p hp la lc L pa o W') (hb : Below w.heap.size w w1) (hp1 : R p) (h1 : w.heap.size ≤ hp) (h2 : ∀ k, blkOf pa = some k → w.heap.size ≤ k) : MgPost (MgV T) R p L o w W' := by
  obtain ⟨R', g1, g2, g3, g4⟩ := h
  refine ⟨R', g1, fun k hk => ?_, (((Chg.of (R := R) hb).set (p := p) (fun _ => hp1) 4 u)).andThen g3 fun k hk hkk => ?_⟩
  · rcases g2 k hk with e | e | e
    · exact .inl e
    · exact .inr (e ▸ h1)
    · exact .inr (h2 k e)
  · rcases hkk with e | e | e
    · exact e ▸ hp1
    · omega
    · have := h2 k e; omega
set_option maxRecDepth 100000 in
set_option maxHeartbeats 2000000 in
theorem next_v (h : MgV T w R p L o) : Calls Try.prog 25 #[at_ p] w fun e w' => e = .returned (.tuple #[]) ∧ MgPost (MgV T) R p L (goP (allL L) 4 kvZ.1 o) w w' := by
  have hmf : ∀ (fn : Fn) (first cap : Array Value) (w : World), (Instr.makeFunc fn first cap).run Try.prog w = .ok (.func fn first cap) w := fun _ _ _ _ => rfl
  have HM := h
  obtain ⟨RL, la, lc, x, hv, hit, hso⟩ := h
  have x0 := hit.box.cell 0
  have x1 := hit.box.cell 1
  have x2 := hit.box.cell 2
  have x3 := hit.box.cell 3
  have x4 := hit.box.cell 4
  simp only [List.getElem?_toArray, List.getElem?_cons_succ, List.getElem?_cons_zero] at x0 x1 x2 x3 x4
  cases o with
  | none =>
    have HF : Hid (MgPost (MgV T) R p L (goP (allL L) 4 kvZ.1 none) w w) := ⟨R, HM, fun k hk => .inl hk, Chg.refl _ _⟩
    have x3 : w.cell? ⟨p, 3, none⟩ = some (.bool false) := x3
    clear HM hit hso
    go_enter Try.func25, Try.ntmps25
    go_wp2
    go_returns
    exact ⟨rfl, HF.out⟩
  | some i =>
    obtain ⟨up, hp, pa, pc, ps, v, rfl, hs⟩ := hso i rfl
    have x3 : w.cell? ⟨p, 3, none⟩ = some (.bool true) := x3
    have HIT : Hid (ItV T w R RL p la lc L x true (at_ hp) ∧ Hs w R RL p la lc L i x up hp pa pc ps v) := ⟨hit, hs⟩
    have HX : Hid (∀ W, Below w.heap.size w W → W.cell? ⟨p, 0, none⟩ = some (.slice la L.length lc) ∧ W.cell? ⟨p, 1, none⟩ = some (.int .i64 (x.1 : Int)) ∧ W.cell? ⟨p, 2, none⟩ = some (.int .i64 (x.2 : Int)) ∧ W.cell? ⟨p, 4, none⟩ = some (at_ hp) ∧ W.frozen? ⟨p, 4, none⟩ = false) := fun W hW => by
      have hb := hit.box.kept (hW.block p hit.box.lt)
      exact ⟨hb.cell 0, hb.cell 1, hb.cell 2, hb.cell 4, hb.soft 4⟩
    have HFIT : Hid (∀ W, Below w.heap.size w W → Calls Try.prog 39 #[at_ hp, .int .i64 (1), .agg #[.int .i64 (x.1 : Int), .int .i64 (x.2 : Int)]] W fun e w' => e = .returned (.bool (true == up)) ∧ Below W.heap.size W w') := fun W hW => fit_any (hs.hd.below hW) true
    clear HM hit hso hs x0
    go_enter Try.func25, Try.ntmps25
    go_wp2_with fail
    have HB0 : Hid (Below w.heap.size w w.drew) := (Below.refl _ _).drew
    have y1 : w.drew.cell? ⟨p, 1, none⟩ = some (.int .i64 (x.1 : Int)) := x1
    have y2 : w.drew.cell? ⟨p, 2, none⟩ = some (.int .i64 (x.2 : Int)) := x2
    have y4 : w.drew.cell? ⟨p, 4, none⟩ = some (at_ hp) := x4
    clear x1 x2 x3 x4
    go_region_held3 (fun V => V.cell? ⟨p, 4, none⟩ = some (at_ hp) ∧ V.cell? ⟨p, 1, none⟩ = some (.int .i64 (x.1 : Int)) ∧ V.cell? ⟨p, 2, none⟩ = some (.int .i64 (x.2 : Int))) (first | exact ⟨y4, y1, y2⟩ | go_keep)
      (first
       | (go_at_call 39; refine (HFIT.out _ HB0.out).mono ?_; rintro _ vx ⟨rfl, hbx⟩
          have HB1 : Hid (Below w.heap.size w vx) := HB0.out.trans (hbx.mono HB0.out.size)
          obtain ⟨_, y1, y2, y4, _⟩ := HX.out _ HB1.out
          clear hbx))
    clear y1 y2 y4 HB0 HFIT
    cases up with
    | true =>
      have HA : Hid (afterT L v true = goP (allL L) 4 kvZ.1 (some i)) := by
        show normO (allL L) (sumV v L.length) = _
        rw [HIT.out.2.next rfl]; rfl
      have HT := vtake_any (HIT.out.1.below HB1.out) (HIT.out.2.hd.below HB1.out) HIT.out.2.rh.2 (fun k hk => (HIT.out.2.rp k hk).2) HIT.out.2.gp HIT.out.2.cut
      obtain ⟨_, _, _, z4, _⟩ := HX.out _ HB1.out
      go_wp2_with fail
      refine HT.mono ?_
      rintro _ w2 ⟨rfl, hw2⟩
      have HF : Hid (MgPost (MgV T) R p L (goP (allL L) 4 kvZ.1 (some i)) w w2) := by
        rw [← HA.out]
        exact hw2.own HB1.out HIT.out.1.rp.1 HIT.out.2.rh.1 (fun k hk => (HIT.out.2.rp k hk).1)
      clear hw2 HT
      go_wp2
      go_end0
      exact ⟨rfl, HF.out⟩
    | false =>
      have hval : x.1 < L.length ∧ x.2 < lenL L x.1 := by
        have h1 : validL L x := mem_allP.1 (List.mem_of_getElem? HIT.out.2.at')
        have h2 : x.2 < lenL L x.1 := h1
        refine ⟨?_, h2⟩
        apply Classical.byContradiction
        intro hn
        rw [lenL_out (L := L) (i := x.1) (by omega)] at h2
        omega
      have HE : Hid (∀ W, Below w.heap.size w W → Calls Try.prog 40 #[.slice la L.length lc, .agg #[.int .i64 (x.1 : Int), .int .i64 (x.2 : Int)]] W fun e w' => e = .returned (.agg #[.string (entL L x).1.user, .int .u64 ((entL L x).1.seq : Int), .int .i64 (entL L x).1.kind, .string (entL L x).2]) ∧ Below W.heap.size W w') := fun W hW => entry_any (i := x.1) (j := x.2) ((HIT.out.1.below hW).ls.ls) hval.1 hval.2
      have HV : Hid (sumV (gapV L (entL L x).1 (x.1 + 1)) L.length = i + 1) := gap_next HIT.out.1.rise HIT.out.2.at'
      have HO : Hid (∀ W, Below w.heap.size w W → Calls Try.prog 22 #[.slice la L.length lc, .func (.func 41) #[.agg #[.slice la L.length lc, .string (entL L x).1.user, .int .u64 ((entL L x).1.seq : Int), .int .i64 (entL L x).1.kind, .int .i64 ((x.1 : Int) + 1)]] #[]] W fun e w' => OnP W la L.length lc true L (gapV L (entL L x).1 (x.1 + 1)) e w') := fun W hW => by
        have hb := HIT.out.1.below hW
        refine on_any 41 (.agg #[.slice la L.length lc, .string (entL L x).1.user, .int .u64 ((entL L x).1.seq : Int), .int .i64 (entL L x).1.kind, .int .i64 ((x.1 : Int) + 1)]) hb.ls.ls hb.few.1 (gapV_le L _ _) (few_each hb.few) (fun W i => by kernel_rfl) (fun W2 hW2 j hj => ?_)
        have := cut_any ((hb.below hW2).ls.ls) hb.rise (entL L x).1 (x.1 + 1) j hj (few_each hb.few j)
        rw [show gapA la L.length lc (entL L x).1 (x.1 + 1) = #[.slice la L.length lc, .string (entL L x).1.user, .int .u64 ((entL L x).1.seq : Int), .int .i64 (entL L x).1.kind, .int .i64 ((x.1 : Int) + 1)] from rfl] at this
        exact this
      have HCU : Hid (CutL L (gapV L (entL L x).1 (x.1 + 1))) := gap_cut HIT.out.1.rise _ _
      generalize entL L x = en at HE HV HO HCU
      generalize gapV L en.1 (x.1 + 1) = vg at HV HO HCU
      have HA : Hid (afterT L vg true = goP (allL L) 4 kvZ.1 (some i)) := by
        show normO (allL L) (sumV vg L.length) = _
        rw [HV.out]; rfl
      have hfk := fun W => fieldK W en.1.user (en.1.seq : Int) en.1.kind en.2
      have hl1 := hval.1
      have hl2 : L.length ≤ 1000 := HIT.out.1.few.1
      have hxw : IntKind.i64.wrap ((x.1 : Int) + 1) = (x.1 : Int) + 1 := by rw [IntKind.wrap_i64]; omega
      clear hval HV
      go_wp2_with fail
      have HB2 : Hid (Below w.heap.size w vx.drew) := HB1.out.drew
      obtain ⟨y0, y1, y2, y4, ys⟩ := HX.out _ HB2.out
      go_region_held3 (fun V => V.cell? ⟨p, 0, none⟩ = some (.slice la L.length lc) ∧ V.cell? ⟨p, 1, none⟩ = some (.int .i64 (x.1 : Int)) ∧ V.cell? ⟨p, 2, none⟩ = some (.int .i64 (x.2 : Int))) (first | with_reducible exact ⟨y0, y1, y2⟩ | exact HST.out | go_keep)
        (first
         | (go_at_call 40; refine (HE.out _ HB2.out).mono ?_; rintro _ vy ⟨rfl, hby⟩
            have HB2 : Hid (Below w.heap.size w vy) := HB2.out.trans (hby.mono HB2.out.size)
            obtain ⟨y0, y1, y2, y4, ys⟩ := HX.out _ HB2.out
            clear hby)
         | (go_at_call 22; refine (HO.out _ HB2.out).mono ?_; rintro _ vz ⟨hp2, pa2, pc2, ps2, rfl, hdz, hbz, hgz⟩
            have HON : Hid (Hd vz vy.heap.size hp2 la L.length lc true pa2 pc2 ps2 d0 ∧ Gp L true vg L.length ps2 ∧ w.heap.size ≤ hp2 ∧ (∀ j, blkOf pa2 = some j → w.heap.size ≤ j)) := ⟨hdz, hgz, Nat.le_trans HB2.out.size hdz.ge, fun j hj => Nat.le_trans HB2.out.size (hdz.row.ge hj).1⟩
            have HB2 : Hid (Below w.heap.size w vz) := HB2.out.trans (hbz.mono HB2.out.size)
            obtain ⟨y0, y1, y2, y4, ys⟩ := HX.out _ HB2.out
            have HST : Hid ((vz.setCell ⟨p, 4, none⟩ (at_ hp2)).cell? ⟨p, 0, none⟩ = some (.slice la L.length lc) ∧ (vz.setCell ⟨p, 4, none⟩ (at_ hp2)).cell? ⟨p, 1, none⟩ = some (.int .i64 (x.1 : Int)) ∧ (vz.setCell ⟨p, 4, none⟩ (at_ hp2)).cell? ⟨p, 2, none⟩ = some (.int .i64 (x.2 : Int))) := by
              have hb := (HIT.out.1.box.kept (HB2.out.block p HIT.out.1.box.lt)).set 4 (at_ hp2)
              exact ⟨hb.cell 0, hb.cell 1, hb.cell 2⟩
            clear hdz hbz hgz))
      have HIT2 := (HIT.out.1.below HB2.out).heads (at_ hp2)
      have hnp : hp2 ≠ p := by have := HIT.out.1.box.lt; have := HON.out.2.2.1; omega
      have hnq : ∀ j, blkOf pa2 = some j → j ≠ p := fun j hj => by have := HIT.out.1.box.lt; have := HON.out.2.2.2 j hj; omega
      have HT := vtake_any HIT2 (HON.out.1.kept (Below.heap_setCell _ _ _ _ hnp) fun k hk => Below.heap_setCell _ _ _ _ (hnq k hk)) (fun hr => by have := HIT.out.1.lt hp2 (HIT.out.1.rl hp2 hr); have := HON.out.2.2.1; omega) (fun j hj hr => by have := HIT.out.1.lt j (HIT.out.1.rl j hr); have := HON.out.2.2.2 j hj; omega) HON.out.2.1 HCU.out
      clear HIT2 hnp hnq y0 y1 y2 y4 ys
      go_wp2_with fail
      refine HT.mono ?_
      rintro _ w2 ⟨rfl, hw2⟩
      have HF : Hid (MgPost (MgV T) R p L (goP (allL L) 4 kvZ.1 (some i)) w w2) := by
        rw [← HA.out]
        exact hw2.laid HB2.out HIT.out.1.rp.1 HON.out.2.2.1 HON.out.2.2.2
      clear hw2 HT
      go_wp2
      go_end0
      exact ⟨rfl, HF.out⟩
set_option maxRecDepth 100000 in
set_option maxHeartbeats 2000000 in
theorem prev_v (h : MgV T w R p L o) : Calls Try.prog 29 #[at_ p] w fun e w' => e = .returned (.tuple #[]) ∧ MgPost (MgV T) R p L (goP (allL L) 5 kvZ.1 o) w w' := by
  have hmf : ∀ (fn : Fn) (first cap : Array Value) (w : World), (Instr.makeFunc fn first cap).run Try.prog w = .ok (.func fn first cap) w := fun _ _ _ _ => rfl
  have HM := h
  obtain ⟨RL, la, lc, x, hv, hit, hso⟩ := h
  have x0 := hit.box.cell 0
  have x1 := hit.box.cell 1
  have x2 := hit.box.cell 2
  have x3 := hit.box.cell 3
  have x4 := hit.box.cell 4
  simp only [List.getElem?_toArray, List.getElem?_cons_succ, List.getElem?_cons_zero] at x0 x1 x2 x3 x4
  cases o with
  | none =>
    have HF : Hid (MgPost (MgV T) R p L (goP (allL L) 5 kvZ.1 none) w w) := ⟨R, HM, fun k hk => .inl hk, Chg.refl _ _⟩
    have x3 : w.cell? ⟨p, 3, none⟩ = some (.bool false) := x3
    clear HM hit hso
    go_enter Try.func29, Try.ntmps29
    go_wp2
    go_returns
    exact ⟨rfl, HF.out⟩
  | some i =>
    obtain ⟨up, hp, pa, pc, ps, v, rfl, hs⟩ := hso i rfl
    have x3 : w.cell? ⟨p, 3, none⟩ = some (.bool true) := x3
    have HIT : Hid (ItV T w R RL p la lc L x true (at_ hp) ∧ Hs w R RL p la lc L i x up hp pa pc ps v) := ⟨hit, hs⟩
    have HX : Hid (∀ W, Below w.heap.size w W → W.cell? ⟨p, 0, none⟩ = some (.slice la L.length lc) ∧ W.cell? ⟨p, 1, none⟩ = some (.int .i64 (x.1 : Int)) ∧ W.cell? ⟨p, 2, none⟩ = some (.int .i64 (x.2 : Int)) ∧ W.cell? ⟨p, 4, none⟩ = some (at_ hp) ∧ W.frozen? ⟨p, 4, none⟩ = false) := fun W hW => by
      have hb := hit.box.kept (hW.block p hit.box.lt)
      exact ⟨hb.cell 0, hb.cell 1, hb.cell 2, hb.cell 4, hb.soft 4⟩
    have HFIT : Hid (∀ W, Below w.heap.size w W → Calls Try.prog 39 #[at_ hp, .int .i64 (-1), .agg #[.int .i64 (x.1 : Int), .int .i64 (x.2 : Int)]] W fun e w' => e = .returned (.bool (false == up)) ∧ Below W.heap.size W w') := fun W hW => fit_any (hs.hd.below hW) false
    clear HM hit hso hs x0
    go_enter Try.func29, Try.ntmps29
    go_wp2_with fail
    have HB0 : Hid (Below w.heap.size w w.drew) := (Below.refl _ _).drew
    have y1 : w.drew.cell? ⟨p, 1, none⟩ = some (.int .i64 (x.1 : Int)) := x1
    have y2 : w.drew.cell? ⟨p, 2, none⟩ = some (.int .i64 (x.2 : Int)) := x2
    have y4 : w.drew.cell? ⟨p, 4, none⟩ = some (at_ hp) := x4
    clear x1 x2 x3 x4
    go_region_held3 (fun V => V.cell? ⟨p, 4, none⟩ = some (at_ hp) ∧ V.cell? ⟨p, 1, none⟩ = some (.int .i64 (x.1 : Int)) ∧ V.cell? ⟨p, 2, none⟩ = some (.int .i64 (x.2 : Int))) (first | exact ⟨y4, y1, y2⟩ | go_keep)
      (first
       | (go_at_call 39; refine (HFIT.out _ HB0.out).mono ?_; rintro _ vx ⟨rfl, hbx⟩
          have HB1 : Hid (Below w.heap.size w vx) := HB0.out.trans (hbx.mono HB0.out.size)
          obtain ⟨_, y1, y2, y4, _⟩ := HX.out _ HB1.out
          clear hbx))
    clear y1 y2 y4 HB0 HFIT
    cases up with
    | false =>
      have HA : Hid (afterT L v false = goP (allL L) 5 kvZ.1 (some i)) := by
        show (if sumV v L.length = 0 then none else some (sumV v L.length - 1)) = _
        rw [HIT.out.2.prev rfl]; rfl
      have HT := vtake_any (HIT.out.1.below HB1.out) (HIT.out.2.hd.below HB1.out) HIT.out.2.rh.2 (fun k hk => (HIT.out.2.rp k hk).2) HIT.out.2.gp HIT.out.2.cut
      obtain ⟨_, _, _, z4, _⟩ := HX.out _ HB1.out
      go_wp2_with fail
      refine HT.mono ?_
      rintro _ w2 ⟨rfl, hw2⟩
      have HF : Hid (MgPost (MgV T) R p L (goP (allL L) 5 kvZ.1 (some i)) w w2) := by
        rw [← HA.out]
        exact hw2.own HB1.out HIT.out.1.rp.1 HIT.out.2.rh.1 (fun k hk => (HIT.out.2.rp k hk).1)
      clear hw2 HT
      go_wp2
      go_end0
      exact ⟨rfl, HF.out⟩
    | true =>
      have hval : x.1 < L.length ∧ x.2 < lenL L x.1 := by
        have h1 : validL L x := mem_allP.1 (List.mem_of_getElem? HIT.out.2.at')
        have h2 : x.2 < lenL L x.1 := h1
        refine ⟨?_, h2⟩
        apply Classical.byContradiction
        intro hn
        rw [lenL_out (L := L) (i := x.1) (by omega)] at h2
        omega
      have HE : Hid (∀ W, Below w.heap.size w W → Calls Try.prog 40 #[.slice la L.length lc, .agg #[.int .i64 (x.1 : Int), .int .i64 (x.2 : Int)]] W fun e w' => e = .returned (.agg #[.string (entL L x).1.user, .int .u64 ((entL L x).1.seq : Int), .int .i64 (entL L x).1.kind, .string (entL L x).2]) ∧ Below W.heap.size W w') := fun W hW => entry_any (i := x.1) (j := x.2) ((HIT.out.1.below hW).ls.ls) hval.1 hval.2
      have HV : Hid (sumV (gapV L (entL L x).1 (x.1)) L.length = i) := gap_prev HIT.out.1.rise HIT.out.2.at'
      have HO : Hid (∀ W, Below w.heap.size w W → Calls Try.prog 42 #[.slice la L.length lc, .func (.func 41) #[.agg #[.slice la L.length lc, .string (entL L x).1.user, .int .u64 ((entL L x).1.seq : Int), .int .i64 (entL L x).1.kind, .int .i64 (x.1 : Int)]] #[]] W fun e w' => OnP W la L.length lc false L (gapV L (entL L x).1 (x.1)) e w') := fun W hW => by
        have hb := HIT.out.1.below hW
        refine back_any 41 (.agg #[.slice la L.length lc, .string (entL L x).1.user, .int .u64 ((entL L x).1.seq : Int), .int .i64 (entL L x).1.kind, .int .i64 (x.1 : Int)]) hb.ls.ls hb.few.1 (gapV_le L _ _) (few_each hb.few) (fun W i => by kernel_rfl) (fun W2 hW2 j hj => ?_)
        have := cut_any ((hb.below hW2).ls.ls) hb.rise (entL L x).1 (x.1) j hj (few_each hb.few j)
        skip
        exact this
      have HCU : Hid (CutL L (gapV L (entL L x).1 (x.1))) := gap_cut HIT.out.1.rise _ _
      generalize entL L x = en at HE HV HO HCU
      generalize gapV L en.1 (x.1) = vg at HV HO HCU
      have HA : Hid (afterT L vg false = goP (allL L) 5 kvZ.1 (some i)) := by
        show (if sumV vg L.length = 0 then none else some (sumV vg L.length - 1)) = _
        rw [HV.out]; rfl
      have hfk := fun W => fieldK W en.1.user (en.1.seq : Int) en.1.kind en.2
      have hl1 := hval.1
      have hl2 : L.length ≤ 1000 := HIT.out.1.few.1
      have hxw : IntKind.i64.wrap ((x.1 : Int) + 1) = (x.1 : Int) + 1 := by rw [IntKind.wrap_i64]; omega
      clear hval HV
      go_wp2_with fail
      have HB2 : Hid (Below w.heap.size w vx.drew) := HB1.out.drew
      obtain ⟨y0, y1, y2, y4, ys⟩ := HX.out _ HB2.out
      go_region_held3 (fun V => V.cell? ⟨p, 0, none⟩ = some (.slice la L.length lc) ∧ V.cell? ⟨p, 1, none⟩ = some (.int .i64 (x.1 : Int)) ∧ V.cell? ⟨p, 2, none⟩ = some (.int .i64 (x.2 : Int))) (first | with_reducible exact ⟨y0, y1, y2⟩ | exact HST.out | go_keep)
        (first
         | (go_at_call 40; refine (HE.out _ HB2.out).mono ?_; rintro _ vy ⟨rfl, hby⟩
            have HB2 : Hid (Below w.heap.size w vy) := HB2.out.trans (hby.mono HB2.out.size)
            obtain ⟨y0, y1, y2, y4, ys⟩ := HX.out _ HB2.out
            clear hby)
         | (go_at_call 42; refine (HO.out _ HB2.out).mono ?_; rintro _ vz ⟨hp2, pa2, pc2, ps2, rfl, hdz, hbz, hgz⟩
            have HON : Hid (Hd vz vy.heap.size hp2 la L.length lc false pa2 pc2 ps2 d0 ∧ Gp L false vg L.length ps2 ∧ w.heap.size ≤ hp2 ∧ (∀ j, blkOf pa2 = some j → w.heap.size ≤ j)) := ⟨hdz, hgz, Nat.le_trans HB2.out.size hdz.ge, fun j hj => Nat.le_trans HB2.out.size (hdz.row.ge hj).1⟩
            have HB2 : Hid (Below w.heap.size w vz) := HB2.out.trans (hbz.mono HB2.out.size)
            obtain ⟨y0, y1, y2, y4, ys⟩ := HX.out _ HB2.out
            have HST : Hid ((vz.setCell ⟨p, 4, none⟩ (at_ hp2)).cell? ⟨p, 0, none⟩ = some (.slice la L.length lc) ∧ (vz.setCell ⟨p, 4, none⟩ (at_ hp2)).cell? ⟨p, 1, none⟩ = some (.int .i64 (x.1 : Int)) ∧ (vz.setCell ⟨p, 4, none⟩ (at_ hp2)).cell? ⟨p, 2, none⟩ = some (.int .i64 (x.2 : Int))) := by
              have hb := (HIT.out.1.box.kept (HB2.out.block p HIT.out.1.box.lt)).set 4 (at_ hp2)
              exact ⟨hb.cell 0, hb.cell 1, hb.cell 2⟩
            clear hdz hbz hgz))
      have HIT2 := (HIT.out.1.below HB2.out).heads (at_ hp2)
      have hnp : hp2 ≠ p := by have := HIT.out.1.box.lt; have := HON.out.2.2.1; omega
      have hnq : ∀ j, blkOf pa2 = some j → j ≠ p := fun j hj => by have := HIT.out.1.box.lt; have := HON.out.2.2.2 j hj; omega
      have HT := vtake_any HIT2 (HON.out.1.kept (Below.heap_setCell _ _ _ _ hnp) fun k hk => Below.heap_setCell _ _ _ _ (hnq k hk)) (fun hr => by have := HIT.out.1.lt hp2 (HIT.out.1.rl hp2 hr); have := HON.out.2.2.1; omega) (fun j hj hr => by have := HIT.out.1.lt j (HIT.out.1.rl j hr); have := HON.out.2.2.2 j hj; omega) HON.out.2.1 HCU.out
      clear HIT2 hnp hnq y0 y1 y2 y4 ys
      go_wp2_with fail
      refine HT.mono ?_
      rintro _ w2 ⟨rfl, hw2⟩
      have HF : Hid (MgPost (MgV T) R p L (goP (allL L) 5 kvZ.1 (some i)) w w2) := by
        rw [← HA.out]
        exact hw2.laid HB2.out HIT.out.1.rp.1 HON.out.2.2.1 HON.out.2.2.2
      clear hw2 HT
      go_wp2
      go_end0
      exact ⟨rfl, HF.out⟩
end
end Go.Proofs.Ytjoamhcehpjepab
