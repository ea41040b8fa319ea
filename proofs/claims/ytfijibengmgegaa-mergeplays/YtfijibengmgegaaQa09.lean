/- Merge's iterator: At. -/
import Derived.Test.YtfijibengmgegaaM16MgM
import Derived.Test.YtfijibengmgegaaM16MgV
import Derived.Test.YtfijibengmgegaaM16MgE
namespace Go.Proofs.Ytfijibengmgegaa
open Go.RowKit
set_option linter.unusedVariables false
set_option linter.unusedSimpArgs false
section
variable {W W' w : World} {R RL : Nat → Prop} {p B : Nat} {la : Option Addr} {lc : Nat} {L : List (List KV)} {x last : PlL} {b : Bool} {hv : Value} {i hp : Nat} {up : Bool} {pa : Option Addr} {pc : Nat} {ps : List PlL} {v : Nat → Nat} {o : Option Nat}
theorem mg_below (h : Mg16 w R p L o) (hb : Below w.heap.size w W') : MgPost Mg16 R p L o w W' := ⟨R, mg_kept h hb.size fun k hk => hb.block k (mg_lt h k hk), fun k hk => .inl hk, Chg.of hb⟩
theorem told_at (h : (allP L)[i]? = some x) : told16 (allL L) (some i) = (entL L x, true) := by
  unfold told16 allL
  simp [List.getD, h]
abbrev putK (W : World) (q : Nat) (e : KV) : World := (((W.setCell ⟨q, 0, none⟩ (.string e.1.user)).setCell ⟨q, 1, none⟩ (.int .u64 (e.1.seq : Int))).setCell ⟨q, 2, none⟩ (.int .i64 e.1.kind)).setCell ⟨q, 3, none⟩ (.string e.2)
abbrev kvz4 : Array Value := #[.string ⟨#[]⟩, .int .u64 0, .int .i64 0, .string ⟨#[]⟩]
theorem putK_other {W : World} {q r : Nat} {t : TypeId} {arr : Array Value} {e : KV} (h : Box W r t arr) (hn : r ≠ q) : Box (putK W q e) r t arr := (((h.other hn _ _).other hn _ _).other hn _ _).other hn _ _
theorem putK_box {W : World} {q : Nat} {e : KV} (h : Box W q TKV kvz4) : Box (putK W q e) q TKV #[.string e.1.user, .int .u64 (e.1.seq : Int), .int .i64 e.1.kind, .string e.2] := ((((h.set 0 _).set 1 _).set 2 _).set 3 _).eq (by simp)
set_option maxRecDepth 100000 in
set_option maxHeartbeats 2000000 in
theorem at_16 (h : Mg16 w R p L o) : Calls Try.prog 13 #[at_ p] w fun e w' => e = .returned (.tuple #[kvV (told16 (allL L) o).1, .bool (told16 (allL L) o).2]) ∧ MgPost Mg16 R p L o w w' := by
  have HM : Hid (Mg16 w R p L o) := h
  obtain ⟨RL, la, lc, x, hv, hit, hso⟩ := h
  have x3 := hit.box.cell 3
  simp only [List.getElem?_toArray, List.getElem?_cons_succ, List.getElem?_cons_zero] at x3
  have hpl := hit.box.lt
  cases o with
  | none =>
    have x3 : w.cell? ⟨p, 3, none⟩ = some (.bool false) := x3
    have HF : Hid (MgPost Mg16 R p L none w (w.alloc (.cells kvz4 TKV))) := mg_below HM.out ((Below.refl _ _).alloc (Nat.le_refl _) _)
    clear hit hso
    go_enter Try.func13, Try.ntmps13
    go_wp2
    exact bodyPost_ret (v := .tuple #[.agg kvz4, .bool false]) (by simp [results, Try.results13, go_sem]) rfl ⟨rfl, HF.out⟩
  | some i =>
    obtain ⟨up, hp, pa, pc, ps, v, rfl, hs⟩ := hso i rfl
    have x3 : w.cell? ⟨p, 3, none⟩ = some (.bool true) := x3
    have hval : x.1 < L.length ∧ x.2 < lenL L x.1 := by
      have h1 : validL L x := mem_allP.1 (List.mem_of_getElem? hs.at')
      have h2 : x.2 < lenL L x.1 := h1
      refine ⟨?_, h2⟩
      apply Classical.byContradiction
      intro hn
      rw [lenL_out (L := L) (i := x.1) (by omega)] at h2
      omega
    have HIT : Hid (It w R RL p la lc L x true (at_ hp)) := hit
    have hq := Box.new w TKV kvz4
    have HW1 : Hid (Below w.heap.size w (w.alloc (.cells kvz4 TKV)) ∧ Box (w.alloc (.cells kvz4 TKV)) w.heap.size TKV kvz4 ∧ (w.alloc (.cells kvz4 TKV)).heap.size = w.heap.size + 1) := ⟨(Below.refl _ _).alloc (Nat.le_refl _) _, hq, by simp⟩
    have HT : Hid (told16 (allL L) (some i) = (entL L x, true)) := told_at hs.at'
    have HX : Hid (∀ W, Below w.heap.size w W → W.cell? ⟨p, 0, none⟩ = some (.slice la L.length lc) ∧ W.cell? ⟨p, 1, none⟩ = some (.int .i64 (x.1 : Int)) ∧ W.cell? ⟨p, 2, none⟩ = some (.int .i64 (x.2 : Int))) := fun W hW => by
      have hb := hit.box.kept (hW.block p hit.box.lt)
      exact ⟨hb.cell 0, hb.cell 1, hb.cell 2⟩
    have HE : Hid (∀ W, Below w.heap.size w W → Calls Try.prog 27 #[.slice la L.length lc, .agg #[.int .i64 (x.1 : Int), .int .i64 (x.2 : Int)]] W fun e w' => e = .returned (.agg #[.string (entL L x).1.user, .int .u64 ((entL L x).1.seq : Int), .int .i64 (entL L x).1.kind, .string (entL L x).2]) ∧ Below W.heap.size W w') := fun W hW => entry_any (i := x.1) (j := x.2) ((hit.below hW).ls.ls) hval.1 hval.2
    clear hit hso hs hval hq
    generalize entL L x = en at HE HT
    go_enter Try.func13, Try.ntmps13
    go_wp2_with fail
    generalize w.alloc (.cells kvz4 TKV) = w1 at HW1 ⊢
    have HB0 : Hid (Below w1.heap.size w1 w1.drew) := (Below.refl _ _).drew
    obtain ⟨y0, y1, y2⟩ := HX.out _ HW1.out.1.drew
    go_region_held3 (fun V => V.cell? ⟨p, 0, none⟩ = some (.slice la L.length lc) ∧ V.cell? ⟨p, 1, none⟩ = some (.int .i64 (x.1 : Int)) ∧ V.cell? ⟨p, 2, none⟩ = some (.int .i64 (x.2 : Int))) (first | with_reducible exact ⟨y0, y1, y2⟩ | exact HST.out | go_keep)
      (first
       | (go_at_call 27; refine (HE.out _ HW1.out.1.drew).mono ?_; rintro _ vx ⟨rfl, hbx⟩
          have HB2 : Hid (Below w.heap.size w vx ∧ Box vx w.heap.size TKV kvz4) := by
            have hb2 := HB0.out.trans (hbx.mono HB0.out.size)
            exact ⟨HW1.out.1.trans (hb2.mono (by have := HW1.out.2.2; omega)), HW1.out.2.1.kept (hb2.block _ HW1.out.2.1.lt)⟩
          have HST : Hid ((putK vx w.heap.size en).cell? ⟨p, 0, none⟩ = some (.slice la L.length lc) ∧ (putK vx w.heap.size en).cell? ⟨p, 1, none⟩ = some (.int .i64 (x.1 : Int)) ∧ (putK vx w.heap.size en).cell? ⟨p, 2, none⟩ = some (.int .i64 (x.2 : Int))) := by
            have hb := putK_other (e := en) (HIT.out.box.kept (HB2.out.1.block p HIT.out.box.lt)) (show p ≠ w.heap.size by omega)
            exact ⟨hb.cell 0, hb.cell 1, hb.cell 2⟩
          obtain ⟨y0, y1, y2⟩ := HX.out _ HB2.out.1
          have q0 := HB2.out.2.cell 0
          have q1 := HB2.out.2.cell 1
          have q2 := HB2.out.2.cell 2
          have q3 := HB2.out.2.cell 3
          simp only [List.getElem?_toArray, List.getElem?_cons_succ, List.getElem?_cons_zero] at q0 q1 q2 q3
          have qs := HB2.out.2.soft
          clear hbx))
    have HF : Hid (MgPost Mg16 R p L (some i) w (putK vx w.heap.size en)) := mg_below HM.out ((((HB2.out.1.setCell (p := ⟨w.heap.size, 0, none⟩) (Nat.le_refl _) _).setCell (p := ⟨w.heap.size, 1, none⟩) (Nat.le_refl _) _).setCell (p := ⟨w.heap.size, 2, none⟩) (Nat.le_refl _) _).setCell (p := ⟨w.heap.size, 3, none⟩) (Nat.le_refl _) _)
    have hbk := putK_box (e := en) HB2.out.2
    clear q0 q1 q2 q3 qs y0 y1 y2 HST
    unfold putK at HF hbk
    generalize (((vx.setCell ⟨w.heap.size, 0, none⟩ (.string en.1.user)).setCell ⟨w.heap.size, 1, none⟩ (.int .u64 (en.1.seq : Int))).setCell ⟨w.heap.size, 2, none⟩ (.int .i64 en.1.kind)).setCell ⟨w.heap.size, 3, none⟩ (.string en.2) = W4 at HF hbk ⊢
    have r0 := hbk.cell 0
    have r1 := hbk.cell 1
    have r2 := hbk.cell 2
    have r3 := hbk.cell 3
    simp only [List.getElem?_toArray, List.getElem?_cons_succ, List.getElem?_cons_zero] at r0 r1 r2 r3
    go_wp2
    exact bodyPost_ret (v := .tuple #[.agg #[.string en.1.user, .int .u64 (en.1.seq : Int), .int .i64 en.1.kind, .string en.2], .bool true]) (by simp [results, Try.results13, go_sem, r0, r1, r2, r3]) rfl ⟨by rw [HT.out]; rfl, HF.out⟩
end
end Go.Proofs.Ytfijibengmgegaa
/- Merge's own iterator keeps what is asked of it. -/
namespace Go.Proofs.Ytfijibengmgegaa
open Go.RowKit
set_option linter.unusedVariables false
set_option linter.unusedSimpArgs false
set_option maxRecDepth 100000 in
set_option maxHeartbeats 1000000 in
theorem nil_first (w : World) : Calls Try.prog 17 #[nilIt] w fun e w' => e = .returned (.tuple #[]) ∧ Below w.heap.size w w' := by
  go_enter Try.func17, Try.ntmps17
  go_wp2
  go_end0
  exact ⟨rfl, (Below.refl _ _)⟩
set_option maxRecDepth 100000 in
set_option maxHeartbeats 1000000 in
theorem nil_last (w : World) : Calls Try.prog 21 #[nilIt] w fun e w' => e = .returned (.tuple #[]) ∧ Below w.heap.size w w' := by
  go_enter Try.func21, Try.ntmps21
  go_wp2
  go_end0
  exact ⟨rfl, (Below.refl _ _)⟩
set_option maxRecDepth 100000 in
set_option maxHeartbeats 1000000 in
theorem nil_next (w : World) : Calls Try.prog 19 #[nilIt] w fun e w' => e = .returned (.tuple #[]) ∧ Below w.heap.size w w' := by
  go_enter Try.func19, Try.ntmps19
  go_wp2
  go_returns
  exact ⟨rfl, (Below.refl _ _)⟩
set_option maxRecDepth 100000 in
set_option maxHeartbeats 1000000 in
theorem nil_prev (w : World) : Calls Try.prog 18 #[nilIt] w fun e w' => e = .returned (.tuple #[]) ∧ Below w.heap.size w w' := by
  go_enter Try.func18, Try.ntmps18
  go_wp2
  go_returns
  exact ⟨rfl, (Below.refl _ _)⟩
set_option maxRecDepth 100000 in
set_option maxHeartbeats 1000000 in
theorem nil_seek (k : IK) (w : World) : Calls Try.prog 22 #[nilIt, keyV k] w fun e w' => e = .returned (.tuple #[]) ∧ Below w.heap.size w w' := by
  go_enter Try.func22, Try.ntmps22
  go_wp2
  go_end0
  exact ⟨rfl, ((Below.refl _ _).alloc (Nat.le_refl _) _)⟩
set_option maxRecDepth 100000 in
set_option maxHeartbeats 1000000 in
theorem nil_at (w : World) : Calls Try.prog 13 #[nilIt] w fun e w' => e = .returned (.tuple #[kvV kvZ, .bool false]) ∧ Below w.heap.size w w' := by
  go_enter Try.func13, Try.ntmps13
  go_wp2
  exact bodyPost_ret (v := .tuple #[.agg kvz4, .bool false]) (by simp [results, Try.results13, go_sem]) rfl ⟨rfl, (Below.refl _ _).alloc (Nat.le_refl _) _⟩
theorem nil16 : MgNil := ⟨nil_first, nil_last, nil_seek, nil_next, nil_prev, nil_at⟩
theorem mg16 : MgOk Mg16 where
  kept := mg_kept
  lt := mg_lt
  fit := mg_fit
  new := new_16
  first := first_16
  last := last_16
  seek := seek_16
  next := next_16
  prev := prev_16
  at' := at_16
end Go.Proofs.Ytfijibengmgegaa
