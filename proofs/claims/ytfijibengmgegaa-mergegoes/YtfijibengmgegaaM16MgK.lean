/- What comes first is taken: the contract of take, of fit. -/
import Derived.Test.YtfijibengmgegaaM16MgT
namespace Go.Proofs.Ytfijibengmgegaa
open Go.RowKit
set_option linter.unusedVariables false
set_option linter.unusedSimpArgs false
section
variable {w w' : World} {B hp : Nat} {la : Option Addr} {ln lc : Nat} {up : Bool} {pa : Option Addr} {pc : Nat} {ps : List PlL} {last : PlL} {L : List (List KV)} {v : Nat → Nat}
abbrev CHt (pa : Option Addr) (hp : Nat) : Nat → Prop := fun k => blkOf pa = some k ∨ k = hp
def TakeP (w : World) (B hp : Nat) (la : Option Addr) (ln lc : Nat) (up : Bool) (pa : Option Addr) (pc : Nat) (ps : List PlL) (last : PlL) (L : List (List KV)) (v : Nat → Nat) (e : Ending) (w' : World) : Prop :=
  (ps = [] → e = .returned (.tuple #[plV 0 0, .bool false]) ∧ Hd w' B hp la ln lc up pa pc ps last ∧ Chg (CHt pa hp) w w') ∧
  (ps ≠ [] → ∃ qs, e = .returned (.tuple #[plV (ps.getD 0 d0).1 ((ps.getD 0 d0).2 : Int), .bool true]) ∧ Hd w' B hp la ln lc up pa pc qs (ps.getD 0 d0) ∧ Chg (CHt pa hp) w w' ∧ Gp L up (stepV up v (ps.getD 0 d0).1) ln qs)
set_option maxRecDepth 100000 in
set_option maxHeartbeats 2000000 in
theorem take_none (h : Hd w B hp la ln lc up pa pc [] last) :
    Calls Try.prog 43 #[at_ hp] w fun e w' => e = .returned (.tuple #[plV 0 0, .bool false]) ∧ Hd w' B hp la ln lc up pa pc [] last ∧ Chg (CHt pa hp) w w' := by
  have x3 := h.box.cell 3
  simp only [List.getElem?_toArray, List.getElem?_cons_succ, List.getElem?_cons_zero, List.length_nil] at x3
  have HF : Hid (Hd (w.alloc (.cells #[.int .i64 0, .int .i64 0] TPl)) B hp la ln lc up pa pc [] last ∧ Chg (CHt pa hp) w (w.alloc (.cells #[.int .i64 0, .int .i64 0] TPl))) := ⟨h.below ((Below.refl _ _).alloc (Nat.le_refl _) _), (Chg.refl _ _).alloc _⟩
  have hpl := h.box.lt
  clear h
  go_enter Try.func43, Try.ntmps43
  go_wp2
  exact bodyPost_ret (v := .tuple #[.agg #[.int .i64 0, .int .i64 0], .bool false]) (by simp [results, Try.results43, go_sem]) rfl ⟨rfl, HF.out⟩
/-- What take keeps while it works. -/
structure Tk (w W : World) (B hp : Nat) (la : Option Addr) (ln lc : Nat) (up : Bool) (g pc : Nat) (ps : List PlL) (x : PlL) (y : Int) : Prop where
  hd : Hd W B hp la ln lc up (some ⟨g, 0, none⟩) pc ps x
  res : Box W w.heap.size TPl #[.int .i64 0, .int .i64 0]
  nxt : Box W (w.heap.size + 1) TPl #[.int .i64 (x.1 : Int), .int .i64 y]
  chg : Chg (CHt (some ⟨g, 0, none⟩) hp) w W
  old : hp < w.heap.size ∧ g < w.heap.size ∧ hp ≠ g
theorem Tk.below {W W' : World} {g : Nat} {x : PlL} {y : Int} (h : Tk w W B hp la ln lc up g pc ps x y) (hb : Below W.heap.size W W') : Tk w W' B hp la ln lc up g pc ps x y := ⟨h.hd.below hb, h.res.kept (hb.block _ h.res.lt), h.nxt.kept (hb.block _ h.nxt.lt), chg_below h.chg hb, h.old⟩
theorem Tk.start {g : Nat} {x : PlL} {sI : Int} (h : Hd w B hp la ln lc up (some ⟨g, 0, none⟩) pc ps last) : Tk w ((((w.setCell ⟨hp, 4, none⟩ (.int .i64 (x.1 : Int))).setCell ⟨hp, 5, none⟩ (.int .i64 (x.2 : Int))).alloc (.cells #[.int .i64 0, .int .i64 0] TPl)).alloc (.cells #[.int .i64 (x.1 : Int), .int .i64 ((x.2 : Int) + sI)] TPl)).drew B hp la ln lc up g pc ps x ((x.2 : Int) + sI) := by
  have hne : hp ≠ g := h.apart rfl
  have hpl := h.box.lt
  have hgl := (h.row.ge (k := g) rfl).2
  have hb : Box ((((w.setCell ⟨hp, 4, none⟩ (.int .i64 (x.1 : Int))).setCell ⟨hp, 5, none⟩ (.int .i64 (x.2 : Int))).alloc (.cells #[.int .i64 0, .int .i64 0] TPl)).alloc (.cells #[.int .i64 (x.1 : Int), .int .i64 ((x.2 : Int) + sI)] TPl)).drew hp THd _ := (((h.box.set 4 (.int .i64 (x.1 : Int))).set 5 (.int .i64 (x.2 : Int))).alloc (.cells #[.int .i64 0, .int .i64 0] TPl)).alloc (.cells #[.int .i64 (x.1 : Int), .int .i64 ((x.2 : Int) + sI)] TPl)
  have hr1 := Box.new ((w.setCell ⟨hp, 4, none⟩ (.int .i64 (x.1 : Int))).setCell ⟨hp, 5, none⟩ (.int .i64 (x.2 : Int))) TPl #[.int .i64 0, .int .i64 0]
  have hr2 := Box.new (((w.setCell ⟨hp, 4, none⟩ (.int .i64 (x.1 : Int))).setCell ⟨hp, 5, none⟩ (.int .i64 (x.2 : Int))).alloc (.cells #[.int .i64 0, .int .i64 0] TPl)) TPl #[.int .i64 (x.1 : Int), .int .i64 ((x.2 : Int) + sI)]
  rw [show ((w.setCell ⟨hp, 4, none⟩ (.int .i64 (x.1 : Int))).setCell ⟨hp, 5, none⟩ (.int .i64 (x.2 : Int))).heap.size = w.heap.size by simp] at hr1
  rw [show (((w.setCell ⟨hp, 4, none⟩ (.int .i64 (x.1 : Int))).setCell ⟨hp, 5, none⟩ (.int .i64 (x.2 : Int))).alloc (.cells #[.int .i64 0, .int .i64 0] TPl)).heap.size = w.heap.size + 1 by simp] at hr2
  refine ⟨⟨h.ge, hb.eq (by simp), h.row.kept fun k hk => ?_⟩, hr1.alloc _, hr2, ((((((Chg.refl (CHt (some ⟨g, 0, none⟩) hp) w).set (p := hp) (fun _ => .inr rfl) _ _).set (p := hp) (fun _ => .inr rfl) _ _).alloc _).alloc _).drew), hpl, hgl, hne⟩
  have e : g = k := by simpa [blkOf] using hk
  subst e
  exact (Below.heap_alloc _ _ g (by simp; omega)).trans ((Below.heap_alloc _ _ g (by simpa using hgl)).trans ((Below.heap_setCell _ _ _ _ (fun e => hne e.symm)).trans (Below.heap_setCell _ _ _ _ (fun e => hne e.symm))))
theorem Tk.put {W : World} {g : Nat} {x : PlL} {y : Int} {j : Nat} (h : Tk w W B hp la ln lc up g pc ps x y) (hy : y = (j : Int)) : Tk w ((W.setCell ⟨g, 0, none⟩ (.int .i64 (x.1 : Int))).setCell ⟨g, 1, none⟩ (.int .i64 y)).drew B hp la ln lc up g pc (ps.set 0 (x.1, j)) x y := by
  subst hy
  obtain ⟨o1, o2, o3⟩ := h.old
  have hs := (h.hd.row.set 0 (x.1, j))
  simp only [Nat.zero_mul, Nat.zero_add] at hs
  have hl : (ps.set 0 (x.1, j)).length = ps.length := by simp
  refine ⟨⟨h.hd.ge, ?_, ?_⟩, (h.res.other (by omega) _ _).other (by omega) _ _, (h.nxt.other (by omega) _ _).other (by omega) _ _, ((h.chg.set (p := g) (fun _ => .inl rfl) _ _).set (p := g) (fun _ => .inl rfl) _ _).drew, h.old⟩
  · rw [hl]; exact (h.hd.box.other o3 _ _).other o3 _ _
  · rw [hl]; exact hs.kept fun _ _ => rfl
theorem Tk.chgd {W W' : World} {g : Nat} {x : PlL} {y : Int} {qs : List PlL} (h : Tk w W B hp la ln lc up g pc ps x y) (hd : Hd W' B hp la ln lc up (some ⟨g, 0, none⟩) pc qs x) (hc : Chg (CHt (some ⟨g, 0, none⟩) hp) W W') : Tk w W' B hp la ln lc up g pc qs x y := by
  obtain ⟨o1, o2, o3⟩ := h.old
  have key : ∀ k, w.heap.size ≤ k → ¬ CHt (some ⟨g, 0, none⟩) hp k := fun k hk hc => by
    rcases hc with hc | hc
    · have e : g = k := by simpa [blkOf] using hc
      omega
    · omega
  exact ⟨hd, h.res.kept (hc.block _ h.res.lt (key _ (Nat.le_refl _))), h.nxt.kept (hc.block _ h.nxt.lt (key _ (by omega))), h.chg.andThen hc fun _ _ e => e, h.old⟩
set_option maxRecDepth 100000 in
set_option maxHeartbeats 2000000 in
theorem take_some {x : PlL} {t : List PlL} (h : Hd w B hp la ln lc up pa pc (x :: t) last) (hl : ∀ W, Chg (CHt pa hp) w W → LsAt W la ln lc L) (hv : ∀ i, v i ≤ lenL L i) (hfew : ∀ i, lenL L i ≤ 4000000000000) (hln : ln ≤ 1000) (hg : Gp L up v ln (x :: t)) :
    Calls Try.prog 43 #[at_ hp] w fun e w' => ∃ qs, e = .returned (.tuple #[plV x.1 (x.2 : Int), .bool true]) ∧ Hd w' B hp la ln lc up pa pc qs x ∧ Chg (CHt pa hp) w w' ∧ Gp L up (stepV up v x.1) ln qs := by
  have hin := hg.inL hv (Nat.le_refl _)
  have hx := hin x (by simp)
  have hlen : (x :: t).length = t.length + 1 := rfl
  have hx2 : x.2 < 4000000000000 := by have := hfew x.1; have h2 : x.2 < lenL L x.1 := hx.2; omega
  have hxl := hx.1
  obtain ⟨sI, hsI⟩ : ∃ s, s = stepI up := ⟨_, rfl⟩
  have HH : Hid ((∀ W, Chg (CHt pa hp) w W → LsAt W la ln lc L) ∧ (∀ i, v i ≤ lenL L i) ∧ Gp L up v ln (x :: t) ∧ InL L ln (x :: t) ∧ (x.1 < ln ∧ x.2 < lenL L x.1 ∧ t.length + 1 ≤ ln)) := ⟨hl, hv, hg, hin, hx.1, hx.2, hg.len⟩
  have HSI : Hid (sI = stepI up) := hsI
  have hs1 : -1 ≤ sI := by rw [hsI]; cases up <;> decide
  have hs2 : sI ≤ 1 := by rw [hsI]; cases up <;> decide
  obtain ⟨g, rfl, hc, hf⟩ := h.row.spots (by simp)
  obtain ⟨y0, y1⟩ := hc 0 (by simp)
  have e0 : (x :: t).getD 0 d0 = x := rfl
  rw [e0] at y0 y1
  have x1 := h.box.cell 1
  have x3 := h.box.cell 3
  have x4 := h.box.cell 4
  have x5 := h.box.cell 5
  have xs := h.box.soft
  simp only [List.getElem?_toArray, List.getElem?_cons_succ, List.getElem?_cons_zero, hlen] at x1 x3 x4 x5
  rw [← hsI] at x1
  have HT : Hid (_) := Tk.start (x := x) (sI := sI) h
  have hpg : hp ≠ g := h.apart rfl
  have hpl := h.box.lt
  have hgl := (h.row.ge (k := g) rfl).2
  have hxi := fun W => idxP W (b := g) (c := pc) (n := t.length + 1) (i := 0) (by omega)
  simp only [Nat.zero_mul, Nat.zero_add] at y0 y1 hxi
  clear h hl hv hfew hg hin hx hc e0 hsI
  go_enter Try.func43, Try.ntmps43
  go_wp2_with fail
  go_region
  clear x1 x3 x4 x5 xs y0 y1 hf
  generalize ((((w.setCell ⟨hp, 4, none⟩ (.int .i64 (x.1 : Int))).setCell ⟨hp, 5, none⟩ (.int .i64 (x.2 : Int))).alloc (.cells #[.int .i64 0, .int .i64 0] TPl)).alloc (.cells #[.int .i64 (x.1 : Int), .int .i64 ((x.2 : Int) + sI)] TPl)).drew = W2 at HT ⊢
  have hb0 := HT.out.hd.box.cell 0
  have hn0 := HT.out.nxt.cell 0
  have hn1 := HT.out.nxt.cell 1
  simp only [List.getElem?_toArray, List.getElem?_cons_succ, List.getElem?_cons_zero] at hb0 hn0 hn1
  have HHAS : Hid (∀ W, Below W2.heap.size W2 W → Calls Try.prog 47 #[.slice la ln lc, .agg #[.int .i64 (x.1 : Int), .int .i64 ((x.2 : Int) + sI)]] W fun e w' => e = .returned (.bool (decide (0 ≤ (x.2 : Int) + sI ∧ (x.2 : Int) + sI < (lenL L x.1 : Int)))) ∧ Below W.heap.size W w') := fun W hW => has_any (HH.out.1 W (chg_below HT.out.chg hW)) hxl _
  obtain ⟨bb, hbb⟩ : ∃ b, decide (0 ≤ (x.2 : Int) + sI ∧ (x.2 : Int) + sI < (lenL L x.1 : Int)) = b := ⟨_, rfl⟩
  have HBB : Hid (decide (0 ≤ (x.2 : Int) + sI ∧ (x.2 : Int) + sI < (lenL L x.1 : Int)) = bb) := hbb
  rw [hbb] at HHAS
  clear hbb
  have HB0 : Hid (Below W2.heap.size W2 W2.drew) := (Below.refl _ _).drew
  go_wp2_with fail
  go_region_held3 (fun V => V.cell? ⟨hp, 0, none⟩ = some (.slice la ln lc) ∧ V.cell? ⟨w.heap.size + 1, 0, none⟩ = some (.int .i64 (x.1 : Int)) ∧ V.cell? ⟨w.heap.size + 1, 1, none⟩ = some (.int .i64 ((x.2 : Int) + sI))) (first | exact ⟨hb0, hn0, hn1⟩ | go_keep)
    (first
     | (go_at_call 47; refine (HHAS.out _ HB0.out).mono ?_; rintro _ vx ⟨rfl, hbx⟩
        have HB0 : Hid (Below W2.heap.size W2 vx) := HB0.out.trans (hbx.mono HB0.out.size)
        have HT3 : Hid (Tk w vx B hp la ln lc up g pc (x :: t) x ((x.2 : Int) + sI)) := HT.out.below HB0.out
        have hb0 : vx.cell? ⟨hp, 0, none⟩ = some (.slice la ln lc) := HT3.out.hd.box.cell 0
        have hn0 : vx.cell? ⟨w.heap.size + 1, 0, none⟩ = some (.int .i64 (x.1 : Int)) := HT3.out.nxt.cell 0
        have hn1 : vx.cell? ⟨w.heap.size + 1, 1, none⟩ = some (.int .i64 ((x.2 : Int) + sI)) := HT3.out.nxt.cell 1
        clear hbx))
  clear HT HHAS HB0
  have hb3 := HT3.out.hd.box.cell 3
  simp only [List.getElem?_toArray, List.getElem?_cons_succ, List.getElem?_cons_zero, hlen] at hb3
  obtain ⟨g', hg', hc, hf⟩ := HT3.out.hd.row.spots (by simp)
  simp only [Option.some.injEq, Addr.mk.injEq, and_true] at hg'
  subst hg'
  obtain ⟨y0, y1⟩ := hc 0 (by simp)
  simp only [Nat.zero_mul, Nat.zero_add] at y0 y1
  clear hc
  cases bb with
  | true =>
    have hyy : 0 ≤ (x.2 : Int) + sI ∧ (x.2 : Int) + sI < (lenL L x.1 : Int) := of_decide_eq_true HBB.out
    obtain ⟨j, hj⟩ : ∃ j : Nat, (x.2 : Int) + sI = (j : Int) := ⟨((x.2 : Int) + sI).toNat, by omega⟩
    have hset : (x :: t).set 0 (x.1, j) = (x.1, j) :: t := rfl
    have HT4 : Hid (_) := HT3.out.put hj
    have HJ : Hid ((x.2 : Int) + sI = (j : Int) ∧ j < lenL L x.1 ∧ InL L ln ((x.1, j) :: t) ∧ HeapF (ltD L up) ((x.1, j) :: t).length 1 (fun k => ((x.1, j) :: t).getD k d0)) := by
      refine ⟨hj, by omega, fun q hq => ?_, ?_⟩
      · rcases List.mem_cons.1 hq with e | e
        · rw [e]; exact ⟨HH.out.2.2.2.2.1, show j < lenL L x.1 by omega⟩
        · exact HH.out.2.2.2.1 q (by simp [e])
      · refine HH.out.2.2.1.heap.from1 (Nat.le_refl _) fun k hk hkn => ?_
        cases k with
        | zero => exact absurd hk (Nat.lt_irrefl _)
        | succ k => rfl
    clear hyy hj
    rw [hset] at HT4
    clear hset
    go_wp2_with fail
    go_region
    clear hb0 hn0 hn1 hb3 y0 y1 hf HT3
    generalize ((vx.setCell ⟨g, 0, none⟩ (.int .i64 (x.1 : Int))).setCell ⟨g, 1, none⟩ (.int .i64 ((x.2 : Int) + sI))).drew = W4 at HT4 ⊢
    go_wp2_with fail
    have hfix := fix_any (L := L) HT4.out.hd (fun W hW => HH.out.1 W (HT4.out.chg.andThen (hW.wide fun k _ e => Or.inl e) fun _ _ e => e)) HJ.out.2.2.1 (by have := HH.out.2.2.2.2.2.2; simp; omega) (by simp) HJ.out.2.2.2
    refine hfix.mono ?_
    rintro _ w5 ⟨rfl, qs, hp5, hd5, hc5, hf5⟩
    have HT5 : Hid (Tk w w5 B hp la ln lc up g pc qs x ((x.2 : Int) + sI) ∧ Gp L up (stepV up v x.1) ln qs) := ⟨HT4.out.chgd hd5 (hc5.wide fun k _ e => Or.inl e), HH.out.2.2.1.fixed (qs := qs) HH.out.2.1 (by simp) (j := j) (by rw [← HJ.out.1, HSI.out]; rfl) HJ.out.2.1 hp5 (by rw [hp5.length_eq]; exact hf5)⟩
    clear hp5 hd5 hc5 hf5 hfix HT4 HJ
    have z4 := HT5.out.1.hd.box.cell 4
    have z5 := HT5.out.1.hd.box.cell 5
    have r0 := HT5.out.1.res.cell 0
    have r1 := HT5.out.1.res.cell 1
    have rs := HT5.out.1.res.soft
    have hrl := HT5.out.1.res.lt
    simp only [List.getElem?_toArray, List.getElem?_cons_succ, List.getElem?_cons_zero] at z4 z5 r0 r1
    have HF : Hid (Hd ((w5.setCell ⟨w.heap.size, 0, none⟩ (.int .i64 (x.1 : Int))).setCell ⟨w.heap.size, 1, none⟩ (.int .i64 (x.2 : Int))) B hp la ln lc up (some ⟨g, 0, none⟩) pc qs x ∧ Chg (CHt (some ⟨g, 0, none⟩) hp) w ((w5.setCell ⟨w.heap.size, 0, none⟩ (.int .i64 (x.1 : Int))).setCell ⟨w.heap.size, 1, none⟩ (.int .i64 (x.2 : Int)))) := by
      obtain ⟨o1, o2, o3⟩ := HT5.out.1.old
      refine ⟨HT5.out.1.hd.kept ((Below.heap_setCell _ _ _ _ (show hp ≠ w.heap.size by omega)).trans (Below.heap_setCell _ _ _ _ (show hp ≠ w.heap.size by omega))) fun k hk => ?_, (HT5.out.1.chg.set (p := w.heap.size) (fun h => absurd h (Nat.lt_irrefl _)) _ _).set (p := w.heap.size) (fun h => absurd h (Nat.lt_irrefl _)) _ _⟩
      have e : g = k := by simpa [blkOf] using hk
      subst e
      exact (Below.heap_setCell _ _ _ _ (show g ≠ w.heap.size by omega)).trans (Below.heap_setCell _ _ _ _ (show g ≠ w.heap.size by omega))
    go_wp2
    exact bodyPost_ret (v := .tuple #[.agg #[.int .i64 (x.1 : Int), .int .i64 (x.2 : Int)], .bool true]) (by simp [results, Try.results43, go_sem, r0, r1, hrl]) rfl ⟨qs, rfl, HF.out.1, HF.out.2, HT5.out.2⟩
  | false =>
    have hyn : ¬ (0 ≤ (x.2 : Int) + sI ∧ (x.2 : Int) + sI < (lenL L x.1 : Int)) := of_decide_eq_false HBB.out
    have HYN : Hid (¬ (0 ≤ (x.2 : Int) + sI ∧ (x.2 : Int) + sI < (lenL L x.1 : Int))) := hyn
    clear hyn hb0 hn0 hn1 hb3 y0 y1 hf
    go_wp2_with fail
    have hpop := pop_any (L := L) (n := t.length) HT3.out.hd (fun W hW => HH.out.1 W (HT3.out.chg.andThen (hW.wide fun k _ e => Or.inl e) fun _ _ e => e)) HH.out.2.2.2.1 (by have := HH.out.2.2.2.2.2.2; simp; omega) rfl HH.out.2.2.1.heap
    refine hpop.mono ?_
    rintro _ w5 ⟨⟨v5, rfl⟩, qs, hp5, hd5, hc5, hf5⟩
    have HT5 : Hid (Tk w w5 B hp la ln lc up g pc qs x ((x.2 : Int) + sI) ∧ Gp L up (stepV up v x.1) ln qs) := ⟨HT3.out.chgd hd5 hc5, HH.out.2.2.1.popped (qs := qs) HH.out.2.1 (by simp) (by rw [← HSI.out]; exact HYN.out) hp5 hf5⟩
    clear hp5 hd5 hc5 hf5 hpop HT3 HYN
    have z4 := HT5.out.1.hd.box.cell 4
    have z5 := HT5.out.1.hd.box.cell 5
    have r0 := HT5.out.1.res.cell 0
    have r1 := HT5.out.1.res.cell 1
    have rs := HT5.out.1.res.soft
    have hrl := HT5.out.1.res.lt
    simp only [List.getElem?_toArray, List.getElem?_cons_succ, List.getElem?_cons_zero] at z4 z5 r0 r1
    have HF : Hid (Hd ((w5.setCell ⟨w.heap.size, 0, none⟩ (.int .i64 (x.1 : Int))).setCell ⟨w.heap.size, 1, none⟩ (.int .i64 (x.2 : Int))) B hp la ln lc up (some ⟨g, 0, none⟩) pc qs x ∧ Chg (CHt (some ⟨g, 0, none⟩) hp) w ((w5.setCell ⟨w.heap.size, 0, none⟩ (.int .i64 (x.1 : Int))).setCell ⟨w.heap.size, 1, none⟩ (.int .i64 (x.2 : Int)))) := by
      obtain ⟨o1, o2, o3⟩ := HT5.out.1.old
      refine ⟨HT5.out.1.hd.kept ((Below.heap_setCell _ _ _ _ (show hp ≠ w.heap.size by omega)).trans (Below.heap_setCell _ _ _ _ (show hp ≠ w.heap.size by omega))) fun k hk => ?_, (HT5.out.1.chg.set (p := w.heap.size) (fun h => absurd h (Nat.lt_irrefl _)) _ _).set (p := w.heap.size) (fun h => absurd h (Nat.lt_irrefl _)) _ _⟩
      have e : g = k := by simpa [blkOf] using hk
      subst e
      exact (Below.heap_setCell _ _ _ _ (show g ≠ w.heap.size by omega)).trans (Below.heap_setCell _ _ _ _ (show g ≠ w.heap.size by omega))
    go_wp2
    exact bodyPost_ret (v := .tuple #[.agg #[.int .i64 (x.1 : Int), .int .i64 (x.2 : Int)], .bool true]) (by simp [results, Try.results43, go_sem, r0, r1, hrl]) rfl ⟨qs, rfl, HF.out.1, HF.out.2, HT5.out.2⟩
end
end Go.Proofs.Ytfijibengmgegaa
