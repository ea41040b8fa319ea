/- One file's cut in a crash, told over whole file systems. -/
import Derived.Test.YtmlfbihlbiikeaaGreatDoorQc35
namespace Go.Proofs.YtmlfbihlbiikeaaGreatDoor
open Go.RowKit Go.Maps
theorem Gh.put_self (g : Gh) (k : Nat) : g.put k (g.fl k) = g := by
  unfold Gh.put
  have : (fun j => if j = k then g.fl k else g.fl j) = g.fl := by
    funext j
    split
    · rename_i e
      rw [e]
    · rfl
  rw [this]
theorem Chg.ghost {R : Nat → Prop} {w w' : World} {p j : Nat} {x y : Value} (h : Chg R w w') (hp : R p) : Chg R (w.setCell ⟨p, j, none⟩ x) (w'.setCell ⟨p, j, none⟩ y) :=
  ⟨h.os, h.tape, h.output, by have := h.size; simpa using this, fun k hk hn => by
    have hne : k ≠ p := fun e => hn (by rw [e]; exact hp)
    rw [Below.heap_setCell _ _ _ _ hne, Below.heap_setCell _ _ _ _ hne]
    exact h.block k (by simpa using hk) hn⟩
def SKof (S : PFs) (l : List Int) (T : List PName) (k : Nat) : PFs := { S with names := T, lasts := T, since := [], files := PFs.crashFiles l (T.take k) 0 S.files }
def CK (S : PFs) (g : Gh) (mc m : Nat) (U : Int) : FsC := { cellsOf S g with mn := some mc, ml := some m, u := U, sa := none, sl := 0, sc := 0 }
def G2 (g : Gh) (mc m : Nat) : Gh := { g with mn := some mc, ml := some m, sa := none, sc := 0 }
def gw (w : World) (p : Nat) (X : PFs) : World := w.setCell ⟨p, 1, none⟩ (.int .i64 ((X.bulk X.names : Nat) : Int))
theorem cells_SK (S : PFs) (l : List Int) (T : List PName) (k : Nat) (g : Gh) (mc m : Nat) : cellsOf (SKof S l T k) (G2 g mc m) = CK S g mc m (((SKof S l T k).bulk (SKof S l T k).names : Nat) : Int) := rfl
theorem SK_file (S : PFs) (l : List Int) (T : List PName) (k : Nat) (hk : k < T.length) (hf : (T.getD k name0').file < S.files.length) (j : Nat) : (SKof S l T (k + 1)).fileOf j = if j = (T.getD k name0').file then PFs.cut ((SKof S l T k).fileOf j) (((SKof S l T k).fileOf j).last + pickN l (k + 1) % (((SKof S l T k).fileOf j).b.length - ((SKof S l T k).fileOf j).last + 1)) else (SKof S l T k).fileOf j := by
  show (PFs.crashFiles l (T.take (k + 1)) 0 S.files).getD j file0 = _
  have hl : (T.take k).length = k := by rw [List.length_take]; omega
  rw [take_nm T k hk, crash_snoc, hl, Nat.zero_add, cutAt_getD _ _ _ _ _ (by rw [crash_length]; exact hf), pick_eq]
  split
  · rename_i e
    rw [e]
    rfl
  · rfl
theorem crash_step {wr w5 : World} {p : Nat} {S : PFs} {l : List Int} {T : List PName} {g : Gh} {mc m k : Nat} {f : FG} (hN : Nice S.files.length T) (hk : k < T.length) (hfg : f = g.fl (T.getD k name0').file) (HB : FsB wr p (CK S g mc m ((cutBulk l T S.files k : Nat) : Int))) (HF : FsAt (gw wr p (SKof S l T k)) p (SKof S l T k) (G2 g mc m))
    (h5 : FileAt w5 f (PFs.cut ((SKof S l T k).fileOf (T.getD k name0').file) (((SKof S l T k).fileOf (T.getD k name0').file).last + pickN l (k + 1) % (((SKof S l T k).fileOf (T.getD k name0').file).b.length - ((SKof S l T k).fileOf (T.getD k name0').file).last + 1)))) (hc5 : Chg (fun i => i = f.blk) wr w5) (L : Nat)
    (hL : L = ((SKof S l T (k + 1)).fileOf (T.getD k name0').file).b.length) :
    FsB (w5.setCell ⟨p, 1, none⟩ (.int .i64 (((cutBulk l T S.files k : Nat) : Int) + (L : Int)))).drew p (CK S g mc m ((cutBulk l T S.files (k + 1) : Nat) : Int)) ∧ FsAt (gw (w5.setCell ⟨p, 1, none⟩ (.int .i64 (((cutBulk l T S.files k : Nat) : Int) + (L : Int)))).drew p (SKof S l T (k + 1))) p (SKof S l T (k + 1)) (G2 g mc m) := by
  have hx : T.getD k name0' ∈ T := by simp [List.getD, hk]
  have hff := (hN.good _ hx).2
  have hlive : g.live (T.getD k name0').file := HF.liveN _ hx
  have hSK := SK_file S l T k hk hff
  have hpb : f.blk ≠ p := by
    rw [hfg]
    exact HF.inner_ne (.inr (.inr (.inr ⟨_, hlive, .inl rfl⟩)))
  have hrp : ∀ b, f.row = some b → b ≠ p := fun b e => by
    rw [hfg] at e
    exact HF.inner_ne (.inr (.inr (.inr ⟨_, hlive, .inr e⟩)))
  have hB5 : FsB w5 p (CK S g mc m ((cutBulk l T S.files k : Nat) : Int)) := Box.kept HB (hc5.block p (Box.lt HB) (fun e => hpb e.symm))
  have hstep : cutBulk l T S.files (k + 1) = cutBulk l T S.files k + L := by
    rw [cutBulk_step l T S.files k hk hN hff, hL]
    rfl
  have hB6 : FsB (w5.setCell ⟨p, 1, none⟩ (.int .i64 (((cutBulk l T S.files k : Nat) : Int) + (L : Int)))).drew p (CK S g mc m ((cutBulk l T S.files (k + 1) : Nat) : Int)) := by
    refine Box.eq (Box.set hB5 1 _) ?_
    rw [hstep]
    simp [CK, FsC.arr]
  refine ⟨hB6, ?_⟩
  have hcw : Chg (fun i => i = p ∨ i = f.blk) wr (w5.setCell ⟨p, 1, none⟩ (.int .i64 (((cutBulk l T S.files k : Nat) : Int) + (L : Int)))).drew := ((hc5.wide fun _ _ e => .inr e).set (p := p) (fun _ => .inl rfl) _ _).drew
  have hcg : Chg (fun i => i = p ∨ i = ((G2 g mc m).fl (T.getD k name0').file).blk ∨ ((G2 g mc m).fl (T.getD k name0').file).row = some i) (gw wr p (SKof S l T k)) (gw (w5.setCell ⟨p, 1, none⟩ (.int .i64 (((cutBulk l T S.files k : Nat) : Int) + (L : Int)))).drew p (SKof S l T (k + 1))) := by
    refine (hcw.ghost (.inl rfl)).wide fun i _ e => e.imp id (fun e => .inl ?_)
    rw [e, hfg]
    rfl
  have hf6 : FileAt (gw (w5.setCell ⟨p, 1, none⟩ (.int .i64 (((cutBulk l T S.files k : Nat) : Int) + (L : Int)))).drew p (SKof S l T (k + 1))) f ((SKof S l T (k + 1)).fileOf (T.getD k name0').file) := by
    rw [hSK, if_pos rfl]
    exact h5.kept ((Below.heap_setCell _ _ _ _ hpb).trans (Below.heap_setCell _ _ _ _ hpb)) fun b e => (Below.heap_setCell _ _ _ _ (hrp b e)).trans (Below.heap_setCell _ _ _ _ (hrp b e))
  have := FsAt.file (k := (T.getD k name0').file) (f := (G2 g mc m).fl (T.getD k name0').file) (S' := SKof S l T (k + 1)) HF hlive rfl (fun b e => .inl e) (by rw [hfg] at hf6; exact hf6) (fun j hj => by rw [hSK, if_neg hj]) rfl rfl rfl (by
    rw [cells_SK]
    refine Box.eq (Box.set hB6 1 _) ?_
    simp [CK, FsC.arr]) hcg
  rw [Gh.put_self] at this
  exact this
theorem pickN_le {w : World} {a : Option Addr} {len cap : Nat} {l : List Int} (h : IsAt w a len cap l) (i : Nat) : pickN l i ≤ 9223372036854775807 := by
  unfold pickN
  by_cases hi : i < len
  · have := h.wf i hi
    split
    · omega
    · omega
  · have hs := h.size
    have : l.getD i 0 = 0 := by simp [List.getD, List.getElem?_eq_none (by omega : l.length ≤ i)]
    rw [this]
    decide
end Go.Proofs.YtmlfbihlbiikeaaGreatDoor
