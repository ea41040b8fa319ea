/- What was made to last: what the file systems are, step by step. -/
import Derived.Test.YtfabgiapekfgcaaRenPlain
namespace Go.Proofs.Ytfabgiapekfgcaa
def nA : List UInt8 := [97]
def nB : List UInt8 := [98]
def nC : List UInt8 := [99]
def ls1 : PFs := ⟨[file0], [⟨nA, 0⟩], [], [⟨1, nA, [], 0⟩], 1048576, false, 0, false, 0, 1⟩
def ls2 (a : List UInt8) : PFs := ⟨[⟨a, 0⟩], [⟨nA, 0⟩], [], [⟨1, nA, [], 0⟩], 1048576, false, 0, false, 0, 2⟩
def ls3 (a : List UInt8) : PFs := ⟨[⟨a, a.length⟩], [⟨nA, 0⟩], [], [⟨1, nA, [], 0⟩], 1048576, false, 0, false, 0, 3⟩
def ls4 (a : List UInt8) : PFs := ⟨[⟨a, a.length⟩], [⟨nA, 0⟩], [⟨nA, 0⟩], [], 1048576, false, 0, false, 0, 4⟩
def ls5 (a b : List UInt8) : PFs := ⟨[⟨a ++ b, a.length⟩], [⟨nA, 0⟩], [⟨nA, 0⟩], [], 1048576, false, 0, false, 0, 5⟩
def ls6 (a b : List UInt8) : PFs := ⟨[⟨a ++ b, a.length⟩, file0], [⟨nA, 0⟩, ⟨nB, 1⟩], [⟨nA, 0⟩], [⟨1, nB, [], 1⟩], 1048576, false, 0, false, 0, 6⟩
def ls7 (a b : List UInt8) : PFs := ⟨[⟨a ++ b, a.length⟩, file0], [⟨nB, 1⟩, ⟨nC, 0⟩], [⟨nA, 0⟩], [⟨1, nB, [], 1⟩, ⟨2, nA, nC, 0⟩], 1048576, false, 0, false, 0, 7⟩
theorem ls0_e : rn0.create nA = (ls1, 0) := rfl
theorem ls1_e (a : List UInt8) (h : a.length ≤ 1000) : ls1.append nA a = (ls2 a, 0) := by
  show (if 1048576 < a.length + (0 + 0) then _ else _) = _
  rw [if_neg (by omega)]
  rfl
theorem ls2_e (a : List UInt8) : (ls2 a).sync nA = (ls3 a, 0) := rfl
theorem ls3_e (a : List UInt8) : (ls3 a).syncDir = (ls4 a, 0) := rfl
theorem ls4_e (a b : List UInt8) (ha : a.length ≤ 1000) (h : b.length ≤ 1000) : (ls4 a).append nA b = (ls5 a b, 0) := by
  show (if 1048576 < b.length + (a.length + 0) then _ else _) = _
  rw [if_neg (by omega)]
  rfl
theorem ls5_e (a b : List UInt8) : (ls5 a b).create nB = (ls6 a b, 0) := rfl
theorem ls6_e (a b : List UInt8) : (ls6 a b).rename nA nC = (ls7 a b, 0) := rfl
/-- Behind the crash: all that is there lasts. -/
def ls8 (x : List UInt8) (l : List PName) : PFs := ⟨[⟨x, x.length⟩, file0], l, l, [], 1048576, false, 0, false, 0, 7⟩
theorem cut_some (c : List UInt8) (n k : Nat) (h : n ≤ c.length) : PFs.cut ⟨c, k⟩ n = ⟨c.take n, (c.take n).length⟩ := by
  unfold PFs.cut
  rw [List.length_take, Nat.min_eq_left h]
theorem ls7_e (a b : List UInt8) (picks : List Int) : ∃ n l, a.length ≤ n ∧ n ≤ a.length + b.length ∧ (ls7 a b).crash picks = ls8 ((a ++ b).take n) l ∧ (l = [⟨nA, 0⟩] ∨ l = [⟨nA, 0⟩, ⟨nB, 1⟩] ∨ l = [⟨nB, 1⟩, ⟨nC, 0⟩]) := by
  have hp := pick_le picks 0 2
  have hk : ∀ i, PFs.pick picks i ((a ++ b).length - a.length) ≤ b.length := fun i => by
    have := pick_le picks i ((a ++ b).length - a.length)
    rw [List.length_append] at this ⊢
    omega
  have hs : (ls7 a b).stays picks = (([⟨1, nB, [], 1⟩, ⟨2, nA, nC, 0⟩] : List PChange).take (PFs.pick picks 0 2)).foldl changedN [⟨nA, 0⟩] := rfl
  have hr : (ls7 a b).crash picks = ⟨PFs.crashFiles picks ((ls7 a b).stays picks) 0 (ls7 a b).files, (ls7 a b).stays picks, (ls7 a b).stays picks, [], 1048576, false, 0, false, 0, 7⟩ := rfl
  have hb : ∀ i, PFs.cut file0 (0 + PFs.pick picks i (0 - 0)) = file0 := fun i => by rw [pick_zero]; rfl
  rw [hr, hs]
  generalize PFs.pick picks 0 2 = t at hp
  rcases (by omega : t = 0 ∨ t = 1 ∨ t = 2) with rfl | rfl | rfl
  · refine ⟨a.length + PFs.pick picks 1 ((a ++ b).length - a.length), [⟨nA, 0⟩], by omega, by have := hk 1; omega, ?_, .inl rfl⟩
    show (⟨[PFs.cut ⟨a ++ b, a.length⟩ (a.length + PFs.pick picks 1 ((a ++ b).length - a.length)), file0], _, _, _, _, _, _, _, _, _⟩ : PFs) = _
    rw [cut_some _ _ _ (by have := hk 1; have := List.length_append (as := a) (bs := b); omega)]
    rfl
  · refine ⟨a.length + PFs.pick picks 1 ((a ++ b).length - a.length), [⟨nA, 0⟩, ⟨nB, 1⟩], by omega, by have := hk 1; omega, ?_, .inr (.inl rfl)⟩
    show (⟨[PFs.cut ⟨a ++ b, a.length⟩ (a.length + PFs.pick picks 1 ((a ++ b).length - a.length)), PFs.cut file0 (0 + PFs.pick picks 2 (0 - 0))], _, _, _, _, _, _, _, _, _⟩ : PFs) = _
    rw [hb, cut_some _ _ _ (by have := hk 1; have := List.length_append (as := a) (bs := b); omega)]
    rfl
  · refine ⟨a.length + PFs.pick picks 2 ((a ++ b).length - a.length), [⟨nB, 1⟩, ⟨nC, 0⟩], by omega, by have := hk 2; omega, ?_, .inr (.inr rfl)⟩
    show (⟨[PFs.cut ⟨a ++ b, a.length⟩ (a.length + PFs.pick picks 2 ((a ++ b).length - a.length)), PFs.cut file0 (0 + PFs.pick picks 1 (0 - 0))], _, _, _, _, _, _, _, _, _⟩ : PFs) = _
    rw [hb, cut_some _ _ _ (by have := hk 2; have := List.length_append (as := a) (bs := b); omega)]
    rfl
/-- A crash at once changes nothing. -/
theorem ls8_e (x : List UInt8) (l : List PName) (again : List Int) (h : l = [⟨nA, 0⟩] ∨ l = [⟨nA, 0⟩, ⟨nB, 1⟩] ∨ l = [⟨nB, 1⟩, ⟨nC, 0⟩]) : (ls8 x l).crash again = ls8 x l := by
  have hx : ∀ i, PFs.cut ⟨x, x.length⟩ (x.length + PFs.pick again i (x.length - x.length)) = ⟨x, x.length⟩ := fun i => by
    rw [Nat.sub_self, pick_zero, Nat.add_zero, cut_all]
  have hb : ∀ i, PFs.cut file0 (0 + PFs.pick again i (0 - 0)) = file0 := fun i => by rw [pick_zero]; rfl
  have hs : (ls8 x l).stays again = l := by
    show (([] : List PChange).take (PFs.pick again 0 0)).foldl changedN l = l
    rw [List.take_nil]
    rfl
  have hr : (ls8 x l).crash again = ⟨PFs.crashFiles again ((ls8 x l).stays again) 0 [⟨x, x.length⟩, file0], (ls8 x l).stays again, (ls8 x l).stays again, [], 1048576, false, 0, false, 0, 7⟩ := rfl
  rw [hr, hs]
  rcases h with rfl | rfl | rfl
  · show (⟨[PFs.cut ⟨x, x.length⟩ (x.length + PFs.pick again 1 (x.length - x.length)), file0], _, _, _, _, _, _, _, _, _⟩ : PFs) = _
    rw [hx]
    rfl
  · show (⟨[PFs.cut ⟨x, x.length⟩ (x.length + PFs.pick again 1 (x.length - x.length)), PFs.cut file0 (0 + PFs.pick again 2 (0 - 0))], _, _, _, _, _, _, _, _, _⟩ : PFs) = _
    rw [hx, hb]
    rfl
  · show (⟨[PFs.cut ⟨x, x.length⟩ (x.length + PFs.pick again 2 (x.length - x.length)), PFs.cut file0 (0 + PFs.pick again 1 (0 - 0))], _, _, _, _, _, _, _, _, _⟩ : PFs) = _
    rw [hx, hb]
    rfl
theorem ls8_r (x : List UInt8) (l : List PName) (h : l = [⟨nA, 0⟩] ∨ l = [⟨nA, 0⟩, ⟨nB, 1⟩] ∨ l = [⟨nB, 1⟩, ⟨nC, 0⟩]) : (ls8 x l).read nA = (x, 0) ∨ ((ls8 x l).read nA = ([], 42) ∧ (ls8 x l).read nC = (x, 0)) := by
  rcases h with rfl | rfl | rfl
  · exact .inl rfl
  · exact .inl rfl
  · exact .inr ⟨rfl, rfl⟩
theorem ls8_l (x : List UInt8) (l : List PName) : (ls8 x l).list = (l.map (·.name), 0) := rfl
end Go.Proofs.Ytfabgiapekfgcaa
