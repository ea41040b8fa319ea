/- A file takes another one's name: what the file systems are, step by step. -/
import Derived.Test.YtfabgiapekfgcaaPlainFs
namespace Go.Proofs.Ytfabgiapekfgcaa
def nNow : List UInt8 := [110, 111, 119]
def nNext : List UInt8 := [110, 101, 120, 116]
def rn0 : PFs := ⟨[], [], [], [], 1048576, false, 0, false, 0, 0⟩
def rn1 : PFs := ⟨[file0], [⟨nNow, 0⟩], [], [⟨1, nNow, [], 0⟩], 1048576, false, 0, false, 0, 1⟩
def rn2 (a : List UInt8) : PFs := ⟨[⟨a, 0⟩], [⟨nNow, 0⟩], [], [⟨1, nNow, [], 0⟩], 1048576, false, 0, false, 0, 2⟩
def rn3 (a : List UInt8) : PFs := ⟨[⟨a, a.length⟩], [⟨nNow, 0⟩], [], [⟨1, nNow, [], 0⟩], 1048576, false, 0, false, 0, 3⟩
def rn4 (a : List UInt8) : PFs := ⟨[⟨a, a.length⟩], [⟨nNow, 0⟩], [⟨nNow, 0⟩], [], 1048576, false, 0, false, 0, 4⟩
def rn5 (a : List UInt8) : PFs := ⟨[⟨a, a.length⟩, file0], [⟨nNext, 1⟩, ⟨nNow, 0⟩], [⟨nNow, 0⟩], [⟨1, nNext, [], 1⟩], 1048576, false, 0, false, 0, 5⟩
def rn6 (a b : List UInt8) : PFs := ⟨[⟨a, a.length⟩, ⟨b, 0⟩], [⟨nNext, 1⟩, ⟨nNow, 0⟩], [⟨nNow, 0⟩], [⟨1, nNext, [], 1⟩], 1048576, false, 0, false, 0, 6⟩
def rn7 (a b : List UInt8) : PFs := ⟨[⟨a, a.length⟩, ⟨b, b.length⟩], [⟨nNext, 1⟩, ⟨nNow, 0⟩], [⟨nNow, 0⟩], [⟨1, nNext, [], 1⟩], 1048576, false, 0, false, 0, 7⟩
def rn8 (a b : List UInt8) : PFs := ⟨[⟨a, a.length⟩, ⟨b, b.length⟩], [⟨nNow, 1⟩], [⟨nNow, 0⟩], [⟨1, nNext, [], 1⟩, ⟨2, nNext, nNow, 1⟩], 1048576, false, 0, false, 0, 8⟩
theorem rn0_e : rn0.create nNow = (rn1, 0) := rfl
theorem rn1_e (a : List UInt8) (h : a.length ≤ 1000) : rn1.append nNow a = (rn2 a, 0) := by
  show (if 1048576 < a.length + (0 + 0) then _ else _) = _
  rw [if_neg (by omega)]
  rfl
theorem rn2_e (a : List UInt8) : (rn2 a).sync nNow = (rn3 a, 0) := rfl
theorem rn3_e (a : List UInt8) : (rn3 a).syncDir = (rn4 a, 0) := rfl
theorem rn4_e (a : List UInt8) : (rn4 a).create nNext = (rn5 a, 0) := rfl
theorem rn5_e (a b : List UInt8) (ha : a.length ≤ 1000) (h : b.length ≤ 1000) : (rn5 a).append nNext b = (rn6 a b, 0) := by
  show (if 1048576 < b.length + (0 + (a.length + 0)) then _ else _) = _
  rw [if_neg (by omega)]
  rfl
theorem rn6_e (a b : List UInt8) : (rn6 a b).sync nNext = (rn7 a b, 0) := rfl
theorem rn7_e (a b : List UInt8) : (rn7 a b).rename nNext nNow = (rn8 a b, 0) := rfl
theorem pick_zero (picks : List Int) (i : Nat) : PFs.pick picks i 0 = 0 := by
  unfold PFs.pick
  simp [Int.emod_one]
theorem pick_le (picks : List Int) (i most : Nat) : PFs.pick picks i most ≤ most := by
  unfold PFs.pick
  have h := Int.emod_lt_of_pos (if picks.getD i 0 < 0 then -1 - picks.getD i 0 else picks.getD i 0) (show (0 : Int) < (most : Int) + 1 by omega)
  omega
theorem cut_all (b : List UInt8) : PFs.cut ⟨b, b.length⟩ b.length = ⟨b, b.length⟩ := by unfold PFs.cut; rw [List.take_length]
theorem rn8_e (a b : List UInt8) (picks : List Int) : ((rn8 a b).crash picks).read nNow = (a, 0) ∨ ((rn8 a b).crash picks).read nNow = (b, 0) := by
  have hp := pick_le picks 0 2
  have h0 : ∀ (c : List UInt8) i, PFs.cut ⟨c, c.length⟩ (c.length + PFs.pick picks i (c.length - c.length)) = ⟨c, c.length⟩ := by
    intro c i
    rw [Nat.sub_self, pick_zero, Nat.add_zero, cut_all]
  have hs : (rn8 a b).stays picks = (([⟨1, nNext, [], 1⟩, ⟨2, nNext, nNow, 1⟩] : List PChange).take (PFs.pick picks 0 2)).foldl changedN [⟨nNow, 0⟩] := rfl
  have hr : ((rn8 a b).crash picks).read nNow = (match findN ((rn8 a b).stays picks) nNow with
    | none => ([], 42)
    | some k => (((PFs.crashFiles picks ((rn8 a b).stays picks) 0 (rn8 a b).files).getD k file0).b, 0)) := rfl
  rw [hr, hs]
  generalize PFs.pick picks 0 2 = t at hp
  rcases (by omega : t = 0 ∨ t = 1 ∨ t = 2) with rfl | rfl | rfl
  · left
    show (([PFs.cut ⟨a, a.length⟩ (a.length + PFs.pick picks 1 (a.length - a.length)), ⟨b, b.length⟩] : List PFile).getD 0 file0 |>.b, 0) = _
    rw [h0]
    rfl
  · left
    show (([PFs.cut ⟨a, a.length⟩ (a.length + PFs.pick picks 2 (a.length - a.length)), PFs.cut ⟨b, b.length⟩ (b.length + PFs.pick picks 1 (b.length - b.length))] : List PFile).getD 0 file0 |>.b, 0) = _
    rw [h0]
    rfl
  · right
    show (([⟨a, a.length⟩, PFs.cut ⟨b, b.length⟩ (b.length + PFs.pick picks 1 (b.length - b.length))] : List PFile).getD 1 file0 |>.b, 0) = _
    rw [h0]
    rfl
end Go.Proofs.Ytfabgiapekfgcaa
