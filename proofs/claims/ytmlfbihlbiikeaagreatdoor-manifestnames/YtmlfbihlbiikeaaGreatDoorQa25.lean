/- What a Write and an Append of a manifest make of files, plainly, wherever they stop, and what a crash leaves. -/
import Derived.Test.YtmlfbihlbiikeaaGreatDoorQa19
import Derived.Test.YtmlfbihlbiikeaaGreatDoorQa00
import Derived.RangeFuncNested
import Derived.RangeFuncBound
import Derived.RangeFuncCalls
import Derived.RangeFuncLeaves
import Derived.RangeFuncBox
import Derived.RangeFuncWrites
import Derived.Shelf.Abstract
import Derived.Shelf.RegionOpen
import Derived.OwnWalkIn
import Derived.TacticsInMore
import Derived.LoopNIn
import Derived.LoopIn
import Derived.Lib.AppendZeros
import Derived.WalkLawsBesides
import Derived.Handy
import Derived.Test.YtmlfbihlbiikeaaGreatDoorQa14
import Derived.Test.YtmlfbihlbiikeaaGreatDoorQa12
import Derived.Test.YtmlfbihlbiikeaaGreatDoorQa05
import Derived.Deep.Slices
import Derived.Deep.Strs
import Derived.ChangeSame
import Derived.SizedLaws
import Derived.WideShapes
import Derived.Test.YtmlfbihlbiikeaaGreatDoorQa07
import Derived.OpenShut
namespace Go.Proofs.YtmlfbihlbiikeaaGreatDoor
set_option linter.unusedVariables false
set_option linter.unusedSimpArgs false
theorem beq_false_of_ne {a b : List UInt8} (h : a ≠ b) : (a == b) = false := by
  cases e : a == b with
  | false => rfl
  | true => exact absurd (eq_of_beq e) h
theorem find_without (l : List PName) (a x : List UInt8) : findN (without l a) x = if x = a then none else findN l x := by
  unfold findN without
  induction l with
  | nil => by_cases h : x = a <;> simp [h]
  | cons n r ih =>
    by_cases h1 : n.name = a
    · have e1 : (n.name != a) = false := by rw [h1]; simp
      rw [List.filter_cons, if_neg (by rw [e1]; decide), ih]
      by_cases h : x = a
      · rw [if_pos h, if_pos h]
      · rw [if_neg h, if_neg h, List.find?_cons_of_neg (by rw [h1, beq_false_of_ne (fun e => h e.symm)]; decide)]
    · have e1 : (n.name != a) = true := by simp [h1]
      rw [List.filter_cons, if_pos (by exact e1)]
      by_cases h2 : n.name = x
      · have h3 : x ≠ a := fun e => h1 (h2.trans e)
        rw [List.find?_cons_of_pos (by rw [h2]; simp), List.find?_cons_of_pos (by rw [h2]; simp), if_neg h3]
      · rw [List.find?_cons_of_neg (by rw [beq_false_of_ne h2]; decide), List.find?_cons_of_neg (by rw [beq_false_of_ne h2]; decide)]
        exact ih
theorem find_ins (n : PName) (l : List PName) (x : List UInt8) (hn : findN l n.name = none) : findN (insN n l) x = if x = n.name then some n.file else findN l x := by
  induction l with
  | nil =>
    unfold findN insN
    by_cases h : x = n.name
    · rw [if_pos h, List.find?_cons_of_pos (by rw [h]; simp)]
      rfl
    · rw [if_neg h, List.find?_cons_of_neg (by rw [beq_false_of_ne (fun e => h e.symm)]; decide)]
  | cons y r ih =>
    have hy : y.name ≠ n.name := fun e => by
      unfold findN at hn
      rw [List.find?_cons_of_pos (by rw [e]; simp)] at hn
      cases hn
    have hr : findN r n.name = none := by
      unfold findN at hn ⊢
      rw [List.find?_cons_of_neg (by rw [beq_false_of_ne hy]; decide)] at hn
      exact hn
    unfold insN
    by_cases hlt : ltB n.name y.name = true
    · rw [if_pos hlt]
      by_cases h : x = n.name
      · unfold findN
        rw [if_pos h, List.find?_cons_of_pos (by rw [h]; simp)]
        rfl
      · unfold findN
        rw [if_neg h, List.find?_cons_of_neg (by rw [beq_false_of_ne (fun e => h e.symm)]; decide)]
    · rw [if_neg hlt]
      by_cases h2 : y.name = x
      · unfold findN
        rw [List.find?_cons_of_pos (by rw [h2]; simp), if_neg (fun e => hy (h2.trans e)), List.find?_cons_of_pos (by rw [h2]; simp)]
      · have e1 : ∀ (s : List PName), findN (y :: s) x = findN s x := fun s => by
          unfold findN
          rw [List.find?_cons_of_neg (by rw [beq_false_of_ne h2]; decide)]
        rw [e1, e1]
        exact ih hr
theorem find_with (l : List PName) (n : PName) (x : List UInt8) : findN (withN l n) x = if x = n.name then some n.file else findN l x := by
  unfold withN
  rw [find_ins _ _ _ (by rw [find_without, if_pos rfl]), find_without]
  by_cases h : x = n.name
  · rw [if_pos h, if_pos h]
  · rw [if_neg h, if_neg h, if_neg h]
theorem find_made (l : List PName) (a t : List UInt8) (i : Nat) (x : List UInt8) : findN (changedN l ⟨1, a, t, i⟩) x = if x = a then some i else findN l x := by
  unfold changedN
  rw [if_pos rfl, find_with]
theorem find_moved (l : List PName) (a b : List UInt8) (i : Nat) (x : List UInt8) : findN (changedN l ⟨2, a, b, i⟩) x = if x = b then some i else if x = a then none else findN l x := by
  unfold changedN
  rw [if_neg (show ¬ (2 : Nat) = 1 by decide), if_pos rfl, find_with, find_without]
def bulkF5 (F : List PFile) : List PName → Nat
  | [] => 0
  | n :: r => (F.getD n.file file0).b.length + bulkF5 F r
theorem bulkF_eq (c : Cr) : ∀ l, c.bulk l = bulkF5 c.files l
  | [] => rfl
  | n :: r => by
    show _ + c.bulk r = _ + bulkF5 c.files r
    rw [bulkF_eq c r]
theorem bulk_ins (F : List PFile) (n : PName) : ∀ l, bulkF5 F (insN n l) = (F.getD n.file file0).b.length + bulkF5 F l
  | [] => rfl
  | x :: r => by
    unfold insN
    split
    · rfl
    · show _ + bulkF5 F (insN n r) = _ + (_ + bulkF5 F r)
      rw [bulk_ins F n r]
      omega
theorem bulk_without5 (F : List PFile) (a : List UInt8) : ∀ l, bulkF5 F (without l a) ≤ bulkF5 F l
  | [] => Nat.le_refl _
  | x :: r => by
    unfold without
    have ih := bulk_without5 F a r
    unfold without at ih
    rw [List.filter_cons]
    split
    · show _ + bulkF5 F _ ≤ _ + bulkF5 F r
      omega
    · show bulkF5 F _ ≤ _ + bulkF5 F r
      omega
theorem bulk_made (F : List PFile) (l : List PName) (a t : List UInt8) (i : Nat) : bulkF5 F (changedN l ⟨1, a, t, i⟩) ≤ (F.getD i file0).b.length + bulkF5 F l := by
  unfold changedN withN
  rw [if_pos rfl, bulk_ins]
  exact Nat.add_le_add_left (bulk_without5 F a l) _
theorem bulk_moved (F : List PFile) (l : List PName) (a b : List UInt8) (i : Nat) : bulkF5 F (changedN l ⟨2, a, b, i⟩) ≤ (F.getD i file0).b.length + bulkF5 F l := by
  unfold changedN withN
  rw [if_neg (show ¬ (2 : Nat) = 1 by decide), if_pos rfl, bulk_ins]
  have h1 := bulk_without5 F b (without l a)
  have h2 := bulk_without5 F a l
  have h3 : bulkF5 F (without (without l a) b) ≤ bulkF5 F l := by omega
  exact Nat.add_le_add_left h3 _
theorem bulk_old {F G : List PFile} : ∀ (l : List PName), (∀ n ∈ l, n.file < F.length) → bulkF5 (F ++ G) l = bulkF5 F l
  | [], _ => rfl
  | n :: r, h => by
    show _ + bulkF5 (F ++ G) r = _ + bulkF5 F r
    rw [bulk_old r (fun x hx => h x (by simp [hx]))]
    have := h n (by simp)
    rw [List.getD_eq_getElem?_getD, List.getD_eq_getElem?_getD, List.getElem?_append_left this]
def fullF (b : List UInt8) : PFile := ⟨b, b.length⟩
def chW (L : Nat) (m : List UInt8) : List PChange := [⟨1, m, [], L⟩, ⟨1, tmpB, [], L + 1⟩, ⟨2, tmpB, m, L + 1⟩, ⟨1, tmpB, [], L + 2⟩, ⟨2, tmpB, curB, L + 2⟩]
def nmW (c : Cr) (m : List UInt8) (k : Nat) (l : List PName) : List PName := ((chW c.files.length m).take k).foldl changedN l
def crW (c : Cr) (m : List UInt8) (new : List PFile) (k : Nat) : Cr := ⟨c.files ++ new, nmW c m k c.names, c.lasts, c.since ++ (chW c.files.length m).take k⟩
def lineF (m : List UInt8) : List UInt8 := m ++ [10]
def stepsW (m B : List UInt8) : List FStep := [fun S => S.create m, removedF tmpB, fun S => S.create tmpB, fun S => S.append tmpB B, fun S => S.sync tmpB, fun S => S.rename tmpB m, removedF tmpB, fun S => S.create tmpB, fun S => S.append tmpB (lineF m), fun S => S.sync tmpB, fun S => S.rename tmpB curB, fun S => S.syncDir]
def endW (c : Cr) (m B : List UInt8) : Cr := ⟨c.files ++ [file0, fullF B, fullF (lineF m)], nmW c m 5 c.names, nmW c m 5 c.names, []⟩
def crsW (c : Cr) (m B : List UInt8) : List Cr := [crW c m [file0] 1, crW c m [file0] 1, crW c m [file0, file0] 2, crW c m [file0, ⟨B, 0⟩] 2, crW c m [file0, fullF B] 2, crW c m [file0, fullF B] 3, crW c m [file0, fullF B] 3,
  crW c m [file0, fullF B, file0] 4, crW c m [file0, fullF B, ⟨lineF m, 0⟩] 4, crW c m [file0, fullF B, fullF (lineF m)] 4, crW c m [file0, fullF B, fullF (lineF m)] 5, endW c m B]
structure Mn (m : List UInt8) : Prop where
  cur : m ≠ curB
  tmp : m ≠ tmpB
  good : goodN m = true
theorem tmp_cur : tmpB ≠ curB := by decide
theorem nm1 (c : Cr) (m : List UInt8) (l : List PName) (x : List UInt8) : findN (nmW c m 1 l) x = if x = m then some c.files.length else findN l x := by
  rw [show nmW c m 1 l = changedN l ⟨1, m, [], c.files.length⟩ from rfl]
  rw [find_made]
theorem nm2 (c : Cr) (m : List UInt8) (l : List PName) (x : List UInt8) : findN (nmW c m 2 l) x = if x = tmpB then some (c.files.length + 1) else if x = m then some c.files.length else findN l x := by
  rw [show nmW c m 2 l = changedN (nmW c m 1 l) ⟨1, tmpB, [], c.files.length + 1⟩ from rfl]
  rw [find_made, nm1]
theorem nm3 (c : Cr) {m : List UInt8} (hm : Mn m) (l : List PName) (x : List UInt8) : findN (nmW c m 3 l) x = if x = m then some (c.files.length + 1) else if x = tmpB then none else findN l x := by
  rw [show nmW c m 3 l = changedN (nmW c m 2 l) ⟨2, tmpB, m, c.files.length + 1⟩ from rfl]
  rw [find_moved, nm2]
  by_cases h1 : x = m
  · rw [if_pos h1, if_pos h1]
  by_cases h2 : x = tmpB
  · rw [if_neg h1, if_pos h2, if_neg h1, if_pos h2]
  · rw [if_neg h1, if_neg h2, if_neg h2, if_neg h1, if_neg h1, if_neg h2]
theorem nm4 (c : Cr) {m : List UInt8} (hm : Mn m) (l : List PName) (x : List UInt8) : findN (nmW c m 4 l) x = if x = tmpB then some (c.files.length + 2) else if x = m then some (c.files.length + 1) else findN l x := by
  rw [show nmW c m 4 l = changedN (nmW c m 3 l) ⟨1, tmpB, [], c.files.length + 2⟩ from rfl]
  rw [find_made, nm3 c hm]
  by_cases h2 : x = tmpB
  · rw [if_pos h2, if_pos h2]
  · rw [if_neg h2, if_neg h2, if_neg h2]
theorem nm5 (c : Cr) {m : List UInt8} (hm : Mn m) (l : List PName) (x : List UInt8) : findN (nmW c m 5 l) x = if x = curB then some (c.files.length + 2) else if x = tmpB then none else if x = m then some (c.files.length + 1) else findN l x := by
  rw [show nmW c m 5 l = changedN (nmW c m 4 l) ⟨2, tmpB, curB, c.files.length + 2⟩ from rfl]
  rw [find_moved, nm4 c hm]
  by_cases h1 : x = curB
  · rw [if_pos h1, if_pos h1]
  by_cases h2 : x = tmpB
  · rw [if_neg h1, if_pos h2, if_neg h1, if_pos h2]
  · rw [if_neg h1, if_neg h2, if_neg h2, if_neg h1, if_neg h2]
theorem getD_new (F G : List PFile) (i : Nat) : (F ++ G).getD (F.length + i) file0 = G.getD i file0 := by
  rw [List.getD_eq_getElem?_getD, List.getD_eq_getElem?_getD, List.getElem?_append_right (Nat.le_add_right _ _), Nat.add_sub_cancel_left]
theorem getD_old (F G : List PFile) {i : Nat} (h : i < F.length) : (F ++ G).getD i file0 = F.getD i file0 := by
  rw [List.getD_eq_getElem?_getD, List.getD_eq_getElem?_getD, List.getElem?_append_left h]
theorem set_new (F G : List PFile) (i : Nat) (x : PFile) : (F ++ G).set (F.length + i) x = F ++ G.set i x := by
  rw [List.set_append_right _ _ (Nat.le_add_right _ _), Nat.add_sub_cancel_left]
theorem crW_put (c : Cr) (m : List UInt8) (new : List PFile) (k i : Nat) (x : PFile) : (crW c m new k).put (c.files.length + i) x = crW c m (new.set i x) k := by
  unfold Cr.put crW
  show (⟨(c.files ++ new).set (c.files.length + i) x, _, _, _⟩ : Cr) = _
  rw [set_new]
theorem crW_change (c : Cr) (m : List UInt8) (new : List PFile) {k : Nat} {ch : PChange} (h : (chW c.files.length m).take (k + 1) = (chW c.files.length m).take k ++ [ch]) : (crW c m new k).change ch = crW c m new (k + 1) := by
  unfold Cr.change crW nmW
  rw [h, List.foldl_append, ← List.append_assoc]
  rfl
theorem crW_create (c : Cr) (m : List UInt8) (new : List PFile) {k : Nat} {name : List UInt8} (h : (chW c.files.length m).take (k + 1) = (chW c.files.length m).take k ++ [⟨1, name, [], c.files.length + new.length⟩]) : (crW c m new k).create name = crW c m (new ++ [file0]) (k + 1) := by
  unfold Cr.create
  have e : (crW c m new k).files.length = c.files.length + new.length := by
    show (c.files ++ new).length = _
    rw [List.length_append]
  rw [e]
  have e2 : (⟨(crW c m new k).files ++ [file0], (crW c m new k).names, (crW c m new k).lasts, (crW c m new k).since⟩ : Cr) = crW c m (new ++ [file0]) k := by
    show (⟨(c.files ++ new) ++ [file0], _, _, _⟩ : Cr) = _
    rw [List.append_assoc]
    rfl
  rw [e2]
  exact crW_change c m (new ++ [file0]) h
theorem bulk_W (c : Cr) (m : List UInt8) (new : List PFile) (hi : ∀ n ∈ c.names, n.file < c.files.length) :
    bulkF5 (c.files ++ new) (nmW c m 2 c.names) ≤ (new.getD 0 file0).b.length + (new.getD 1 file0).b.length + bulkF5 c.files c.names ∧
    bulkF5 (c.files ++ new) (nmW c m 4 c.names) ≤ (new.getD 0 file0).b.length + 2 * (new.getD 1 file0).b.length + (new.getD 2 file0).b.length + bulkF5 c.files c.names := by
  have h0 : bulkF5 (c.files ++ new) c.names = bulkF5 c.files c.names := bulk_old _ hi
  have h1 := bulk_made (c.files ++ new) c.names m [] c.files.length
  have h2 := bulk_made (c.files ++ new) (nmW c m 1 c.names) tmpB [] (c.files.length + 1)
  have h3 := bulk_moved (c.files ++ new) (nmW c m 2 c.names) tmpB m (c.files.length + 1)
  have h4 := bulk_made (c.files ++ new) (nmW c m 3 c.names) tmpB [] (c.files.length + 2)
  have e0 : (c.files ++ new).getD c.files.length file0 = new.getD 0 file0 := getD_new c.files new 0
  rw [e0] at h1
  rw [getD_new] at h2 h3 h4
  have h1' : bulkF5 (c.files ++ new) (nmW c m 1 c.names) ≤ _ := h1
  have h2' : bulkF5 (c.files ++ new) (nmW c m 2 c.names) ≤ _ := h2
  have h3' : bulkF5 (c.files ++ new) (nmW c m 3 c.names) ≤ _ := h3
  have h4' : bulkF5 (c.files ++ new) (nmW c m 4 c.names) ≤ _ := h4
  omega
theorem crW_zero (c : Cr) (m : List UInt8) : crW c m [] 0 = c := by
  unfold crW nmW
  rw [List.append_nil]
  show (⟨c.files, c.names, c.lasts, c.since ++ []⟩ : Cr) = c
  rw [List.append_nil]
theorem write_ch {q : Nat} (c : Cr) {m : List UInt8} (B : List UInt8) (hm : Mn m) (h1 : findN c.names m = none) (h2 : findN c.names tmpB = none) (hi : ∀ n ∈ c.names, n.file < c.files.length) (hq : 2 * B.length + m.length + 1 + bulkF5 c.files c.names ≤ q) :
    Ch q c ((stepsW m B).zip (crsW c m B)) := by
  have gt : goodN tmpB = true := by decide
  have gc : goodN curB = true := by decide
  have tm : tmpB ≠ m := fun e => hm.tmp e.symm
  have b2 := bulk_W c m [file0, file0] hi
  have b4 := bulk_W c m [file0, fullF B, file0] hi
  have z1 : (file0 : PFile).b.length = 0 := rfl
  have z2 : ((fullF B).b.length) = B.length := rfl
  refine ⟨?_, ?_, ?_, ?_, ?_, ?_, ?_, ?_, ?_, ?_, ?_, ?_, trivial⟩
  · have := create_moves q (c := c) hm.good h1
    rw [← crW_zero c m, crW_create c m [] (k := 0) rfl, crW_zero] at this
    exact this
  · exact removed_moves q (by show findN (nmW c m 1 c.names) tmpB = none; rw [nm1, if_neg tm, h2])
  · have := create_moves q (c := crW c m [file0] 1) gt (by show findN (nmW c m 1 c.names) tmpB = none; rw [nm1, if_neg tm, h2])
    rw [crW_create c m [file0] (k := 1) rfl] at this
    exact this
  · have := append_moves (q := q) (c := crW c m [file0, file0] 2) (name := tmpB) B (i := c.files.length + 1) (by show findN (nmW c m 2 c.names) tmpB = _; rw [nm2, if_pos rfl]) (by
      rw [bulkF_eq]
      have := b2.1
      simp only [List.getD_cons_zero, List.getD_cons_succ, z1] at this
      show _ + bulkF5 (c.files ++ [file0, file0]) (nmW c m 2 c.names) ≤ q
      omega)
    rw [crW_put] at this
    have e : (crW c m [file0, file0] 2).files.getD (c.files.length + 1) file0 = file0 := getD_new _ _ 1
    rw [e] at this
    exact this
  · have := sync_moves q (c := crW c m [file0, ⟨B, 0⟩] 2) (name := tmpB) (i := c.files.length + 1) (by show findN (nmW c m 2 c.names) tmpB = _; rw [nm2, if_pos rfl])
    rw [crW_put] at this
    have e : (crW c m [file0, ⟨B, 0⟩] 2).files.getD (c.files.length + 1) file0 = ⟨B, 0⟩ := getD_new _ _ 1
    rw [e] at this
    exact this
  · have := rename_moves q (c := crW c m [file0, fullF B] 2) (a := tmpB) (b := m) (i := c.files.length + 1) (by show findN (nmW c m 2 c.names) tmpB = _; rw [nm2, if_pos rfl]) hm.good
    rw [crW_change c m _ (k := 2) rfl] at this
    exact this
  · exact removed_moves q (by show findN (nmW c m 3 c.names) tmpB = none; rw [nm3 c hm, if_neg tm, if_pos rfl])
  · have := create_moves q (c := crW c m [file0, fullF B] 3) gt (by show findN (nmW c m 3 c.names) tmpB = none; rw [nm3 c hm, if_neg tm, if_pos rfl])
    rw [crW_create c m [file0, fullF B] (k := 3) rfl] at this
    exact this
  · have := append_moves (q := q) (c := crW c m [file0, fullF B, file0] 4) (name := tmpB) (lineF m) (i := c.files.length + 2) (by show findN (nmW c m 4 c.names) tmpB = _; rw [nm4 c hm, if_pos rfl]) (by
      rw [bulkF_eq]
      have := b4.2
      simp only [List.getD_cons_zero, List.getD_cons_succ, z1, z2] at this
      show _ + bulkF5 (c.files ++ [file0, fullF B, file0]) (nmW c m 4 c.names) ≤ q
      have hl : (lineF m).length = m.length + 1 := by unfold lineF; rw [List.length_append]; rfl
      omega)
    rw [crW_put] at this
    have e : (crW c m [file0, fullF B, file0] 4).files.getD (c.files.length + 2) file0 = file0 := getD_new _ _ 2
    rw [e] at this
    exact this
  · have := sync_moves q (c := crW c m [file0, fullF B, ⟨lineF m, 0⟩] 4) (name := tmpB) (i := c.files.length + 2) (by show findN (nmW c m 4 c.names) tmpB = _; rw [nm4 c hm, if_pos rfl])
    rw [crW_put] at this
    have e : (crW c m [file0, fullF B, ⟨lineF m, 0⟩] 4).files.getD (c.files.length + 2) file0 = ⟨lineF m, 0⟩ := getD_new _ _ 2
    rw [e] at this
    exact this
  · have := rename_moves q (c := crW c m [file0, fullF B, fullF (lineF m)] 4) (a := tmpB) (b := curB) (i := c.files.length + 2) (by show findN (nmW c m 4 c.names) tmpB = _; rw [nm4 c hm, if_pos rfl]) gc
    rw [crW_change c m _ (k := 4) rfl] at this
    exact this
  · exact syncDir_moves q (crW c m [file0, fullF B, fullF (lineF m)] 5)
end Go.Proofs.YtmlfbihlbiikeaaGreatDoor
namespace Go.Proofs.YtmlfbihlbiikeaaGreatDoor
set_option maxRecDepth 100000
open Go.RowKit Go.Shelf
attribute [local go_sem] Oper.semAt_some
set_option linter.unusedVariables false
set_option linter.unusedSimpArgs false
theorem wpList_zerosF (w : World) {ops : Array Oper} {rest : List Oper} {o : Oper} {a : Act} {Q : Exit → Act → World → Prop} (hgd : o.guard = none) (s x : Operand)
    (ho : o.op = .call { callee := .builtin .append, args := #[s, x], argTypes := #[41, 3] })
    (n : Nat) (hs : a.eval s = .slice none 0 0) (hx : a.eval x = .int .i64 (n : Int)) (h0 : 0 < n) (hl : n ≤ 1000000000000)
    (h : ∀ c' w', n ≤ c' → OwnF w' w.heap.size (some ⟨w.heap.size, 0, none⟩) 0 c' [] → Below w.heap.size w w' → wpList Tryz.prog ops Q rest (a.put o.dst (.slice (some ⟨w.heap.size, 0, none⟩) n c')) w') :
    wpList Tryz.prog ops Q (o :: rest) a w := by
  obtain ⟨i, hi, hz0, hz1, hz2⟩ := info_parts infoF
  have hge := grownCap_ge w n 0 59
  have hr := Lib.run_append_nil_zeros (P := Tryz.prog) w 41 3 o.type 59 i (.agg #[.int .i64 0, .int .u64 0, .int .i64 0, .string ⟨#[]⟩, .int .u64 0, .int .i64 0, .string ⟨#[]⟩, .int .u64 0, .int .i64 0]) .i64 .i64 Tryz.underlying41 Tryz.underlying3 hi hz0 n h0 (by rw [hz1]; omega) (by omega) (by rw [hz2]; omega)
  refine Lib.wpList_append_run w hgd s x _ _ ho _ _ hs hx _ _ hr (h _ _ hge ⟨rfl, by simp [fc], .inr ⟨w.heap.size, _, _, rfl, Nat.le_refl _, heap_alloc_new w.drew _, Nat.zero_le _, grownCap_le_maxLen w n 0 _ (by unfold maxLen; omega), ?_, by simp [fc]⟩⟩ (((Below.refl _ w).drew).alloc (Nat.le_refl _) _))
  simp [size_zeroCells, Value.cells]
  try omega
set_option maxRecDepth 100000 in
set_option maxHeartbeats 1000000 in
theorem growF_nil (n : Nat) (hn : n ≤ 1000000000000) (w : World) : Calls Tryz.prog 159 #[.slice none 0 0, .int .i64 (n : Int)] w fun e w' => ∃ a' c', e = .returned (.slice a' 0 c') ∧ OwnF w' w.heap.size a' 0 c' [] ∧ Below w.heap.size w w' := by
  by_cases h0 : 0 < n
  · go_enter Tryz.func159, Tryz.ntmps159
    go_wp2_with (first | (at_builtin; refine wpList_zerosF _ rfl _ _ rfl n rfl rfl h0 hn ?_))
    intro c1 w1 hc1 ho1 hb1
    go_wp2
    go_ret
    exact ⟨_, c1, ret1 rfl, ho1, hb1⟩
  · obtain rfl : n = 0 := by omega
    go_enter Tryz.func159, Tryz.ntmps159
    go_wp2
    go_ret
    exact ⟨none, 0, ret1 rfl, OwnF.nil _ _, Below.refl _ _⟩

theorem accF_le (v : PV) {k : Nat} (hk : k ≤ 4) : (accF v k).length ≤ v.all.length := by
  by_cases h : k < 4
  · obtain ⟨r, hr⟩ := accF_pre (v := v) (i := 0) h
    have := congrArg List.length hr
    simp only [List.length_append, List.take_zero, List.length_nil] at this
    omega
  · obtain rfl : k = 4 := by omega
    rw [accF_four]
    exact Nat.le_refl _
theorem idxR4 (p : Nat) {j : Nat} (hj : j < 4) (W : World) : (Instr.indexAt 167 (.slice (some ⟨p, 1, none⟩) 4 4) (.int .i64 (j : Int))).run Tryz.prog W = .ok (.pointer (some ⟨p, 1 + j, none⟩)) W := by
  have h1 : (0 : Int) ≤ (j : Int) ∧ (j : Int) < 4 := by omega
  have hsz : (sizeOf (Tryz.prog.elem 167)).run Tryz.prog W = .ok 1 W := by kernel_rfl
  rw [run_indexAt_slice (P := Tryz.prog) (h := (by kernel_rfl : Tryz.prog.underlying 167 = some (.slice (Tryz.prog.elem 167)))), if_pos (by exact h1), hsz]
  simp [Result.andThen, Addr.add_lit]
def CatR (w : World) (l : List PF) (e : Ending) (w' : World) : Prop := ∃ a' c', e = .returned (.slice a' l.length c') ∧ OwnF w' w.heap.size a' l.length c' l ∧ Below w.heap.size w w'
set_option maxHeartbeats 2000000 in
theorem concatF_any (v : PV) (s : SV) (p : Nat) (hn : v.all.length ≤ 60000) (w : World) (hv : VnAt w v s) (h : ∀ j, j < 4 → w.cell? ⟨p, 1 + j, none⟩ = some (.slice (s.a j) (v j).length (s.c j))) :
    Calls Tryz.prog 105 #[.slice (some ⟨p, 1, none⟩) 4 4] w (CatR w v.all) := by
  have HS : Hid (VnAt w v s ∧ ∀ j, j < 4 → w.cell? ⟨p, 1 + j, none⟩ = some (.slice (s.a j) (v j).length (s.c j))) := ⟨hv, h⟩
  clear h hv
  generalize HQ : CatR w v.all = Q4
  go_enter Tryz.func105, Tryz.ntmps105
  go_wp2_with fail
  go_loopw [3, 11] (fun x3 x wr => ∃ j q : Nat, j ≤ 4 ∧ x = .int .i64 (j : Int) ∧ x3 = .int .i64 (q : Int) ∧ Hid (q = (accF v j).length) ∧ wr = w) (fun _ x _ => 4 - (intOf x).toNat)
  case atStart => exact ⟨0, 0, Nat.zero_le _, rfl, rfl, rfl, rfl⟩
  case round =>
    obtain ⟨j, s0, hj, rfl, rfl, HQ0, hwr⟩ := hrel
    obtain rfl : w = wr := hwr.symm
    clear hwr
    have hle : s0 ≤ 60000 := by have := accF_le v hj; have := HQ0.out; omega
    by_cases hjm : j < 4
    · have c0 := HS.out.2 j hjm
      have hix := fun W => idxR4 p hjm W
      have hjI : (j : Int) < 4 := by omega
      have hle1 : s0 + (v j).length ≤ 60000 := by
        have h1 := accF_le v (k := j + 1) hjm
        rw [accF_succ, List.length_append, ← HQ0.out] at h1
        omega
      have HSS : Hid (s0 + (v j).length = (accF v (j + 1)).length) := by unfold Hid; rw [accF_succ, List.length_append, ← HQ0.out]
      generalize (v j).length = vn at c0 hle1 HSS
      generalize s.a j = va at c0
      generalize s.c j = vc at c0
      go_wp2
      go_roundw
      case rel => exact ⟨j + 1, s0 + vn, hjm, by go_num, by go_num, HSS.out, trivial⟩
      case measure => simp only [intOf]; omega
    · obtain rfl : j = 4 := by omega
      have HG : Hid (∀ W : World, Calls Tryz.prog 159 #[.slice none 0 0, .int .i64 (s0 : Int)] W fun e w' => ∃ a' c', e = .returned (.slice a' 0 c') ∧ OwnF w' W.heap.size a' 0 c' [] ∧ Below W.heap.size W w') := fun W => growF_nil _ (by omega) W
      go_wp2_with fail
      refine (HG.out _).mono ?_
      rintro _ w1 ⟨a1, c1, rfl, ho1, hb1⟩
      have H1 : Hid (OwnF w1 w.heap.size a1 0 c1 [] ∧ Below w.heap.size w w1) := ⟨ho1, hb1⟩
      clear ho1 hb1
      go_wp2_with fail
      go_loopw [6, 27] (fun x6 x wr => ∃ (k no co : Nat) (ao : Option Addr), k ≤ 4 ∧ Hid (no = (accF v k).length) ∧ x = .int .i64 (k : Int) ∧ x6 = .slice ao no co ∧ Hid (OwnF wr w.heap.size ao no co (accF v k) ∧ Below w.heap.size w wr)) (fun _ x _ => 4 - (intOf x).toNat)
      case atStart => exact ⟨0, 0, c1, a1, Nat.zero_le _, rfl, rfl, rfl, H1.out⟩
      case round =>
        obtain ⟨k, no, co, ao, hk, HNO, rfl, rfl, HI⟩ := hrel
        have hle0 : no ≤ 60000 := by have := accF_le v hk; have := HNO.out; omega
        by_cases hkj : k < 4
        · have c00 := HS.out.2 k hkj
          have hix := fun W => idxR4 p hkj W
          have hkI : (k : Int) < 4 := by omega
          have HSU : Hid (no + (v k).length = (accF v (k + 1)).length ∧ accF v (k + 1) = accF v k ++ v k) := by
            refine ⟨?_, accF_succ v k⟩
            rw [accF_succ, List.length_append, ← HNO.out]
          have hnr : no + (v k).length ≤ 60000 := by
            have := accF_le v (k := k + 1) hkj
            have := HSU.out.1
            omega
          have hlt : p < w.heap.size := World.block_lt_of_cell? w _ c00
          have c0 : wr.cell? ⟨p, 1 + k, none⟩ = some (.slice (s.a k) (v k).length (s.c k)) := by rw [HI.out.2.cell hlt]; exact c00
          have HSRC : Hid (FlAt wr (s.a k) (v k).length (s.c k) (v k)) := (HS.out.1 k hkj).below HI.out.2
          clear c00
          generalize v k = vk at c0 HSRC HSU hnr
          generalize s.a k = va at c0 HSRC
          generalize s.c k = vc at c0 HSRC
          go_wp2_with (first | (at_builtin; refine wpList_appFl wr rfl _ _ rfl w.heap.size ao no co _ rfl HI.out.1 va vk.length vc _ rfl HSRC.out (by omega) HI.out.2.size ?_))
          intro a6 c6 w6 ho6 hb6 _
          have HJ : Hid (OwnF w6 w.heap.size a6 (no + vk.length) c6 (accF v (k + 1)) ∧ Below w.heap.size w w6) := by
            rw [HSU.out.2]
            exact ⟨ho6, HI.out.2.trans hb6⟩
          clear ho6 hb6
          go_wp2
          go_roundw
          case rel => exact ⟨k + 1, no + vk.length, c6, a6, hkj, HSU.out.1, by go_num, rfl, HJ.out⟩
          case measure => simp only [intOf]; omega
        · obtain rfl : k = 4 := by omega
          go_wp2
          have h1 := HI.out.1
          have h2 := HNO.out
          rw [accF_four] at h1 h2
          subst h2
          rw [← HQ]
          exact ⟨ao, co, rfl, h1, HI.out.2⟩
theorem fl_from {w0 : World} {l0 : List PF} {a : Option Addr} {n c : Nat} (h : FlAt w0 a n c l0) (k : Nat) (hk : k < n) :
    ∃ a', ∀ W : World, (Instr.slice 41 (.slice a n c) (some (.int .i64 (k : Int))) none none).run Tryz.prog W = .ok (.slice a' (n - k) (c - k)) W := by
  have hle := h.row.le
  have hmx := h.row.max
  have hz : ∀ W, (sizeOf (Tryz.prog.elem 41)).run Tryz.prog W = .ok 9 W := fun W => by kernel_rfl
  obtain ⟨b, off, rfl, _⟩ := h.row.here (by omega)
  refine ⟨some ⟨b, off + k * 9, none⟩, fun W => ?_⟩
  have hz2 := hz W
  simp [Instr.slice, run_underlying Tryz.underlying41, go_sem, hz2]
  rw [if_pos (by omega), if_neg (by omega)]
theorem fl_mid {w0 : World} {l0 : List PF} {a : Option Addr} {n c : Nat} (h : FlAt w0 a n c l0) (i z : Nat) (hz : 0 < z) (hiz : i + z ≤ n) (j : Int) (hj : j = ((i + z : Nat) : Int)) :
    ∃ a', (∀ W : World, (Instr.slice 41 (.slice a n c) (some (.int .i64 (i : Int))) (some (.int .i64 j)) (some (.int .i64 j))).run Tryz.prog W = .ok (.slice a' z z) W) ∧
      (∀ (W : World) (l : List PF), FlAt W a n c l → FlAt W a' z z ((l.drop i).take z)) := by
  subst hj
  have hle := h.row.le
  have hmx := h.row.max
  obtain ⟨b, off, rfl, _⟩ := h.row.here (by omega)
  have hzz : ∀ W, (sizeOf (Tryz.prog.elem 41)).run Tryz.prog W = .ok 9 W := fun W => by kernel_rfl
  refine ⟨some ⟨b, off + i * 9, none⟩, fun W => ?_, fun W l hl => ?_⟩
  · have hz2 := hzz W
    have h1 : (i : Int) ≤ ((i + z : Nat) : Int) := by omega
    simp [Instr.slice, run_underlying Tryz.underlying41, go_sem, hz2]
    repeat (first | rw [if_pos (by omega)] | rw [if_neg (by omega)])
    simp
    omega
  · have hs := hl.size
    refine ⟨by rw [List.length_take, List.length_drop]; omega, ⟨by rw [flat_len fc_len, List.length_take, List.length_drop]; congr 1; omega, Nat.le_refl _, by omega, (fun e => by cases e), fun hp => ⟨b, off + i * 9, rfl, fun j hj => ?_⟩⟩⟩
    obtain ⟨b', o', he, hc⟩ := hl.row.here (by omega)
    simp only [Option.some.injEq, Addr.mk.injEq, and_true] at he
    obtain ⟨rfl, rfl⟩ := he
    rw [Nat.add_assoc, hc (i * 9 + j) (by omega)]
    conv => lhs; rw [← List.take_append_drop i l, List.flatMap_append]
    rw [List.getElem?_append_right (by rw [flat_len fc_len, List.length_take]; omega), flat_len fc_len, List.length_take, Nat.min_eq_left (by omega), Nat.add_sub_cancel_left]
    conv => lhs; rw [← List.take_append_drop z (l.drop i), List.flatMap_append]
    rw [List.getElem?_append_left (by rw [flat_len fc_len, List.length_take, List.length_drop]; omega)]
end Go.Proofs.YtmlfbihlbiikeaaGreatDoor
namespace Go.Proofs.YtmlfbihlbiikeaaGreatDoor
set_option maxRecDepth 100000
open Go.ChangeShapes Go.WideShapes Go.RowKit
set_option linter.unusedVariables false
set_option linter.unusedSimpArgs false
section
variable {H : Type} {enc : TypeId × Value → H} {w : World} {base : Nat} {sp : Nat → Bool} {held : Bool}
end
end Go.Proofs.YtmlfbihlbiikeaaGreatDoor
namespace Go.Proofs.YtmlfbihlbiikeaaGreatDoor
set_option maxRecDepth 100000
open Go.ChangeShapes Go.WideShapes Go.RowKit
set_option linter.unusedVariables false
set_option linter.unusedSimpArgs false
def ec (p : PE × SE) : List Value := [.int .u64 (p.1.log : Int), .int .u64 (p.1.next : Int), .int .u64 (p.1.last : Int), .slice p.2.a p.1.dels.length p.2.c, .slice p.2.a' p.1.adds.length p.2.c']
theorem ec_len (p : PE × SE) : (ec p).length = 5 := rfl
structure EsAt (w : World) (a : Option Addr) (n c : Nat) (l : List (PE × SE)) : Prop where
  size : l.length = n
  row : VsAt 5 w a n c (l.flatMap ec)
  each : ∀ e ∈ l, EdAt w e.1 e.2 ∧ WfE e.1 ∧ e.1.dels.length * 16 ≤ 140737488351232 ∧ e.1.adds.length * 88 ≤ 140737488351232
section
variable {H : Type} {enc : TypeId × Value → H} {w : World} {base : Nat} {sp : Nat → Bool} {held : Bool}
end
end Go.Proofs.YtmlfbihlbiikeaaGreatDoor
