/- The steps of manifest's changes, as function values. -/
import Derived.Test.YtmlfbihlbiikeaaGreatDoorQd21
import Derived.Test.YtmlfbihlbiikeaaGreatDoorQd07
import Derived.Test.YtmlfbihlbiikeaaGreatDoorQd19
import Derived.Test.YtmlfbihlbiikeaaGreatDoorQd06
namespace Go.Proofs.YtmlfbihlbiikeaaGreatDoor
set_option maxRecDepth 100000
open Go.RowKit
set_option linter.unusedVariables false
set_option linter.unusedSimpArgs false
abbrev TFsP : TypeId := 32
abbrev TStr : TypeId := 9
theorem BsAt.heldAt {w w' : World} {a : Option Addr} {n c : Nat} {bs : List UInt8} (h : BsAt w a n c bs) (hk : 0 < n → ∀ ad, a = some ad → w'.heap[ad.block]? = w.heap[ad.block]?) : BsAt w' a n c bs :=
  ⟨h.size, h.le, h.max, h.bare, fun hp => by
    obtain ⟨b, off, ha, hc⟩ := h.here hp
    have hs := hk hp _ ha
    refine ⟨b, off, ha, fun j hj => ?_⟩
    have := hc j hj
    simp only [World.cell?] at this ⊢
    rw [hs]
    exact this⟩
theorem removed_any {J : Face} (H : FsOk J) {i p : Nat} (name : ByteArray) {w : World} {R : Nat → Prop} {l r : Fss} {S : PFs} (hJ : J w R l r) (hl : l[i]? = some (p, S)) (hS : S.asked < 1000000) :
    Calls Tryz.prog 98 #[at_ p, .string name] w fun e w' => e = .returned (.int .i64 ((removedF name.data.toList S).2 : Nat)) ∧ J w' R (l.set i (p, (removedF name.data.toList S).1)) r ∧ Kp R w w' := by
  have HR : Hid (∀ W, J W R l r → Calls Tryz.prog 31 #[at_ p, .string name] W fun e w' =>
    ∃ a c, e = .returned (.tuple #[.slice a (S.read name.data.toList).1.length c, .int .i64 ((S.read name.data.toList).2 : Nat)]) ∧ J w' R l r ∧ Kp R W w') := fun W hW => (H.read i name hW hl).mono fun e w' ⟨a, c, h1, _, h3, h4⟩ => ⟨a, c, h1, H.less h3 fun k hk => .inl hk, h4⟩
  have HM : Hid (∀ W, J W R l r → Calls Tryz.prog 157 #[at_ p, .string name] W fun e w' => e = .returned (.int .i64 ((S.remove name.data.toList).2 : Nat)) ∧ J w' R (l.set i (p, (S.remove name.data.toList).1)) r ∧ Kp R W w') := fun W hW => H.remove i name hW hl hS
  have HD : Hid (removedF name.data.toList S = if (S.read name.data.toList).2 = 0 then S.remove name.data.toList else if (S.read name.data.toList).2 = 42 then (S, 0) else (S, (S.read name.data.toList).2)) := rfl
  have HJ : Hid (J w R l r ∧ l.set i (p, S) = l) := ⟨hJ, set_self_at hl⟩
  clear hJ
  generalize removedF name.data.toList S = o at HD ⊢
  generalize S.read name.data.toList = rd at HR HD
  generalize S.remove name.data.toList = rm at HM HD
  obtain ⟨rb, re⟩ := rd
  dsimp only at HR HD
  generalize rb.length = rn at HR
  go_enter Tryz.func98, Tryz.ntmps98
  go_wp2_with fail
  refine (HR.out _ HJ.out.1).mono ?_
  rintro _ w1 ⟨a1, c1, rfl, hJ1, hk1⟩
  have H1 : Hid (J w1 R l r ∧ Kp R w w1) := ⟨hJ1, hk1⟩
  clear hJ1 hk1 HR
  by_cases h0 : re = 0
  · subst h0
    have HO : Hid (o = rm) := by unfold Hid; rw [HD.out]; rfl
    go_wp2_with fail
    refine (HM.out _ H1.out.1).mono ?_
    rintro _ w2 ⟨rfl, hJ2, hk2⟩
    have H2 : Hid (J w2 R (l.set i (p, rm.1)) r ∧ Kp R w w2) := ⟨hJ2, H1.out.2.trans hk2⟩
    clear hJ2 hk2
    go_wp2
    go_ret
    rw [HO.out]
    exact ⟨rfl, H2.out⟩
  · have hb : ((re : Int) == 0) = false := beq_eq_false_iff_ne.2 (by omega)
    by_cases h2 : re = 42
    · subst h2
      have HO : Hid (o = (S, 0)) := by unfold Hid; rw [HD.out]; rfl
      go_wp2
      go_ret
      rw [HO.out]
      exact ⟨rfl, by rw [HJ.out.2]; exact H1.out.1, H1.out.2⟩
    · have hb2 : ((re : Int) == 42) = false := beq_eq_false_iff_ne.2 (by omega)
      have HO : Hid (o = (S, re)) := by unfold Hid; rw [HD.out, if_neg h0, if_neg h2]
      go_wp2
      go_ret
      rw [HO.out]
      exact ⟨rfl, by rw [HJ.out.2]; exact H1.out.1, H1.out.2⟩
section
variable {J : Face} {i p : Nat} {C : Nat → Prop} {W0 : World}
theorem write1_does (H : FsOk J) {bf bn : Nat} {name : ByteArray} (hf : C bf) (hn : C bn) (xf : Box W0 bf TFsP #[at_ p]) (xn : Box W0 bn TStr #[.string name]) : Does J i p C W0 (.func (.func 54) #[] #[at_ bf, at_ bn]) (fun S => S.create name.data.toList) := by
  refine ⟨_, _, _, rfl, fun W => enters_of Tryz.func54 (by kernel_rfl) rfl _ W, ?_⟩
  intro w R l r S hH hJ hl hS
  have c0 := (hH.box hf xf).cell 0
  have c1 := (hH.box hn xn).cell 0
  have HC := H.create i name hJ hl hS
  rw [show (#[] ++ #[at_ bf, at_ bn] : Array Value) = #[at_ bf, at_ bn] from by simp]
  go_enter Tryz.func54, Tryz.ntmps54
  go_wp2_with fail
  refine HC.mono ?_
  rintro _ w2 ⟨rfl, h2, h3⟩
  go_wp2
  go_ret
  exact ⟨rfl, h2, h3⟩
theorem laid1_does (H : FsOk J) {bf bn : Nat} {name : ByteArray} (hf : C bf) (hn : C bn) (xf : Box W0 bf TFsP #[at_ p]) (xn : Box W0 bn TStr #[.string name]) : Does J i p C W0 (.func (.func 97) #[] #[at_ bf, at_ bn]) (removedF name.data.toList) := by
  refine ⟨_, _, _, rfl, fun W => enters_of Tryz.func97 (by kernel_rfl) rfl _ W, ?_⟩
  intro w R l r S hH hJ hl hS
  have c0 := (hH.box hf xf).cell 0
  have c1 := (hH.box hn xn).cell 0
  have HC := removed_any H name hJ hl hS
  rw [show (#[] ++ #[at_ bf, at_ bn] : Array Value) = #[at_ bf, at_ bn] from by simp]
  go_enter Tryz.func97, Tryz.ntmps97
  go_wp2_with fail
  refine HC.mono ?_
  rintro _ w2 ⟨rfl, h2, h3⟩
  go_wp2
  go_ret
  exact ⟨rfl, h2, h3⟩
theorem laid2_does (H : FsOk J) {bf bn : Nat} {name : ByteArray} (hf : C bf) (hn : C bn) (xf : Box W0 bf TFsP #[at_ p]) (xn : Box W0 bn TStr #[.string name]) : Does J i p C W0 (.func (.func 99) #[] #[at_ bf, at_ bn]) (fun S => S.create name.data.toList) := by
  refine ⟨_, _, _, rfl, fun W => enters_of Tryz.func99 (by kernel_rfl) rfl _ W, ?_⟩
  intro w R l r S hH hJ hl hS
  have c0 := (hH.box hf xf).cell 0
  have c1 := (hH.box hn xn).cell 0
  have HC := H.create i name hJ hl hS
  rw [show (#[] ++ #[at_ bf, at_ bn] : Array Value) = #[at_ bf, at_ bn] from by simp]
  go_enter Tryz.func99, Tryz.ntmps99
  go_wp2_with fail
  refine HC.mono ?_
  rintro _ w2 ⟨rfl, h2, h3⟩
  go_wp2
  go_ret
  exact ⟨rfl, h2, h3⟩
theorem laid3_does (H : FsOk J) {bf bn bb : Nat} {name : ByteArray} {a : Option Addr} {n c : Nat} {bs : List UInt8} (hf : C bf) (hn : C bn) (hb : C bb) (xf : Box W0 bf TFsP #[at_ p]) (xn : Box W0 bn TStr #[.string name]) (xb : Box W0 bb 29 #[.slice a n c]) (ho : BsAt W0 a n c bs) (hr : 0 < n → ∀ ad, a = some ad → C ad.block) (hl : n ≤ 140737488355328) : Does J i p C W0 (.func (.func 100) #[] #[at_ bf, at_ bn, at_ bb]) (fun S => S.append name.data.toList bs) := by
  refine ⟨_, _, _, rfl, fun W => enters_of Tryz.func100 (by kernel_rfl) rfl _ W, ?_⟩
  intro w R l r S hH hJ hl0 hS
  have c0 := (hH.box hf xf).cell 0
  have c1 := (hH.box hn xn).cell 0
  have c2 := (hH.box hb xb).cell 0
  have hbs : BsAt w a n c bs := ho.heldAt fun hp ad e => hH.same _ (hr hp ad e)
  have HC := H.append i name a n c bs hJ hl0 hS hbs hl
  rw [show (#[] ++ #[at_ bf, at_ bn, at_ bb] : Array Value) = #[at_ bf, at_ bn, at_ bb] from by simp]
  go_enter Tryz.func100, Tryz.ntmps100
  go_wp2_with fail
  refine HC.mono ?_
  rintro _ w2 ⟨rfl, h2, h3⟩
  go_wp2
  go_ret
  exact ⟨rfl, h2, h3⟩
theorem laid4_does (H : FsOk J) {bf bn : Nat} {name : ByteArray} (hf : C bf) (hn : C bn) (xf : Box W0 bf TFsP #[at_ p]) (xn : Box W0 bn TStr #[.string name]) : Does J i p C W0 (.func (.func 101) #[] #[at_ bf, at_ bn]) (fun S => S.sync name.data.toList) := by
  refine ⟨_, _, _, rfl, fun W => enters_of Tryz.func101 (by kernel_rfl) rfl _ W, ?_⟩
  intro w R l r S hH hJ hl hS
  have c0 := (hH.box hf xf).cell 0
  have c1 := (hH.box hn xn).cell 0
  have HC := H.sync i name hJ hl hS
  rw [show (#[] ++ #[at_ bf, at_ bn] : Array Value) = #[at_ bf, at_ bn] from by simp]
  go_enter Tryz.func101, Tryz.ntmps101
  go_wp2_with fail
  refine HC.mono ?_
  rintro _ w2 ⟨rfl, h2, h3⟩
  go_wp2
  go_ret
  exact ⟨rfl, h2, h3⟩
theorem laid5_does (H : FsOk J) {bf bn bm : Nat} {name to' : ByteArray} (hf : C bf) (hn : C bn) (hm : C bm) (xf : Box W0 bf TFsP #[at_ p]) (xn : Box W0 bn TStr #[.string name]) (xm : Box W0 bm TStr #[.string to']) : Does J i p C W0 (.func (.func 102) #[] #[at_ bf, at_ bn, at_ bm]) (fun S => S.rename name.data.toList to'.data.toList) := by
  refine ⟨_, _, _, rfl, fun W => enters_of Tryz.func102 (by kernel_rfl) rfl _ W, ?_⟩
  intro w R l r S hH hJ hl hS
  have c0 := (hH.box hf xf).cell 0
  have c1 := (hH.box hn xn).cell 0
  have c2 := (hH.box hm xm).cell 0
  have HC := H.rename i name to' hJ hl hS
  rw [show (#[] ++ #[at_ bf, at_ bn, at_ bm] : Array Value) = #[at_ bf, at_ bn, at_ bm] from by simp]
  go_enter Tryz.func102, Tryz.ntmps102
  go_wp2_with fail
  refine HC.mono ?_
  rintro _ w2 ⟨rfl, h2, h3⟩
  go_wp2
  go_ret
  exact ⟨rfl, h2, h3⟩
theorem syncDir_does (H : FsOk J) : Does J i p C W0 (.func (.func 58) #[at_ p] #[]) (fun S => S.syncDir) := by
  refine ⟨_, _, _, rfl, fun W => enters_of Tryz.func58 (by kernel_rfl) rfl _ W, ?_⟩
  intro w R l r S hH hJ hl hS
  rw [show (#[at_ p] ++ #[] : Array Value) = #[at_ p] from by simp]
  exact H.syncDir i hJ hl hS
end
end Go.Proofs.YtmlfbihlbiikeaaGreatDoor
namespace Go.Proofs.YtmlfbihlbiikeaaGreatDoor
set_option linter.unusedVariables false
set_option linter.unusedSimpArgs false
theorem beq_false_of_ne {a b : List UInt8} (h : a ≠ b) : (a == b) = false := by
  cases e : a == b with
  | false => rfl
  | true => exact absurd (eq_of_beq e) h
theorem find_without (l : List PName) (a x : List UInt8) : findN (without l a) x = if x = a then none else findN l x := by
  unfold findN without
  induction l with
  | nil => by_cases h : x = a <;> simp [h]
  | cons n r ih =>
    by_cases h1 : n.name = a
    · have e1 : (n.name != a) = false := by rw [h1]; simp
      rw [List.filter_cons, if_neg (by rw [e1]; decide), ih]
      by_cases h : x = a
      · rw [if_pos h, if_pos h]
      · rw [if_neg h, if_neg h, List.find?_cons_of_neg (by rw [h1, beq_false_of_ne (fun e => h e.symm)]; decide)]
    · have e1 : (n.name != a) = true := by simp [h1]
      rw [List.filter_cons, if_pos (by exact e1)]
      by_cases h2 : n.name = x
      · have h3 : x ≠ a := fun e => h1 (h2.trans e)
        rw [List.find?_cons_of_pos (by rw [h2]; simp), List.find?_cons_of_pos (by rw [h2]; simp), if_neg h3]
      · rw [List.find?_cons_of_neg (by rw [beq_false_of_ne h2]; decide), List.find?_cons_of_neg (by rw [beq_false_of_ne h2]; decide)]
        exact ih
theorem find_ins (n : PName) (l : List PName) (x : List UInt8) (hn : findN l n.name = none) : findN (insN n l) x = if x = n.name then some n.file else findN l x := by
  induction l with
  | nil =>
    unfold findN insN
    by_cases h : x = n.name
    · rw [if_pos h, List.find?_cons_of_pos (by rw [h]; simp)]
      rfl
    · rw [if_neg h, List.find?_cons_of_neg (by rw [beq_false_of_ne (fun e => h e.symm)]; decide)]
  | cons y r ih =>
    have hy : y.name ≠ n.name := fun e => by
      unfold findN at hn
      rw [List.find?_cons_of_pos (by rw [e]; simp)] at hn
      cases hn
    have hr : findN r n.name = none := by
      unfold findN at hn ⊢
      rw [List.find?_cons_of_neg (by rw [beq_false_of_ne hy]; decide)] at hn
      exact hn
    unfold insN
    by_cases hlt : ltB n.name y.name = true
    · rw [if_pos hlt]
      by_cases h : x = n.name
      · unfold findN
        rw [if_pos h, List.find?_cons_of_pos (by rw [h]; simp)]
        rfl
      · unfold findN
        rw [if_neg h, List.find?_cons_of_neg (by rw [beq_false_of_ne (fun e => h e.symm)]; decide)]
    · rw [if_neg hlt]
      by_cases h2 : y.name = x
      · unfold findN
        rw [List.find?_cons_of_pos (by rw [h2]; simp), if_neg (fun e => hy (h2.trans e)), List.find?_cons_of_pos (by rw [h2]; simp)]
      · have e1 : ∀ (s : List PName), findN (y :: s) x = findN s x := fun s => by
          unfold findN
          rw [List.find?_cons_of_neg (by rw [beq_false_of_ne h2]; decide)]
        rw [e1, e1]
        exact ih hr
theorem find_with (l : List PName) (n : PName) (x : List UInt8) : findN (withN l n) x = if x = n.name then some n.file else findN l x := by
  unfold withN
  rw [find_ins _ _ _ (by rw [find_without, if_pos rfl]), find_without]
  by_cases h : x = n.name
  · rw [if_pos h, if_pos h]
  · rw [if_neg h, if_neg h, if_neg h]
theorem find_made (l : List PName) (a t : List UInt8) (i : Nat) (x : List UInt8) : findN (changedN l ⟨1, a, t, i⟩) x = if x = a then some i else findN l x := by
  unfold changedN
  rw [if_pos rfl, find_with]
theorem find_moved (l : List PName) (a b : List UInt8) (i : Nat) (x : List UInt8) : findN (changedN l ⟨2, a, b, i⟩) x = if x = b then some i else if x = a then none else findN l x := by
  unfold changedN
  rw [if_neg (show ¬ (2 : Nat) = 1 by decide), if_pos rfl, find_with, find_without]
def bulkF5 (F : List PFile) : List PName → Nat
  | [] => 0
  | n :: r => (F.getD n.file file0).b.length + bulkF5 F r
theorem bulkF_eq (c : Cr) : ∀ l, c.bulk l = bulkF5 c.files l
  | [] => rfl
  | n :: r => by
    show _ + c.bulk r = _ + bulkF5 c.files r
    rw [bulkF_eq c r]
theorem bulk_ins (F : List PFile) (n : PName) : ∀ l, bulkF5 F (insN n l) = (F.getD n.file file0).b.length + bulkF5 F l
  | [] => rfl
  | x :: r => by
    unfold insN
    split
    · rfl
    · show _ + bulkF5 F (insN n r) = _ + (_ + bulkF5 F r)
      rw [bulk_ins F n r]
      omega
theorem bulk_without5 (F : List PFile) (a : List UInt8) : ∀ l, bulkF5 F (without l a) ≤ bulkF5 F l
  | [] => Nat.le_refl _
  | x :: r => by
    unfold without
    have ih := bulk_without5 F a r
    unfold without at ih
    rw [List.filter_cons]
    split
    · show _ + bulkF5 F _ ≤ _ + bulkF5 F r
      omega
    · show bulkF5 F _ ≤ _ + bulkF5 F r
      omega
theorem bulk_made (F : List PFile) (l : List PName) (a t : List UInt8) (i : Nat) : bulkF5 F (changedN l ⟨1, a, t, i⟩) ≤ (F.getD i file0).b.length + bulkF5 F l := by
  unfold changedN withN
  rw [if_pos rfl, bulk_ins]
  exact Nat.add_le_add_left (bulk_without5 F a l) _
theorem bulk_moved (F : List PFile) (l : List PName) (a b : List UInt8) (i : Nat) : bulkF5 F (changedN l ⟨2, a, b, i⟩) ≤ (F.getD i file0).b.length + bulkF5 F l := by
  unfold changedN withN
  rw [if_neg (show ¬ (2 : Nat) = 1 by decide), if_pos rfl, bulk_ins]
  have h1 := bulk_without5 F b (without l a)
  have h2 := bulk_without5 F a l
  have h3 : bulkF5 F (without (without l a) b) ≤ bulkF5 F l := by omega
  exact Nat.add_le_add_left h3 _
theorem bulk_old {F G : List PFile} : ∀ (l : List PName), (∀ n ∈ l, n.file < F.length) → bulkF5 (F ++ G) l = bulkF5 F l
  | [], _ => rfl
  | n :: r, h => by
    show _ + bulkF5 (F ++ G) r = _ + bulkF5 F r
    rw [bulk_old r (fun x hx => h x (by simp [hx]))]
    have := h n (by simp)
    rw [List.getD_eq_getElem?_getD, List.getD_eq_getElem?_getD, List.getElem?_append_left this]
def fullF (b : List UInt8) : PFile := ⟨b, b.length⟩
def chW (L : Nat) (m : List UInt8) : List PChange := [⟨1, m, [], L⟩, ⟨1, tmpB, [], L + 1⟩, ⟨2, tmpB, m, L + 1⟩, ⟨1, tmpB, [], L + 2⟩, ⟨2, tmpB, curB, L + 2⟩]
def nmW (c : Cr) (m : List UInt8) (k : Nat) (l : List PName) : List PName := ((chW c.files.length m).take k).foldl changedN l
def crW (c : Cr) (m : List UInt8) (new : List PFile) (k : Nat) : Cr := ⟨c.files ++ new, nmW c m k c.names, c.lasts, c.since ++ (chW c.files.length m).take k⟩
def lineF (m : List UInt8) : List UInt8 := m ++ [10]
def stepsW (m B : List UInt8) : List FStep := [fun S => S.create m, removedF tmpB, fun S => S.create tmpB, fun S => S.append tmpB B, fun S => S.sync tmpB, fun S => S.rename tmpB m, removedF tmpB, fun S => S.create tmpB, fun S => S.append tmpB (lineF m), fun S => S.sync tmpB, fun S => S.rename tmpB curB, fun S => S.syncDir]
def endW (c : Cr) (m B : List UInt8) : Cr := ⟨c.files ++ [file0, fullF B, fullF (lineF m)], nmW c m 5 c.names, nmW c m 5 c.names, []⟩
def crsW (c : Cr) (m B : List UInt8) : List Cr := [crW c m [file0] 1, crW c m [file0] 1, crW c m [file0, file0] 2, crW c m [file0, ⟨B, 0⟩] 2, crW c m [file0, fullF B] 2, crW c m [file0, fullF B] 3, crW c m [file0, fullF B] 3,
  crW c m [file0, fullF B, file0] 4, crW c m [file0, fullF B, ⟨lineF m, 0⟩] 4, crW c m [file0, fullF B, fullF (lineF m)] 4, crW c m [file0, fullF B, fullF (lineF m)] 5, endW c m B]
structure Mn (m : List UInt8) : Prop where
  cur : m ≠ curB
  tmp : m ≠ tmpB
  good : goodN m = true
theorem tmp_cur : tmpB ≠ curB := by decide
theorem nm1 (c : Cr) (m : List UInt8) (l : List PName) (x : List UInt8) : findN (nmW c m 1 l) x = if x = m then some c.files.length else findN l x := by
  rw [show nmW c m 1 l = changedN l ⟨1, m, [], c.files.length⟩ from rfl]
  rw [find_made]
theorem nm2 (c : Cr) (m : List UInt8) (l : List PName) (x : List UInt8) : findN (nmW c m 2 l) x = if x = tmpB then some (c.files.length + 1) else if x = m then some c.files.length else findN l x := by
  rw [show nmW c m 2 l = changedN (nmW c m 1 l) ⟨1, tmpB, [], c.files.length + 1⟩ from rfl]
  rw [find_made, nm1]
theorem nm3 (c : Cr) {m : List UInt8} (hm : Mn m) (l : List PName) (x : List UInt8) : findN (nmW c m 3 l) x = if x = m then some (c.files.length + 1) else if x = tmpB then none else findN l x := by
  rw [show nmW c m 3 l = changedN (nmW c m 2 l) ⟨2, tmpB, m, c.files.length + 1⟩ from rfl]
  rw [find_moved, nm2]
  by_cases h1 : x = m
  · rw [if_pos h1, if_pos h1]
  by_cases h2 : x = tmpB
  · rw [if_neg h1, if_pos h2, if_neg h1, if_pos h2]
  · rw [if_neg h1, if_neg h2, if_neg h2, if_neg h1, if_neg h1, if_neg h2]
theorem nm4 (c : Cr) {m : List UInt8} (hm : Mn m) (l : List PName) (x : List UInt8) : findN (nmW c m 4 l) x = if x = tmpB then some (c.files.length + 2) else if x = m then some (c.files.length + 1) else findN l x := by
  rw [show nmW c m 4 l = changedN (nmW c m 3 l) ⟨1, tmpB, [], c.files.length + 2⟩ from rfl]
  rw [find_made, nm3 c hm]
  by_cases h2 : x = tmpB
  · rw [if_pos h2, if_pos h2]
  · rw [if_neg h2, if_neg h2, if_neg h2]
theorem nm5 (c : Cr) {m : List UInt8} (hm : Mn m) (l : List PName) (x : List UInt8) : findN (nmW c m 5 l) x = if x = curB then some (c.files.length + 2) else if x = tmpB then none else if x = m then some (c.files.length + 1) else findN l x := by
  rw [show nmW c m 5 l = changedN (nmW c m 4 l) ⟨2, tmpB, curB, c.files.length + 2⟩ from rfl]
  rw [find_moved, nm4 c hm]
  by_cases h1 : x = curB
  · rw [if_pos h1, if_pos h1]
  by_cases h2 : x = tmpB
  · rw [if_neg h1, if_pos h2, if_neg h1, if_pos h2]
  · rw [if_neg h1, if_neg h2, if_neg h2, if_neg h1, if_neg h2]
theorem getD_new (F G : List PFile) (i : Nat) : (F ++ G).getD (F.length + i) file0 = G.getD i file0 := by
  rw [List.getD_eq_getElem?_getD, List.getD_eq_getElem?_getD, List.getElem?_append_right (Nat.le_add_right _ _), Nat.add_sub_cancel_left]
theorem getD_old (F G : List PFile) {i : Nat} (h : i < F.length) : (F ++ G).getD i file0 = F.getD i file0 := by
  rw [List.getD_eq_getElem?_getD, List.getD_eq_getElem?_getD, List.getElem?_append_left h]
theorem set_new (F G : List PFile) (i : Nat) (x : PFile) : (F ++ G).set (F.length + i) x = F ++ G.set i x := by
  rw [List.set_append_right _ _ (Nat.le_add_right _ _), Nat.add_sub_cancel_left]
theorem crW_put (c : Cr) (m : List UInt8) (new : List PFile) (k i : Nat) (x : PFile) : (crW c m new k).put (c.files.length + i) x = crW c m (new.set i x) k := by
  unfold Cr.put crW
  show (⟨(c.files ++ new).set (c.files.length + i) x, _, _, _⟩ : Cr) = _
  rw [set_new]
theorem crW_change (c : Cr) (m : List UInt8) (new : List PFile) {k : Nat} {ch : PChange} (h : (chW c.files.length m).take (k + 1) = (chW c.files.length m).take k ++ [ch]) : (crW c m new k).change ch = crW c m new (k + 1) := by
  unfold Cr.change crW nmW
  rw [h, List.foldl_append, ← List.append_assoc]
  rfl
theorem crW_create (c : Cr) (m : List UInt8) (new : List PFile) {k : Nat} {name : List UInt8} (h : (chW c.files.length m).take (k + 1) = (chW c.files.length m).take k ++ [⟨1, name, [], c.files.length + new.length⟩]) : (crW c m new k).create name = crW c m (new ++ [file0]) (k + 1) := by
  unfold Cr.create
  have e : (crW c m new k).files.length = c.files.length + new.length := by
    show (c.files ++ new).length = _
    rw [List.length_append]
  rw [e]
  have e2 : (⟨(crW c m new k).files ++ [file0], (crW c m new k).names, (crW c m new k).lasts, (crW c m new k).since⟩ : Cr) = crW c m (new ++ [file0]) k := by
    show (⟨(c.files ++ new) ++ [file0], _, _, _⟩ : Cr) = _
    rw [List.append_assoc]
    rfl
  rw [e2]
  exact crW_change c m (new ++ [file0]) h
theorem bulk_W (c : Cr) (m : List UInt8) (new : List PFile) (hi : ∀ n ∈ c.names, n.file < c.files.length) :
    bulkF5 (c.files ++ new) (nmW c m 2 c.names) ≤ (new.getD 0 file0).b.length + (new.getD 1 file0).b.length + bulkF5 c.files c.names ∧
    bulkF5 (c.files ++ new) (nmW c m 4 c.names) ≤ (new.getD 0 file0).b.length + 2 * (new.getD 1 file0).b.length + (new.getD 2 file0).b.length + bulkF5 c.files c.names := by
  have h0 : bulkF5 (c.files ++ new) c.names = bulkF5 c.files c.names := bulk_old _ hi
  have h1 := bulk_made (c.files ++ new) c.names m [] c.files.length
  have h2 := bulk_made (c.files ++ new) (nmW c m 1 c.names) tmpB [] (c.files.length + 1)
  have h3 := bulk_moved (c.files ++ new) (nmW c m 2 c.names) tmpB m (c.files.length + 1)
  have h4 := bulk_made (c.files ++ new) (nmW c m 3 c.names) tmpB [] (c.files.length + 2)
  have e0 : (c.files ++ new).getD c.files.length file0 = new.getD 0 file0 := getD_new c.files new 0
  rw [e0] at h1
  rw [getD_new] at h2 h3 h4
  have h1' : bulkF5 (c.files ++ new) (nmW c m 1 c.names) ≤ _ := h1
  have h2' : bulkF5 (c.files ++ new) (nmW c m 2 c.names) ≤ _ := h2
  have h3' : bulkF5 (c.files ++ new) (nmW c m 3 c.names) ≤ _ := h3
  have h4' : bulkF5 (c.files ++ new) (nmW c m 4 c.names) ≤ _ := h4
  omega
theorem crW_zero (c : Cr) (m : List UInt8) : crW c m [] 0 = c := by
  unfold crW nmW
  rw [List.append_nil]
  show (⟨c.files, c.names, c.lasts, c.since ++ []⟩ : Cr) = c
  rw [List.append_nil]
theorem write_ch {q : Nat} (c : Cr) {m : List UInt8} (B : List UInt8) (hm : Mn m) (h1 : findN c.names m = none) (h2 : findN c.names tmpB = none) (hi : ∀ n ∈ c.names, n.file < c.files.length) (hq : 2 * B.length + m.length + 1 + bulkF5 c.files c.names ≤ q) :
    Ch q c ((stepsW m B).zip (crsW c m B)) := by
  have gt : goodN tmpB = true := by decide
  have gc : goodN curB = true := by decide
  have tm : tmpB ≠ m := fun e => hm.tmp e.symm
  have b2 := bulk_W c m [file0, file0] hi
  have b4 := bulk_W c m [file0, fullF B, file0] hi
  have z1 : (file0 : PFile).b.length = 0 := rfl
  have z2 : ((fullF B).b.length) = B.length := rfl
  refine ⟨?_, ?_, ?_, ?_, ?_, ?_, ?_, ?_, ?_, ?_, ?_, ?_, trivial⟩
  · have := create_moves q (c := c) hm.good h1
    rw [← crW_zero c m, crW_create c m [] (k := 0) rfl, crW_zero] at this
    exact this
  · exact removed_moves q (by show findN (nmW c m 1 c.names) tmpB = none; rw [nm1, if_neg tm, h2])
  · have := create_moves q (c := crW c m [file0] 1) gt (by show findN (nmW c m 1 c.names) tmpB = none; rw [nm1, if_neg tm, h2])
    rw [crW_create c m [file0] (k := 1) rfl] at this
    exact this
  · have := append_moves (q := q) (c := crW c m [file0, file0] 2) (name := tmpB) B (i := c.files.length + 1) (by show findN (nmW c m 2 c.names) tmpB = _; rw [nm2, if_pos rfl]) (by
      rw [bulkF_eq]
      have := b2.1
      simp only [List.getD_cons_zero, List.getD_cons_succ, z1] at this
      show _ + bulkF5 (c.files ++ [file0, file0]) (nmW c m 2 c.names) ≤ q
      omega)
    rw [crW_put] at this
    have e : (crW c m [file0, file0] 2).files.getD (c.files.length + 1) file0 = file0 := getD_new _ _ 1
    rw [e] at this
    exact this
  · have := sync_moves q (c := crW c m [file0, ⟨B, 0⟩] 2) (name := tmpB) (i := c.files.length + 1) (by show findN (nmW c m 2 c.names) tmpB = _; rw [nm2, if_pos rfl])
    rw [crW_put] at this
    have e : (crW c m [file0, ⟨B, 0⟩] 2).files.getD (c.files.length + 1) file0 = ⟨B, 0⟩ := getD_new _ _ 1
    rw [e] at this
    exact this
  · have := rename_moves q (c := crW c m [file0, fullF B] 2) (a := tmpB) (b := m) (i := c.files.length + 1) (by show findN (nmW c m 2 c.names) tmpB = _; rw [nm2, if_pos rfl]) hm.good
    rw [crW_change c m _ (k := 2) rfl] at this
    exact this
  · exact removed_moves q (by show findN (nmW c m 3 c.names) tmpB = none; rw [nm3 c hm, if_neg tm, if_pos rfl])
  · have := create_moves q (c := crW c m [file0, fullF B] 3) gt (by show findN (nmW c m 3 c.names) tmpB = none; rw [nm3 c hm, if_neg tm, if_pos rfl])
    rw [crW_create c m [file0, fullF B] (k := 3) rfl] at this
    exact this
  · have := append_moves (q := q) (c := crW c m [file0, fullF B, file0] 4) (name := tmpB) (lineF m) (i := c.files.length + 2) (by show findN (nmW c m 4 c.names) tmpB = _; rw [nm4 c hm, if_pos rfl]) (by
      rw [bulkF_eq]
      have := b4.2
      simp only [List.getD_cons_zero, List.getD_cons_succ, z1, z2] at this
      show _ + bulkF5 (c.files ++ [file0, fullF B, file0]) (nmW c m 4 c.names) ≤ q
      have hl : (lineF m).length = m.length + 1 := by unfold lineF; rw [List.length_append]; rfl
      omega)
    rw [crW_put] at this
    have e : (crW c m [file0, fullF B, file0] 4).files.getD (c.files.length + 2) file0 = file0 := getD_new _ _ 2
    rw [e] at this
    exact this
  · have := sync_moves q (c := crW c m [file0, fullF B, ⟨lineF m, 0⟩] 4) (name := tmpB) (i := c.files.length + 2) (by show findN (nmW c m 4 c.names) tmpB = _; rw [nm4 c hm, if_pos rfl])
    rw [crW_put] at this
    have e : (crW c m [file0, fullF B, ⟨lineF m, 0⟩] 4).files.getD (c.files.length + 2) file0 = ⟨lineF m, 0⟩ := getD_new _ _ 2
    rw [e] at this
    exact this
  · have := rename_moves q (c := crW c m [file0, fullF B, fullF (lineF m)] 4) (a := tmpB) (b := curB) (i := c.files.length + 2) (by show findN (nmW c m 4 c.names) tmpB = _; rw [nm4 c hm, if_pos rfl]) gc
    rw [crW_change c m _ (k := 4) rfl] at this
    exact this
  · exact syncDir_moves q (crW c m [file0, fullF B, fullF (lineF m)] 5)
end Go.Proofs.YtmlfbihlbiikeaaGreatDoor
