/- What the methods do to a table that a call made itself; awake. -/
import Derived.Test.YtnggajconglfcaaDoorM8Add
import Derived.Test.YtnggajconglfcaaDoorM8Get
namespace Go.Proofs.YtnggajconglfcaaDoor
open Go.RowKit
set_option linter.unusedVariables false
set_option linter.unusedSimpArgs false
section
variable {w0 w w' : World} {p : Nat} {T : PT} {G : TG} {N : Nat}
theorem Own8.glob (h : Own8 w0 w p T G) (hg : Glob w0) : Glob w := hg.of_below0 h.base
theorem add_own (hP : PutSpec N) (hNN : N ≤ 70368744177664) (hg : Glob w0) (h : Own8 w0 w p T G) (k : IK) (v : ByteArray) (hk : k.user.size ≤ 9223372036854775807) (hv : v.size ≤ 9223372036854775807) (hN : T.kvs.length < N) : Calls Tryd.prog 11 #[at_ p, k.v, .string v] w fun e w' => e = .returned (.int .i64 ((T.err k v : Nat) : Int)) ∧ ∃ G', Own8 w0 w' p (T.add k v) G' ∧ Chg (TFoot p G) w w' ∧ ∀ k, TFoot p G' k → TFoot p G k ∨ w.heap.size ≤ k := by
  by_cases he : T.err k v = 0
  · refine (add_done hP h.at' k v hN hNN he hg h.base h.mine).mono ?_
    rintro _ w' ⟨rfl, G', ha⟩
    rw [he]
    exact ⟨rfl, G', h.chg ha.at' ha.chg ha.foot, ha.chg, ha.foot⟩
  · refine (add_refused h.at' k v hk hv he).mono ?_
    rintro _ w' ⟨rfl, G', ha⟩
    exact ⟨rfl, G', h.chg ha.at' ha.chg ha.foot, ha.chg, ha.foot⟩
end
def ka : IK := ⟨⟨#[97]⟩, 1, 1⟩
def kd : IK := ⟨⟨#[97]⟩, 3, 0⟩
def Ta : PT := PT.new.add ka ⟨#[120]⟩
def Td : PT := Ta.add kd ⟨#[]⟩
theorem aw1 : PT.new.err ka ⟨#[120]⟩ = 0 := by decide +kernel
theorem aw2 : Ta.err kd ⟨#[]⟩ = 0 := by decide +kernel
theorem aw3 : (told (lget Td.kvs ⟨#[97]⟩ 2)).1 = ⟨#[120]⟩ := by decide +kernel
theorem aw4 : (told (lget Td.kvs ⟨#[97]⟩ 2)).2 = 2 := by decide +kernel
theorem aw5 : (told (lget Td.kvs ⟨#[97]⟩ 3)).2 = 1 := by decide +kernel
theorem aw6 : (told (lget Td.kvs ⟨#[97]⟩ 0)).2 = 0 := by decide +kernel
theorem aw7 : Td.size = 35 := by decide +kernel
theorem aw8 : Ta.kvs.length = 1 := by decide +kernel
theorem aw9 : Td.kvs.length = 2 := by decide +kernel
set_option maxRecDepth 100000 in
set_option maxHeartbeats 1000000 in
theorem awake_any (w : World) (hg : Glob w) : Calls Tryd.prog 9 #[] w fun e w' => e = .returned (.bool true) ∧ Below w.heap.size w w' := by
  have HG : Hid (Glob w) := hg
  clear hg
  go_enter Tryd.func9, Tryd.ntmps9
  go_wp2_with fail
  refine (memNew_at _).mono ?_
  rintro _ w1 ⟨p, G, rfl, h1, h2, h3⟩
  have HO : Hid (Own8 w w1 p PT.new G) := ⟨h1, h2, h3⟩
  clear h1 h2 h3
  go_wp2_with fail
  refine (add_own put_small (by decide) HG.out HO.out ka ⟨#[120]⟩ (by decide) (by decide) (by decide)).mono ?_
  rintro _ w2 ⟨rfl, G2, ho2, _⟩
  rw [aw1]
  have HO2 : Hid (Own8 w w2 p Ta G2) := ho2
  clear ho2 HO
  go_wp2_with fail
  refine (add_own put_small (by decide) HG.out HO2.out kd ⟨#[]⟩ (by decide) (by decide) (by rw [aw8]; decide)).mono ?_
  rintro _ w3 ⟨rfl, G3, ho3, _⟩
  rw [aw2]
  have HO3 : Hid (Own8 w w3 p Td G3) := ho3
  clear ho3 HO2
  go_wp2_with fail
  refine (get_at HO3.out.at' ⟨#[97]⟩ 2 (by decide) (by rw [aw9]; decide) (HO3.out.glob HG.out)).mono ?_
  rintro _ w4 ⟨rfl, hb4⟩
  rw [aw3, aw4]
  have HO4 : Hid (Own8 w w4 p Td G3) := HO3.out.below hb4
  clear hb4 HO3
  go_wp2_with fail
  refine (get_at HO4.out.at' ⟨#[97]⟩ 3 (by decide) (by rw [aw9]; decide) (HO4.out.glob HG.out)).mono ?_
  rintro _ w5 ⟨rfl, hb5⟩
  rw [aw5]
  generalize (told (lget Td.kvs ⟨#[97]⟩ 3)).1 = s5
  have HO5 : Hid (Own8 w w5 p Td G3) := HO4.out.below hb5
  clear hb5 HO4
  go_wp2_with fail
  refine (get_at HO5.out.at' ⟨#[97]⟩ 0 (by decide) (by rw [aw9]; decide) (HO5.out.glob HG.out)).mono ?_
  rintro _ w6 ⟨rfl, hb6⟩
  rw [aw6]
  generalize (told (lget Td.kvs ⟨#[97]⟩ 0)).1 = s6
  have HO6 : Hid (Own8 w w6 p Td G3) := HO5.out.below hb6
  clear hb6 HO5
  go_wp2_with fail
  refine (size_at HO6.out.at').mono ?_
  rintro _ w7 ⟨rfl, hw7⟩
  subst hw7
  rw [aw7]
  go_wp2
  go_ret
  exact ⟨ret1 rfl, HO6.out.base⟩
end Go.Proofs.YtnggajconglfcaaDoor
