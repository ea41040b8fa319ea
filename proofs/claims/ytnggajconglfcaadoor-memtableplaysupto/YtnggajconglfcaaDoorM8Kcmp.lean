/- The contract of the document's own Compare, and how it tells keys in order. -/
import Derived.Test.YtnggajconglfcaaDoorChecked
import Derived.Test.YtnggajconglfcaaDoorPdPlain
import Derived.Laws.Cover1
namespace Go.Proofs.YtnggajconglfcaaDoor
open Go.RowKit
/-- Two texts, byte by byte. -/
def scmp (x y : List UInt8) : Int := if Op.bytesLess x y = true then -1 else if (x == y) = true then 0 else 1
/-- Two numbers. -/
def icmp (x y : Int) : Int := if x < y then -1 else if y < x then 1 else 0
def kcmp (s t : List UInt8) (q r k l : Int) : Int := if (scmp s t != 0) = true then scmp s t else if (icmp r q != 0) = true then icmp r q else icmp l k

set_option maxRecDepth 100000 in
set_option maxHeartbeats 1000000 in
theorem rcompare_any (s t : ByteArray) (q r k l : Int) (w : World) :
    Calls Tryd.prog 21 #[.agg #[.string s, .int .u64 q, .int .i64 k], .agg #[.string t, .int .u64 r, .int .i64 l]] w fun e w' => e = .returned (.int .i64 (kcmp s.toList t.toList q r k l)) ∧ Below w.heap.size w w' := by
  have hB : Hid (Below w.heap.size w ((w.alloc (Obj.cells #[Value.string s, Value.int IntKind.u64 q, Value.int IntKind.i64 k] 32)).alloc (Obj.cells #[Value.string t, Value.int IntKind.u64 r, Value.int IntKind.i64 l] 32))) := ((Below.refl _ w).alloc (Nat.le_refl _) _).alloc (by simp) _
  by_cases h1 : Op.bytesLess s.toList t.toList = true
  · have HE : Hid (kcmp s.toList t.toList q r k l = -1) := by simp [Hid, kcmp, scmp, h1]
    go_enter Tryd.func21, Tryd.ntmps21
    go_wp2
    go_ret
    rw [HE.out]
    exact ⟨ret1 rfl, hB.out⟩
  · have h1' : Op.bytesLess s.toList t.toList = false := by simpa using h1
    by_cases h2 : (s.toList == t.toList) = true
    · have HK : Hid (kcmp s.toList t.toList q r k l = if r < q then -1 else if q < r then 1 else icmp l k) := by
        simp only [Hid, kcmp, scmp, icmp, h1', h2]
        by_cases a : r < q
        · simp [a]
        · by_cases b : q < r
          · simp [a, b]
          · simp [a, b]
      by_cases h3 : r < q
      · have HE : Hid (kcmp s.toList t.toList q r k l = -1) := by rw [Hid, HK.out, if_pos h3]
        go_enter Tryd.func21, Tryd.ntmps21
        go_wp2
        go_ret
        rw [HE.out]
        exact ⟨ret1 rfl, hB.out⟩
      · have h3' : decide (r < q) = false := by simpa using h3
        by_cases h4 : q < r
        · have HE : Hid (kcmp s.toList t.toList q r k l = 1) := by rw [Hid, HK.out, if_neg h3, if_pos h4]
          have h4' : (q == r) = false := by simp; omega
          go_enter Tryd.func21, Tryd.ntmps21
          go_wp2
          go_ret
          rw [HE.out]
          exact ⟨ret1 rfl, hB.out⟩
        · have h4' : (q == r) = true := by simp; omega
          have h5' : decide (q < r) = false := by simpa using h4
          by_cases h6 : l < k
          · have HE : Hid (kcmp s.toList t.toList q r k l = -1) := by rw [Hid, HK.out, if_neg h3, if_neg h4]; simp [icmp, h6]
            go_enter Tryd.func21, Tryd.ntmps21
            go_wp2
            go_ret
            rw [HE.out]
            exact ⟨ret1 rfl, hB.out⟩
          · have h6' : decide (l < k) = false := by simpa using h6
            by_cases h7 : k < l
            · have HE : Hid (kcmp s.toList t.toList q r k l = 1) := by rw [Hid, HK.out, if_neg h3, if_neg h4]; simp [icmp, h6, h7]
              go_enter Tryd.func21, Tryd.ntmps21
              go_wp2
              go_ret
              rw [HE.out]
              exact ⟨ret1 rfl, hB.out⟩
            · have HE : Hid (kcmp s.toList t.toList q r k l = 0) := by rw [Hid, HK.out, if_neg h3, if_neg h4]; simp [icmp, h6, h7]
              have h7' : decide (k < l) = false := by simpa using h7
              go_enter Tryd.func21, Tryd.ntmps21
              go_wp2
              go_ret
              rw [HE.out]
              exact ⟨ret1 rfl, hB.out⟩
    · have h2' : (s.toList == t.toList) = false := by simpa using h2
      have HE : Hid (kcmp s.toList t.toList q r k l = 1) := by simp [Hid, kcmp, scmp, h1', h2']
      go_enter Tryd.func21, Tryd.ntmps21
      go_wp2
      go_ret
      rw [HE.out]
      exact ⟨ret1 rfl, hB.out⟩
def IK.cmp (a b : IK) : Int := kcmp a.user.toList b.user.toList (a.seq : Int) (b.seq : Int) a.kind b.kind
theorem cmp_kb {a b : IK} (ha : a.Ok) (hb : b.Ok) : a.cmp b < 0 ↔ kb a b = true := by
  unfold IK.cmp kcmp kb
  rw [ByteArray.toList_eq, ByteArray.toList_eq]
  by_cases hu : a.user = b.user
  · rw [if_pos hu, hu]
    have e : scmp b.user.data.toList b.user.data.toList = 0 := by
      unfold scmp
      rw [bl_irr]
      simp
    rw [e, if_neg (by decide), decide_eq_true_eq]
    obtain ⟨h1, h2⟩ := ha
    obtain ⟨h3, h4⟩ := hb
    unfold icmp IK.num
    by_cases x1 : (b.seq : Int) < (a.seq : Int)
    · rw [if_pos x1]
      simp
      omega
    · rw [if_neg x1]
      by_cases x2 : (a.seq : Int) < (b.seq : Int)
      · rw [if_pos x2]
        simp
        omega
      · rw [if_neg x2]
        simp
        repeat' split
        all_goals omega
  · rw [if_neg hu]
    have hne : ¬ a.user.data = b.user.data := fun e => hu (ba_ext (by rw [e]))
    unfold scmp
    cases hl : Op.bytesLess a.user.data.toList b.user.data.toList with
    | true => simp
    | false => simp [hne]
end Go.Proofs.YtnggajconglfcaaDoor
