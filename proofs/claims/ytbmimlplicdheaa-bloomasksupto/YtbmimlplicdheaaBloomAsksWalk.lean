/- The walk of BloomAsks. -/
import Derived.Test.YtbmimlplicdheaaB10Awake
import Derived.Test.YtbmimlplicdheaaR10May
namespace Go.Proofs.Ytbmimlplicdheaa
open Go.RowKit
set_option maxRecDepth 100000 in
set_option maxHeartbeats 1000000 in
theorem bloomAsks_walk (a : Option Addr) (len cap : Nat) (bs : List UInt8) (s : ByteArray) (w : World) (h : BsAt w a len cap bs) (hc : cap ≤ 1048576) (hs : s.size ≤ 1048576) :
    Calls Try.prog 5 #[.slice a len cap, .string s] w fun e w' => e = .returned (.bool true) ∧ Below w.heap.size w w' := by
  have hle := h.le
  go_enter Try.func5, Try.ntmps5
  go_wp2_with fail
  refine (awake_any _).mono ?_
  rintro e w1 ⟨rfl, hb1⟩
  have HB1 : Hid (Below w.heap.size w w1) := hb1
  have h1 := h.below (Nat.le_refl _) hb1
  have hmade : OwnB (w1.alloc (.cells #[] 5)) w1.heap.size (some ⟨w1.heap.size, 0, none⟩) 0 0 [] := ⟨rfl, World.ownsRow_made w1 #[] 0 (Nat.le_refl _) (Nat.zero_le _) (by simp)⟩
  have HA : Hid (Below w1.heap.size w1 (w1.alloc (.cells #[] 5))) := (Below.refl _ _).alloc (Nat.le_refl _) _
  have HH : Hid (BsAt w1 a len cap bs) := h1
  clear h h1 hb1
  go_wp2_with (at_builtin; refine wpList_app _ rfl _ _ rfl w1.heap.size _ 0 0 [] rfl hmade a len cap bs rfl (HH.out.alloc _) (by omega) (by simp) ?_; intro a2 c2 w2 ho2 hb2 hg2)
  have hb2 : Below w1.heap.size w1 w2 := HA.out.trans hb2
  rw [Nat.zero_add, List.nil_append] at ho2
  refine (may_any a2 len c2 bs s w2 ho2.bs (by omega) (by omega)).mono ?_
  rintro e w3 ⟨rfl, hb3⟩
  have hb3' : Below w1.heap.size w1 w3 := hb2.trans (hb3.mono hb2.size)
  have HL : Hid (BsAt w3 a2 len c2 bs) := ho2.bs.below (Nat.le_refl _) hb3
  have HF : Hid (BsAt w3 a len cap bs) := HH.out.below (Nat.le_refl _) hb3'
  have HB3 : Hid (Below w.heap.size w w3) := HB1.out.trans (hb3'.mono HB1.out.size)
  clear hb2 hb3 hb3' ho2 hg2 hmade HA HH HB1
  generalize hm : mayN bs s.data.toList = t at *
  go_wp2_with fail
  refine (rmay_any a len cap bs s w3 HF.out (by omega) (by omega)).mono ?_
  rintro e w4 ⟨rfl, hb4⟩
  rw [hm]
  have s1 := (HL.out.below (Nat.le_refl _) hb4).asStr (P := Try.prog) Try.underlying25 Try.underlying5 Try.underlying9
  have s2 := (HF.out.below (Nat.le_refl _) hb4).asStr (P := Try.prog) Try.underlying25 Try.underlying5 Try.underlying9
  have HB4 : Hid (Below w.heap.size w w4) := HB3.out.trans (hb4.mono HB3.out.size)
  generalize strOf bs = sb at *
  have htt : (t == t) = true := by simp
  clear hb4 hm
  go_wp2
  go_ret
  exact ⟨ret1 (by simp), HB4.out⟩
end Go.Proofs.Ytbmimlplicdheaa
