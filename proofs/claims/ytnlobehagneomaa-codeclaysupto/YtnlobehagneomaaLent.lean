/- The contracts of the statements' own lent and held: bytes with room behind, and whether they are as they were. -/
import Derived.Test.YtnlobehagneomaaOwn
namespace Go.Proofs.Ytnlobehagneomaa
open Go.RowKit
theorem BsAt.first {w : World} {a : Option Addr} {len cap : Nat} {bs cs : List UInt8} (h : BsAt w a len cap (bs ++ cs)) : BsAt w a bs.length cap bs := by
  have hs := h.size
  have hl := h.le
  rw [List.length_append] at hs
  refine ⟨rfl, by omega, h.max, h.bare, fun hp => ?_⟩
  obtain ⟨b, off, rfl, hc⟩ := h.here (by omega)
  refine ⟨b, off, rfl, fun j hj => ?_⟩
  rw [hc j (by omega)]
  simp [List.getD, List.getElem?_append_left hj]
def pad12 : List UInt8 := [77, 77, 77, 77, 77, 77, 77, 77, 77, 77, 77, 77]
set_option maxRecDepth 100000 in
set_option maxHeartbeats 400000 in
theorem lent_any (a : Option Addr) (len cap : Nat) (bs : List UInt8) (w : World) (h : BsAt w a len cap bs) (hl : len + 12 ≤ 140737488355328) :
    Calls Try.prog 10 #[.slice a len cap] w fun e w' => ∃ g c', e = .returned (.slice (some ⟨g, 0, none⟩) len c') ∧ BsAt w' (some ⟨g, 0, none⟩) (len + 12) c' (bs ++ pad12) ∧ Below w.heap.size w w' := by
  have hle := h.le
  go_enter Try.func10, Try.ntmps10
  go_wp2_with (first
    | (at_builtin; refine wpList_app0 w rfl _ _ rfl rfl _ _ _ bs rfl h (by omega) ?_; intro a0 c0 w0 ho0 hb0)
    | (at_builtin; refine wpList_app _ rfl _ _ rfl w.heap.size _ _ _ bs rfl (ho0.alloc _) _ _ _ pad12 rfl (BsAt.lit _ _ _ _ _ 12 rfl rfl (by decide)) (by omega) ?_ ?_))
  · have := hb0.size
    simp
    omega
  · intro a3 c3 w3 ho3 hb3 _
    obtain ⟨g, rfl, hBg, hg, _⟩ := ho3.cells (by omega)
    have HW : Hid (Below w.heap.size w w3) := (hb0.alloc hb0.size _).trans hb3
    have HO : Hid (BsAt w3 (some ⟨g, 0, none⟩) (len + 12) c3 (bs ++ pad12)) := ho3.bs
    have hc3 := ho3.bs.le
    clear hb3 ho3
    go_wp2
    go_ret
    exact ⟨g, c3, ret1 rfl, HO.out, HW.out⟩
set_option maxRecDepth 100000 in
set_option maxHeartbeats 400000 in
theorem held_any (a : Option Addr) (len cap g c : Nat) (bs : List UInt8) (w : World) (h : BsAt w a len cap bs) (hl : len + 12 ≤ 140737488355328) (hg : BsAt w (some ⟨g, 0, none⟩) (len + 12) c (bs ++ pad12)) :
    Calls Try.prog 14 #[.slice (some ⟨g, 0, none⟩) len c, .slice a len cap] w fun e w' => e = .returned (.bool true) ∧ w' = w := by
  have hcl := hg.le
  have hcm := hg.max
  unfold maxLen at hcm
  have hlen := h.size
  have h1 : BsAt w (some ⟨g, 0, none⟩) len c bs := by have := hg.first; rwa [hlen] at this
  have hc1 := h1.asStr (P := Try.prog) (dst := 9) Try.underlying23 Try.underlying5 Try.underlying9
  have hc2 := h.asStr (P := Try.prog) (dst := 9) Try.underlying23 Try.underlying5 Try.underlying9
  have HG : Hid (∀ k, k < 12 → w.cell? ⟨g, len + k, none⟩ = some (.int .u8 77)) := by
    intro k hk
    obtain ⟨b, off, he, hc⟩ := hg.here (by omega)
    simp only [Option.some.injEq, Addr.mk.injEq, and_true] at he
    obtain ⟨rfl, rfl⟩ := he
    have := hc (len + k) (by omega)
    rw [Nat.zero_add] at this
    rw [this]
    have e : (bs ++ pad12).getD (len + k) 0 = 77 := by
      rw [List.getD, List.getElem?_append_right (by omega), hlen, Nat.add_sub_cancel_left]
      have : k = 0 ∨ k = 1 ∨ k = 2 ∨ k = 3 ∨ k = 4 ∨ k = 5 ∨ k = 6 ∨ k = 7 ∨ k = 8 ∨ k = 9 ∨ k = 10 ∨ k = 11 := by omega
      rcases this with rfl | rfl | rfl | rfl | rfl | rfl | rfl | rfl | rfl | rfl | rfl | rfl <;> rfl
    rw [e]
    rfl
  clear hg h h1 hlen
  go_enter Try.func14, Try.ntmps14
  go_wp2
  go_loop [6] (fun i => ∃ k : Nat, k ≤ 12 ∧ i = .int .i64 k) (fun i => 12 - (intOf i).toNat)
  case atStart => exact ⟨0, by omega, rfl⟩
  case round =>
    obtain ⟨k, hk, rfl⟩ := hrel
    by_cases hlt : k < 12
    · have hck := HG.out k hlt
      go_wp2
      go_round
      case rel => exact ⟨k + 1, by omega, by go_num⟩
      case measure => simp [intOf]; omega
    · go_wp2
      go_ret
      exact ⟨ret1 (by simp), rfl⟩
end Go.Proofs.Ytnlobehagneomaa
