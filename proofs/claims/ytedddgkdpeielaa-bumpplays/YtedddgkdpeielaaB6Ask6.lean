/- asked: Store. -/
import Derived.Test.YtedddgkdpeielaaB6Joint
import Derived.Deep.RegionHeld3
namespace Go.Proofs.Ytedddgkdpeielaa
open Go.RowKit
set_option linter.unusedVariables false
set_option maxRecDepth 100000 in
set_option maxHeartbeats 2000000 in
theorem asked_6 {w0 w : World} {p q : Nat} {A : PA} (h : Both w0 w p q A) (pos n m : Int) (ba : Option Addr) (bl bc : Nat) (bs : List UInt8) (hp : in64 pos) (hn : in64 n) (hm : in64 m) (hb : BsAt w0 ba bl bc bs) (hbc : bc ≤ 140737488351232) : Calls Try.prog 11 #[at_ p, at_ q, .agg #[.int .i64 6, .int .i64 pos, .int .i64 n, .int .i64 m, .slice ba bl bc]] w fun e w' => e = .returned (.bool true) ∧ ∃ A', Both w0 w' p q A' := by
  obtain ⟨gb, ac, cc, hr⟩ := h.rf
  have HB : Hid (Both w0 (w.alloc (.cells #[.int .i64 6, .int .i64 pos, .int .i64 n, .int .i64 m, .slice ba bl bc] TC)) p q A) := h.below ((Below.refl _ _).alloc (Nat.le_refl _) _)
  have HR : Hid (RfAt (w.alloc (.cells #[.int .i64 6, .int .i64 pos, .int .i64 n, .int .i64 m, .slice ba bl bc] TC)) w0.heap.size q gb ac cc A) := hr.alloc _
  have HX : Hid (Box (w.alloc (.cells #[.int .i64 6, .int .i64 pos, .int .i64 n, .int .i64 m, .slice ba bl bc] TC)) w.heap.size TC #[.int .i64 6, .int .i64 pos, .int .i64 n, .int .i64 m, .slice ba bl bc]) := Box.new w _ _
  have HPS : Hid (in64 pos) := hp
  have HNS : Hid (in64 n) := hn
  have HMS : Hid (in64 m) := hm
  clear h hr hp hn hm
  clear hb hbc
  have c1 := HX.out.cell 1
  have c2 := HX.out.cell 2
  simp at c1 c2
  go_enter Try.func11, Try.ntmps11
  go_wp2_with fail
  go_region_held3 (fun w' => w'.cell? ⟨w.heap.size, 1, none⟩ = some (.int .i64 pos) ∧ w'.cell? ⟨w.heap.size, 2, none⟩ = some (.int .i64 n)) (first | exact ⟨c1, c2⟩ | go_keep)
    (first
     | (go_at_call 16; refine (store_at HB.out.ar.drew pos n HNS.out).mono ?_; rintro e w1 ⟨rfl, a1, k1⟩
        have hx1 : Box w1 w.heap.size TC #[.int .i64 6, .int .i64 pos, .int .i64 n, .int .i64 m, .slice ba bl bc] := HX.out.kept (k1.block _ HX.out.lt (tag_ne HX.out.tag HB.out.ar.box.tag (by decide)))
        have c1 := hx1.cell 1
        have c2 := hx1.cell 2
        simp at c1 c2
        have HST := HB.out.step HR.out a1 ((Chg.refl _ _).drew.andThen k1 (fun _ _ h => h))
        have HST' : Hid (RfAt w1 w0.heap.size q gb ac cc A ∧ (∀ w2, (∃ ac' cc', RfAt w2 w0.heap.size q gb ac' cc' (A.store pos n).2) → Chg (RFoot q gb ac) w1 w2 → Both w0 w2 p q (A.store pos n).2)) := ⟨HST.1, HST.2.2⟩
        clear HST a1 k1)
     | (go_at_call 25; refine (rstore_at HST'.out.1 pos n HNS.out).mono ?_; rintro e w2 ⟨rfl, r2, k2⟩
        have HFIN : Hid (Both w0 w2 p q (A.store pos n).2) := HST'.out.2 w2 ⟨_, _, r2⟩ k2
        have hx2 : Box w2 w.heap.size TC #[.int .i64 6, .int .i64 pos, .int .i64 n, .int .i64 m, .slice ba bl bc] := hx1.kept (k2.block _ hx1.lt (fun hk => by
          rcases hk with e | e | e
          · exact tag_ne hx1.tag HST'.out.1.box.tag (by decide) e
          · exact tag_ne hx1.tag HST'.out.1.row.tag (by decide) e
          · exact tag_ne hx1.tag (HST'.out.1.cells.tag e) (by decide) rfl))
        have c1 := hx2.cell 1
        have c2 := hx2.cell 2
        simp at c1 c2))
  all_goals
    go_wp2
    go_returns
    exact ⟨rfl, _, HFIN.out⟩
end Go.Proofs.Ytedddgkdpeielaa
