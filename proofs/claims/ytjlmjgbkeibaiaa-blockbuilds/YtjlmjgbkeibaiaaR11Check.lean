/- The contract of the document's own Check. -/
import Derived.Test.YtjlmjgbkeibaiaaC11FnA
import Derived.Test.YtjlmjgbkeibaiaaRChk
import Derived.Test.YtjlmjgbkeibaiaaRKcmp
import Derived.Deep.RegionHeld3
namespace Go.Proofs.Ytjlmjgbkeibaiaa
open Go.RowKit
set_option linter.unusedVariables false
set_option linter.unusedSimpArgs false
set_option maxRecDepth 100000 in
set_option maxHeartbeats 2000000 in
theorem rcheck11_any (a : Option Addr) (n c : Nat) (l : List KV) (w : World) (h : KsAt w a n c l) (hw : WfL l) :
    Calls Try.prog 25 #[.slice a n c] w fun e w' => e = .returned (.int .i64 ((chkL l : Nat) : Int)) ∧ Below w.heap.size w w' := by
  have HS : Hid (KsAt w a n c l ∧ WfL l ∧ l.length = n) := ⟨h, hw, h.size⟩
  have hm := h.max
  have hl := h.le
  unfold maxLen at hm
  clear h hw
  go_enter Try.func25, Try.ntmps25
  go_wp2_with fail
  go_loopw [3] (fun x wr => ∃ k : Nat, k ≤ n ∧ x = .int .i64 (k : Int) ∧ Hid (Below w.heap.size w wr ∧ ∃ p, Ahead l k p ∧ chkL l = chkGo p (l.drop k))) (fun x _ => n - (intOf x).toNat)
  case atStart => exact ⟨0, Nat.zero_le _, rfl, Below.refl _ _, none, .inl ⟨rfl, rfl⟩, rfl⟩
  case round =>
    obtain ⟨k, hk, rfl, HR⟩ := hrel
    by_cases hkn : k < n
    · obtain ⟨b, off, hb, hc⟩ := HS.out.1.cells4 (by omega)
      have hkl : k < l.length := by rw [HS.out.2.2]; exact hkn
      have hlt : b < w.heap.size := World.block_lt_of_cell? w _ (hc k hkl).1
      have HC : Hid (∀ W, Below w.heap.size w W → ∀ j, ∀ hj : j < l.length, W.cell? ⟨b, off + j * 4, none⟩ = some (.string l[j].1.user) ∧ W.cell? ⟨b, off + j * 4 + 1, none⟩ = some (.int .u64 (l[j].1.seq : Int)) ∧ W.cell? ⟨b, off + j * 4 + 2, none⟩ = some (.int .i64 l[j].1.kind) ∧ W.cell? ⟨b, off + j * 4 + 3, none⟩ = some (.string l[j].2)) := fun W hW j hj => by
        obtain ⟨e0, e1, e2, e3⟩ := hc j hj
        exact ⟨by rw [hW.cell hlt]; exact e0, by rw [hW.cell hlt]; exact e1, by rw [hW.cell hlt]; exact e2, by rw [hW.cell hlt]; exact e3⟩
      obtain ⟨c0, c1, c2, c3⟩ := HC.out wr HR.out.1 k hkl
      have hidx := fun W => idxKV W (a := a) (b := b) (off := off) (n := n) (c := c) hb hkn
      obtain ⟨he1, he2⟩ := HS.out.2.1 l[k] (List.getElem_mem hkl)
      obtain ⟨p, hpa, hpe⟩ := HR.out.2
      rw [chkGo_step hkl] at hpe
      have HCk : Hid (∀ W, Below w.heap.size w W → W.cell? ⟨b, off + k * 4, none⟩ = some (.string l[k].1.user) ∧ W.cell? ⟨b, off + k * 4 + 1, none⟩ = some (.int .u64 (l[k].1.seq : Int)) ∧ W.cell? ⟨b, off + k * 4 + 2, none⟩ = some (.int .i64 l[k].1.kind) ∧ W.cell? ⟨b, off + k * 4 + 3, none⟩ = some (.string l[k].2)) := fun W hW => HC.out W hW k hkl
      generalize hek : l[k] = e at c0 c1 c2 c3 he1 he2 hpe HCk
      have HEK : Hid (l[k] = e) := hek
      have HPA : Hid (Ahead l k p) := hpa
      have HPE : Hid (chkL l = if e.1.err ≠ 0 then e.1.err else if 1000 < e.2.size then 31 else if (p.any fun q => decide (0 ≤ q.cmp e.1)) = true then 110 else chkGo (some e.1) (l.drop (k + 1))) := hpe
      clear hc hpa hpe hek
      have hch := fun W => rcheck_any e.1.user e.1.seq e.1.kind W he1
      have HZ : Hid (chk e.1.user.size e.1.seq e.1.kind = e.1.err) := rfl
      have HIx : Hid (∀ j, j < n → ∀ W, (Instr.indexAt 23 (.slice a n c) (.int .i64 (j : Int))).run Try.prog W = .ok (.pointer (some ⟨b, off + j * 4, none⟩)) W) := fun j hj W => idxKV W (a := a) (b := b) (off := off) (n := n) (c := c) hb hj
      clear hb
      go_wp2_with fail
      refine (hch _).mono ?_
      rintro _ w2 ⟨rfl, hb2⟩
      have HW2 : Hid (Below w.heap.size w w2) := HR.out.1.trans (hb2.mono HR.out.1.size)
      clear hb2 hch c0 c1 c2 c3
      rw [HZ.out]
      obtain ⟨d0, d1, d2, d3⟩ := HCk.out w2 HW2.out
      generalize HER : e.1.err = er at HPE
      clear HER
      by_cases her : er = 0
      · subst her
        by_cases hv : 1000 < e.2.size
        · go_wp2
          go_ret
          rw [HPE.out]
          exact ⟨ret1 (by simp [hv]), HW2.out⟩
        · rcases HPA.out with ⟨hk0, hp⟩ | ⟨j, hj, hkj, hp⟩
          · subst hk0 hp
            have hix0 : ∀ W : World, (Instr.indexAt 23 (.slice a n c) (.int .i64 0)).run Try.prog W = .ok (.pointer (some ⟨b, off, none⟩)) W := fun W => by have := HIx.out 0 hkn W; simpa using this
            have z3 : w2.cell? ⟨b, off + 3, none⟩ = some (.string e.2) := by simpa using d3
            go_wp2_with fail
            go_quiet (fail)
            go_wp2
            go_roundw
            case rel => exact ⟨1, by omega, rfl, HW2.out.trans (Below.drewM (Below.refl _ _) _), some e.1, .inr ⟨0, hkl, rfl, by rw [HEK.out]⟩, by rw [HPE.out]; simp [hv]⟩
            case measure => simp only [intOf]; omega
          · subst hp
            obtain ⟨f0, f1, f2, _⟩ := HC.out w2 HW2.out j hj
            have hjx := fun W => HIx.out j (by omega) W
            rw [show ((j : Nat) : Int) = (k : Int) - 1 by omega] at hjx
            have HCM : Hid (∀ W : World, Calls Try.prog 42 #[.agg #[.string l[j].1.user, .int .u64 (l[j].1.seq : Int), .int .i64 l[j].1.kind], .agg #[.string e.1.user, .int .u64 (e.1.seq : Int), .int .i64 e.1.kind]] W fun r w' => r = .returned (.int .i64 (l[j].1.cmp e.1)) ∧ Below W.heap.size W w') := fun W => rcompare_any _ _ _ _ _ _ W
            have hk0 : 0 < k := by omega
            clear hkj HPA
            have HCy : Hid (∀ W, Below w.heap.size w W → W.cell? ⟨b, off + j * 4, none⟩ = some (.string l[j].1.user) ∧ W.cell? ⟨b, off + j * 4 + 1, none⟩ = some (.int .u64 (l[j].1.seq : Int)) ∧ W.cell? ⟨b, off + j * 4 + 2, none⟩ = some (.int .i64 l[j].1.kind) ∧ W.cell? ⟨b, off + j * 4 + 3, none⟩ = some (.string l[j].2)) := fun W hW => HC.out W hW j hj
            generalize l[j] = y at f0 f1 f2 HCM HPE HCy
            generalize HCV : y.1.cmp e.1 = cv at HCM
            have HCV2 : Hid (y.1.cmp e.1 = cv) := HCV
            clear HCV
            go_wp2_with fail
            have HW3 : Hid (Below w.heap.size w w2.drew) := HW2.out.drew
            obtain ⟨g0, g1, g2⟩ : w2.drew.cell? ⟨b, off + j * 4, none⟩ = some (.string y.1.user) ∧ w2.drew.cell? ⟨b, off + j * 4 + 1, none⟩ = some (.int .u64 (y.1.seq : Int)) ∧ w2.drew.cell? ⟨b, off + j * 4 + 2, none⟩ = some (.int .i64 y.1.kind) := ⟨f0, f1, f2⟩
            obtain ⟨e0, e1, e2⟩ : w2.drew.cell? ⟨b, off + k * 4, none⟩ = some (.string e.1.user) ∧ w2.drew.cell? ⟨b, off + k * 4 + 1, none⟩ = some (.int .u64 (e.1.seq : Int)) ∧ w2.drew.cell? ⟨b, off + k * 4 + 2, none⟩ = some (.int .i64 e.1.kind) := ⟨d0, d1, d2⟩
            have hwr : IntKind.i64.wrap ((k : Int) - 1) = (k : Int) - 1 := by rw [IntKind.wrap_i64]; omega
            have hgd : decide ((k : Int) > 0) = true := decide_eq_true (by omega)
            go_region_held3 (fun W => W.cell? ⟨b, off + j * 4, none⟩ = some (.string y.1.user) ∧ W.cell? ⟨b, off + j * 4 + 1, none⟩ = some (.int .u64 (y.1.seq : Int)) ∧ W.cell? ⟨b, off + j * 4 + 2, none⟩ = some (.int .i64 y.1.kind) ∧ W.cell? ⟨b, off + k * 4, none⟩ = some (.string e.1.user) ∧ W.cell? ⟨b, off + k * 4 + 1, none⟩ = some (.int .u64 (e.1.seq : Int)) ∧ W.cell? ⟨b, off + k * 4 + 2, none⟩ = some (.int .i64 e.1.kind)) (first | exact ⟨g0, g1, g2, e0, e1, e2⟩ | go_keep)
              (first
               | (go_at_call 42; refine (HCM.out _).mono ?_; rintro _ vx ⟨rfl, hbx⟩
                  have HW3 : Hid (Below w.heap.size w vx) := HW3.out.trans (hbx.mono HW3.out.size)
                  obtain ⟨g0, g1, g2, _⟩ := HCy.out _ HW3.out
                  obtain ⟨e0, e1, e2, _⟩ := HCk.out _ HW3.out
                  clear hbx))
            by_cases hcv : 0 ≤ cv
            · go_wp2
              go_ret
              rw [HPE.out]
              exact ⟨ret1 (by simp [hv, HCV2.out, hcv]), HW3.out⟩
            · go_wp2
              go_roundw
              case rel => exact ⟨k + 1, by omega, by go_num, HW3.out, some e.1, .inr ⟨k, hkl, rfl, by rw [HEK.out]⟩, by rw [HPE.out]; simp [hv, HCV2.out, hcv]⟩
              case measure => simp only [intOf]; omega
      · go_wp2
        go_ret
        rw [HPE.out]
        exact ⟨ret1 (by simp [her]), HW2.out⟩
    · go_wp2
      go_ret
      obtain ⟨hb, p, _, hp⟩ := HR.out
      rw [hp, chkGo_end (by rw [HS.out.2.2]; omega)]
      exact ⟨ret1 rfl, hb⟩
end Go.Proofs.Ytjlmjgbkeibaiaa
