/- The contract of the document's own Check. -/
import Derived.Test.YtgegjcnjlibfdaaGreatC11FnA
import Derived.Test.YtgegjcnjlibfdaaGreatQa23
import Derived.Deep.RegionHeld3
import Derived.Test.YtgegjcnjlibfdaaGreatQa24
import Derived.Test.YtgegjcnjlibfdaaGreatC11MemA
import Derived.Test.YtgegjcnjlibfdaaGreatQa05
import Derived.Test.YtgegjcnjlibfdaaGreatC11TakeA
namespace Go.Proofs.YtgegjcnjlibfdaaGreat
set_option maxRecDepth 100000
open Go.RowKit
set_option linter.unusedVariables false
set_option linter.unusedSimpArgs false
set_option maxRecDepth 100000 in
set_option maxHeartbeats 2000000 in
theorem rcheck11_any (a : Option Addr) (n c : Nat) (l : List KV) (w : World) (h : KsAt w a n c l) (hw : WfL l) :
    Calls Tryz.prog 27 #[.slice a n c] w fun e w' => e = .returned (.int .i64 ((chkL l : Nat) : Int)) ∧ Below w.heap.size w w' := by
  have HS : Hid (KsAt w a n c l ∧ WfL l ∧ l.length = n) := ⟨h, hw, h.size⟩
  have hm := h.max
  have hl := h.le
  unfold maxLen at hm
  clear h hw
  go_enter Tryz.func27, Tryz.ntmps27
  go_wp2_with fail
  go_loopw [3] (fun x wr => ∃ k : Nat, k ≤ n ∧ x = .int .i64 (k : Int) ∧ Hid (Below w.heap.size w wr ∧ ∃ p, Ahead l k p ∧ chkL l = chkGo p (l.drop k))) (fun x _ => n - (intOf x).toNat)
  case atStart => exact ⟨0, Nat.zero_le _, rfl, Below.refl _ _, none, .inl ⟨rfl, rfl⟩, rfl⟩
  case round =>
    obtain ⟨k, hk, rfl, HR⟩ := hrel
    by_cases hkn : k < n
    · obtain ⟨b, off, hb, hc⟩ := HS.out.1.cells4 (by omega)
      have hkl : k < l.length := by rw [HS.out.2.2]; exact hkn
      have hlt : b < w.heap.size := World.block_lt_of_cell? w _ (hc k hkl).1
      have HC : Hid (∀ W, Below w.heap.size w W → ∀ j, ∀ hj : j < l.length, W.cell? ⟨b, off + j * 4, none⟩ = some (.string l[j].1.user) ∧ W.cell? ⟨b, off + j * 4 + 1, none⟩ = some (.int .u64 (l[j].1.seq : Int)) ∧ W.cell? ⟨b, off + j * 4 + 2, none⟩ = some (.int .i64 l[j].1.kind) ∧ W.cell? ⟨b, off + j * 4 + 3, none⟩ = some (.string l[j].2)) := fun W hW j hj => by
        obtain ⟨e0, e1, e2, e3⟩ := hc j hj
        exact ⟨by rw [hW.cell hlt]; exact e0, by rw [hW.cell hlt]; exact e1, by rw [hW.cell hlt]; exact e2, by rw [hW.cell hlt]; exact e3⟩
      obtain ⟨c0, c1, c2, c3⟩ := HC.out wr HR.out.1 k hkl
      have hidx := fun W => idxKV W (a := a) (b := b) (off := off) (n := n) (c := c) hb hkn
      obtain ⟨he1, he2⟩ := HS.out.2.1 l[k] (List.getElem_mem hkl)
      obtain ⟨p, hpa, hpe⟩ := HR.out.2
      rw [chkGo_step hkl] at hpe
      have HCk : Hid (∀ W, Below w.heap.size w W → W.cell? ⟨b, off + k * 4, none⟩ = some (.string l[k].1.user) ∧ W.cell? ⟨b, off + k * 4 + 1, none⟩ = some (.int .u64 (l[k].1.seq : Int)) ∧ W.cell? ⟨b, off + k * 4 + 2, none⟩ = some (.int .i64 l[k].1.kind) ∧ W.cell? ⟨b, off + k * 4 + 3, none⟩ = some (.string l[k].2)) := fun W hW => HC.out W hW k hkl
      generalize hek : l[k] = e at c0 c1 c2 c3 he1 he2 hpe HCk
      have HEK : Hid (l[k] = e) := hek
      have HPA : Hid (Ahead l k p) := hpa
      have HPE : Hid (chkL l = if e.1.err ≠ 0 then e.1.err else if 1000 < e.2.size then 31 else if (p.any fun q => decide (0 ≤ q.cmp e.1)) = true then 110 else chkGo (some e.1) (l.drop (k + 1))) := hpe
      clear hc hpa hpe hek
      have hch := fun W => rcheck_any e.1.user e.1.seq e.1.kind W he1
      have HZ : Hid (chk e.1.user.size e.1.seq e.1.kind = e.1.err) := rfl
      have HIx : Hid (∀ j, j < n → ∀ W, (Instr.indexAt 23 (.slice a n c) (.int .i64 (j : Int))).run Tryz.prog W = .ok (.pointer (some ⟨b, off + j * 4, none⟩)) W) := fun j hj W => idxKV W (a := a) (b := b) (off := off) (n := n) (c := c) hb hj
      clear hb
      go_wp2_with fail
      refine (hch _).mono ?_
      rintro _ w2 ⟨rfl, hb2⟩
      have HW2 : Hid (Below w.heap.size w w2) := HR.out.1.trans (hb2.mono HR.out.1.size)
      clear hb2 hch c0 c1 c2 c3
      rw [HZ.out]
      obtain ⟨d0, d1, d2, d3⟩ := HCk.out w2 HW2.out
      generalize HER : e.1.err = er at HPE
      clear HER
      by_cases her : er = 0
      · subst her
        by_cases hv : 1000 < e.2.size
        · go_wp2
          go_ret
          rw [HPE.out]
          exact ⟨ret1 (by simp [hv]), HW2.out⟩
        · rcases HPA.out with ⟨hk0, hp⟩ | ⟨j, hj, hkj, hp⟩
          · subst hk0 hp
            have hix0 : ∀ W : World, (Instr.indexAt 23 (.slice a n c) (.int .i64 0)).run Tryz.prog W = .ok (.pointer (some ⟨b, off, none⟩)) W := fun W => by have := HIx.out 0 hkn W; simpa using this
            have z3 : w2.cell? ⟨b, off + 3, none⟩ = some (.string e.2) := by simpa using d3
            go_wp2_with fail
            go_quiet (fail)
            go_wp2
            go_roundw
            case rel => exact ⟨1, by omega, rfl, HW2.out.trans (Below.drewM (Below.refl _ _) _), some e.1, .inr ⟨0, hkl, rfl, by rw [HEK.out]⟩, by rw [HPE.out]; simp [hv]⟩
            case measure => simp only [intOf]; omega
          · subst hp
            obtain ⟨f0, f1, f2, _⟩ := HC.out w2 HW2.out j hj
            have hjx := fun W => HIx.out j (by omega) W
            rw [show ((j : Nat) : Int) = (k : Int) - 1 by omega] at hjx
            have HCM : Hid (∀ W : World, Calls Tryz.prog 45 #[.agg #[.string l[j].1.user, .int .u64 (l[j].1.seq : Int), .int .i64 l[j].1.kind], .agg #[.string e.1.user, .int .u64 (e.1.seq : Int), .int .i64 e.1.kind]] W fun r w' => r = .returned (.int .i64 (l[j].1.cmp e.1)) ∧ Below W.heap.size W w') := fun W => rcompare_any _ _ _ _ _ _ W
            have hk0 : 0 < k := by omega
            clear hkj HPA
            have HCy : Hid (∀ W, Below w.heap.size w W → W.cell? ⟨b, off + j * 4, none⟩ = some (.string l[j].1.user) ∧ W.cell? ⟨b, off + j * 4 + 1, none⟩ = some (.int .u64 (l[j].1.seq : Int)) ∧ W.cell? ⟨b, off + j * 4 + 2, none⟩ = some (.int .i64 l[j].1.kind) ∧ W.cell? ⟨b, off + j * 4 + 3, none⟩ = some (.string l[j].2)) := fun W hW => HC.out W hW j hj
            generalize l[j] = y at f0 f1 f2 HCM HPE HCy
            generalize HCV : y.1.cmp e.1 = cv at HCM
            have HCV2 : Hid (y.1.cmp e.1 = cv) := HCV
            clear HCV
            go_wp2_with fail
            have HW3 : Hid (Below w.heap.size w w2.drew) := HW2.out.drew
            obtain ⟨g0, g1, g2⟩ : w2.drew.cell? ⟨b, off + j * 4, none⟩ = some (.string y.1.user) ∧ w2.drew.cell? ⟨b, off + j * 4 + 1, none⟩ = some (.int .u64 (y.1.seq : Int)) ∧ w2.drew.cell? ⟨b, off + j * 4 + 2, none⟩ = some (.int .i64 y.1.kind) := ⟨f0, f1, f2⟩
            obtain ⟨e0, e1, e2⟩ : w2.drew.cell? ⟨b, off + k * 4, none⟩ = some (.string e.1.user) ∧ w2.drew.cell? ⟨b, off + k * 4 + 1, none⟩ = some (.int .u64 (e.1.seq : Int)) ∧ w2.drew.cell? ⟨b, off + k * 4 + 2, none⟩ = some (.int .i64 e.1.kind) := ⟨d0, d1, d2⟩
            have hwr : IntKind.i64.wrap ((k : Int) - 1) = (k : Int) - 1 := by rw [IntKind.wrap_i64]; omega
            have hgd : decide ((k : Int) > 0) = true := decide_eq_true (by omega)
            go_region_held3 (fun W => W.cell? ⟨b, off + j * 4, none⟩ = some (.string y.1.user) ∧ W.cell? ⟨b, off + j * 4 + 1, none⟩ = some (.int .u64 (y.1.seq : Int)) ∧ W.cell? ⟨b, off + j * 4 + 2, none⟩ = some (.int .i64 y.1.kind) ∧ W.cell? ⟨b, off + k * 4, none⟩ = some (.string e.1.user) ∧ W.cell? ⟨b, off + k * 4 + 1, none⟩ = some (.int .u64 (e.1.seq : Int)) ∧ W.cell? ⟨b, off + k * 4 + 2, none⟩ = some (.int .i64 e.1.kind)) (first | exact ⟨g0, g1, g2, e0, e1, e2⟩ | go_keep)
              (first
               | (go_at_call 45; refine (HCM.out _).mono ?_; rintro _ vx ⟨rfl, hbx⟩
                  have HW3 : Hid (Below w.heap.size w vx) := HW3.out.trans (hbx.mono HW3.out.size)
                  obtain ⟨g0, g1, g2, _⟩ := HCy.out _ HW3.out
                  obtain ⟨e0, e1, e2, _⟩ := HCk.out _ HW3.out
                  clear hbx))
            by_cases hcv : 0 ≤ cv
            · go_wp2
              go_ret
              rw [HPE.out]
              exact ⟨ret1 (by simp [hv, HCV2.out, hcv]), HW3.out⟩
            · go_wp2
              go_roundw
              case rel => exact ⟨k + 1, by omega, by go_num, HW3.out, some e.1, .inr ⟨k, hkl, rfl, by rw [HEK.out]⟩, by rw [HPE.out]; simp [hv, HCV2.out, hcv]⟩
              case measure => simp only [intOf]; omega
      · go_wp2
        go_ret
        rw [HPE.out]
        exact ⟨ret1 (by simp [her]), HW2.out⟩
    · go_wp2
      go_ret
      obtain ⟨hb, p, _, hp⟩ := HR.out
      rw [hp, chkGo_end (by rw [HS.out.2.2]; omega)]
      exact ⟨ret1 rfl, hb⟩
end Go.Proofs.YtgegjcnjlibfdaaGreat
/- Keys' bytes by the document's own Encode, in memory of the call's own. -/
namespace Go.Proofs.YtgegjcnjlibfdaaGreat
open Go.RowKit
set_option linter.unusedVariables false
set_option maxRecDepth 100000 in
set_option maxHeartbeats 400000 in
theorem rencode_own (s : ByteArray) (q : Nat) (k : Int) (w : World) (hs : s.size ≤ 140737488351232) :
    Calls Tryz.prog 69 #[.agg #[.string s, .int .u64 (q : Int), .int .i64 k]] w fun e w' => ∃ a' c', e = .returned (.tuple #[.slice a' (keyEnc s.data.toList q k).length c', .int .i64 ((chk s.size q k : Nat) : Int)]) ∧ OwnB w' w.heap.size a' (keyEnc s.data.toList q k).length c' (keyEnc s.data.toList q k) ∧ Below w.heap.size w w' := by
  have hsl : s.data.toList.length = s.size := by rw [Array.length_toList]; rfl
  have hb0 : Below w.heap.size w (w.alloc (.cells #[.string s, .int .u64 (q : Int), .int .i64 k] 52)) := (Below.refl _ _).alloc (Nat.le_refl _) _
  by_cases h : chk s.size q k = 0
  · have hy := keyEnc_yes (s := s.data.toList) (q := q) (k := k) (by rw [hsl]; exact h)
    obtain ⟨h1, h2, h3⟩ := chk_zero h
    have HE : Hid (keyEnc s.data.toList q k = s.data.toList ++ fxEnc (q * 256 + k.toNat) 8) := hy
    have HL : Hid (s.data.toList.length = s.size) := hsl
    have HK : Hid (chk s.size q k = 0) := h
    have HO : Hid (_ = _) := key_add q k h2 h3
    have hn : q * 256 + k.toNat < 18446744073709551616 := by omega
    have hck := fun W => rcheck_any s q k W (by omega)
    rw [h] at hck
    clear h h3 hy hsl
    have hcv : ∀ W : World, (convert 9 27 (.string s)).run Tryz.prog W = .ok (.slice (some ⟨W.heap.size, 0, none⟩) s.size (grownCap W s.size 0 5))
        (W.drew.alloc (.cells (bytesRow s (grownCap W s.size 0 5)) 5 ((bytesRow s (grownCap W s.size 0 5)).size, (bytesRow s (grownCap W s.size 0 5)).size + 1))) :=
      fun W => run_bytes_of_string W 9 27 5 s Tryz.underlying9 Tryz.underlying27 Tryz.underlying5
    go_enter Tryz.func69, Tryz.ntmps69
    go_wp2_with (first
      | (go_at_call 68; refine (hck _).mono ?_; rintro e w1 ⟨rfl, hb1⟩
         have f0 : w1.cell? ⟨w.heap.size, 0, none⟩ = some (.string s) := by rw [hb1.cell (by simp)]; simp
         have hz1 : w.heap.size < w1.heap.size := by have := hb1.size; simp at this; omega
         have f1 : w1.cell? ⟨w.heap.size, 1, none⟩ = some (.int .u64 (q : Int)) := by rw [hb1.cell (by simp)]; simp
         have f2 : w1.cell? ⟨w.heap.size, 2, none⟩ = some (.int .i64 k) := by rw [hb1.cell (by simp)]; simp)
      | fail)
    rw [HO.out]
    refine (rputFixed_any _ _ _ s.data.toList (q * 256 + k.toNat) 8 _ (BsAt.ofStr w1 s _ _ (grownCap_ge _ _ _ _) (grownCap_le_maxLen _ _ _ _ (by unfold maxLen; omega))) hn (by omega)).mono ?_
    rintro e w2 ⟨a2, c2, rfl, ho2, hb2⟩
    have hB : Below w.heap.size w w2 := by
      have h3 := hb0.trans (hb1.mono hb0.size)
      exact ((h3.alloc h3.size _).drew).trans (hb2.mono (by simp; omega))
    clear hb2
    go_wp2
    go_ret2
    rw [HE.out, List.length_append, HL.out, HK.out]
    exact ⟨a2, c2, ret2 rfl rfl, ho2.mono (by have := hB.size; have := hz1; simp; omega), hB⟩
  · have HE : Hid (keyEnc s.data.toList q k = []) := keyEnc_no (by rw [hsl]; exact h)
    have hne : (((chk s.size q k : Nat) : Int) != 0) = true := by simp; omega
    have hck := fun W => rcheck_any s q k W (by omega)
    generalize chk s.size q k = c at hne hck
    clear h
    go_enter Tryz.func69, Tryz.ntmps69
    go_wp2_with (go_at_call 68; refine (hck _).mono ?_; rintro e w1 ⟨rfl, hb1⟩)
    go_ret2
    rw [HE.out]
    exact ⟨none, 0, ret2 rfl rfl, OwnB.nil _ _, hb0.trans (hb1.mono hb0.size)⟩
end Go.Proofs.YtgegjcnjlibfdaaGreat
/- The contract of the document's own Build. -/
namespace Go.Proofs.YtgegjcnjlibfdaaGreat
open Go.RowKit
set_option linter.unusedVariables false
set_option linter.unusedSimpArgs false
/-- Where the document's own Build is within an entry. -/
structure RS (w wr : World) (ka : Option Addr) (kn kc : Nat) (key : List UInt8) (ao : Option Addr) (no co : Nat) (bs : List UInt8) (am : Option Addr) (nm cm : Nat) (mk : List Int) : Prop where
  base : Below w.heap.size w wr
  own : OwnB wr w.heap.size ao no co bs
  key : BsAt wr ka kn kc key
  off : ∀ k, blkOf ao = some k → blkOf ka ≠ some k
  ktag : ∀ k, blkOf ka = some k → tag wr k = some 5
  mks : OwnN wr w.heap.size am nm cm mk
section
variable {w wr w' : World} {ka : Option Addr} {kn kc : Nat} {key : List UInt8} {ao : Option Addr} {no co : Nat} {bs : List UInt8} {am : Option Addr} {nm cm : Nat} {mk : List Int}
theorem RS.call (h : RS w wr ka kn kc key ao no co bs am nm cm mk) (hb : Below wr.heap.size wr w') : RS w w' ka kn kc key ao no co bs am nm cm mk :=
  ⟨h.base.trans (hb.mono h.base.size), h.own.below hb, h.key.below (Nat.le_refl _) hb, h.off, fun k hk => by rw [← h.ktag k hk]; unfold tag; rw [hb.block k (tag_lt (h.ktag k hk))], h.mks.below hb⟩
theorem RS.app (h : RS w wr ka kn kc key ao no co bs am nm cm mk) {ao' : Option Addr} {no' co' : Nat} {bs' : List UInt8} (ho : OwnB w' w.heap.size ao' no' co' bs') (hb : Below w.heap.size wr w') (hg : wr.grownBy w' (blkOf ao)) (hl : blkOf ao' = blkOf ao ∨ blkOf ao' = some wr.heap.size) : RS w w' ka kn kc key ao' no' co' bs' am nm cm mk := by
  refine ⟨h.base.trans hb, ho, h.key.kept fun k hk => hg.block k (tag_lt (h.ktag k hk)) (fun e => h.off k e.symm hk), fun k hk he => ?_, fun k hk => by rw [← h.ktag k hk]; unfold tag; rw [hg.block k (tag_lt (h.ktag k hk)) (fun e => h.off k e.symm hk)], h.mks.kept fun k hk => hg.block k (tag_lt (h.mks.tag hk)) (fun e => ?_)⟩
  · rcases hl with hl | hl
    · exact h.off k (hl ▸ hk) he
    · rw [hk] at hl
      have := tag_lt (h.ktag k he)
      have := Option.some.inj hl
      omega
  · have h1 := h.own.tag e.symm
    rw [h.mks.tag hk] at h1
    exact absurd (Option.some.inj h1) (by decide)
theorem RS.mark (h : RS w wr ka kn kc key ao no co bs am nm cm mk) (o : Obj) {am' : Option Addr} {nm' cm' : Nat} {mk' : List Int} (ho : OwnN w' w.heap.size am' nm' cm' mk') (hg : (wr.alloc o).grownBy w' (blkOf am)) : RS w w' ka kn kc key ao no co bs am' nm' cm' mk' := by
  have h1 : RS w (wr.alloc o) ka kn kc key ao no co bs am nm cm mk := h.call ((Below.refl _ _).alloc (Nat.le_refl _) _)
  have hne : ∀ k, tag (wr.alloc o) k = some 5 → k ≠ k ∨ blkOf am ≠ some k := fun k hk => .inr fun e => by
    have h2 := h1.mks.tag e
    rw [hk] at h2
    exact absurd (Option.some.inj h2) (by decide)
  have hkb : ∀ k, tag (wr.alloc o) k = some 5 → w'.heap[k]? = (wr.alloc o).heap[k]? := fun k hk => hg.block k (tag_lt hk) (fun e => (hne k hk).elim (fun h => h rfl) (fun h => h e.symm))
  refine ⟨h1.base.grown hg h1.base.size (fun k hk => h1.mks.ge hk), h1.own.kept fun k hk => hkb k (h1.own.tag hk), h1.key.kept fun k hk => hkb k (h1.ktag k hk), h1.off, fun k hk => ?_, ho⟩
  rw [← h1.ktag k hk]
  unfold tag
  rw [hkb k (h1.ktag k hk)]
end
/-- What the marks are. -/
structure MK (iv : Nat) (l : List KV) (k : Nat) (mk : List Int) : Prop where
  enc : (mk.map fun x => fxEnc x.toNat 4).flatten = placesB 0 (strs iv (l.take k))
  len : mk.length = (strs iv (l.take k)).length
  nn : ∀ x ∈ mk, 0 ≤ x ∧ x ≤ 1102000000
theorem rputUv_nil (v : Nat) (V : World) (hv : v < 18446744073709551616) : Calls Tryz.prog 29 #[.slice none 0 0, .int .u64 (v : Int)] V fun e w' => ∃ a' c', e = .returned (.slice a' (uvEnc v).length c') ∧ BsAt w' a' (uvEnc v).length c' (uvEnc v) ∧ Below V.heap.size V w' := by
  refine (rputUvarint_any none 0 0 [] v V (BsAt.nil _) hv (by omega)).mono ?_
  rintro e w' ⟨a', c', rfl, ho, hb⟩
  rw [Nat.zero_add] at ho ⊢
  exact ⟨a', c', rfl, ho.bs, hb⟩
set_option maxRecDepth 100000 in
theorem rbuild_arg (a : Option Addr) (n c : Nat) (iv : Int) (h : ¬ (1 ≤ iv ∧ iv ≤ 16)) (w : World) : Calls Tryz.prog 28 #[.slice a n c, .int .i64 iv] w fun r w' => r = .returned (.tuple #[.slice none 0 0, .int .i64 1]) ∧ Below w.heap.size w w' := by
  by_cases h1 : iv < 1
  · have hd : decide (iv < 1) = true := decide_eq_true h1
    go_enter Tryz.func28, Tryz.ntmps28
    go_wp2
    go_ret2
    exact ⟨ret2 rfl rfl, Below.refl _ _⟩
  · have hd : decide (iv < 1) = false := decide_eq_false h1
    have h2 : 16 < iv := by omega
    go_enter Tryz.func28, Tryz.ntmps28
    go_wp2
    go_ret2
    exact ⟨ret2 rfl rfl, Below.refl _ _⟩
set_option maxRecDepth 100000 in
theorem rbuild_bad (a : Option Addr) (n c : Nat) (l : List KV) (iv : Int) (hi : 1 ≤ iv ∧ iv ≤ 16) (w : World) (h : KsAt w a n c l) (hw : WfL l) (he : chkL l ≠ 0) : Calls Tryz.prog 28 #[.slice a n c, .int .i64 iv] w fun r w' => r = .returned (.tuple #[.slice none 0 0, .int .i64 ((chkL l : Nat) : Int)]) ∧ Below w.heap.size w w' := by
  have hc := rcheck11_any a n c l w h hw
  have hne : (((chkL l : Nat) : Int) != 0) = true := by simp; omega
  have hd1 : decide (iv < 1) = false := decide_eq_false (by omega)
  have hd2 : ¬ 16 < iv := by omega
  have hd3 : ¬ iv < 1 := by omega
  generalize chkL l = e at hc hne
  go_enter Tryz.func28, Tryz.ntmps28
  go_wp2_with fail
  refine hc.mono ?_
  rintro _ w1 ⟨rfl, hb⟩
  go_wp2
  go_ret2
  exact ⟨ret2 rfl rfl, hb⟩
set_option maxRecDepth 100000 in
set_option maxHeartbeats 4000000 in
theorem rbuild_own (a : Option Addr) (n c : Nat) (l : List KV) (iv : Nat) (hi1 : 1 ≤ iv) (hi16 : iv ≤ 16) (w : World) (h : KsAt w a n c l) (hn : n ≤ 1000000) (hw : WfL l) (he : chkL l = 0) :
    Calls Tryz.prog 28 #[.slice a n c, .int .i64 (iv : Int)] w fun r w' => ∃ a' c', r = .returned (.tuple #[.slice a' (layP iv l).length c', .int .i64 0]) ∧ OwnB w' w.heap.size a' (layP iv l).length c' (layP iv l) ∧ Below w.heap.size w w' := by
  have hc := rcheck11_any a n c l w h hw
  rw [he] at hc
  have HS : Hid (KsAt w a n c l ∧ (∀ e ∈ l, EOk e) ∧ l.length = n) := ⟨h, (chkL_zero.1 he).1, h.size⟩
  clear h hw he
  go_enter Tryz.func28, Tryz.ntmps28
  go_wp2_with fail
  refine hc.mono ?_
  rintro _ w1 ⟨rfl, hb1⟩
  have HB1 : Hid (Below w.heap.size w w1) := hb1
  clear hb1 hc
  go_wp2_with fail
  go_loopw [7, 8, 9, 10] (fun x7 x8 x9 x wr => ∃ (k no co nm cm hn' hc' : Nat) (ao am ha : Option Addr), k ≤ n ∧ no ≤ 1102 * k ∧ nm ≤ k ∧ x = .int .i64 (k : Int) ∧ x7 = .slice ao no co ∧ x8 = .slice am nm cm ∧ x9 = .slice ha hn' hc' ∧ Hid (Below w.heap.size w wr ∧ OwnB wr w.heap.size ao no co (strs iv (l.take k)).flatten ∧ (∃ mk, OwnN wr w.heap.size am nm cm mk ∧ MK iv l k mk) ∧ BsAt wr ha hn' hc' (ahK l k))) (fun _ _ _ x _ => n - (intOf x).toNat)
  case atStart => exact ⟨0, 0, 0, 0, 0, 0, 0, none, none, none, Nat.zero_le _, Nat.zero_le _, Nat.le_refl _, rfl, rfl, rfl, rfl, HB1.out, OwnB.nil _ _, ⟨[], OwnN.nil _ _, ⟨rfl, rfl, by simp⟩⟩, BsAt.nil _⟩
  case round =>
    obtain ⟨k, no, co, nm, cm, hn', hc', ao, am, ha, hk, hno, hnm, rfl, rfl, rfl, rfl, HR⟩ := hrel
    by_cases hkn : k < n
    · obtain ⟨b, off, hb, hcl⟩ := HS.out.1.cells4 (by omega)
      have hkl : k < l.length := by rw [HS.out.2.2]; exact hkn
      have hlt : b < w.heap.size := World.block_lt_of_cell? w _ (hcl k hkl).1
      have HC : Hid (∀ W, Below w.heap.size w W → W.cell? ⟨b, off + k * 4, none⟩ = some (.string l[k].1.user) ∧ W.cell? ⟨b, off + k * 4 + 1, none⟩ = some (.int .u64 (l[k].1.seq : Int)) ∧ W.cell? ⟨b, off + k * 4 + 2, none⟩ = some (.int .i64 l[k].1.kind) ∧ W.cell? ⟨b, off + k * 4 + 3, none⟩ = some (.string l[k].2)) := fun W hW => by
        obtain ⟨e0, e1, e2, e3⟩ := hcl k hkl
        exact ⟨by rw [hW.cell hlt]; exact e0, by rw [hW.cell hlt]; exact e1, by rw [hW.cell hlt]; exact e2, by rw [hW.cell hlt]; exact e3⟩
      have hidx := fun W => idxKV W (a := a) (b := b) (off := off) (n := n) (c := c) hb hkn
      have HEO : Hid (EOk l[k]) := HS.out.2.1 l[k] (List.getElem_mem hkl)
      have HT := (show Hid _ from strs_take hi1 l k hkl)
      have HAS : Hid (ahK l (k + 1) = l[k].1.enc) := ahK_succ l k hkl
      generalize l[k] = e at HC HEO HT HAS
      obtain ⟨c0, c1, c2, c3⟩ := HC.out wr HR.out.1
      have hus := err_le HEO.out.1
      have hvs := HEO.out.2
      have HEL : Hid (e.1.enc.length = e.1.user.size + 8 ∧ chk e.1.user.size e.1.seq e.1.kind = 0) := ⟨enc_len HEO.out.1, HEO.out.1⟩
      have hen := fun W => rencode_own e.1.user e.1.seq e.1.kind W (by omega)
      have HENC : Hid (keyEnc e.1.user.data.toList e.1.seq e.1.kind = e.1.enc) := rfl
      rw [HENC.out, HEL.out.2] at hen
      obtain ⟨mk, hmkn, hmk⟩ := HR.out.2.2.1
      have HMK : Hid (OwnN wr w.heap.size am nm cm mk ∧ MK iv l k mk) := ⟨hmkn, hmk⟩
      clear hcl hb hmkn hmk
      go_wp2_with fail
      refine (hen _).mono ?_
      rintro _ w2 ⟨ka, kc, rfl, hko, hb2⟩
      have HB2 : Hid (Below w.heap.size w w2) := HR.out.1.trans (hb2.mono HR.out.1.size)
      have R2 : Hid (RS w w2 ka e.1.enc.length kc e.1.enc ao no co (strs iv (l.take k)).flatten am nm cm mk ∧ BsAt w2 ha hn' hc' (ahK l k)) := by
        refine ⟨⟨HB2.out, HR.out.2.1.below hb2, hko.bs, fun k hk he => ?_, fun k hk => hko.tag hk, HMK.out.1.below hb2⟩, HR.out.2.2.2.below (Nat.le_refl _) hb2⟩
        have h1 := tag_lt (HR.out.2.1.tag hk)
        have h2 := hko.ge he
        omega
      clear hko hb2 hen c0 c1 c2 c3
      have hsh := rshared_any ha ka hn' hc' e.1.enc.length kc (ahK l k) e.1.enc w2 R2.out.2 R2.out.1.key
      have hlc := (lcp_le (ahK l k) e.1.enc).2
      generalize hkl2 : e.1.enc.length = kl at hsh R2 HEL hlc
      have HKL2 : Hid (e.1.enc.length = kl) := hkl2
      have hkl72 : kl ≤ 72 := by have := HEL.out.1; omega
      clear hkl2
      have hne0 : ¬ (iv = 0) := by omega
      have hr1 : (k : Int).tmod (iv : Int) = ((k % iv : Nat) : Int) := by rw [Int.tmod_eq_emod_of_nonneg (by omega)]; omega
      have hvl := ba_len e.2
      have HVL : Hid (e.2.data.toList.length = e.2.size) := hvl
      clear hvl
      go_wp2_with fail
      refine hsh.mono ?_
      rintro _ w3 ⟨rfl, d, rfl⟩
      have R3 : Hid (RS w (w2.drewN d) ka kl kc e.1.enc ao no co (strs iv (l.take k)).flatten am nm cm mk) := R2.out.1.call (Below.drewM (Below.refl _ _) d)
      generalize w2.drewN d = w3 at R3 ⊢
      clear R2 hsh HB2
      by_cases hmd : k % iv = 0
      · have hr2 : (k : Int).tmod (iv : Int) = 0 := by rw [hr1, hmd]; rfl
        clear hr1
        have HAH : Hid (ahR iv l k = []) := by unfold ahR; rw [if_pos hmd]; rfl
        have HEN : Hid (entE (ahR iv l k) e = uvEnc 0 ++ (uvEnc (kl - 0) ++ (uvEnc e.2.size ++ (e.1.enc.drop 0 ++ e.2.data.toList)))) := by
          show entE (ahR iv l k) e = _
          rw [HAH.out]
          unfold entE ent
          rw [lcp_nil _ _ (.inl rfl), HKL2.out, HVL.out]
        go_wp2_with (first | (at_builtin; refine wpList_pushN w3 rfl _ _ rfl w.heap.size am nm cm mk rfl R3.out.mks (no : Int) (by constructor <;> omega) rfl (by omega) R3.out.base.size ?_))
        intro gm c4 w4 ho4 hg4
        have HMK2 : Hid (MK iv l (k + 1) (mk ++ [(no : Int)])) := by
          obtain ⟨m1, m2, m3⟩ := HMK.out.2
          obtain ⟨t1, t2, t3⟩ := HT.out
          obtain ⟨t4, t5⟩ := t2 hmd
          refine ⟨?_, ?_, ?_⟩
          · rw [List.map_append, List.flatten_append, m1, t4, R3.out.own.size]
            simp
          · rw [t5, List.length_append, m2]
            rfl
          · intro x hx
            rcases List.mem_append.1 hx with hx | hx
            · exact m3 x hx
            · rw [List.mem_singleton.1 hx]
              omega
        have R4 : Hid (RS w w4 ka kl kc e.1.enc ao no co (strs iv (l.take k)).flatten (some ⟨gm, 0, none⟩) (nm + 1) c4 (mk ++ [(no : Int)]) ∧ MK iv l (k + 1) (mk ++ [(no : Int)])) := ⟨R3.out.mark _ ho4 hg4, HMK2.out⟩
        clear ho4 hg4 HMK2
        generalize mk ++ [(no : Int)] = mk2 at R4
        have hcv1 : ∀ V : World, (convert 3 33 (.int .i64 (0))).run Tryz.prog V = .ok (.int .u64 (0)) V := fun V => conv_int_u64 0 (by omega) V
        have hcv2 : ∀ V : World, (convert 3 33 (.int .i64 ((kl : Int)))).run Tryz.prog V = .ok (.int .u64 ((kl : Int))) V := fun V => conv_int_u64 kl (by omega) V
        have hcv3 := fun V => conv_int_u64 e.2.size (by omega) V
        have hp1 : Hid (∀ V : World, Calls Tryz.prog 29 #[.slice none 0 0, .int .u64 (0)] V fun e w' => ∃ a' c', e = .returned (.slice a' (uvEnc (0)).length c') ∧ BsAt w' a' (uvEnc (0)).length c' (uvEnc (0)) ∧ Below V.heap.size V w') := fun V => rputUv_nil (0) V (by omega)
        have hp2 : Hid (∀ V : World, Calls Tryz.prog 29 #[.slice none 0 0, .int .u64 ((kl : Int))] V fun e w' => ∃ a' c', e = .returned (.slice a' (uvEnc (kl - 0)).length c') ∧ BsAt w' a' (uvEnc (kl - 0)).length c' (uvEnc (kl - 0)) ∧ Below V.heap.size V w') := fun V => by
          have := rputUv_nil (kl - 0) V (by omega)
          rw [show ((kl - 0 : Nat) : Int) = (kl : Int) by omega] at this
          exact this
        have hp3 : Hid (∀ V : World, Calls Tryz.prog 29 #[.slice none 0 0, .int .u64 (e.2.size : Int)] V fun e' w' => ∃ a' c', e' = .returned (.slice a' (uvEnc e.2.size).length c') ∧ BsAt w' a' (uvEnc e.2.size).length c' (uvEnc e.2.size) ∧ Below V.heap.size V w') := fun V => rputUv_nil e.2.size V (by omega)
        have hu1 := (uvEnc_length (0)).2
        have hu2 := (uvEnc_length (kl - 0)).2
        have hu3 := (uvEnc_length e.2.size).2
        generalize (uvEnc (0)).length = u1 at hp1 hu1
        generalize (uvEnc (kl - 0)).length = u2 at hp2 hu2
        generalize (uvEnc e.2.size).length = u3 at hp3 hu3
        go_wp2_with fail
        refine (hp1.out _).mono ?_
        rintro _ w5 ⟨a5, c5, rfl, hbs5, hb5⟩
        have R5 : Hid (RS w w5 ka kl kc e.1.enc ao no co (strs iv (l.take k)).flatten (some ⟨gm, 0, none⟩) (nm + 1) c4 mk2 ∧ BsAt w5 a5 u1 c5 (uvEnc (0))) := ⟨R4.out.1.call hb5, hbs5⟩
        clear hbs5 hb5
        go_wp2_with (first | (at_builtin; refine wpList_appAt w5 rfl _ _ rfl w.heap.size ao no co _ rfl R5.out.1.own a5 u1 c5 _ rfl R5.out.2 (by omega) R5.out.1.base.size ?_; intro a6 c6 w6 ho6 hb6 hg6 hl6
                              have R6 : Hid (RS w w6 ka kl kc e.1.enc a6 (no + u1) c6 ((strs iv (l.take k)).flatten ++ uvEnc (0)) (some ⟨gm, 0, none⟩) (nm + 1) c4 mk2) := R5.out.1.app ho6 hb6 hg6 hl6
                              clear ho6 hb6 hg6 hl6) | fail)
        refine (hp2.out _).mono ?_
        rintro _ w7 ⟨a7, c7, rfl, hbs7, hb7⟩
        have R7 : Hid (RS w w7 ka kl kc e.1.enc a6 (no + u1) c6 ((strs iv (l.take k)).flatten ++ uvEnc (0)) (some ⟨gm, 0, none⟩) (nm + 1) c4 mk2 ∧ BsAt w7 a7 u2 c7 (uvEnc (kl - 0))) := ⟨R6.out.call hb7, hbs7⟩
        clear hbs7 hb7
        go_wp2_with (first | (at_builtin; refine wpList_appAt w7 rfl _ _ rfl w.heap.size a6 (no + u1) c6 _ rfl R7.out.1.own a7 u2 c7 _ rfl R7.out.2 (by omega) R7.out.1.base.size ?_; intro a8 c8 w8 ho8 hb8 hg8 hl8
                              have R8 : Hid (RS w w8 ka kl kc e.1.enc a8 (no + u1 + u2) c8 ((strs iv (l.take k)).flatten ++ uvEnc (0) ++ uvEnc (kl - 0)) (some ⟨gm, 0, none⟩) (nm + 1) c4 mk2) := R7.out.1.app ho8 hb8 hg8 hl8
                              obtain ⟨_, _, _, d3⟩ := HC.out _ R8.out.base
                              clear ho8 hb8 hg8 hl8) | fail)
        refine (hp3.out _).mono ?_
        rintro _ w9 ⟨a9, c9, rfl, hbs9, hb9⟩
        have R9 : Hid (RS w w9 ka kl kc e.1.enc a8 (no + u1 + u2) c8 ((strs iv (l.take k)).flatten ++ uvEnc (0) ++ uvEnc (kl - 0)) (some ⟨gm, 0, none⟩) (nm + 1) c4 mk2 ∧ BsAt w9 a9 u3 c9 (uvEnc e.2.size)) := ⟨R8.out.call hb9, hbs9⟩
        obtain ⟨pk, hpk, hqk⟩ := slice_any R9.out.1.key 0 (by omega)
        clear hbs9 hb9 d3 
        have HPK : Hid (∀ W, BsAt W ka kl kc e.1.enc → BsAt W pk (kl) (kc) (e.1.enc.drop 0)) := fun W h => hqk W _ h
        have hpk2 : ∀ W : World, (Instr.slice 27 (.slice ka kl kc) (some (.int .i64 (0))) none none).run Tryz.prog W = .ok (.slice pk (kl) (kc)) W := hpk
        have hcvS : ∀ W : World, (convert 9 27 (.string e.2)).run Tryz.prog W = .ok (.slice (some ⟨W.heap.size, 0, none⟩) e.2.size (grownCap W e.2.size 0 5))
            (W.drew.alloc (.cells (bytesRow e.2 (grownCap W e.2.size 0 5)) 5 ((bytesRow e.2 (grownCap W e.2.size 0 5)).size, (bytesRow e.2 (grownCap W e.2.size 0 5)).size + 1))) :=
          fun W => run_bytes_of_string W 9 27 5 e.2 Tryz.underlying9 Tryz.underlying27 Tryz.underlying5
        clear hpk hqk hcv1 hcv2 hcv3 hp1 hp2 hp3
        go_wp2_with (first
          | (at_builtin; refine wpList_appAt w9 rfl _ _ rfl w.heap.size a8 (no + u1 + u2) c8 _ rfl R9.out.1.own a9 u3 c9 _ rfl R9.out.2 (by omega) R9.out.1.base.size ?_; intro a10 c10 w10 ho10 hb10 hg10 hl10
             have R10 : Hid (RS w w10 ka kl kc e.1.enc a10 (no + u1 + u2 + u3) c10 ((strs iv (l.take k)).flatten ++ uvEnc (0) ++ uvEnc (kl - 0) ++ uvEnc e.2.size) (some ⟨gm, 0, none⟩) (nm + 1) c4 mk2) := R9.out.1.app ho10 hb10 hg10 hl10
             have hbk10 := HPK.out _ R10.out.key
             clear ho10 hb10 hg10 hl10)
          | (at_builtin; refine wpList_appAt w10 rfl _ _ rfl w.heap.size a10 (no + u1 + u2 + u3) c10 _ rfl R10.out.own pk (kl) (kc) _ rfl (HPK.out _ R10.out.key) (by omega) R10.out.base.size ?_; intro a11 c11 w11 ho11 hb11 hg11 hl11
             have R11 : Hid (RS w w11 ka kl kc e.1.enc a11 (no + u1 + u2 + u3 + (kl)) c11 ((strs iv (l.take k)).flatten ++ uvEnc (0) ++ uvEnc (kl - 0) ++ uvEnc e.2.size ++ e.1.enc.drop 0) (some ⟨gm, 0, none⟩) (nm + 1) c4 mk2) := R10.out.app ho11 hb11 hg11 hl11
             obtain ⟨_, _, _, d3⟩ := HC.out _ R11.out.base
             have R12 : Hid (RS w (w11.drew.alloc (.cells (bytesRow e.2 (grownCap w11 e.2.size 0 5)) 5 ((bytesRow e.2 (grownCap w11 e.2.size 0 5)).size, (bytesRow e.2 (grownCap w11 e.2.size 0 5)).size + 1))) ka kl kc e.1.enc a11 (no + u1 + u2 + u3 + (kl)) c11 ((strs iv (l.take k)).flatten ++ uvEnc (0) ++ uvEnc (kl - 0) ++ uvEnc e.2.size ++ e.1.enc.drop 0) (some ⟨gm, 0, none⟩) (nm + 1) c4 mk2 ∧ BsAt (w11.drew.alloc (.cells (bytesRow e.2 (grownCap w11 e.2.size 0 5)) 5 ((bytesRow e.2 (grownCap w11 e.2.size 0 5)).size, (bytesRow e.2 (grownCap w11 e.2.size 0 5)).size + 1))) (some ⟨w11.heap.size, 0, none⟩) e.2.size (grownCap w11 e.2.size 0 5) e.2.data.toList) := ⟨R11.out.call (((Below.refl _ _).drew).alloc (Nat.le_refl _) _), BsAt.ofStr w11 e.2 _ _ (grownCap_ge _ _ _ _) (grownCap_le_maxLen _ _ _ _ (by unfold maxLen; omega))⟩
             clear ho11 hb11 hg11 hl11)
          | (at_builtin; refine wpList_appAt _ rfl _ _ rfl w.heap.size a11 (no + u1 + u2 + u3 + (kl)) c11 _ rfl R12.out.1.own (some ⟨w11.heap.size, 0, none⟩) e.2.size (grownCap w11 e.2.size 0 5) _ rfl R12.out.2 (by omega) R12.out.1.base.size ?_; intro a13 c13 w13 ho13 hb13 hg13 hl13
             have R13 : Hid (RS w w13 ka kl kc e.1.enc a13 (no + u1 + u2 + u3 + (kl) + e.2.size) c13 ((strs iv (l.take k)).flatten ++ uvEnc (0) ++ uvEnc (kl - 0) ++ uvEnc e.2.size ++ e.1.enc.drop 0 ++ e.2.data.toList) (some ⟨gm, 0, none⟩) (nm + 1) c4 mk2) := R12.out.1.app ho13 hb13 hg13 hl13
             clear ho13 hb13 hg13 hl13))
        go_roundw
        case rel =>
          refine ⟨k + 1, no + u1 + u2 + u3 + (kl) + e.2.size, c13, nm + 1, c4, kl, kc, a13, some ⟨gm, 0, none⟩, ka, hkn, by omega, by omega, by go_num, rfl, rfl, rfl, R13.out.base, ?_, ⟨mk2, R13.out.mks, R4.out.2⟩, ?_⟩
          · rw [HT.out.1, HEN.out]
            have := R13.out.own
            simpa using this
          · rw [HAS.out]
            exact R13.out.key
        case measure => simp only [intOf]; omega
      · have hr2 : ¬ ((k % iv : Nat) : Int) = 0 := by omega
        have HAH : Hid (ahR iv l k = ahK l k) := by unfold ahR; rw [if_neg hmd]; rfl
        generalize hsm : lcp (ahK l k) e.1.enc = sm at hlc ⊢
        have HEN : Hid (entE (ahR iv l k) e = uvEnc sm ++ (uvEnc (kl - sm) ++ (uvEnc e.2.size ++ (e.1.enc.drop sm ++ e.2.data.toList)))) := by
          show entE (ahR iv l k) e = _
          rw [HAH.out]
          unfold entE ent
          rw [hsm, HKL2.out, HVL.out]
        have R4 : Hid (RS w w3 ka kl kc e.1.enc ao no co (strs iv (l.take k)).flatten am nm cm mk ∧ MK iv l (k + 1) mk) := by
          refine ⟨R3.out, ?_⟩
          obtain ⟨m1, m2, m3⟩ := HMK.out.2
          obtain ⟨t1, t2, t3⟩ := HT.out
          obtain ⟨t4, t5⟩ := t3 hmd
          exact ⟨by rw [t4]; exact m1, by rw [t5]; exact m2, m3⟩
        clear hsm
        have gmd : (((k % iv : Nat) : Int) == 0) = false := by simp; omega
        generalize mk = mk2 at R4
        have hcv1 : ∀ V : World, (convert 3 33 (.int .i64 ((sm : Int)))).run Tryz.prog V = .ok (.int .u64 ((sm : Int))) V := fun V => conv_int_u64 sm (by omega) V
        have hcv2 : ∀ V : World, (convert 3 33 (.int .i64 ((kl : Int) - (sm : Int)))).run Tryz.prog V = .ok (.int .u64 ((kl : Int) - (sm : Int))) V := fun V => (by have := conv_int_u64 (kl - sm) (by omega) V; rw [show ((kl - sm : Nat) : Int) = (kl : Int) - (sm : Int) by omega] at this; exact this)
        have hcv3 := fun V => conv_int_u64 e.2.size (by omega) V
        have hp1 : Hid (∀ V : World, Calls Tryz.prog 29 #[.slice none 0 0, .int .u64 ((sm : Int))] V fun e w' => ∃ a' c', e = .returned (.slice a' (uvEnc (sm)).length c') ∧ BsAt w' a' (uvEnc (sm)).length c' (uvEnc (sm)) ∧ Below V.heap.size V w') := fun V => rputUv_nil (sm) V (by omega)
        have hp2 : Hid (∀ V : World, Calls Tryz.prog 29 #[.slice none 0 0, .int .u64 ((kl : Int) - (sm : Int))] V fun e w' => ∃ a' c', e = .returned (.slice a' (uvEnc (kl - sm)).length c') ∧ BsAt w' a' (uvEnc (kl - sm)).length c' (uvEnc (kl - sm)) ∧ Below V.heap.size V w') := fun V => by
          have := rputUv_nil (kl - sm) V (by omega)
          rw [show ((kl - sm : Nat) : Int) = (kl : Int) - (sm : Int) by omega] at this
          exact this
        have hp3 : Hid (∀ V : World, Calls Tryz.prog 29 #[.slice none 0 0, .int .u64 (e.2.size : Int)] V fun e' w' => ∃ a' c', e' = .returned (.slice a' (uvEnc e.2.size).length c') ∧ BsAt w' a' (uvEnc e.2.size).length c' (uvEnc e.2.size) ∧ Below V.heap.size V w') := fun V => rputUv_nil e.2.size V (by omega)
        have hu1 := (uvEnc_length (sm)).2
        have hu2 := (uvEnc_length (kl - sm)).2
        have hu3 := (uvEnc_length e.2.size).2
        generalize (uvEnc (sm)).length = u1 at hp1 hu1
        generalize (uvEnc (kl - sm)).length = u2 at hp2 hu2
        generalize (uvEnc e.2.size).length = u3 at hp3 hu3
        go_wp2_with fail
        refine (hp1.out _).mono ?_
        rintro _ w5 ⟨a5, c5, rfl, hbs5, hb5⟩
        have R5 : Hid (RS w w5 ka kl kc e.1.enc ao no co (strs iv (l.take k)).flatten am nm cm mk2 ∧ BsAt w5 a5 u1 c5 (uvEnc (sm))) := ⟨R4.out.1.call hb5, hbs5⟩
        clear hbs5 hb5
        go_wp2_with (first | (at_builtin; refine wpList_appAt w5 rfl _ _ rfl w.heap.size ao no co _ rfl R5.out.1.own a5 u1 c5 _ rfl R5.out.2 (by omega) R5.out.1.base.size ?_; intro a6 c6 w6 ho6 hb6 hg6 hl6
                              have R6 : Hid (RS w w6 ka kl kc e.1.enc a6 (no + u1) c6 ((strs iv (l.take k)).flatten ++ uvEnc (sm)) am nm cm mk2) := R5.out.1.app ho6 hb6 hg6 hl6
                              clear ho6 hb6 hg6 hl6) | fail)
        refine (hp2.out _).mono ?_
        rintro _ w7 ⟨a7, c7, rfl, hbs7, hb7⟩
        have R7 : Hid (RS w w7 ka kl kc e.1.enc a6 (no + u1) c6 ((strs iv (l.take k)).flatten ++ uvEnc (sm)) am nm cm mk2 ∧ BsAt w7 a7 u2 c7 (uvEnc (kl - sm))) := ⟨R6.out.call hb7, hbs7⟩
        clear hbs7 hb7
        go_wp2_with (first | (at_builtin; refine wpList_appAt w7 rfl _ _ rfl w.heap.size a6 (no + u1) c6 _ rfl R7.out.1.own a7 u2 c7 _ rfl R7.out.2 (by omega) R7.out.1.base.size ?_; intro a8 c8 w8 ho8 hb8 hg8 hl8
                              have R8 : Hid (RS w w8 ka kl kc e.1.enc a8 (no + u1 + u2) c8 ((strs iv (l.take k)).flatten ++ uvEnc (sm) ++ uvEnc (kl - sm)) am nm cm mk2) := R7.out.1.app ho8 hb8 hg8 hl8
                              obtain ⟨_, _, _, d3⟩ := HC.out _ R8.out.base
                              clear ho8 hb8 hg8 hl8) | fail)
        refine (hp3.out _).mono ?_
        rintro _ w9 ⟨a9, c9, rfl, hbs9, hb9⟩
        have R9 : Hid (RS w w9 ka kl kc e.1.enc a8 (no + u1 + u2) c8 ((strs iv (l.take k)).flatten ++ uvEnc (sm) ++ uvEnc (kl - sm)) am nm cm mk2 ∧ BsAt w9 a9 u3 c9 (uvEnc e.2.size)) := ⟨R8.out.call hb9, hbs9⟩
        obtain ⟨pk, hpk, hqk⟩ := slice_any R9.out.1.key sm (by omega)
        clear hbs9 hb9 d3 
        have HPK : Hid (∀ W, BsAt W ka kl kc e.1.enc → BsAt W pk (kl - sm) (kc - sm) (e.1.enc.drop sm)) := fun W h => hqk W _ h
        have hpk2 : ∀ W : World, (Instr.slice 27 (.slice ka kl kc) (some (.int .i64 ((sm : Int)))) none none).run Tryz.prog W = .ok (.slice pk (kl - sm) (kc - sm)) W := hpk
        have hcvS : ∀ W : World, (convert 9 27 (.string e.2)).run Tryz.prog W = .ok (.slice (some ⟨W.heap.size, 0, none⟩) e.2.size (grownCap W e.2.size 0 5))
            (W.drew.alloc (.cells (bytesRow e.2 (grownCap W e.2.size 0 5)) 5 ((bytesRow e.2 (grownCap W e.2.size 0 5)).size, (bytesRow e.2 (grownCap W e.2.size 0 5)).size + 1))) :=
          fun W => run_bytes_of_string W 9 27 5 e.2 Tryz.underlying9 Tryz.underlying27 Tryz.underlying5
        clear hpk hqk hcv1 hcv2 hcv3 hp1 hp2 hp3
        go_wp2_with (first
          | (at_builtin; refine wpList_appAt w9 rfl _ _ rfl w.heap.size a8 (no + u1 + u2) c8 _ rfl R9.out.1.own a9 u3 c9 _ rfl R9.out.2 (by omega) R9.out.1.base.size ?_; intro a10 c10 w10 ho10 hb10 hg10 hl10
             have R10 : Hid (RS w w10 ka kl kc e.1.enc a10 (no + u1 + u2 + u3) c10 ((strs iv (l.take k)).flatten ++ uvEnc (sm) ++ uvEnc (kl - sm) ++ uvEnc e.2.size) am nm cm mk2) := R9.out.1.app ho10 hb10 hg10 hl10
             have hbk10 := HPK.out _ R10.out.key
             clear ho10 hb10 hg10 hl10)
          | (at_builtin; refine wpList_appAt w10 rfl _ _ rfl w.heap.size a10 (no + u1 + u2 + u3) c10 _ rfl R10.out.own pk (kl - sm) (kc - sm) _ rfl (HPK.out _ R10.out.key) (by omega) R10.out.base.size ?_; intro a11 c11 w11 ho11 hb11 hg11 hl11
             have R11 : Hid (RS w w11 ka kl kc e.1.enc a11 (no + u1 + u2 + u3 + (kl - sm)) c11 ((strs iv (l.take k)).flatten ++ uvEnc (sm) ++ uvEnc (kl - sm) ++ uvEnc e.2.size ++ e.1.enc.drop sm) am nm cm mk2) := R10.out.app ho11 hb11 hg11 hl11
             obtain ⟨_, _, _, d3⟩ := HC.out _ R11.out.base
             have R12 : Hid (RS w (w11.drew.alloc (.cells (bytesRow e.2 (grownCap w11 e.2.size 0 5)) 5 ((bytesRow e.2 (grownCap w11 e.2.size 0 5)).size, (bytesRow e.2 (grownCap w11 e.2.size 0 5)).size + 1))) ka kl kc e.1.enc a11 (no + u1 + u2 + u3 + (kl - sm)) c11 ((strs iv (l.take k)).flatten ++ uvEnc (sm) ++ uvEnc (kl - sm) ++ uvEnc e.2.size ++ e.1.enc.drop sm) am nm cm mk2 ∧ BsAt (w11.drew.alloc (.cells (bytesRow e.2 (grownCap w11 e.2.size 0 5)) 5 ((bytesRow e.2 (grownCap w11 e.2.size 0 5)).size, (bytesRow e.2 (grownCap w11 e.2.size 0 5)).size + 1))) (some ⟨w11.heap.size, 0, none⟩) e.2.size (grownCap w11 e.2.size 0 5) e.2.data.toList) := ⟨R11.out.call (((Below.refl _ _).drew).alloc (Nat.le_refl _) _), BsAt.ofStr w11 e.2 _ _ (grownCap_ge _ _ _ _) (grownCap_le_maxLen _ _ _ _ (by unfold maxLen; omega))⟩
             clear ho11 hb11 hg11 hl11)
          | (at_builtin; refine wpList_appAt _ rfl _ _ rfl w.heap.size a11 (no + u1 + u2 + u3 + (kl - sm)) c11 _ rfl R12.out.1.own (some ⟨w11.heap.size, 0, none⟩) e.2.size (grownCap w11 e.2.size 0 5) _ rfl R12.out.2 (by omega) R12.out.1.base.size ?_; intro a13 c13 w13 ho13 hb13 hg13 hl13
             have R13 : Hid (RS w w13 ka kl kc e.1.enc a13 (no + u1 + u2 + u3 + (kl - sm) + e.2.size) c13 ((strs iv (l.take k)).flatten ++ uvEnc (sm) ++ uvEnc (kl - sm) ++ uvEnc e.2.size ++ e.1.enc.drop sm ++ e.2.data.toList) am nm cm mk2) := R12.out.1.app ho13 hb13 hg13 hl13
             clear ho13 hb13 hg13 hl13))
        go_roundw
        case rel =>
          refine ⟨k + 1, no + u1 + u2 + u3 + (kl - sm) + e.2.size, c13, nm, cm, kl, kc, a13, am, ka, hkn, by omega, by omega, by go_num, rfl, rfl, rfl, R13.out.base, ?_, ⟨mk2, R13.out.mks, R4.out.2⟩, ?_⟩
          · rw [HT.out.1, HEN.out]
            have := R13.out.own
            simpa using this
          · rw [HAS.out]
            exact R13.out.key
        case measure => simp only [intOf]; omega
    · obtain rfl : k = n := by omega
      have HTK : Hid (l.take k = l) := List.take_of_length_le (by have := HS.out.2.2; omega)
      obtain ⟨mk, hmkn, hmk⟩ := HR.out.2.2.1
      have HM : Hid ((mk.map fun x => fxEnc x.toNat 4).flatten = placesB 0 (strs iv l) ∧ mk.length = (strs iv l).length ∧ (∀ x ∈ mk, 0 ≤ x ∧ x ≤ 1102000000) ∧ mk.length = nm) := by
        obtain ⟨m1, m2, m3⟩ := hmk
        rw [HTK.out] at m1 m2
        exact ⟨m1, m2, m3, hmkn.size⟩
      have H0 : Hid (Below w.heap.size w wr ∧ OwnB wr w.heap.size ao no co ((strs iv l).flatten ++ ((mk.take 0).map fun x => fxEnc x.toNat 4).flatten) ∧ OwnN wr w.heap.size am nm cm mk) := by
        refine ⟨HR.out.1, ?_, hmkn⟩
        have := HR.out.2.1
        rw [HTK.out] at this
        simpa using this
      clear hmkn hmk
      go_wp2_with fail
      go_loopw [7, 14] (fun x7 x wr => ∃ (j no' co' : Nat) (ao' : Option Addr), j ≤ nm ∧ no' = no + 4 * j ∧ x = .int .i64 (j : Int) ∧ x7 = .slice ao' no' co' ∧ Hid (Below w.heap.size w wr ∧ OwnB wr w.heap.size ao' no' co' ((strs iv l).flatten ++ ((mk.take j).map fun x => fxEnc x.toNat 4).flatten) ∧ OwnN wr w.heap.size am nm cm mk)) (fun _ x _ => nm - (intOf x).toNat)
      case atStart => exact ⟨0, no, co, ao, Nat.zero_le _, by omega, rfl, rfl, H0.out⟩
      case round =>
        obtain ⟨j, no', co', ao', hj, hno', rfl, rfl, HJ⟩ := hrel
        have HNO : Hid (no' = no + 4 * j) := hno'
        have hnob : no' ≤ 1200000000 := by omega
        clear hno'
        by_cases hjn : j < nm
        · have hjl : j < mk.length := by rw [HM.out.2.2.2]; exact hjn
          obtain ⟨_, _, _, hadd⟩ := row_addr HJ.out.2.2.row
          obtain ⟨gq, hgq⟩ := hadd (by omega)
          have hix : ∀ W : World, (Instr.indexAt 122 (.slice am nm cm) (.int .i64 (j : Int))).run Tryz.prog W = .ok (.pointer (some ⟨gq, j, none⟩)) W := fun W => by rw [hgq]; exact idxI gq hjn W
          obtain ⟨v, hv⟩ : ∃ v : Nat, mk[j] = (v : Int) := ⟨mk[j].toNat, by have := (HM.out.2.2.1 mk[j] (List.getElem_mem hjl)).1; omega⟩
          have hvb : v ≤ 1102000000 := by have := (HM.out.2.2.1 mk[j] (List.getElem_mem hjl)).2; omega
          have hcell : wr.cell? ⟨gq, j, none⟩ = some (.int .i64 (v : Int)) := by
            have h1 := HJ.out.2.2.row
            rw [hgq] at h1
            rw [h1.cellAt j (by omega), cellsN_get mk j hjl]
            simp [List.getD, hjl, hv]
          have HTJ : Hid (((mk.take (j + 1)).map fun x => fxEnc x.toNat 4).flatten = ((mk.take j).map fun x => fxEnc x.toNat 4).flatten ++ fxEnc v 4) := by
            show ((mk.take (j + 1)).map fun x => fxEnc x.toNat 4).flatten = _
            rw [List.take_succ_eq_append_getElem hjl, List.map_append, List.flatten_append, hv]
            simp
          have hcv := fun V => conv_int_u64 v (by omega) V
          have HPF : Hid (∀ V : World, Calls Tryz.prog 31 #[.slice none 0 0, .int .u64 (v : Int), .int .i64 4] V fun e w' => ∃ a' c', e = .returned (.slice a' 4 c') ∧ BsAt w' a' 4 c' (fxEnc v 4) ∧ Below V.heap.size V w') := fun V => (rputFixed_any none 0 0 [] v 4 V (BsAt.nil _) (by omega) (by omega)).mono fun r w' ⟨a', c', h1, h2, h3⟩ => ⟨a', c', by rw [h1]; simp [fxPut, fxEnc_length], by have := h2.bs; simpa [fxPut, fxEnc_length] using this, h3⟩
          clear hgq hadd hv
          go_wp2_with fail
          refine (HPF.out _).mono ?_
          rintro _ w2 ⟨a2, c2, rfl, hbs2, hb2⟩
          have H2 : Hid (Below w.heap.size w w2 ∧ OwnB w2 w.heap.size ao' no' co' ((strs iv l).flatten ++ ((mk.take j).map fun x => fxEnc x.toNat 4).flatten) ∧ OwnN w2 w.heap.size am nm cm mk ∧ BsAt w2 a2 4 c2 (fxEnc v 4)) := ⟨HJ.out.1.trans (hb2.mono HJ.out.1.size), HJ.out.2.1.below hb2, HJ.out.2.2.below hb2, hbs2⟩
          clear hbs2 hb2 hcell
          go_wp2_with (first | (at_builtin; refine wpList_appAt w2 rfl _ _ rfl w.heap.size ao' no' co' _ rfl H2.out.2.1 a2 4 c2 _ rfl H2.out.2.2.2 (by omega) H2.out.1.size ?_; intro a3 c3 w3 ho3 hb3 hg3 hl3
                                have H3 : Hid (Below w.heap.size w w3 ∧ OwnB w3 w.heap.size a3 (no' + 4) c3 ((strs iv l).flatten ++ ((mk.take (j + 1)).map fun x => fxEnc x.toNat 4).flatten) ∧ OwnN w3 w.heap.size am nm cm mk) := by
                                  refine ⟨H2.out.1.trans hb3, by rw [HTJ.out]; simpa using ho3, H2.out.2.2.1.kept fun k hk => hg3.block k (tag_lt (H2.out.2.2.1.tag hk)) (fun e => ?_)⟩
                                  have h1 := H2.out.2.1.tag e.symm
                                  rw [H2.out.2.2.1.tag hk] at h1
                                  exact absurd (Option.some.inj h1) (by decide)
                                clear ho3 hb3 hg3 hl3))
          go_roundw
          case rel => exact ⟨j + 1, no' + 4, c3, a3, hjn, by rw [HNO.out]; omega, by go_num, rfl, H3.out⟩
          case measure => simp only [intOf]; omega
        · obtain rfl : j = nm := by omega
          have H4 : Hid (Below w.heap.size w wr ∧ OwnB wr w.heap.size ao' no' co' ((strs iv l).flatten ++ placesB 0 (strs iv l))) := by
            refine ⟨HJ.out.1, ?_⟩
            have := HJ.out.2.1
            rw [List.take_of_length_le (by rw [HM.out.2.2.2]; exact Nat.le_refl _), HM.out.1] at this
            exact this
          have hcv := fun V => conv_int_u64 j (by omega) V
          have hj2 : j ≤ 1000000 := by omega
          go_wp2_with (first | (at_builtin; refine wpList_app _ rfl _ _ rfl w.heap.size ao' no' co' _ rfl (H4.out.2.alloc _) (some ⟨wr.heap.size, 0, none⟩) 1 1 [loByte iv] rfl (BsAt.one (by rw [loByte_toNat]; omega)) (by omega) (by have := H4.out.1.size; simp; omega) ?_; intro a3 c3 w3 ho3 hb3 _
                                have H5 : Hid (Below w.heap.size w w3 ∧ OwnB w3 w.heap.size a3 (no' + 1) c3 ((strs iv l).flatten ++ placesB 0 (strs iv l) ++ [loByte iv])) := ⟨(H4.out.1.alloc H4.out.1.size _).trans hb3, ho3⟩
                                clear ho3 hb3) | fail)
          refine (rputFixed_any a3 (no' + 1) c3 _ j 4 w3 H5.out.2.bs (by omega) (by omega)).mono ?_
          rintro _ w5 ⟨a5, c5, rfl, ho5, hb5⟩
          have HL : Hid ((strs iv l).flatten ++ placesB 0 (strs iv l) ++ [loByte iv] ++ fxPut j 4 = layP iv l) := by
            show (strs iv l).flatten ++ placesB 0 (strs iv l) ++ [loByte iv] ++ fxPut j 4 = layP iv l
            rw [show fxPut j 4 = fxEnc j 4 from rfl, show j = (strs iv l).length by rw [← HM.out.2.1, HM.out.2.2.2]]
            unfold layP
            simp
          have H6 : Hid (OwnB w5 w.heap.size a5 (layP iv l).length c5 (layP iv l) ∧ (layP iv l).length = no' + 1 + (fxPut j 4).length ∧ Below w.heap.size w w5) := by
            have h1 := ho5.mono H5.out.1.size
            rw [HL.out] at h1
            have h2 := h1.size
            exact ⟨by rw [h2]; exact h1, h2, H5.out.1.trans (hb5.mono H5.out.1.size)⟩
          clear ho5 hb5
          rw [← H6.out.2.1]
          generalize hln : (layP iv l).length = ln at H6 ⊢
          have HLN : Hid ((layP iv l).length = ln) := hln
          clear hln
          go_wp2
          go_ret2
          exact ⟨a5, c5, ret2 (by rw [HLN.out]; rfl) rfl, by rw [HLN.out]; exact H6.out.1, H6.out.2.2⟩
theorem rbuild_yes (a : Option Addr) (n c : Nat) (l : List KV) (iv : Nat) (hi1 : 1 ≤ iv) (hi16 : iv ≤ 16) (w : World) (h : KsAt w a n c l) (hn : n ≤ 1000000) (hw : WfL l) (he : chkL l = 0) :
    Calls Tryz.prog 28 #[.slice a n c, .int .i64 (iv : Int)] w fun r w' => ∃ a' c', r = .returned (.tuple #[.slice a' (layP iv l).length c', .int .i64 0]) ∧ BsAt w' a' (layP iv l).length c' (layP iv l) ∧ Below w.heap.size w w' := by
  refine (rbuild_own a n c l iv hi1 hi16 w h hn hw he).mono ?_
  rintro r w' ⟨a', c', h1, h2, h3⟩
  exact ⟨a', c', h1, h2.bs, h3⟩
end Go.Proofs.YtgegjcnjlibfdaaGreat
