/- The contract of looks. -/
import Derived.Test.YtnjkfmglohcmhaaS7T
namespace Go.Proofs.Ytnjkfmglohcmhaa
open Go.RowKit
set_option linter.unusedVariables false
section
variable {S : PS}
theorem PS.Inv.lkSorted (h : S.Inv) {l : Nat} (hl : l < 8) : (S.lk l).Pairwise (fun x y => kl x y = true) := by
  unfold PS.lk
  rw [List.pairwise_map]
  exact h.sorted l hl
theorem PS.Inv.lkSub (h : S.Inv) {l : Nat} (hl : l + 1 < 8) : ∀ x ∈ S.lk (l + 1), x ∈ S.lk l := fun x hx => by
  obtain ⟨j, hj, rfl⟩ := List.mem_map.1 hx
  have := (h.mem (l + 1) hl j).1 hj
  exact List.mem_map.2 ⟨j, (h.mem l (by omega) j).2 ⟨this.1, by omega⟩, rfl⟩
theorem PS.Inv.lkKeys (h : S.Inv) {l : Nat} (hl : l < 8) : ∀ x ∈ S.lk l, x ∈ S.keys := fun x hx => by
  obtain ⟨j, hj, rfl⟩ := List.mem_map.1 hx
  exact PS.mem_keys.2 ⟨j, h.lt hl hj, rfl⟩
theorem PS.Inv.hasLk (h : S.Inv) {n i : Nat} (hn : n < 8) (hi : i < S.ops.length) : hasB (S.lk n) (S.keys.getD i ⟨#[]⟩) = decide (n < (S.op i).upto) := by
  rw [← PS.key_of_keys hi]
  by_cases hu : n < (S.op i).upto
  · rw [decide_eq_true hu, hasB_true]
    exact List.mem_map.2 ⟨i, (h.mem n hn i).2 ⟨hi, hu⟩, rfl⟩
  · rw [decide_eq_false hu, hasB_false]
    intro hm
    obtain ⟨j, hj, e⟩ := List.mem_map.1 hm
    have hj' := h.lt hn hj
    obtain rfl := h.uniq j i hj' hi e
    exact hu ((h.mem n hn j).1 hj).2
theorem PS.Inv.uptoLe (h : S.Inv) {i : Nat} (hi : i < S.ops.length) : (S.op i).upto ≤ S.hs.getD i 0 ∧ (S.done i = true → (S.op i).upto = S.hs.getD i 0) := by
  have ok := h.ok i hi
  rw [← PS.height_of_hs hi]
  unfold PO.upto
  constructor
  · split
    · exact Nat.le_refl _
    · rename_i h3
      split
      · omega
      · rename_i h0
        have := (ok.low h3).2 h0
        omega
  · intro hd
    rw [if_pos (PS.done_true hd)]
end
section
variable {w : World} {p : Nat} {S : PS} {g : SG} {ka ha : Option Addr} {kc hc db n : Nat} {dl : List Bool}
set_option maxRecDepth 100000 in
set_option maxHeartbeats 4000000 in
theorem looks_at (h : SkAt w p S g) (hk : StAt w ka n kc S.keys) (hh : IsAt w ha n hc (hsI S)) (hd : Box w db 4 (boolArr dl)) (hdl : dl.length = n) (hde : ∀ i, i < n → dl.getD i false = S.done i) (hn : S.ops.length = n) :
    Calls Try.prog 13 #[at_ p, .slice ka n kc, .slice ha n hc, .slice (some ⟨db, 0, none⟩) n n] w fun e w' => e = .returned (.bool true) ∧ Below w.heap.size w w' := by
  have hle1 := hk.le
  have hmax1 := hk.max
  have hle2 := hh.le
  have hmax2 := hh.max
  have hn1 : n ≤ 1000 := by have := h.inv.size; have := h.inv.room; omega
  unfold maxLen at hmax1 hmax2
  have HS : Hid (SkAt w p S g ∧ S.ops.length = n) := ⟨h, hn⟩
  have HK : Hid (StAt w ka n kc S.keys) := hk
  have HH : Hid (IsAt w ha n hc (hsI S)) := hh
  have HD : Hid (∀ i, i < n → ∀ v, Below w.heap.size w v → v.cell? ⟨db, i, none⟩ = some (.bool (S.done i))) := fun i hi v hv => by
    rw [(hd.kept (hv.block _ hd.lt)).cell, boolArr_at (by omega), hde i hi]
  clear h hk hh hd hdl hde hn
  go_enter Try.func13, Try.ntmps13
  go_wp2_with fail
  go_loopw [9, 10] (fun x y wr => ∃ (l : Nat) (ba : Option Addr) (bn bc : Nat) (bl : List ByteArray), l ≤ 8 ∧ x = .slice ba bn bc ∧ y = .int .i64 (l : Int) ∧ Hid (StAt wr ba bn bc bl ∧ (l < 8 → ∀ x ∈ S.lk l, x ∈ bl) ∧ Below w.heap.size w wr)) (fun _ y _ => 8 - (intOf y).toNat)
  case atStart => exact ⟨0, ka, n, kc, S.keys, by omega, rfl, rfl, HK.out, fun _ => HS.out.1.inv.lkKeys (by omega), Below.refl _ _⟩
  case round =>
    obtain ⟨l, ba, bn, bc, bl, hl, rfl, rfl, HR⟩ := hrel
    by_cases hl8 : l < 8
    · have HKY := keys_at (HS.out.1.below HR.out.2.2) hl8
      have hlen := HS.out.1.inv.levLen hl8
      obtain ⟨m, HM⟩ : ∃ m, Hid (m = (S.lev l).length) := ⟨_, rfl⟩
      rw [← HM.out] at HKY hlen
      go_wp2_with fail
      refine HKY.mono ?_
      rintro _ v1 ⟨a1, c1, rfl, o1, b1⟩
      have H1 : Hid (OwnS v1 wr.heap.size a1 m c1 (S.lk l) ∧ StAt v1 ba bn bc bl ∧ Below w.heap.size w v1) := ⟨o1, HR.out.1.below b1, HR.out.2.2.trans (b1.mono HR.out.2.2.size)⟩
      have HIN : Hid (∀ x ∈ S.lk l, x ∈ bl) := HR.out.2.1 hl8
      clear o1 b1 HKY HR
      go_wp2_with fail
      refine (rising_at H1.out.1.st (by omega) (HS.out.1.inv.lkSorted hl8)).mono ?_
      rintro _ v2 ⟨rfl, d, rfl⟩
      have hbd : Below v1.heap.size v1 (v1.drewN d) := Below.drewN' (Below.refl _ _) d
      have H2 : Hid (OwnS (v1.drewN d) wr.heap.size a1 m c1 (S.lk l) ∧ StAt (v1.drewN d) ba bn bc bl ∧ Below w.heap.size w (v1.drewN d)) := ⟨H1.out.1.below hbd, H1.out.2.1.below hbd, Below.drewN' H1.out.2.2 d⟩
      clear hbd H1
      generalize v1.drewN d = v3 at H2 ⊢
      go_wp2_with fail
      refine (within_at H2.out.1.st H2.out.2.1 HIN.out).mono ?_
      rintro _ _ ⟨rfl, hw⟩
      obtain rfl := hw.symm
      clear hw
      go_wp2_with fail
      go_loop [14] (fun x => ∃ i : Nat, i ≤ n ∧ x = .int .i64 (i : Int)) (fun x => n - (intOf x).toNat)
      case atStart => exact ⟨0, Nat.zero_le _, rfl⟩
      case round =>
        obtain ⟨i, hi, rfl⟩ := hrel
        by_cases hin : i < n
        · have hiS : i < S.ops.length := by rw [HS.out.2]; exact hin
          obtain ⟨kb, koff, hka, hkc⟩ := (HK.out.below (H2.out.2.2)).here (by omega)
          have ck := hkc i hin
          obtain ⟨hb, hoff, hha, hhc⟩ := (HH.out.below (Nat.le_refl _) H2.out.2.2).here (by omega)
          have chh := hhc i hin
          rw [hsI_at] at chh
          have cd := HD.out i hin _ H2.out.2.2
          have hidx1 := fun w' => idx_str w' (c := kc) hka hin
          have hidx2 := fun w' => idx_int w' (c := hc) hha hin
          have HHAS := has_at H2.out.1.st (S.keys.getD i ⟨#[]⟩)
          rw [HS.out.1.inv.hasLk hl8 hiS] at HHAS
          obtain ⟨hu1, hu2⟩ := HS.out.1.inv.uptoLe hiS
          have hhi := (HS.out.1.inv.hsIn hiS).2
          generalize S.keys.getD i ⟨#[]⟩ = ki at ck HHAS
          generalize S.hs.getD i 0 = hgt0 at chh hu1 hu2 hhi
          generalize (S.op i).upto = up at hu1 hu2 HHAS
          generalize S.done i = dd at cd hu2
          clear hkc hhc hka hha hiS
          by_cases hup : l < up
          · rw [decide_eq_true hup] at HHAS
            have hlh : (l : Int) < (hgt0 : Int) := by omega
            cases dd
            · clear hu2
              go_wp2_with fail
              refine HHAS.mono ?_
              rintro _ _ ⟨rfl, hw⟩
              obtain rfl := hw.symm
              clear hw
              go_wp2
              first
                | exact ⟨⟨i + 1, by omega, by go_num⟩, by simp only [intOf]; omega⟩
                | (go_round
                   case rel => exact ⟨i + 1, by omega, by go_num⟩
                   case measure => simp only [intOf]; omega)
            · clear hu2
              go_wp2_with fail
              refine HHAS.mono ?_
              rintro _ _ ⟨rfl, hw⟩
              obtain rfl := hw.symm
              clear hw
              go_wp2
              first
                | exact ⟨⟨i + 1, by omega, by go_num⟩, by simp only [intOf]; omega⟩
                | (go_round
                   case rel => exact ⟨i + 1, by omega, by go_num⟩
                   case measure => simp only [intOf]; omega)
          · rw [decide_eq_false hup] at HHAS
            cases dd
            · clear hu2
              go_wp2_with fail
              refine HHAS.mono ?_
              rintro _ _ ⟨rfl, hw⟩
              obtain rfl := hw.symm
              clear hw
              go_wp2
              first
                | exact ⟨⟨i + 1, by omega, by go_num⟩, by simp only [intOf]; omega⟩
                | (go_round
                   case rel => exact ⟨i + 1, by omega, by go_num⟩
                   case measure => simp only [intOf]; omega)
            · have hlh : ¬ (l : Int) < (hgt0 : Int) := by have := hu2 rfl; omega
              clear hu2
              go_wp2_with fail
              refine HHAS.mono ?_
              rintro _ _ ⟨rfl, hw⟩
              obtain rfl := hw.symm
              clear hw
              go_wp2
              first
                | exact ⟨⟨i + 1, by omega, by go_num⟩, by simp only [intOf]; omega⟩
                | (go_round
                   case rel => exact ⟨i + 1, by omega, by go_num⟩
                   case measure => simp only [intOf]; omega)
        · go_wp2
          first
            | exact ⟨⟨l + 1, a1, m, c1, S.lk l, by omega, rfl, by go_num, H2.out.1.st, fun h8 => HS.out.1.inv.lkSub h8, H2.out.2.2⟩, by simp only [intOf]; omega⟩
            | (go_roundw
               case rel => exact ⟨l + 1, a1, m, c1, S.lk l, by omega, rfl, by go_num, H2.out.1.st, fun h8 => HS.out.1.inv.lkSub h8, H2.out.2.2⟩
               case measure => simp only [intOf]; omega)
    · go_wp2
      go_returns
      exact ⟨rfl, HR.out.2.2⟩
end
end Go.Proofs.Ytnjkfmglohcmhaa
