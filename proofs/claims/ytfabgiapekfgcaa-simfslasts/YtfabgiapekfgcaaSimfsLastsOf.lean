/- staddlelaw04.SimfsLasts returns true, for every argument, and leaves memory as it was: out of what simfs promises. -/
import Derived.Test.YtfabgiapekfgcaaAwake4
import Derived.Test.YtfabgiapekfgcaaLastPlain
import Derived.Test.YtfabgiapekfgcaaSameN
import Derived.BigQuiet
namespace Go.Proofs.Ytfabgiapekfgcaa
open Go.RowKit
set_option maxRecDepth 100000 in
set_option maxHeartbeats 4000000 in
theorem simfsLasts_of {J : Face} (h : FsOk J) (a0 : Option Addr) (len0 cap0 : Nat) (b0 : List UInt8) (a1 : Option Addr) (len1 cap1 : Nat) (b1 : List UInt8) (a2 : Option Addr) (len2 cap2 : Nat) (b2 : List Int) (a3 : Option Addr) (len3 cap3 : Nat) (b3 : List Int) (w : World) (w0 : BsAt w a0 len0 cap0 b0) (w1 : BsAt w a1 len1 cap1 b1) (w2 : IsAt w a2 len2 cap2 b2) (w3 : IsAt w a3 len3 cap3 b3) :
    Calls Try.prog 5 #[.slice a0 len0 cap0, .slice a1 len1 cap1, .slice a2 len2 cap2, .slice a3 len3 cap3] w fun e w' => e = .returned (.bool true) ∧ Below w.heap.size w w' := by
  have HH : Hid (FsOk J) := h
  have H0 : Hid (BsAt w a0 len0 cap0 b0) := w0
  have H1 : Hid (BsAt w a1 len1 cap1 b1) := w1
  have H2 : Hid (IsAt w a2 len2 cap2 b2) := w2
  have H3 : Hid (IsAt w a3 len3 cap3 b3) := w3
  have HL0 : Hid (b0.length = len0) := w0.size
  have HL1 : Hid (b1.length = len1) := w1.size
  have hc0 := w0.max
  have hl0 := w0.le
  have hc1 := w1.max
  have hl1 := w1.le
  unfold maxLen at hc0 hc1
  clear h w0 w1 w2 w3
  by_cases hbig : 1000 < len0 ∨ 1000 < len1
  · go_enter Try.func5, Try.ntmps5
    go_wp2_with fail
    refine (awake_any HH.out _).mono ?_
    rintro e v1 ⟨rfl, hb1⟩
    have HB1 : Hid (Below w.heap.size w v1) := hb1
    have HJ1 : Hid (J v1 (fun k => k < w.heap.size) [] []) := HH.out.less (HH.out.zero v1) (fun _ hk => Nat.lt_of_lt_of_le hk hb1.size)
    clear hb1
    go_wp2_with fail
    refine (HH.out.new 1048576 (by omega) HJ1.out).mono ?_
    rintro e v2 (⟨_, p, rfl, hj, hk⟩ | ⟨hn, _⟩)
    · have HB2 : Hid (Below w.heap.size w v2) := HB1.out.trans (hk.below (fun _ h => h) HB1.out.size)
      clear hj hk
      by_cases hb : 1000 < len0
      · have hb' : decide ((1000 : Int) < (len0 : Int)) = true := by simp; omega
        go_wp2_with fail
        go_ret
        exact ⟨rfl, HB2.out⟩
      · have hb' : decide ((1000 : Int) < (len0 : Int)) = false := by simp; omega
        have hb'' : decide ((1000 : Int) < (len1 : Int)) = true := by simp; omega
        go_wp2_with fail
        go_ret
        exact ⟨rfl, HB2.out⟩
    · exact absurd ⟨by omega, by omega⟩ hn
  · have hs0 : len0 ≤ 1000 := by omega
    have hs1 : len1 ≤ 1000 := by omega
    have E1 : Hid (ls1.append nA b0 = (ls2 b0, 0)) := ls1_e b0 (by rw [HL0.out]; exact hs0)
    have E4 : Hid ((ls4 b0).append nA b1 = (ls5 b0 b1, 0)) := ls4_e b0 b1 (by rw [HL0.out]; exact hs0) (by rw [HL1.out]; exact hs1)
    obtain ⟨n, L, hn1, hn2, e7, hL⟩ := ls7_e b0 b1 b2
    rw [HL0.out] at hn1 hn2
    rw [HL1.out] at hn2
    have E7 : Hid ((ls7 b0 b1).crash b2 = ls8 ((b0 ++ b1).take n) L) := e7
    have HX : Hid (((b0 ++ b1).take n).length = n) := by unfold Hid; rw [List.length_take, List.length_append, HL0.out, HL1.out]; omega
    have HSL := fun W => slice_str (strOf b0 ++ strOf b1) n (by
      have h0 : (strOf b0).size = b0.length := by simp [strOf, ByteArray.size]
      have h1 : (strOf b1).size = b1.length := by simp [strOf, ByteArray.size]
      rw [ByteArray.size_append, h0, h1, HL0.out, HL1.out]
      exact hn2) W
    have hcat : (strOf b0 ++ strOf b1).data.toList = b0 ++ b1 := by simp [strOf]
    have hcsz : (strOf b0).size + (strOf b1).size = len0 + len1 := by
      have h0 : (strOf b0).size = b0.length := by simp [strOf, ByteArray.size]
      have h1 : (strOf b1).size = b1.length := by simp [strOf, ByteArray.size]
      rw [h0, h1, HL0.out, HL1.out]
    have hcs1 : (strOf b0).size + (strOf b1).size ≤ 9223372036854775807 := by omega
    have hcs2 : (n : Int) ≤ ((strOf b0).size : Int) + ((strOf b1).size : Int) := by omega
    have hcs3 : decide ((n : Int) < (len0 : Int)) = false := by simp; omega
    have hcs4 : decide (((strOf b0).size : Int) + ((strOf b1).size : Int) < (n : Int)) = false := by simp; omega
    clear hcsz
    rw [hcat] at HSL
    clear hcat
    have E8 : Hid (∀ again, (ls8 ((b0 ++ b1).take n) L).crash again = ls8 ((b0 ++ b1).take n) L) := fun again => ls8_e _ L again hL
    have ER := ls8_r ((b0 ++ b1).take n) L hL
    generalize (b0 ++ b1).take n = X at E7 HX HSL E8 ER
    have HLS : Hid ((ls8 X L).list = (L.map (·.name), 0)) := ls8_l X L
    obtain ⟨NM, hNM⟩ : ∃ NM, L.map (·.name) = NM := ⟨_, rfl⟩
    rw [hNM] at HLS
    obtain ⟨kk, hkk⟩ : ∃ kk, NM.length = kk := ⟨_, rfl⟩
    have HKK : Hid (NM.length = kk) := hkk
    clear hNM hkk
    clear hL e7 hbig
    go_enter Try.func5, Try.ntmps5
    go_wp2_with fail
    refine (awake_any HH.out _).mono ?_
    rintro e v1 ⟨rfl, hb1⟩
    have HB1 : Hid (Below w.heap.size w v1) := hb1
    have HJ1 : Hid (J v1 (fun k => k < w.heap.size) [] []) := HH.out.less (HH.out.zero v1) (fun _ hk => Nat.lt_of_lt_of_le hk hb1.size)
    clear hb1
    go_wp2_with fail
    refine (HH.out.new 1048576 (by omega) HJ1.out).mono ?_
    rintro e v2 (⟨_, p, rfl, hj, hk⟩ | ⟨hn, _⟩)
    · have HB2 : Hid (Below w.heap.size w v2) := HB1.out.trans (hk.below (fun _ h => h) HB1.out.size)
      have HJ2 : Hid (J v2 (fun k => k < w.heap.size) [(p, rn0)] []) := hj
      clear hj hk
      go_wp2_with fail
      refine (HH.out.create 0 _ HJ2.out rfl (by decide)).mono ?_
      rw [show rn0.create (⟨#[97]⟩ : ByteArray).data.toList = (ls1, 0) from ls0_e]
      rintro e v3 ⟨rfl, hj, hk⟩
      have HJ3 : Hid (J v3 (fun k => k < w.heap.size) [(p, ls1)] []) := hj
      have HB3 : Hid (Below w.heap.size w v3) := HB2.out.trans (hk.below (fun _ h => h) HB2.out.size)
      clear hj hk HJ2 HB2
      go_wp2_with fail
      refine (HH.out.append 0 _ _ _ _ b0 HJ3.out rfl (show 1 < 1000000 by decide) (H0.out.below (Nat.le_refl _) HB3.out) (by omega)).mono ?_
      rw [show ls1.append (⟨#[97]⟩ : ByteArray).data.toList b0 = (ls2 b0, 0) from E1.out]
      rintro e v4 ⟨rfl, hj, hk⟩
      have HJ4 : Hid (J v4 (fun k => k < w.heap.size) [(p, ls2 b0)] []) := hj
      have HB4 : Hid (Below w.heap.size w v4) := HB3.out.trans (hk.below (fun _ h => h) HB3.out.size)
      clear hj hk HJ3 HB3
      go_wp2_with fail
      refine (HH.out.sync 0 _ HJ4.out rfl (show 2 < 1000000 by decide)).mono ?_
      rw [show (ls2 b0).sync (⟨#[97]⟩ : ByteArray).data.toList = (ls3 b0, 0) from ls2_e b0]
      rintro e v5 ⟨rfl, hj, hk⟩
      have HJ5 : Hid (J v5 (fun k => k < w.heap.size) [(p, ls3 b0)] []) := hj
      have HB5 : Hid (Below w.heap.size w v5) := HB4.out.trans (hk.below (fun _ h => h) HB4.out.size)
      clear hj hk HJ4 HB4
      go_wp2_with fail
      refine (HH.out.syncDir 0 HJ5.out rfl (show 3 < 1000000 by decide)).mono ?_
      rw [show (ls3 b0).syncDir = (ls4 b0, 0) from ls3_e b0]
      rintro e v6 ⟨rfl, hj, hk⟩
      have HJ6 : Hid (J v6 (fun k => k < w.heap.size) [(p, ls4 b0)] []) := hj
      have HB6 : Hid (Below w.heap.size w v6) := HB5.out.trans (hk.below (fun _ h => h) HB5.out.size)
      clear hj hk HJ5 HB5
      go_wp2_with fail
      refine (HH.out.append 0 _ _ _ _ b1 HJ6.out rfl (show 4 < 1000000 by decide) (H1.out.below (Nat.le_refl _) HB6.out) (by omega)).mono ?_
      rw [show (ls4 b0).append (⟨#[97]⟩ : ByteArray).data.toList b1 = (ls5 b0 b1, 0) from E4.out]
      rintro e v7 ⟨rfl, hj, hk⟩
      have HJ7 : Hid (J v7 (fun k => k < w.heap.size) [(p, ls5 b0 b1)] []) := hj
      have HB7 : Hid (Below w.heap.size w v7) := HB6.out.trans (hk.below (fun _ h => h) HB6.out.size)
      clear hj hk HJ6 HB6
      go_wp2_with fail
      refine (HH.out.create 0 _ HJ7.out rfl (show 5 < 1000000 by decide)).mono ?_
      rw [show (ls5 b0 b1).create (⟨#[98]⟩ : ByteArray).data.toList = (ls6 b0 b1, 0) from ls5_e b0 b1]
      rintro e v8 ⟨rfl, hj, hk⟩
      have HJ8 : Hid (J v8 (fun k => k < w.heap.size) [(p, ls6 b0 b1)] []) := hj
      have HB8 : Hid (Below w.heap.size w v8) := HB7.out.trans (hk.below (fun _ h => h) HB7.out.size)
      clear hj hk HJ7 HB7
      go_wp2_with fail
      refine (HH.out.rename 0 _ _ HJ8.out rfl (show 6 < 1000000 by decide)).mono ?_
      rw [show (ls6 b0 b1).rename (⟨#[97]⟩ : ByteArray).data.toList (⟨#[99]⟩ : ByteArray).data.toList = (ls7 b0 b1, 0) from ls6_e b0 b1]
      rintro e v9 ⟨rfl, hj, hk⟩
      have HJ9 : Hid (J v9 (fun k => k < w.heap.size) [(p, ls7 b0 b1)] []) := hj
      have HB9 : Hid (Below w.heap.size w v9) := HB8.out.trans (hk.below (fun _ h => h) HB8.out.size)
      clear hj hk HJ8 HB8
      go_wp2_with fail
      refine (HH.out.crash 0 _ _ _ b2 HJ9.out rfl (H2.out.below (Nat.le_refl _) HB9.out) (fun h ad e => H2.out.old h ad e)).mono ?_
      rw [show (ls7 b0 b1).crash b2 = ls8 X L from E7.out]
      rintro e v10 ⟨rfl, hj, hk⟩
      have HJ10 : Hid (J v10 (fun k => k < w.heap.size) [(p, ls8 X L)] []) := hj
      have HB10 : Hid (Below w.heap.size w v10) := HB9.out.trans (hk.below (fun _ h => h) HB9.out.size)
      clear hj hk HJ9 HB9
      go_wp2_with fail
      have HR := HH.out.read 0 (⟨#[97]⟩ : ByteArray) HJ10.out rfl
      rcases ER with hx | ⟨hx, hy⟩
      · rw [show (ls8 X L).read (⟨#[97]⟩ : ByteArray).data.toList = (X, 0) from hx] at HR
        simp only [HX.out] at HR
        refine HR.mono ?_
        clear HR hx
        rintro e v11 ⟨a11, c11, rfl, hx, hj, hk⟩
        have HB11 : Hid (Below w.heap.size w v11) := HB10.out.trans (hk.below (fun _ h => h) HB10.out.size)
        have HJ11 : Hid (J v11 (fun k => k < w.heap.size) [(p, ls8 X L)] []) := HH.out.less hj (fun _ h => .inl h)
        have hc11 : ∀ m, (convert 32 9 (.slice a11 n c11)).run Try.prog (v11.drewN m) = .ok (.string (strOf X)) (v11.drewN m) := fun m => conv_of (hx.bs.below (Nat.le_refl _) ⟨rfl, rfl, rfl, Nat.le_refl _, fun _ _ => rfl⟩)
        have hcA := conv_of (H0.out.below (Nat.le_refl _) HB11.out)
        have hcB := conv_of (H1.out.below (Nat.le_refl _) HB11.out)
        clear hx hj hk HJ10 HB10
        go_wp2_with fail
        go_quiet (fail)
        go_wp2_with fail
        have hdn : Below v11.heap.size v11 (v11.drewN nq) := ⟨rfl, rfl, rfl, Nat.le_refl _, fun _ _ => rfl⟩
        refine (HH.out.copy 0 (HH.out.step HJ11.out hdn) rfl).mono ?_
        rintro e v22 ⟨q, rfl, hj, hk⟩
        have HJ22 : Hid (J v22 (fun k => k < w.heap.size) [(p, ls8 X L), (q, ls8 X L)] []) := hj
        have HB22 : Hid (Below w.heap.size w v22) := (HB11.out.trans (hdn.mono HB11.out.size)).trans (hk.below (fun _ h => h) HB11.out.size)
        clear hj hk HJ11 HB11 hdn HSL hcs1 hcs2 hcs3 hcs4
        go_wp2_with fail
        refine (HH.out.crash 0 _ _ _ b3 HJ22.out rfl (H3.out.below (Nat.le_refl _) HB22.out) (fun h ad e => H3.out.old h ad e)).mono ?_
        rw [E8.out b3]
        rintro e v23 ⟨rfl, hj, hk⟩
        have HJ23 : Hid (J v23 (fun k => k < w.heap.size) [(p, ls8 X L), (q, ls8 X L)] []) := hj
        have HB23 : Hid (Below w.heap.size w v23) := HB22.out.trans (hk.below (fun _ h => h) HB22.out.size)
        clear hj hk HJ22 HB22
        go_wp2_with fail
        have HLI := HH.out.list 0 HJ23.out rfl
        rw [HLS.out] at HLI
        simp only [HKK.out] at HLI
        refine HLI.mono ?_
        clear HLI
        rintro e v24 ⟨a24, c24, rfl, hs, _, hj, hk⟩
        have HJ24 : Hid (J v24 (fun k => k < w.heap.size ∨ ∃ ad, a24 = some ad ∧ k = ad.block) [(p, ls8 X L), (q, ls8 X L)] []) := hj
        have HS24 : Hid (SsAt v24 a24 kk c24 NM) := hs
        have HB24 : Hid (Below w.heap.size w v24) := HB23.out.trans (hk.below (fun _ h => h) HB23.out.size)
        clear hj hk hs HJ23 HB23
        go_wp2_with fail
        have HLI := HH.out.list 1 HJ24.out rfl
        rw [HLS.out] at HLI
        simp only [HKK.out] at HLI
        refine HLI.mono ?_
        clear HLI
        rintro e v25 ⟨a25, c25, rfl, hs, _, hj, hk⟩
        have HJ25 : Hid (J v25 (fun k => k < w.heap.size ∨ ∃ ad, a24 = some ad ∧ k = ad.block) [(p, ls8 X L), (q, ls8 X L)] []) := HH.out.less hj (fun _ h => .inl h)
        have HS25 : Hid (SsAt v25 a24 kk c24 NM) := HS24.out.kept hk (fun ad h => .inr ⟨ad, h, rfl⟩)
        have HT25 : Hid (SsAt v25 a25 kk c25 NM) := hs
        have HB25 : Hid (Below w.heap.size w v25) := HB24.out.trans (hk.below (fun _ h => .inl h) HB24.out.size)
        clear hj hk hs HJ24 HB24 HS24
        go_wp2_with fail
        refine (sameNames_any _ _ _ _ _ _ NM NM _ HS25.out HT25.out).mono ?_
        rw [show (NM == NM) = true by simp]
        rintro e v26 ⟨rfl, hb⟩
        have HJ26 : Hid (J v26 (fun k => k < w.heap.size ∨ ∃ ad, a24 = some ad ∧ k = ad.block) [(p, ls8 X L), (q, ls8 X L)] []) := HH.out.step HJ25.out hb
        have HS26 : Hid (SsAt v26 a24 kk c24 NM) := HS25.out.below (Nat.le_refl _) hb
        have HB26 : Hid (Below w.heap.size w v26) := HB25.out.trans (hb.mono HB25.out.size)
        have hkm := HS26.out.max
        have hkl := HS26.out.le
        unfold maxLen at hkm
        clear hb HJ25 HS25 HT25 HB25
        go_wp2_with fail
        go_loopw [20] (fun i wr => ∃ k : Nat, k ≤ kk ∧ i = .int .i64 k ∧ Hid (J wr (fun k => k < w.heap.size ∨ ∃ ad, a24 = some ad ∧ k = ad.block) [(p, ls8 X L), (q, ls8 X L)] []) ∧ Hid (SsAt wr a24 kk c24 NM) ∧ Hid (Below w.heap.size w wr)) (fun i _ => kk - (intOf i).toNat)
        case atStart => exact ⟨0, Nat.zero_le _, rfl, HJ26.out, HS26.out, HB26.out⟩
        case round =>
          obtain ⟨k, hk, rfl, HJ, HS, HB⟩ := hrel
          by_cases hlt : k < kk
          · obtain ⟨b24, o24, rfl, hc⟩ := HS.out.here (by omega)
            have p0 := hc k hlt
            have HNM : Hid (strOf (NM.getD k []) = strOf (NM.getD k [])) := rfl
            obtain ⟨nm, hnm⟩ : ∃ nm, strOf (NM.getD k []) = nm := ⟨_, rfl⟩
            rw [hnm] at p0
            have HR0 := HH.out.read 0 nm HJ.out rfl
            have HR1 := fun {W : World} {R : Nat → Prop} (hW : J W R [(p, ls8 X L), (q, ls8 X L)] []) => HH.out.read (w := W) 1 nm hW rfl
            generalize (ls8 X L).read nm.data.toList = ue at HR0 HR1
            obtain ⟨u, er⟩ := ue
            obtain ⟨lu, hlu⟩ : ∃ lu, u.length = lu := ⟨_, rfl⟩
            simp only [hlu] at HR0 HR1
            have HQ0 : Hid _ := HR0
            have HQ1 : Hid (∀ {W : World} {R : Nat → Prop}, J W R [(p, ls8 X L), (q, ls8 X L)] [] → _) := HR1
            have HNX : Hid (strOf (NM.getD k []) = nm) := hnm
            have hx1 : (0 : Int) ≤ (k : Int) := by omega
            have hx2 : (k : Int) < (kk : Int) := by omega
            clear HR0 HR1 hlu hc HNM hnm
            go_wp2_with fail
            refine Calls.mono HQ0.out ?_
            rintro e w5 ⟨a5, c5, rfl, hx, hj, hkp⟩
            have HX5 : Hid (OwnB w5 wr.heap.size a5 lu c5 u) := hx
            have HJ5 : Hid (J w5 _ [(p, ls8 X L), (q, ls8 X L)] []) := hj
            have HS5 : Hid (SsAt w5 (some ⟨b24, o24, none⟩) kk c24 NM) := HS.out.kept hkp (fun ad h => .inr ⟨ad, h, rfl⟩)
            have HB5 : Hid (Below w.heap.size w w5) := HB.out.trans (hkp.below (fun _ h => .inl h) HB.out.size)
            clear hx hj hkp p0 HQ0
            obtain ⟨b', o', he, hc⟩ := HS5.out.here (by omega)
            simp only [Option.some.injEq, Addr.mk.injEq, and_true] at he
            obtain ⟨rfl, rfl⟩ := he
            have p0 := hc k hlt
            rw [HNX.out] at p0
            clear hc
            go_wp2_with fail
            refine Calls.mono (HQ1.out HJ5.out) ?_
            rintro e w6 ⟨a6, c6, rfl, hx, hj, hkp⟩
            have hc5 := conv_of (HX5.out.kept hkp (fun _ h => .inr h)).bs
            have hc6 := conv_of hx.bs
            have HJ6 : Hid (J w6 (fun k => k < w.heap.size ∨ ∃ ad, some (⟨b24, o24, none⟩ : Addr) = some ad ∧ k = ad.block) [(p, ls8 X L), (q, ls8 X L)] []) := HH.out.less hj (fun _ h => .inl (.inl h))
            have HS6 : Hid (SsAt w6 (some ⟨b24, o24, none⟩) kk c24 NM) := HS5.out.kept hkp (fun ad h => .inl (.inr ⟨ad, h, rfl⟩))
            have HB6 : Hid (Below w.heap.size w w6) := HB5.out.trans (hkp.below (fun _ h => .inl (.inl h)) HB5.out.size)
            clear hx hj hkp p0 HX5 HJ5 HS5 HB5 HQ1
            go_wp2_with fail
            go_roundw
            case rel => exact ⟨k + 1, by omega, by go_num, HJ6.out, HS6.out, HB6.out⟩
            case measure => simp [intOf]; omega
          · go_wp2_with fail
            go_ret
            exact ⟨rfl, HB.out⟩
      · rw [show (ls8 X L).read (⟨#[97]⟩ : ByteArray).data.toList = ([], 42) from hx] at HR
        refine HR.mono ?_
        clear HR hx
        rintro e v11 ⟨a11, c11, rfl, hx, hj, hk⟩
        have HB11 : Hid (Below w.heap.size w v11) := HB10.out.trans (hk.below (fun _ h => h) HB10.out.size)
        have HJ11 : Hid (J v11 (fun k => k < w.heap.size) [(p, ls8 X L)] []) := HH.out.less hj (fun _ h => .inl h)
        clear hx hj hk HJ10 HB10
        go_wp2_with fail
        have HR := HH.out.read 0 (⟨#[99]⟩ : ByteArray) HJ11.out rfl
        rw [show (ls8 X L).read (⟨#[99]⟩ : ByteArray).data.toList = (X, 0) from hy] at HR
        simp only [HX.out] at HR
        refine HR.mono ?_
        clear HR hy
        rintro e v12 ⟨a12, c12, rfl, hx, hj, hk⟩
        have HB12 : Hid (Below w.heap.size w v12) := HB11.out.trans (hk.below (fun _ h => h) HB11.out.size)
        have HJ12 : Hid (J v12 (fun k => k < w.heap.size) [(p, ls8 X L)] []) := HH.out.less hj (fun _ h => .inl h)
        have hc12 : ∀ m, (convert 32 9 (.slice a12 n c12)).run Try.prog (v12.drewN m) = .ok (.string (strOf X)) (v12.drewN m) := fun m => conv_of (hx.bs.below (Nat.le_refl _) ⟨rfl, rfl, rfl, Nat.le_refl _, fun _ _ => rfl⟩)
        have hcA := conv_of (H0.out.below (Nat.le_refl _) HB12.out)
        have hcB := conv_of (H1.out.below (Nat.le_refl _) HB12.out)
        clear hx hj hk HJ11 HB11
        go_wp2_with fail
        go_quiet (fail)
        go_wp2_with fail
        have hdn : Below v12.heap.size v12 (v12.drewN nq) := ⟨rfl, rfl, rfl, Nat.le_refl _, fun _ _ => rfl⟩
        refine (HH.out.copy 0 (HH.out.step HJ12.out hdn) rfl).mono ?_
        rintro e v22 ⟨q, rfl, hj, hk⟩
        have HJ22 : Hid (J v22 (fun k => k < w.heap.size) [(p, ls8 X L), (q, ls8 X L)] []) := hj
        have HB22 : Hid (Below w.heap.size w v22) := (HB12.out.trans (hdn.mono HB12.out.size)).trans (hk.below (fun _ h => h) HB12.out.size)
        clear hj hk HJ12 HB12 hdn HSL hcs1 hcs2 hcs3 hcs4
        go_wp2_with fail
        refine (HH.out.crash 0 _ _ _ b3 HJ22.out rfl (H3.out.below (Nat.le_refl _) HB22.out) (fun h ad e => H3.out.old h ad e)).mono ?_
        rw [E8.out b3]
        rintro e v23 ⟨rfl, hj, hk⟩
        have HJ23 : Hid (J v23 (fun k => k < w.heap.size) [(p, ls8 X L), (q, ls8 X L)] []) := hj
        have HB23 : Hid (Below w.heap.size w v23) := HB22.out.trans (hk.below (fun _ h => h) HB22.out.size)
        clear hj hk HJ22 HB22
        go_wp2_with fail
        have HLI := HH.out.list 0 HJ23.out rfl
        rw [HLS.out] at HLI
        simp only [HKK.out] at HLI
        refine HLI.mono ?_
        clear HLI
        rintro e v24 ⟨a24, c24, rfl, hs, _, hj, hk⟩
        have HJ24 : Hid (J v24 (fun k => k < w.heap.size ∨ ∃ ad, a24 = some ad ∧ k = ad.block) [(p, ls8 X L), (q, ls8 X L)] []) := hj
        have HS24 : Hid (SsAt v24 a24 kk c24 NM) := hs
        have HB24 : Hid (Below w.heap.size w v24) := HB23.out.trans (hk.below (fun _ h => h) HB23.out.size)
        clear hj hk hs HJ23 HB23
        go_wp2_with fail
        have HLI := HH.out.list 1 HJ24.out rfl
        rw [HLS.out] at HLI
        simp only [HKK.out] at HLI
        refine HLI.mono ?_
        clear HLI
        rintro e v25 ⟨a25, c25, rfl, hs, _, hj, hk⟩
        have HJ25 : Hid (J v25 (fun k => k < w.heap.size ∨ ∃ ad, a24 = some ad ∧ k = ad.block) [(p, ls8 X L), (q, ls8 X L)] []) := HH.out.less hj (fun _ h => .inl h)
        have HS25 : Hid (SsAt v25 a24 kk c24 NM) := HS24.out.kept hk (fun ad h => .inr ⟨ad, h, rfl⟩)
        have HT25 : Hid (SsAt v25 a25 kk c25 NM) := hs
        have HB25 : Hid (Below w.heap.size w v25) := HB24.out.trans (hk.below (fun _ h => .inl h) HB24.out.size)
        clear hj hk hs HJ24 HB24 HS24
        go_wp2_with fail
        refine (sameNames_any _ _ _ _ _ _ NM NM _ HS25.out HT25.out).mono ?_
        rw [show (NM == NM) = true by simp]
        rintro e v26 ⟨rfl, hb⟩
        have HJ26 : Hid (J v26 (fun k => k < w.heap.size ∨ ∃ ad, a24 = some ad ∧ k = ad.block) [(p, ls8 X L), (q, ls8 X L)] []) := HH.out.step HJ25.out hb
        have HS26 : Hid (SsAt v26 a24 kk c24 NM) := HS25.out.below (Nat.le_refl _) hb
        have HB26 : Hid (Below w.heap.size w v26) := HB25.out.trans (hb.mono HB25.out.size)
        have hkm := HS26.out.max
        have hkl := HS26.out.le
        unfold maxLen at hkm
        clear hb HJ25 HS25 HT25 HB25
        go_wp2_with fail
        go_loopw [20] (fun i wr => ∃ k : Nat, k ≤ kk ∧ i = .int .i64 k ∧ Hid (J wr (fun k => k < w.heap.size ∨ ∃ ad, a24 = some ad ∧ k = ad.block) [(p, ls8 X L), (q, ls8 X L)] []) ∧ Hid (SsAt wr a24 kk c24 NM) ∧ Hid (Below w.heap.size w wr)) (fun i _ => kk - (intOf i).toNat)
        case atStart => exact ⟨0, Nat.zero_le _, rfl, HJ26.out, HS26.out, HB26.out⟩
        case round =>
          obtain ⟨k, hk, rfl, HJ, HS, HB⟩ := hrel
          by_cases hlt : k < kk
          · obtain ⟨b24, o24, rfl, hc⟩ := HS.out.here (by omega)
            have p0 := hc k hlt
            have HNM : Hid (strOf (NM.getD k []) = strOf (NM.getD k [])) := rfl
            obtain ⟨nm, hnm⟩ : ∃ nm, strOf (NM.getD k []) = nm := ⟨_, rfl⟩
            rw [hnm] at p0
            have HR0 := HH.out.read 0 nm HJ.out rfl
            have HR1 := fun {W : World} {R : Nat → Prop} (hW : J W R [(p, ls8 X L), (q, ls8 X L)] []) => HH.out.read (w := W) 1 nm hW rfl
            generalize (ls8 X L).read nm.data.toList = ue at HR0 HR1
            obtain ⟨u, er⟩ := ue
            obtain ⟨lu, hlu⟩ : ∃ lu, u.length = lu := ⟨_, rfl⟩
            simp only [hlu] at HR0 HR1
            have HQ0 : Hid _ := HR0
            have HQ1 : Hid (∀ {W : World} {R : Nat → Prop}, J W R [(p, ls8 X L), (q, ls8 X L)] [] → _) := HR1
            have HNX : Hid (strOf (NM.getD k []) = nm) := hnm
            have hx1 : (0 : Int) ≤ (k : Int) := by omega
            have hx2 : (k : Int) < (kk : Int) := by omega
            clear HR0 HR1 hlu hc HNM hnm
            go_wp2_with fail
            refine Calls.mono HQ0.out ?_
            rintro e w5 ⟨a5, c5, rfl, hx, hj, hkp⟩
            have HX5 : Hid (OwnB w5 wr.heap.size a5 lu c5 u) := hx
            have HJ5 : Hid (J w5 _ [(p, ls8 X L), (q, ls8 X L)] []) := hj
            have HS5 : Hid (SsAt w5 (some ⟨b24, o24, none⟩) kk c24 NM) := HS.out.kept hkp (fun ad h => .inr ⟨ad, h, rfl⟩)
            have HB5 : Hid (Below w.heap.size w w5) := HB.out.trans (hkp.below (fun _ h => .inl h) HB.out.size)
            clear hx hj hkp p0 HQ0
            obtain ⟨b', o', he, hc⟩ := HS5.out.here (by omega)
            simp only [Option.some.injEq, Addr.mk.injEq, and_true] at he
            obtain ⟨rfl, rfl⟩ := he
            have p0 := hc k hlt
            rw [HNX.out] at p0
            clear hc
            go_wp2_with fail
            refine Calls.mono (HQ1.out HJ5.out) ?_
            rintro e w6 ⟨a6, c6, rfl, hx, hj, hkp⟩
            have hc5 := conv_of (HX5.out.kept hkp (fun _ h => .inr h)).bs
            have hc6 := conv_of hx.bs
            have HJ6 : Hid (J w6 (fun k => k < w.heap.size ∨ ∃ ad, some (⟨b24, o24, none⟩ : Addr) = some ad ∧ k = ad.block) [(p, ls8 X L), (q, ls8 X L)] []) := HH.out.less hj (fun _ h => .inl (.inl h))
            have HS6 : Hid (SsAt w6 (some ⟨b24, o24, none⟩) kk c24 NM) := HS5.out.kept hkp (fun ad h => .inl (.inr ⟨ad, h, rfl⟩))
            have HB6 : Hid (Below w.heap.size w w6) := HB5.out.trans (hkp.below (fun _ h => .inl (.inl h)) HB5.out.size)
            clear hx hj hkp p0 HX5 HJ5 HS5 HB5 HQ1
            go_wp2_with fail
            go_roundw
            case rel => exact ⟨k + 1, by omega, by go_num, HJ6.out, HS6.out, HB6.out⟩
            case measure => simp [intOf]; omega
          · go_wp2_with fail
            go_ret
            exact ⟨rfl, HB.out⟩
    · exact absurd ⟨by omega, by omega⟩ hn
end Go.Proofs.Ytfabgiapekfgcaa
