/- staddlelaw04.Alike returns true where both file systems are alike: out of what they promise. -/
import Derived.Test.YtkelahekfkhcfaaRfFace
import Derived.Test.YtkelahekfkhcfaaSameN
import Derived.Deep.RegionHeld3
namespace Go.Proofs.Ytkelahekfkhcfaa
open Go.RowKit
set_option maxRecDepth 100000 in
set_option maxHeartbeats 4000000 in
theorem alike_any {J : Face} (h : FsOk J) (g : RfOk J) {w : World} {R : Nat → Prop} {l r : Fss} {p q : Nat} {S : PFs} (i j : Nat) (hj : J w R l r) (hl : l[i]? = some (p, S)) (hr : r[j]? = some (q, S)) :
    Calls Try.prog 13 #[at_ p, at_ q] w fun e w' => e = .returned (.bool true) ∧ J w' R l r ∧ Kp R w w' := by
  have HH : Hid (FsOk J) := h
  have HG : Hid (RfOk J) := g
  have HL : Hid (l[i]? = some (p, S)) := hl
  have HR : Hid (r[j]? = some (q, S)) := hr
  have HJ : Hid (J w R l r) := hj
  obtain ⟨NM, er, hNM⟩ : ∃ NM er, S.list = (NM, er) := ⟨_, _, rfl⟩
  obtain ⟨kk, hkk⟩ : ∃ kk, NM.length = kk := ⟨_, rfl⟩
  have HLS : Hid (S.list = (NM, er)) := hNM
  have HKK : Hid (NM.length = kk) := hkk
  obtain ⟨ak, hak⟩ : ∃ ak, S.asked = ak := ⟨_, rfl⟩
  have HAK : Hid (S.asked = ak) := hak
  clear h g hl hr hj hNM hkk hak
  go_enter Try.func13, Try.ntmps13
  go_wp2_with fail
  have HQ := HH.out.list i HJ.out HL.out
  rw [HLS.out] at HQ
  simp only [HKK.out] at HQ
  refine HQ.mono ?_
  clear HQ
  rintro e v1 ⟨a1, c1, rfl, hs, _, hj, hk⟩
  have HJ : Hid (J v1 (fun k => R k ∨ ∃ ad, a1 = some ad ∧ k = ad.block) l r) := hj
  have HS1 : Hid (SsAt v1 a1 kk c1 NM) := hs
  have HP : Hid (Kp R w v1) := hk
  clear hj hs hk
  go_wp2_with fail
  have HQ := HG.out.list j HJ.out HR.out
  rw [HLS.out] at HQ
  simp only [HKK.out] at HQ
  refine HQ.mono ?_
  clear HQ
  rintro e v2 ⟨a2, c2, rfl, hs, _, hj, hk⟩
  have HS1 : Hid (SsAt v2 a1 kk c1 NM) := HS1.out.kept hk (fun ad h => .inr ⟨ad, h, rfl⟩)
  have HJ : Hid (J v2 (fun k => R k ∨ ∃ ad, a2 = some ad ∧ k = ad.block) l r) := HH.out.less hj (fun _ h => h.elim (fun h => .inl (.inl h)) .inr)
  have HS2 : Hid (SsAt v2 a2 kk c2 NM) := hs
  have HP : Hid (Kp R w v2) := HP.out.trans hk (fun _ h => .inl h)
  clear hj hs hk
  go_wp2_with fail
  refine (sameNames_any _ _ _ _ _ _ NM NM _ HS1.out HS2.out).mono ?_
  rw [show (NM == NM) = true by simp]
  rintro e v3 ⟨rfl, hb⟩
  have HJ : Hid (J v3.drew (fun k => R k ∨ ∃ ad, a2 = some ad ∧ k = ad.block) l r) := HH.out.step HJ.out hb.drew
  have HS2 : Hid (SsAt v3.drew a2 kk c2 NM) := HS2.out.below (Nat.le_refl _) hb.drew
  have HP : Hid (Kp R w v3.drew) := HP.out.trans (Kp.of (R := R) hb.drew) (fun _ h => h)
  have hkm := HS2.out.max
  have hkl := HS2.out.le
  unfold maxLen at hkm
  clear hb HS1
  have c9 := HG.out.asked j HJ.out HR.out
  rw [HAK.out] at c9
  go_wp2_with fail
  go_region_held3 (fun w' => w'.cell? ⟨q, 9, none⟩ = some (.int .i64 (ak : Nat))) (first | exact c9 | go_keep)
    (first
     | (go_at_call 29; refine (HH.out.ops i HJ.out HL.out).mono ?_; rw [HAK.out]; rintro e vx ⟨rfl, hj, hk⟩
        have HJ : Hid (J vx (fun k => R k ∨ ∃ ad, a2 = some ad ∧ k = ad.block) l r) := hj
        have HS2 : Hid (SsAt vx a2 kk c2 NM) := HS2.out.kept hk (fun ad h => .inr ⟨ad, h, rfl⟩)
        have HP : Hid (Kp R w vx) := HP.out.trans hk (fun _ h => .inl h)
        clear hj hk
        have c9 := HG.out.asked j HJ.out HR.out
        rw [HAK.out] at c9))
  go_wp2_with fail
  go_loopw [10] (fun si wr => ∃ k : Nat, k ≤ kk ∧ si = .int .i64 k ∧ Hid (J wr (fun k => R k ∨ ∃ ad, a2 = some ad ∧ k = ad.block) l r) ∧ Hid (SsAt wr a2 kk c2 NM) ∧ Hid (Kp R w wr)) (fun i _ => kk - (intOf i).toNat)
  case atStart => exact ⟨0, Nat.zero_le _, rfl, HJ.out, HS2.out, HP.out⟩
  case round =>
    obtain ⟨k, hk, rfl, HJ, HS, HP⟩ := hrel
    by_cases hlt : k < kk
    · obtain ⟨b2, o2, rfl, hc⟩ := HS.out.here (by omega)
      have p0 := hc k hlt
      obtain ⟨nm, hnm⟩ : ∃ nm, strOf (NM.getD k []) = nm := ⟨_, rfl⟩
      rw [hnm] at p0
      have HR0 := HH.out.read i nm HJ.out HL.out
      have HR1 := fun {W : World} {R' : Nat → Prop} (hW : J W R' l r) => HG.out.read (w := W) j nm hW HR.out
      generalize S.read nm.data.toList = ue at HR0 HR1
      obtain ⟨u, eu⟩ := ue
      obtain ⟨lu, hlu⟩ : ∃ lu, u.length = lu := ⟨_, rfl⟩
      simp only [hlu] at HR0 HR1
      have HQ0 : Hid _ := HR0
      have HQ1 : Hid (∀ {W : World} {R' : Nat → Prop}, J W R' l r → _) := HR1
      have HNX : Hid (strOf (NM.getD k []) = nm) := hnm
      have hx1 : (0 : Int) ≤ (k : Int) := by omega
      have hx2 : (k : Int) < (kk : Int) := by omega
      clear HR0 HR1 hlu hc hnm
      go_wp2_with fail
      refine Calls.mono HQ0.out ?_
      rintro e w5 ⟨a5, c5, rfl, hx, hj, hkp⟩
      have HX5 : Hid (OwnB w5 wr.heap.size a5 lu c5 u) := hx
      have HJ5 : Hid (J w5 _ l r) := hj
      have HS5 : Hid (SsAt w5 (some ⟨b2, o2, none⟩) kk c2 NM) := HS.out.kept hkp (fun ad h => .inr ⟨ad, h, rfl⟩)
      have HP5 : Hid (Kp R w w5) := HP.out.trans hkp (fun _ h => .inl h)
      clear hx hj hkp p0 HQ0
      obtain ⟨b', o', he, hc⟩ := HS5.out.here (by omega)
      simp only [Option.some.injEq, Addr.mk.injEq, and_true] at he
      obtain ⟨rfl, rfl⟩ := he
      have p0 := hc k hlt
      rw [HNX.out] at p0
      clear hc
      go_wp2_with fail
      refine Calls.mono (HQ1.out HJ5.out) ?_
      rintro e w6 ⟨a6, c6, rfl, hx, hj, hkp⟩
      have hc5 := conv_of (HX5.out.kept hkp (fun _ h => .inr h)).bs
      have hc6 := conv_of hx
      have HJ6 : Hid (J w6 (fun k => R k ∨ ∃ ad, some (⟨b2, o2, none⟩ : Addr) = some ad ∧ k = ad.block) l r) := HH.out.less hj (fun _ h => .inl h)
      have HS6 : Hid (SsAt w6 (some ⟨b2, o2, none⟩) kk c2 NM) := HS5.out.kept hkp (fun ad h => .inl (.inr ⟨ad, h, rfl⟩))
      have HP6 : Hid (Kp R w w6) := HP5.out.trans hkp (fun _ h => .inl (.inl h))
      clear hx hj hkp p0 HX5 HJ5 HS5 HP5 HQ1
      go_wp2_with fail
      go_roundw
      case rel => exact ⟨k + 1, by omega, by go_num, HJ6.out, HS6.out, HP6.out⟩
      case measure => simp [intOf]; omega
    · go_wp2_with fail
      go_ret
      exact ⟨rfl, HH.out.less HJ.out (fun _ h => .inl h), HP.out⟩
end Go.Proofs.Ytkelahekfkhcfaa
