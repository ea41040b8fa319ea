/- The contract of the document's own Read: any bytes are read as the plain function walRead tells. -/
import Derived.Test.YtdhfimolgcnejaaR9Mem
import Derived.Test.YtdhfimolgcnejaaW9Back
import Derived.Deep.DeepCutAuto
namespace Go.Proofs.Ytdhfimolgcnejaa
open Go.RowKit

/-- Between two rounds. -/
def RefRel (w : World) (len : Nat) (b : List UInt8) (recs now bg size at_ : Value) (wr : World) : Prop :=
  ∃ (p M : Nat) (ra : Option Addr) (rc : Nat) (vs : List Value) (na : Option Addr) (nn nc : Nat) (g : Bool) (cur : List UInt8) (rs : List (List UInt8)) (sz rl : Nat),
    p ≤ len ∧ rl ≤ p ∧ recs = .slice ra rl rc ∧ now = .slice na nn nc ∧ bg = .bool g ∧ size = .int .i64 (sz : Int) ∧ at_ = .int .i64 (p : Int) ∧
    Hid (rs.length = rl) ∧ Hid (RdR w wr M ra rc vs rs) ∧ Hid (g = true → nn = cur.length ∧ OwnB wr M na nn nc cur) ∧ Hid (g = false → cur = []) ∧ Hid (cur.length ≤ p) ∧ Hid (rdL b (pcs b p) g cur rs sz = walRead b)
def refM (len : Nat) (at_ : Value) : Nat := len - (intOf at_).toNat
set_option maxRecDepth 100000 in
set_option maxHeartbeats 1000000 in
theorem rread_any (a : Option Addr) (len cap : Nat) (b : List UInt8) (w : World) (h : BsAt w a len cap b) (hl : len ≤ 2000000) :
    Calls Try.prog 13 #[.slice a len cap] w (RefEnd w b) := by
  have hle := h.le
  have HBS : Hid (BsAt w a len cap b) := h
  have HLN : Hid (b.length = len) := h.size
  clear h
  go_enter Try.func13, Try.ntmps13
  go_wp2
  go_loopw [5, 6, 7, 8, 9] (fun recs now bg size at_ wr => RefRel w len b recs now bg size at_ wr) (fun _ _ _ _ at_ _ => refM len at_)
  case atStart => exact ⟨0, w.heap.size, none, 0, [], none, 0, 0, false, [], [], 0, 0, Nat.zero_le _, Nat.le_refl _, rfl, rfl, rfl, rfl, rfl, rfl, RdR.start w, (fun h => by cases h), fun _ => rfl, Nat.zero_le _, rfl⟩
  case round =>
    obtain ⟨p, M, ra, rc, vs, na, nn, nc, g, cur, rs, sz, rl, hp, hrl, rfl, rfl, rfl, rfl, rfl, HRL, HM, HO, HC, HCL, HW⟩ := hrel
    obtain ⟨L, HL⟩ : ∃ L, Hid (leftN p = L) := ⟨_, rfl⟩
    have hL := leftN_pos p
    rw [HL.out] at hL
    obtain ⟨q, HQ⟩ : ∃ q, Hid (q = p + padN p) := ⟨_, rfl⟩
    obtain ⟨Lq, HLQ⟩ : ∃ Lq, Hid (leftN q = Lq) := ⟨_, rfl⟩
    have hq : p ≤ q ∧ q ≤ p + 6 := by
      have h1 := HQ.out
      have h2 := (room_pad p).2
      omega
    have hq7 : 7 ≤ Lq ∧ Lq ≤ 128 := by
      have h1 := (pad_left p).1
      have h2 := leftN_pos q
      rw [← HQ.out, HLQ.out] at h1
      rw [HLQ.out] at h2
      omega
    have HPQ : Hid (pcs b p = pcs b q) := by
      unfold Hid
      by_cases hlt : q < len
      · have := pad_pcs b p (by rw [HLN.out, ← HQ.out]; exact hlt)
        rw [← HQ.out] at this
        exact this
      · by_cases hp2 : p < len
        · have h7 : leftN p < 7 := by
            have h1 := HQ.out
            unfold padN at h1
            split at h1
            · assumption
            · omega
          have h1 := HQ.out
          unfold padN at h1
          rw [if_pos h7] at h1
          rw [pcs_skip b p (by rw [HLN.out]; exact hp2) h7, h1]
        · rw [pcs_end b p (by rw [HLN.out]; omega), pcs_end b q (by rw [HLN.out]; omega)]
    go_upto_if 23 with fail
    go_cut [9, 10] (fun s l wc => s = .int .i64 (q : Int) ∧ l = .int .i64 (Lq : Int) ∧ wc = wr)
    case first =>
      have e1 := HL.out
      have e2 := HQ.out
      have e3 := HLQ.out
      unfold leftN at e1 e3
      unfold padN leftN at e2
      by_cases h7 : 128 - (p : Int) % 128 < 7
      · have HE : Hid ((p : Int) + (128 - (p : Int) % 128) = (q : Int) ∧ (128 : Int) = (Lq : Int)) := by
          unfold Hid
          rw [if_pos (by omega)] at e2
          omega
        clear e1 e2 e3
        go_wp2_with fail
        go_meet
        exact ⟨by rw [← HE.out.1], by rw [← HE.out.2], rfl⟩
      · have HE : Hid ((p : Int) = (q : Int) ∧ 128 - (p : Int) % 128 = (Lq : Int)) := by
          unfold Hid
          rw [if_neg (by omega)] at e2
          omega
        have h7' : decide (128 - (p : Int) % 128 < 7) = false := by simpa using h7
        clear e1 e2 e3
        go_wp2_with fail
        go_meet
        exact ⟨by rw [← HE.out.1], by rw [← HE.out.2], rfl⟩
    case rest =>
      obtain ⟨rfl, rfl, rfl⟩ := hcut
      have HW2 : Hid (rdL b (pcs b q) g cur rs sz = walRead b) := by
        unfold Hid
        rw [← HPQ.out]
        exact HW.out
      by_cases hend : len ≤ q
      · have HWE : Hid (walRead b = (rs, sz, if g = true then 1 else 0)) := by
          unfold Hid
          rw [← HW2.out, pcs_end b q (by rw [HLN.out]; exact hend)]
          rfl
        cases g
        · go_wp2
          go_ret3
          exact HM.out.fin (f := 0) HWE.out (ret3 (by rw [HRL.out]; rfl) rfl rfl)
        · go_wp2
          go_ret3
          exact HM.out.fin (f := 1) HWE.out (ret3 (by rw [HRL.out]; rfl) rfl rfl)
      · have hend' : decide ((len : Int) ≤ (q : Int)) = false := by simp; omega
        have hql : q < len := by omega
        have HBD : Hid ((pcAt b q).fault ≠ 0 → walRead b = (rs, sz, (pcAt b q).fault)) := by
          intro hf
          rw [← HW2.out, pcs_bad b q (by rw [HLN.out]; exact hql) (by rw [HLQ.out]; omega) hf, rdL, if_pos hf]
        have HGD : Hid ((pcAt b q).fault = 0 → rdL b (pcAt b q :: pcs b (pcAt b q).behind) g cur rs sz = walRead b) := by
          intro hf
          rw [← HW2.out, pcs_good b q (by rw [HLN.out]; exact hql) (by rw [HLQ.out]; omega) hf]
        by_cases h7 : len - q < 7
        · have HE : Hid (pcAt b q = ⟨1, 0, 0, 0⟩) := by unfold pcAt Hid; rw [HLN.out, if_pos h7]
          have HWE : Hid (walRead b = (rs, sz, 1)) := by
            have := HBD.out (by rw [HE.out]; simp)
            rw [HE.out] at this
            exact this
          have h7i : (len : Int) - (q : Int) < 7 := by omega
          go_wp2
          go_ret3
          exact HM.out.fin (f := 1) HWE.out (ret3 (by rw [HRL.out]; rfl) rfl rfl)
        · have h7i : decide ((len : Int) - (q : Int) < 7) = false := by simp; omega
          obtain ⟨a1, hs1, hs1'⟩ := slice_any HBS.out q (by omega)
          obtain ⟨a2, hs2, hs2'⟩ := slice_any HBS.out (q + 4) (by omega)
          have hs2 : ∀ W : World, (Instr.slice 23 (.slice a len cap) (some (.int .i64 ((q : Int) + 4))) none none).run Try.prog W = .ok (.slice a2 (len - (q + 4)) (cap - (q + 4))) W := hs2
          have HB1 : Hid (BsAt wc a1 (len - q) (cap - q) (b.drop q)) := hs1' _ _ (HBS.out.below (Nat.le_refl _) HM.out.base)
          have HB2 : Hid (BsAt wc a2 (len - (q + 4)) (cap - (q + 4)) (b.drop (q + 4))) := hs2' _ _ (HBS.out.below (Nat.le_refl _) HM.out.base)
          obtain ⟨S, HS⟩ : ∃ S, Hid (leNat ((b.drop q).take 4) = S) := ⟨_, rfl⟩
          obtain ⟨N, HN⟩ : ∃ N, Hid (cntN b q = N) := ⟨_, rfl⟩
          have hN : N < 65536 := by
            have := leNat_take_lt (b.drop (q + 4)) 2 (by have := HLN.out; simp; omega)
            have e := HN.out
            unfold cntN at e
            rw [e] at this
            exact this
          have HFS : Hid (fxRead (b.drop q) 4 = (S, 0)) := by
            have := HLN.out
            unfold Hid fxRead
            rw [if_neg (by omega), if_neg (by simp; omega), ← HS.out]
            rfl
          have HFN : Hid (fxRead (b.drop (q + 4)) 2 = (N, 0)) := by
            have := HLN.out
            unfold Hid fxRead
            rw [if_neg (by omega), if_neg (by simp; omega), ← HN.out]
            rfl
          have hcv := conv_u64_int N (by omega)
          obtain ⟨bb, off, rfl, hcR⟩ := HBS.out.here (by omega)
          obtain ⟨i6, HI6, hi6⟩ : ∃ i6 : Nat, Hid (i6 = q + 6) ∧ (q : Int) + 6 = (i6 : Int) := ⟨q + 6, rfl, by omega⟩
          have hi6l : i6 < len := by have := HI6.out; omega
          obtain ⟨k, HK⟩ : ∃ k, Hid (b.getD (q + 6) 0 = k) := ⟨_, rfl⟩
          have hc6 : wc.cell? ⟨bb, off + i6, none⟩ = some (.int .u8 (k.toNat : Int)) := by
            have := hcR i6 hi6l
            rw [HI6.out, HK.out] at this
            rw [HI6.out, HM.out.base.cell (World.block_lt_of_cell? w _ this)]
            exact this
          have hk8 : k.toNat < 256 := UInt8.toNat_lt k
          clear hs1' hs2' hcR h7
          go_wp2_with fail
          refine (rfixed_eq HB1.out HFS.out).mono ?_
          rintro e w1 ⟨rfl, rfl⟩
          go_wp2_with fail
          refine (rfixed_eq HB2.out HFN.out).mono ?_
          rintro e w2 ⟨rfl, rfl⟩
          by_cases hc2 : Lq < 7 + N
          · have HE : Hid (pcAt b q = ⟨2, 0, 0, 0⟩) := by
              unfold pcAt Hid
              rw [HLN.out, HN.out, HLQ.out, if_neg (by omega), if_pos hc2]
            have HWE : Hid (walRead b = (rs, sz, 2)) := by
              have := HBD.out (by rw [HE.out]; simp)
              rw [HE.out] at this
              exact this
            have hc2i : (Lq : Int) - 7 < (N : Int) := by omega
            go_wp2
            go_ret3
            exact HM.out.fin (f := 2) HWE.out (ret3 (by rw [HRL.out]; rfl) rfl rfl)
          · have hc2i : decide ((Lq : Int) - 7 < (N : Int)) = false := by simp; omega
            obtain ⟨E, HE, hE⟩ : ∃ E : Nat, Hid (E = q + 7 + N) ∧ (q : Int) + 7 + (N : Int) = (E : Int) := ⟨q + 7 + N, rfl, by omega⟩
            have hE1 : E ≤ q + 128 := by have := HE.out; omega
            by_cases hc3 : len < E
            · have HEE : Hid (pcAt b q = ⟨1, 0, 0, 0⟩) := by
                have := HE.out
                unfold pcAt Hid
                rw [HLN.out, HN.out, HLQ.out, if_neg (by omega), if_neg hc2, if_pos (by omega)]
              have HWE : Hid (walRead b = (rs, sz, 1)) := by
                have := HBD.out (by rw [HEE.out]; simp)
                rw [HEE.out] at this
                exact this
              go_wp2
              go_ret3
              exact HM.out.fin (f := 1) HWE.out (ret3 (by rw [HRL.out]; rfl) rfl rfl)
            · have hc3i : decide ((len : Int) < (E : Int)) = false := by simp; omega
              have hqE : q + 7 ≤ E := by have := HE.out; omega
              obtain ⟨a5, hs5, hs5'⟩ := slice_mid HBS.out (q + 7) E hqE (by omega)
              rw [show E - (q + 7) = N by have := HE.out; omega] at hs5 hs5'
              have hs5 : ∀ W : World, (Instr.slice 23 (.slice (some ⟨bb, off, none⟩) len cap) (some (.int .i64 ((q : Int) + 7))) (some (.int .i64 (E : Int))) none).run Try.prog W = .ok (.slice a5 N (cap - (q + 7))) W := hs5
              obtain ⟨D, HD⟩ : ∃ D, Hid ((b.drop (q + 7)).take N = D) := ⟨_, rfl⟩
              have HBD5 : Hid (BsAt w2 a5 N (cap - (q + 7)) D) := by
                have := hs5' _ _ (HBS.out.below (Nat.le_refl _) HM.out.base)
                rw [HD.out] at this
                exact this
              obtain ⟨c5, HC5⟩ : ∃ c5, Hid (cap - (q + 7) = c5) := ⟨_, rfl⟩
              rw [HC5.out] at hs5 HBD5
              have HCR : Hid (crc (k :: D) < 4294967296) := crc_lt _
              clear hs5'
              go_upto_region 23 with fail
              have hbig : 1 + N ≤ 140737488355328 := by omega
              have HX := OwnB.oneLit w2 _ k rfl w2.heap.size (Nat.le_refl _)
              have HY := HBD5.out.alloc (.cells #[.int .u8 (k.toNat : Int)] 5)
              go_wp2_with (at_builtin; refine wpList_app _ rfl _ _ rfl w2.heap.size _ 1 1 [k] rfl HX _ _ _ D rfl HY hbig (by simp) ?_)
              clear HX HY
              intro a6 c6 w3 ho3 hb3 _
              have hb3 : Below w2.heap.size w2 w3 := ((Below.refl _ _).alloc (Nat.le_refl _) _).trans hb3
              have HO3 : Hid (BsAt w3 a6 (1 + N) c6 (k :: D)) := ho3.bs
              have HM3 : Hid (RdR w w3 M ra rc vs rs) := HM.out.below hb3
              have HBD3 : Hid (BsAt w3 a5 N c5 D) := HBD5.out.below (Nat.le_refl _) hb3
              have HOW3 : Hid (g = true → nn = cur.length ∧ OwnB w3 M na nn nc cur) := fun hg => ⟨(HO.out hg).1, (HO.out hg).2.below hb3⟩
              clear ho3 hb3 HM HO HBD5 HB1 HB2 hc6
              go_wp2_with fail
              refine (rcrc_any _ _ _ (k :: D) _ HO3.out).mono ?_
              rintro e w4 ⟨rfl, rfl⟩
              go_wp2_with fail
              refine (rmask_any _ _ HCR.out).mono ?_
              rintro e w5 ⟨rfl, rfl⟩
              have hmlt := maskN_lt (crc (k :: D))
              have hcvm := wrap_u64 _ hmlt
              generalize hmm : maskN (crc (k :: D)) = m at hmlt hcvm ⊢
              have HMM : Hid (sumN k D = m) := hmm
              clear hmm
              have HPC : Hid (pcAt b q = if S ≠ m then (if 7 + N = len - q then ⟨1, 0, 0, 0⟩ else ⟨2, 0, 0, 0⟩) else if k.toNat < 1 ∨ 4 < k.toNat then ⟨2, 0, 0, 0⟩ else ⟨0, k, q + 7, N⟩) := by
                have := HE.out
                unfold pcAt Hid
                rw [HLN.out, HN.out, HLQ.out, if_neg (by omega), if_neg hc2, if_neg (by omega), HS.out, HK.out, HD.out, HMM.out]
              by_cases hc4 : m = S
              · have hne : ((m : Int) != (S : Int)) = false := by rw [hc4]; simp
                have HP2 : Hid (pcAt b q = if k.toNat < 1 ∨ 4 < k.toNat then ⟨2, 0, 0, 0⟩ else ⟨0, k, q + 7, N⟩) := by
                  have := HPC.out
                  rw [if_neg (by simp [hc4])] at this
                  exact this
                clear hc4
                by_cases hk14 : k.toNat < 1 ∨ 4 < k.toNat
                · have HWE : Hid (walRead b = (rs, sz, 2)) := by
                    have h1 := HP2.out
                    rw [if_pos hk14] at h1
                    have := HBD.out (by rw [h1]; simp)
                    rw [h1] at this
                    exact this
                  rcases hk14 with hk14 | hk14
                  · have hk1 : decide ((k.toNat : Int) < 1) = true := by simp; omega
                    clear hk14
                    go_wp2
                    go_ret3
                    exact HM3.out.fin (f := 2) HWE.out (ret3 (by rw [HRL.out]; rfl) rfl rfl)
                  · have hk1 : decide ((k.toNat : Int) < 1) = false := by simp; omega
                    have hk4 : decide (4 < (k.toNat : Int)) = true := by simp; omega
                    clear hk14
                    go_wp2
                    go_ret3
                    exact HM3.out.fin (f := 2) HWE.out (ret3 (by rw [HRL.out]; rfl) rfl rfl)
                · have hk1 : decide ((k.toNat : Int) < 1) = false := by simp; omega
                  have hk4 : decide (4 < (k.toNat : Int)) = false := by simp; omega
                  have HP3 : Hid (pcAt b q = ⟨0, k, q + 7, N⟩) := by
                    have := HP2.out
                    rw [if_neg hk14] at this
                    exact this
                  have HG3 : Hid (rdL b (⟨0, k, q + 7, N⟩ :: pcs b E) g cur rs sz = walRead b) := by
                    have := HGD.out (by rw [HP3.out])
                    rw [HP3.out] at this
                    have e : Pc.behind ⟨0, k, q + 7, N⟩ = E := by have := HE.out; unfold Pc.behind; simp only; omega
                    rw [e] at this
                    exact this
                  have HBDY : Hid (Pc.body b ⟨0, k, q + 7, N⟩ = D) := HD.out
                  have HKK : Hid (1 ≤ k.toNat ∧ k.toNat ≤ 4) := by unfold Hid; omega
                  clear hk14 HPC HP2
                  obtain ⟨t, ht, HT⟩ : ∃ t : Bool, decide ((k.toNat : Int) < 3) = t ∧ Hid (decide (k.toNat < 3) = t) := ⟨_, rfl, by unfold Hid; simp; omega⟩
                  by_cases hkb : t = g
                  · have HWE : Hid (walRead b = (rs, sz, 2)) := by
                      unfold Hid
                      rw [← HG3.out, rdL, if_neg (by simp), if_pos (by rw [← hkb]; exact HT.out)]
                    have hbe : (t == g) = true := by rw [hkb]; simp
                    clear hkb
                    go_wp2
                    go_ret3
                    exact HM3.out.fin (f := 2) HWE.out (ret3 (by rw [HRL.out]; rfl) rfl rfl)
                  · have HDL : Hid (D.length = N) := HBD3.out.size
                    have hpE : p + 7 ≤ E := by omega
                    have hN1 : N ≤ 140737488355328 := by omega
                    cases g
                    · obtain rfl : t = true := by simpa using hkb
                      obtain rfl : cur = [] := HC.out (by trivial)
                      have hk3 : k.toNat < 3 := of_decide_eq_true HT.out
                      by_cases hk2 : k.toNat = 2
                      · have e2 : ((k.toNat : Int) == 2) = true := by simp; omega
                        have HRR : Hid (rdL b (pcs b E) true D rs sz = walRead b) := by
                          have := HG3.out
                          rw [rdL, if_neg (by simp), if_neg (by rw [HT.out]; simp), if_neg (by simp only; omega), HBDY.out, List.nil_append] at this
                          exact this
                        clear hk2 hk3
                        go_wp2_with (at_builtin; refine wpList_appNil w5 rfl _ _ rfl rfl _ _ _ D rfl HBD3.out hN1 ?_; intro a7 c7 w6 ho6 hb6)
                        have HO6 : Hid (OwnB w6 w5.heap.size a7 N c7 D) := ho6
                        have HM6 : Hid (RdR w w6 w5.heap.size ra rc vs rs) := (HM3.out.up HM3.out.high (Nat.le_refl _)).below hb6
                        clear ho6 hb6
                        go_wp2
                        go_roundw
                        case rel =>
                          exact ⟨E, w5.heap.size, ra, rc, vs, a7, N, c7, true, D, rs, sz, rl, by omega, by omega, rfl, rfl, rfl, rfl, rfl, HRL.out, HM6.out, fun _ => ⟨HDL.out.symm, HO6.out⟩, (fun h => by cases h), by have := HDL.out; have := HE.out; unfold Hid; omega, HRR.out⟩
                        case measure => simp [refM, intOf]; omega
                      · have e2 : ((k.toNat : Int) == 2) = false := by simp; omega
                        have e3 : ((k.toNat : Int) == 3) = false := by simp; omega
                        have HRR : Hid (rdL b (pcs b E) false [] (rs ++ [D]) E = walRead b) := by
                          have := HG3.out
                          have e : Pc.behind ⟨0, k, q + 7, N⟩ = E := by have := HE.out; unfold Pc.behind; simp only; omega
                          rw [rdL, if_neg (by simp), if_neg (by rw [HT.out]; simp), if_pos (by have := HKK.out; simp only; omega), HBDY.out, List.nil_append, e] at this
                          exact this
                        clear hk2 hk3
                        have hrl1 : rl + 1 ≤ 5000000000000 := by omega
                        go_wp2_with (first
                          | (at_builtin; refine wpList_appNil w5 rfl _ _ rfl rfl _ _ _ D rfl HBD3.out hN1 ?_; intro a7 c7 w6 ho6 hb6
                             have HM6 : Hid (RdR w w6 M ra rc vs rs) := HM3.out.below hb6)
                          | (at_builtin; refine wpList_app0 w6 rfl _ _ rfl rfl _ _ _ D rfl ho6.bs hN1 ?_; intro a8 c8 w7 ho7 hb7
                             have HM7 : Hid (RdR w w7 M ra rc vs rs) := HM6.out.below hb7
                             have HO7 : Hid (OwnB w7 w.heap.size a8 N c8 D) := ho7.mono HM6.out.base.size
                             have HRW : Hid (w7.ownsRow w.heap.size TBs 1 (.slice ra rl rc) rl vs) := by
                               have := HM7.out.row
                               rw [HRL.out] at this
                               exact this)
                          | (at_builtin; refine wpList_push9 w7 rfl _ _ rfl w.heap.size ra rl rc vs rfl HRW.out (.slice a8 N c8) rfl (by simp [Act.eval]) hrl1 HM7.out.base.size ?_; intro a9 c9 w8 hr8 hg8))
                        have HM8 : Hid (RdR w w8 w8.heap.size a9 c9 (vs ++ [.slice a8 D.length c8]) (rs ++ [D])) := by
                          refine HM7.out.pushed (by rw [HDL.out]; exact HO7.out) (by rw [HRL.out]) ?_ hg8
                          rw [HDL.out]
                          exact hr8
                        clear ho6 hb6 ho7 hb7 hr8 hg8
                        go_wp2
                        go_roundw
                        case rel =>
                          exact ⟨E, w8.heap.size, a9, c9, _, a7, N, c7, false, [], rs ++ [D], E, rl + 1, by omega, by omega, rfl, rfl, rfl, rfl, rfl, by unfold Hid; rw [List.length_append, HRL.out]; rfl, HM8.out, (fun h => by cases h), fun _ => rfl, Nat.zero_le _, HRR.out⟩
                        case measure => simp [refM, intOf]; omega
                    · obtain rfl : t = false := by simpa using hkb
                      have hk3 : ¬ k.toNat < 3 := of_decide_eq_false HT.out
                      obtain ⟨hnn, hown⟩ := HOW3.out (by trivial)
                      have HOW : Hid (OwnB w5 M na nn nc cur) := hown
                      obtain ⟨m2, HM2⟩ : ∃ m2, Hid (nn + N = m2) := ⟨_, rfl⟩
                      have HCD : Hid ((cur ++ D).length = m2) := by
                        have := HM2.out
                        unfold Hid
                        rw [List.length_append, HDL.out, ← hnn, this]
                      have hm2 : m2 ≤ E := by
                        have h1 := HM2.out
                        have h2 := HCL.out
                        have h3 := HE.out
                        omega
                      clear hown hnn
                      by_cases hk4' : k.toNat = 3
                      · have e2 : ((k.toNat : Int) == 2) = false := by simp; omega
                        have e3 : ((k.toNat : Int) == 3) = true := by simp; omega
                        have HRR : Hid (rdL b (pcs b E) true (cur ++ D) rs sz = walRead b) := by
                          have := HG3.out
                          rw [rdL, if_neg (by simp), if_neg (by rw [HT.out]; simp), if_neg (by simp only; omega), HBDY.out] at this
                          exact this
                        clear hk4' hk3
                        go_wp2_with (at_builtin; refine wpList_appG w5 rfl _ _ rfl M na nn nc cur rfl HOW.out _ _ _ D rfl HBD3.out m2 HM2.out (by omega) HM3.out.high ?_; intro a7 c7 w6 ho6 hg6)
                        have HO6 : Hid (OwnB w6 M a7 m2 c7 (cur ++ D)) := ho6
                        have HM6 : Hid (RdR w w6 M ra rc vs rs) := HM3.out.grown HOW.out hg6
                        clear ho6 hg6
                        go_wp2
                        go_roundw
                        case rel =>
                          exact ⟨E, M, ra, rc, vs, a7, m2, c7, true, cur ++ D, rs, sz, rl, by omega, by omega, rfl, rfl, rfl, rfl, rfl, HRL.out, HM6.out, fun _ => ⟨HCD.out.symm, HO6.out⟩, (fun h => by cases h), by unfold Hid; rw [HCD.out]; exact hm2, HRR.out⟩
                        case measure => simp [refM, intOf]; omega
                      · have e2 : ((k.toNat : Int) == 2) = false := by simp; omega
                        have e3 : ((k.toNat : Int) == 3) = false := by simp; omega
                        have HRR : Hid (rdL b (pcs b E) false [] (rs ++ [cur ++ D]) E = walRead b) := by
                          have := HG3.out
                          have e : Pc.behind ⟨0, k, q + 7, N⟩ = E := by have := HE.out; unfold Pc.behind; simp only; omega
                          rw [rdL, if_neg (by simp), if_neg (by rw [HT.out]; simp), if_pos (by have := HKK.out; simp only; omega), HBDY.out, e] at this
                          exact this
                        clear hk4' hk3
                        have hrl1 : rl + 1 ≤ 5000000000000 := by omega
                        have hm21 : m2 ≤ 140737488355328 := by omega
                        go_wp2_with (first
                          | (at_builtin; refine wpList_appG w5 rfl _ _ rfl M na nn nc cur rfl HOW.out _ _ _ D rfl HBD3.out m2 HM2.out hm21 HM3.out.high ?_; intro a7 c7 w6 ho6 hg6
                             have HM6 : Hid (RdR w w6 M ra rc vs rs) := HM3.out.grown HOW.out hg6)
                          | (at_builtin; refine wpList_app0 w6 rfl _ _ rfl rfl _ _ _ (cur ++ D) rfl ho6.bs hm21 ?_; intro a8 c8 w7 ho7 hb7
                             have HM7 : Hid (RdR w w7 M ra rc vs rs) := HM6.out.below hb7
                             have HO7 : Hid (OwnB w7 w.heap.size a8 m2 c8 (cur ++ D)) := ho7.mono HM6.out.base.size
                             have HRW : Hid (w7.ownsRow w.heap.size TBs 1 (.slice ra rl rc) rl vs) := by
                               have := HM7.out.row
                               rw [HRL.out] at this
                               exact this)
                          | (at_builtin; refine wpList_push9 w7 rfl _ _ rfl w.heap.size ra rl rc vs rfl HRW.out (.slice a8 m2 c8) rfl (by simp [Act.eval]) hrl1 HM7.out.base.size ?_; intro a9 c9 w8 hr8 hg8))
                        have HM8 : Hid (RdR w w8 w8.heap.size a9 c9 (vs ++ [.slice a8 (cur ++ D).length c8]) (rs ++ [cur ++ D])) := by
                          refine HM7.out.pushed (by rw [HCD.out]; exact HO7.out) (by rw [HRL.out]) ?_ hg8
                          rw [HCD.out]
                          exact hr8
                        clear ho6 hg6 ho7 hb7 hr8 hg8
                        go_wp2
                        go_roundw
                        case rel =>
                          exact ⟨E, w8.heap.size, a9, c9, _, a7, m2, c7, false, [], rs ++ [cur ++ D], E, rl + 1, by omega, by omega, rfl, rfl, rfl, rfl, rfl, by unfold Hid; rw [List.length_append, HRL.out]; rfl, HM8.out, (fun h => by cases h), fun _ => rfl, Nat.zero_le _, HRR.out⟩
                        case measure => simp [refM, intOf]; omega
              · have hne : ((m : Int) != (S : Int)) = true := by simp; omega
                by_cases hc5 : E = len
                · have HWE : Hid (walRead b = (rs, sz, 1)) := by
                    have h1 := HPC.out
                    have := HE.out
                    rw [if_pos (fun e => hc4 e.symm), if_pos (by omega)] at h1
                    have := HBD.out (by rw [h1]; simp)
                    rw [h1] at this
                    exact this
                  have hb5 : ((E : Int) == (len : Int)) = true := by rw [hc5]; simp
                  clear hc5
                  go_wp2
                  go_ret3
                  exact HM3.out.fin (f := 1) HWE.out (ret3 (by rw [HRL.out]; rfl) rfl rfl)
                · have HWE : Hid (walRead b = (rs, sz, 2)) := by
                    have h1 := HPC.out
                    have := HE.out
                    rw [if_pos (fun e => hc4 e.symm), if_neg (by omega)] at h1
                    have := HBD.out (by rw [h1]; simp)
                    rw [h1] at this
                    exact this
                  have hb5 : ((E : Int) == (len : Int)) = false := by simp; omega
                  clear hc5
                  go_wp2
                  go_ret3
                  exact HM3.out.fin (f := 2) HWE.out (ret3 (by rw [HRL.out]; rfl) rfl rfl)
end Go.Proofs.Ytdhfimolgcnejaa
