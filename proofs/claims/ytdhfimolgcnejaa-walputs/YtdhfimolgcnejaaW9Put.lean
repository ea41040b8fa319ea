/- The contract of wal.Put: what it lays, in new memory; or its error. -/
import Derived.Test.YtdhfimolgcnejaaW9Pc
import Derived.Test.YtdhfimolgcnejaaW9Sl
import Derived.Deep.RegionHeld3
import Derived.Deep.DeepCutAuto
namespace Go.Proofs.Ytdhfimolgcnejaa
open Go.RowKit

theorem left_eq (x : Int) (p : Nat) (w : World) (hx : x = (p : Int)) (hp : p ≤ 9223372036854775807) : Calls Try.prog 16 #[.int .i64 x] w fun e w' => e = .returned (.int .i64 (leftN p : Nat)) ∧ w' = w := by
  subst hx
  exact left_any p w hp
theorem left_at (x : Int) (p L : Nat) (w : World) (hx : x = (p : Int)) (hp : p ≤ 9223372036854775807) (hL : leftN p = L) : Calls Try.prog 16 #[.int .i64 x] w fun e w' => e = .returned (.int .i64 (L : Nat)) ∧ w' = w := by
  subst hL
  exact left_eq x p w hx hp
theorem min_at (x n : Nat) (y : Int) (h : (n : Int) = min (x : Int) y) : ∀ W : World, (Builtin.min_ #[3, 3] 3 #[.int .i64 (x : Int), .int .i64 y]).run Try.prog W = .ok (.int .i64 (n : Int)) W := by
  intro W
  rw [run_min_int2]
  by_cases hx : y < x
  · rw [if_pos hx, show (n : Int) = y by omega]
  · rw [if_neg hx, show (n : Int) = x by omega]
theorem pieceBytes_eq (x : Int) (k : UInt8) (hx : x = (k.toNat : Int)) (a : Option Addr) (len cap : Nat) (b : List UInt8) (w : World) (h : BsAt w a len cap b) (hl : len ≤ 140737488355000) :
    Calls Try.prog 17 #[.int .u8 x, .slice a len cap] w fun e w' => ∃ a' c', e = .returned (.slice a' (7 + len) c') ∧ OwnB w' w.heap.size a' (7 + len) c' (pcEnc k b) ∧ Below w.heap.size w w' := by
  subst hx
  exact pieceBytes_any k a len cap b w h hl
def lenV : Value → Nat
  | .slice _ n _ => n
  | _ => 0
def boolV : Value → Bool
  | .bool b => b
  | _ => false
theorem OwnB.nilAt (w : World) (B : Nat) : OwnB w B none 0 0 [] := ⟨rfl, World.ownsRow_nil _ _ _ _⟩
set_option maxHeartbeats 400000 in
theorem put_neg (x : Int) (a : Option Addr) (len cap : Nat) (w : World) (hx : x < 0) :
    Calls Try.prog 10 #[.int .i64 x, .slice a len cap] w fun e w' => e = .returned (.tuple #[.slice none 0 0, .int .i64 1]) ∧ w' = w := by
  go_enter Try.func10, Try.ntmps10
  go_wp2
  go_ret2
  exact ⟨rfl, rfl⟩
set_option maxHeartbeats 400000 in
theorem put_great (x : Int) (a : Option Addr) (len cap : Nat) (w : World) (hx : 0 ≤ x) (hl : 131072 < len) :
    Calls Try.prog 10 #[.int .i64 x, .slice a len cap] w fun e w' => e = .returned (.tuple #[.slice none 0 0, .int .i64 90]) ∧ w' = w := by
  go_enter Try.func10, Try.ntmps10
  go_wp2
  go_ret2
  exact ⟨rfl, rfl⟩

def PutRel (w : World) (q : Nat) (b : List UInt8) (out rest fst : Value) (wr : World) : Prop :=
  ∃ (a3 ar : Option Addr) (c3 lo lr cr : Nat) (o r : List UInt8) (f : Bool), out = .slice a3 lo c3 ∧ rest = .slice ar lr cr ∧ fst = .bool f ∧ lo ≤ 139000 ∧ lr ≤ 131072 ∧ Hid (OwnB wr w.heap.size a3 lo c3 o) ∧ Hid (BsAt w ar lr cr r) ∧ Hid (Below w.heap.size w wr) ∧ Hid (o ++ putP (q + lo) f r = putP q true b) ∧ Hid (f = true → a3 = none ∧ lo = 0 ∧ c3 = 0) ∧ Hid (f = false → (q + lo) % 128 = 0 ∨ r = [])
def putM (q : Nat) (out rest fst : Value) : Nat := 2 * lenV rest + (if roomN (q + lenV out) = 0 then 1 else 0) + (if boolV fst = true then 2 else 0)
set_option maxRecDepth 100000 in
set_option maxHeartbeats 1000000 in
theorem put_at (p : Nat) (a : Option Addr) (len cap : Nat) (b : List UInt8) (w : World) (h : BsAt w a len cap b) (hp : p ≤ 9223372036854775807) (hl : len ≤ 131072) :
    Calls Try.prog 10 #[.int .i64 (p : Int), .slice a len cap] w fun e w' => ∃ a' c', e = .returned (.tuple #[.slice a' (putP p true b).length c', .int .i64 0]) ∧ OwnB w' w.heap.size a' (putP p true b).length c' (putP p true b) ∧ Below w.heap.size w w' := by
  obtain ⟨q, hq, HQI, HQ⟩ : ∃ q : Nat, q < 128 ∧ Hid ((p : Int) % 128 = (q : Int)) ∧ Hid (putP p true b = putP q true b) := ⟨p % 128, by omega, by unfold Hid; omega, put_mod p true b _ (by omega)⟩
  have HT : Hid ((putP q true b).length ≤ 139000) := by
    have h1 := put_short q b
    have h2 := h.size
    unfold Hid
    omega
  rw [HQ.out]
  have HBS : Hid (BsAt w a len cap b) := h
  clear HQ h
  go_enter Try.func10, Try.ntmps10
  go_wp2
  go_loopw [6, 7, 8] (fun out rest fst wr => PutRel w q b out rest fst wr) (fun out rest fst _ => putM q out rest fst)
  case atStart => exact ⟨none, a, 0, 0, len, cap, [], b, true, rfl, rfl, rfl, by omega, hl, OwnB.nilAt _ _, HBS.out, Below.refl _ _, rfl, fun _ => ⟨rfl, rfl, rfl⟩, fun h => by cases h⟩
  case round =>
    obtain ⟨a3, ar, c3, lo, lr, cr, o, r, f, rfl, rfl, rfl, hlo, hlr, HO, HR, HB, HE, HF, HG⟩ := hrel
    have HRL : Hid (r.length = lr) := HR.out.size
    by_cases hdone : f = false ∧ r = []
    · obtain ⟨rfl, rfl⟩ := hdone
      obtain rfl : lr = 0 := HRL.out.symm
      go_wp2
      go_ret2
      have e := HE.out
      rw [putP_done, List.append_nil] at e
      rw [← e, HO.out.size]
      exact ⟨a3, c3, rfl, HO.out, HB.out⟩
    · obtain ⟨n, HNX⟩ : ∃ n, Hid (nextN (q + lo) r = n) := ⟨_, rfl⟩
      obtain ⟨P, HP⟩ : ∃ P, Hid (padN (q + lo) = P) := ⟨_, rfl⟩
      obtain ⟨M, HM⟩ : ∃ M, Hid (roomN (q + lo) = M) := ⟨_, rfl⟩
      obtain ⟨L, HL⟩ : ∃ L, Hid (leftN (q + lo) = L) := ⟨_, rfl⟩
      have hlp := leftN_pos (q + lo)
      have hrp := room_pad (q + lo)
      have hnl := next_le (q + lo) r
      have HS := putP_step (q + lo) f r hdone
      have HN := need_less (q + lo) f r hdone
      have HMIN : Hid (n = min lr M) := by unfold Hid; rw [← HNX.out, ← HRL.out, ← HM.out]; rfl
      rw [HL.out] at hlp
      rw [HM.out, HP.out] at hrp
      rw [HNX.out, HRL.out, HM.out] at hnl
      rw [HNX.out, HP.out] at HS HN
      have hbound : lo + P + 7 + n ≤ 139000 := by
        have e := congrArg List.length HE.out
        have := HT.out
        rw [HS] at e
        simp only [List.length_append, List.length_replicate, pcEnc_length, List.length_take, HO.out.size, HRL.out] at e
        omega
      have HS' : Hid (o ++ List.replicate P 0 ++ pcEnc (kindN f (decide (n = lr))) (r.take n) ++ putP (q + lo + P + 7 + n) false (r.drop n) = putP q true b) := by
        unfold Hid
        rw [← HE.out, HS, HRL.out]
        simp
      have HNN : Hid (needN (q + lo + P + 7 + n) false (r.drop n) < needN (q + lo) f r) := HN
      have HG' : Hid ((q + lo + P + 7 + n) % 128 = 0 ∨ r.drop n = []) := by
        by_cases hc : n = lr
        · exact .inr (List.drop_eq_nil_of_le (by rw [HRL.out]; omega))
        · have := room_full (q + lo)
          rw [HP.out, HM.out] at this
          exact .inl (by have := HMIN.out; rw [show n = M by omega]; assumption)
      have h7 : L < 7 ∧ P = L ∧ M = 121 ∨ 7 ≤ L ∧ P = 0 ∧ M = L - 7 := by
        rw [← HL.out, ← HP.out, ← HM.out]
        unfold padN roomN
        split
        · exact .inl ⟨by assumption, rfl, rfl⟩
        · exact .inr ⟨by omega, rfl, rfl⟩
      have HF7 : Hid (L < 7 → f = true) := by
        intro hL
        cases f with
        | true => rfl
        | false =>
          rcases HG.out rfl with hz | hz
          · have := HL.out
            unfold leftN at this
            omega
          · exact absurd ⟨rfl, hz⟩ hdone
      obtain ⟨at1, hs1, hs1'⟩ := slice_to HR.out n hnl.1
      obtain ⟨at2, hs2, hs2'⟩ := slice_any HR.out n hnl.1
      have HS1 : Hid (∀ W bs, BsAt W ar lr cr bs → BsAt W at1 n cr (bs.take n)) := hs1'
      have HS2 : Hid (∀ W bs, BsAt W ar lr cr bs → BsAt W at2 (lr - n) (cr - n) (bs.drop n)) := hs2'
      have hgo : f = true ∨ 0 < lr := by
        cases f with
        | true => exact .inl rfl
        | false =>
          right
          rw [← HRL.out]
          exact List.length_pos_iff.2 (fun e => hdone ⟨rfl, e⟩)
      clear hs1' hs2' HS HN hdone HE HG
      cases f
      all_goals first | (have hlr0 : 0 < lr := by simpa using hgo) | skip
      all_goals clear hgo
      all_goals
        go_upto_if 31 with (go_at_call 16; refine (left_at _ (q + lo) L _ (by have := HQI.out; omega) (by omega) HL.out).mono ?_; rintro e w1 ⟨rfl, rfl⟩)
        go_cut [6, 9] (fun out left wc => ∃ (a4 : Option Addr) (c4 L4 : Nat), out = .slice a4 (lo + P) c4 ∧ left = .int .i64 (L4 : Int) ∧ Hid (L4 = M + 7) ∧ Hid (OwnB wc w.heap.size a4 (lo + P) c4 (o ++ List.replicate P 0)) ∧ Hid (Below w.heap.size w wc))
        case first =>
          by_cases hL7 : L < 7
          · first
              | (cases HF7.out hL7; done)
              | (obtain ⟨rfl, rfl, rfl⟩ := HF.out (by trivial)
                 obtain rfl : o = [] := List.eq_nil_of_length_eq_zero HO.out.size
                 obtain rfl : P = L := by omega
                 go_wp2_with (at_builtin; refine wpList_zeros _ rfl _ _ rfl w.heap.size P rfl rfl (by omega) (by omega) HB.out.size ?_)
                 intro a4 c4 w4 ho4 hb4
                 go_wp2_with fail
                 go_meet
                 exact ⟨a4, c4, 128, by rw [Nat.zero_add], rfl, by unfold Hid; omega, by rw [Nat.zero_add]; exact ho4, HB.out.trans (hb4.mono HB.out.size)⟩)
          · obtain rfl : P = 0 := by omega
            go_wp2_with fail
            go_meet
            exact ⟨a3, c3, L, rfl, rfl, by unfold Hid; omega, by unfold Hid; simpa using HO.out, HB.out⟩
        case rest =>
          obtain ⟨a4, c4, L4, rfl, rfl, HL4, HO4, HB4⟩ := hcut
          have hl7 : 7 ≤ L4 := by have := HL4.out; omega
          have hl8 : L4 ≤ 128 := by have := HL4.out; omega
          go_upto_region 15 with fail
          go_cut [10] (fun s wz => s = .int .i64 (n : Int) ∧ wz = wc)
          case first =>
            have hl4 := HL4.out
            have hmn := HMIN.out
            by_cases hc : (L4 : Int) - 7 < (lr : Int)
            · obtain ⟨e, HE2⟩ : ∃ e : Int, Hid ((n : Int) = e ∧ (L4 : Int) - 7 = e) := ⟨n, rfl, by omega⟩
              clear hl4 hmn
              go_wp2_with fail
              go_meet
              exact ⟨by rw [HE2.out.1, HE2.out.2], rfl⟩
            · obtain ⟨e, HE2⟩ : ∃ e : Int, Hid ((n : Int) = e ∧ (lr : Int) = e) := ⟨n, rfl, by omega⟩
              have hc' : decide ((L4 : Int) - 7 < (lr : Int)) = false := by simpa using hc
              clear hl4 hmn
              go_wp2_with fail
              go_meet
              exact ⟨by rw [HE2.out.1, HE2.out.2], rfl⟩
          case rest =>
            obtain ⟨rfl, rfl⟩ := hcut
            have HBT : Hid _ := HS1.out _ _ (HR.out.below (Nat.le_refl _) HB4.out)
            go_wp2_with fail
            go_region_held3 (fun _ => True) (trivial) (first
              | (refine step_appB rfl (.tmp 40) (.tmp 50) rfl w.heap.size a4 (lo + P) c4 (o ++ List.replicate P 0) (by simp [Act.eval]) HO5.out a5 (7 + n) c5 _ (by simp [Act.eval]) HS5.out (by omega) HB5.out.size ?_
                 intro a6 c6 w6 ho6 hb6)
              | (go_at_call 18; refine (kindOf_any _ _ _).mono ?_; rintro e w' ⟨rfl, rfl⟩)
              | (go_at_call 17; refine (pieceBytes_any _ _ _ _ (r.take n) _ HBT.out.drew (by omega)).mono ?_; rintro e w5 ⟨a5, c5, rfl, ho5, hb5⟩
                 have HB5 : Hid (Below w.heap.size w w5) := HB4.out.drew.trans (hb5.mono HB4.out.size)
                 have HO5 : Hid (OwnB w5 w.heap.size a4 (lo + P) c4 (o ++ List.replicate P 0)) := HO4.out.below ((Below.refl _ _).drew.trans hb5)
                 have HS5 : Hid (BsAt w5 a5 (7 + n) c5 _) := ho5.bs
                 clear ho5))
            have HB6 : Hid (Below w.heap.size w w6) := HB5.out.trans hb6
            have HO6 : Hid _ := ho6
            clear ho6 hb6 HB5 HO5 HS5
            go_wp2
            go_roundw
            case rel =>
              refine ⟨a6, at2, c6, lo + P + (7 + n), lr - n, cr - n, _, r.drop n, false, rfl, rfl, rfl, by omega, by omega, HO6.out, HS2.out _ _ HR.out, HB6.out, ?_, (fun h => by cases h), fun _ => ?_⟩
              · have e := HS'.out
                rw [show q + (lo + P + (7 + n)) = q + lo + P + 7 + n by omega]
                rw [← e]
                have hk : ((n : Int) == (lr : Int)) = decide (n = lr) := by
                  by_cases hc : n = lr
                  · subst hc
                    simp
                  · simp [hc]
                    omega
                rw [hk]
                rfl
              · rw [show q + (lo + P + (7 + n)) = q + lo + P + 7 + n by omega]
                exact HG'.out
            case measure =>
              have := HNN.out
              unfold needN at this
              rw [List.length_drop, HRL.out] at this
              rw [show q + lo + P + 7 + n = q + (lo + P + (7 + n)) by omega] at this
              exact this
end Go.Proofs.Ytdhfimolgcnejaa
