/- The contract of able. -/
import Derived.Test.YtehkcgjiimfdjaaTell5
import Derived.Deep.AppendLies
namespace Go.Proofs.Ytehkcgjiimfdjaa
open Go.RowKit
theorem infoPtr : (Try.prog.info? TPT).map (fun i => (i.zero, i.size, i.bytes)) = some (some (.pointer none), 1, 8) := by kernel_rfl
theorem ableL_snoc (f : PTask → Bool) : ∀ (l : List PTask) (k n : Nat) (_ : n < l.length), ableL f (l.take (n + 1)) k = ableL f (l.take n) k ++ (if f (l.getD n task0) then [k + n] else [])
  | [], k, n, h => by simp at h
  | t :: r, k, 0, _ => by
    simp only [Nat.zero_add, List.take_succ_cons, List.take_zero, ableL, List.getD, List.getElem?_cons_zero, Option.getD_some, Nat.add_zero, List.nil_append]
    by_cases hf : f t = true <;> simp [hf]
  | t :: r, k, n + 1, h => by
    have ih := ableL_snoc f r (k + 1) n (by simpa using h)
    rw [List.take_succ_cons, List.take_succ_cons, ableL, ableL]
    have e : (t :: r).getD (n + 1) task0 = r.getD n task0 := by simp [List.getD]
    rw [e, ih, show k + 1 + n = k + (n + 1) by omega]
    split <;> rfl
theorem ableL_len (f : PTask → Bool) : ∀ (l : List PTask) (k : Nat), (ableL f l k).length ≤ l.length
  | [], _ => Nat.le_refl _
  | t :: r, k => by
    have := ableL_len f r (k + 1)
    unfold ableL
    split
    · simp; omega
    · simp; omega
theorem ableL_mem (f : PTask → Bool) : ∀ (l : List PTask) (k j : Nat), j ∈ ableL f l k → k ≤ j ∧ j < k + l.length ∧ f (l.getD (j - k) task0) = true
  | [], _, j, h => by simp [ableL] at h
  | t :: r, k, j, h => by
    unfold ableL at h
    have ih := ableL_mem f r (k + 1) j
    have key : j ∈ ableL f r (k + 1) → k ≤ j ∧ j < k + (t :: r).length ∧ f ((t :: r).getD (j - k) task0) = true := by
      intro hj
      obtain ⟨a, b, c⟩ := ih hj
      refine ⟨by omega, by simp; omega, ?_⟩
      obtain ⟨d, rfl⟩ : ∃ d, j = k + 1 + d := ⟨j - (k + 1), by omega⟩
      rw [show k + 1 + d - (k + 1) = d by omega] at c
      rw [show k + 1 + d - k = d + 1 by omega]
      simpa [List.getD] using c
    split at h
    · rename_i hf
      rcases List.mem_cons.1 h with rfl | h
      · exact ⟨Nat.le_refl _, by simp, by simpa [List.getD] using hf⟩
      · exact key h
    · exact key h
/-- A row of pointers to tasks, of the call's own. -/
def RowP (w0 w : World) (g : Bg) (r n cap : Nat) (l : List Nat) : Prop := w.ownsRow w0.heap.size TPT 1 (.slice (some ⟨r, 0, none⟩) n cap) n (l.map fun k => at_ (g.q k))
set_option maxRecDepth 100000 in
set_option maxHeartbeats 1000000 in
theorem able_at {w0 w : World} {p : Nat} {g : Bg} {B : PB} (h : BdAt w0 w p g B) (hk : B.Ok) (r cap : Nat) (hr : RowP w0 w g r 0 cap []) (hne : blkOf g.ta ≠ some r) : Calls Try.prog 26 #[at_ p, .slice (some ⟨r, 0, none⟩) 0 cap] w fun e w' => ∃ r' cap', e = .returned (.slice (some ⟨r', 0, none⟩) B.able.length cap') ∧ BdAt w0 w' p g B ∧ RowP w0 w' g r' B.able.length cap' B.able ∧ blkOf g.ta ≠ some r' := by
  obtain ⟨b0, b1, b2, b3⟩ := h.bcell hk.cells hk.own
  clear b3 b0 b1
  have hmany := hk.many
  have HA : Hid (BdAt w0 w p g B) := h
  have HR : Hid (RowP w0 w g r 0 cap []) := hr
  obtain ⟨j0, hj0, hz0, hz1, hz2⟩ := info_parts infoPtr
  obtain ⟨n, HN⟩ : ∃ n, Hid (n = B.ts.length) := ⟨_, rfl⟩
  rw [← HN.out] at b2 hmany
  clear h hr
  go_enter Try.func26, Try.ntmps26
  go_wp2_with fail
  go_loopw [1, 12] (fun o i wr => ∃ (k r2 c2 m : Nat), k ≤ n ∧ i = .int .i64 (k : Int) ∧ o = .slice (some ⟨r2, 0, none⟩) m c2 ∧ m ≤ k ∧ Hid (m = (ableL B.canGo (B.ts.take k) 0).length) ∧ Hid (BdAt w0 wr p g B) ∧ Hid (RowP w0 wr g r2 m c2 (ableL B.canGo (B.ts.take k) 0)) ∧ Hid (blkOf g.ta ≠ some r2)) (fun _ i _ => n - (intOf i).toNat)
  case atStart => exact ⟨0, r, cap, 0, Nat.zero_le _, rfl, rfl, Nat.le_refl _, rfl, HA, HR, hne⟩
  case round =>
    obtain ⟨k, r2, c2, m, hkn, rfl, rfl, hmk, HM, HB, HP, HT⟩ := hrel
    clear HA HR
    by_cases hlt : k < n
    · have hlt' : k < B.ts.length := by rw [← HN.out]; exact hlt
      have HE : Hid (ableL B.canGo (B.ts.take (k + 1)) 0 = ableL B.canGo (B.ts.take k) 0 ++ (if B.canGo (B.t k) then [k] else [])) := by
        have := ableL_snoc B.canGo B.ts 0 k hlt'
        rw [Nat.zero_add] at this
        exact this
      obtain ⟨rt, hra, rk, hle, hmx, hrlt⟩ := HB.out.rowAt (k := k) hlt'
      rw [← HN.out] at hle
      unfold maxLen at hmx
      rw [hra]
      have hx1 : (0 : Int) ≤ (k : Int) := by omega
      have hx2 : (k : Int) < (n : Int) := by omega
      have HC : Hid (Calls Try.prog 35 #[at_ p, at_ (g.q k)] wr fun e w' => e = .returned (.bool (B.canGo (B.t k))) ∧ Below wr.heap.size wr w') := canGo_at HB.out hk hlt'
      cases hc : B.canGo (B.t k)
      · rw [hc] at HC
        go_wp2_with fail
        refine (Calls.mono HC.out) ?_
        rintro _ w2 ⟨rfl, hb⟩
        have HE2 : Hid (ableL B.canGo (B.ts.take (k + 1)) 0 = ableL B.canGo (B.ts.take k) 0) := by
          unfold Hid
          rw [HE.out, hc]
          simp
        have HB2 : Hid (BdAt w0 w2 p g B) := HB.out.below hb
        have HP2 : Hid (RowP w0 w2 g r2 m c2 (ableL B.canGo (B.ts.take k) 0)) := row_same HP.out fun b e => hb.block b (HP.out.lt b e).2
        go_wp2_with fail
        go_roundw
        case rel => exact ⟨k + 1, r2, c2, m, by omega, by go_num, rfl, by omega, by unfold Hid; rw [HE2.out]; exact HM.out, HB2.out, by unfold Hid; rw [HE2.out]; exact HP2.out, by unfold Hid; rw [← hra]; exact HT.out⟩
        case measure => simp [intOf]; omega
      · rw [hc] at HC
        go_wp2_with fail
        refine (Calls.mono HC.out) ?_
        rintro _ w2 ⟨rfl, hb⟩
        have HE2 : Hid (ableL B.canGo (B.ts.take (k + 1)) 0 = ableL B.canGo (B.ts.take k) 0 ++ [k]) := by
          unfold Hid
          rw [HE.out, hc]
          simp
        have HB2 : Hid (BdAt w0 w2 p g B) := HB.out.below hb
        have HP2 : Hid (RowP w0 w2 g r2 m c2 (ableL B.canGo (B.ts.take k) 0)) := row_same HP.out fun b e => hb.block b (HP.out.lt b e).2
        have HB3 : Hid (BdAt w0 (w2.alloc (.cells #[at_ (g.q k)] TPT)) p g B) := HB2.out.alloc _
        have HP3 : Hid (World.ownsRow (w2.alloc (.cells #[at_ (g.q k)] TPT)) w0.heap.size TPT 1 (.slice (some ⟨r2, 0, none⟩) m c2) m ((ableL B.canGo (B.ts.take k) 0).map fun k => at_ (g.q k))) := HP2.out.alloc _
        have hnews : ∀ j u, [at_ (g.q k)][j]? = some u → (w2.alloc (.cells #[at_ (g.q k)] TPT)).cell? ((⟨w2.heap.size, 0, none⟩ : Addr).add j) = some u := World.news_of_block (cs := #[at_ (g.q k)]) (Box.new w2 TPT #[at_ (g.q k)])
        have hone : ∀ u ∈ [at_ (g.q k)], u.oneCell' = true := by
          intro u hu
          rw [List.mem_singleton.1 hu]
          rfl
        have hbase := HB3.out.base.size
        clear hb
        go_wp2_with (first
          | (at_builtin; refine wpList_append_lies _ rfl _ _ 62 rfl w0.heap.size TPT j0 _ 1 8 Try.underlying62 hj0 hz0 hz1 hz2 rfl (by decide) _ _ _ rfl HP3.out _ 1 1 [at_ (g.q k)] rfl rfl hnews hone (by omega) (by unfold maxLen; omega) (by omega) hbase (w2.heap.size + 1) (by simp) ?_))
        intro r4 c4 w4 hr4 hg4 hl4 hlt4
        have e4 : (Value.slice (some ⟨r2, 0, none⟩) m c2).ownBlock = some r2 := rfl
        rw [e4] at hg4 hl4
        have HB4 : Hid (BdAt w0 w4 p g B) := by
          have hb3 := HB3.out
          have htr : tag (w2.alloc (.cells #[at_ (g.q k)] TPT)) r2 = some TPT := row_tag HP3.out rfl
          refine hb3.same (fun b hb => hg4.block b (hb3.foot_lt hb) (fun e => ?_)) (hb3.base.grown hg4 hb3.base.size (fun b e => (HP3.out.lt b (by rw [e4]; exact e)).1))
          obtain rfl := Option.some.inj e
          rcases hb with rfl | ⟨j, hj, rfl⟩ | e | e
          · exact tag_ne hb3.tagP htr (by decide) rfl
          · exact tag_ne (hb3.tagQ hj) htr (by decide) rfl
          · exact HT.out e
          · exact tag_ne (hb3.tagE e) htr (by decide) rfl
        have HP4 : Hid (RowP w0 w4 g r4 (m + 1) c4 (ableL B.canGo (B.ts.take (k + 1)) 0)) := by
          unfold Hid RowP
          rw [HE2.out, List.map_append]
          exact hr4
        have HT4 : Hid (blkOf g.ta ≠ some r4) := by
          intro e
          rcases hl4 with e2 | e2
          · exact HT.out (e.trans e2.symm)
          · have := tag_lt (HB2.out.tagR e)
            omega
        have HM4 : Hid (m + 1 = (ableL B.canGo (B.ts.take (k + 1)) 0).length) := by
          unfold Hid
          rw [HE2.out, List.length_append, ← HM.out]
          rfl
        clear hr4 hg4 hl4 e4
        go_wp2_with fail
        go_roundw
        case rel => exact ⟨k + 1, r4, c4, m + 1, by omega, by go_num, rfl, by omega, HM4.out, HB4.out, HP4.out, by unfold Hid; rw [← hra]; exact HT4.out⟩
        case measure => simp [intOf]; omega
    · obtain rfl : k = n := by omega
      go_wp2
      go_returns
      have et : B.ts.take k = B.ts := by rw [HN.out, List.take_length]
      have h1 := HM.out
      have h2 := HP.out
      rw [et] at h1 h2
      have e3 : B.able.length = m := h1.symm
      rw [e3]
      exact ⟨r2, c2, rfl, HB.out, h2, HT.out⟩
end Go.Proofs.Ytehkcgjiimfdjaa
