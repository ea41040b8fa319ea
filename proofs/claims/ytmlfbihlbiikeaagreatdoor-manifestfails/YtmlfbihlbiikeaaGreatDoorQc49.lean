/- What a change that fails, or a loss of power, leaves, plainly. -/
import Derived.Test.YtmlfbihlbiikeaaGreatDoorQc29
namespace Go.Proofs.YtmlfbihlbiikeaaGreatDoor
set_option linter.unusedVariables false
theorem ask_fused (S : PFs) : S.ask.1.fused = S.fused := by
  unfold PFs.ask
  split <;> (try split) <;> (try split) <;> rfl
theorem create_fused (S : PFs) (n : List UInt8) : (S.create n).1.fused = S.fused := by
  unfold PFs.create
  split
  · exact ask_fused S
  · split
    · exact ask_fused S
    · split
      · exact ask_fused S
      · exact ask_fused S
theorem append_fused (S : PFs) (n b : List UInt8) : (S.append n b).1.fused = S.fused := by
  unfold PFs.append
  split
  · exact ask_fused S
  · split
    · exact ask_fused S
    · split
      · exact ask_fused S
      · exact ask_fused S
theorem sync_fused (S : PFs) (n : List UInt8) : (S.sync n).1.fused = S.fused := by
  unfold PFs.sync
  split
  · exact ask_fused S
  · split <;> exact ask_fused S
theorem rename_fused (S : PFs) (a b : List UInt8) : (S.rename a b).1.fused = S.fused := by
  unfold PFs.rename
  split
  · exact ask_fused S
  · split
    · exact ask_fused S
    · split <;> exact ask_fused S
theorem remove_fused (S : PFs) (n : List UInt8) : (S.remove n).1.fused = S.fused := by
  unfold PFs.remove
  split
  · exact ask_fused S
  · split <;> exact ask_fused S
theorem syncDir_fused (S : PFs) : S.syncDir.1.fused = S.fused := by
  unfold PFs.syncDir
  split <;> exact ask_fused S
theorem removedF_fused (n : List UInt8) (S : PFs) : (removedF n S).1.fused = S.fused := by
  unfold removedF
  split
  · exact remove_fused S n
  · split <;> rfl
theorem runF_fused : ∀ (l : List FStep), (∀ f ∈ l, ∀ S, (f S).1.fused = S.fused) → ∀ S, (runF l S).1.fused = S.fused
  | [], _, S => rfl
  | f :: l, h, S => by
    unfold runF
    split
    · rw [runF_fused l (fun g hg => h g (by simp [hg])), h f (by simp)]
    · exact h f (by simp) S
theorem stepsW_fused (m B : List UInt8) : ∀ f ∈ stepsW m B, ∀ S, (f S).1.fused = S.fused := by
  intro f hf S
  simp only [stepsW, List.mem_cons, List.not_mem_nil, or_false] at hf
  rcases hf with rfl | rfl | rfl | rfl | rfl | rfl | rfl | rfl | rfl | rfl | rfl | rfl
  · exact create_fused _ _
  · exact removedF_fused _ _
  · exact create_fused _ _
  · exact append_fused _ _ _
  · exact sync_fused _ _
  · exact rename_fused _ _ _
  · exact removedF_fused _ _
  · exact create_fused _ _
  · exact append_fused _ _ _
  · exact sync_fused _ _
  · exact rename_fused _ _ _
  · exact syncDir_fused _
def logB4 : List UInt8 := [48, 48, 48, 48, 48, 52, 46, 108, 111, 103]
def crL (m B log : List UInt8) : Cr := ⟨[file0, fullF B, fullF (lineF m), ⟨log, 0⟩], changedN [⟨curB, 2⟩, ⟨m, 1⟩] ⟨1, logB4, [], 3⟩, [⟨curB, 2⟩, ⟨m, 1⟩], [⟨1, logB4, [], 3⟩]⟩
theorem crL_find (m B log x : List UInt8) : findN (crL m B log).names x = if x = logB4 then some 3 else findN [⟨curB, 2⟩, ⟨m, 1⟩] x := find_made _ _ _ _ _
theorem two_find {m x : List UInt8} : findN [⟨curB, 2⟩, ⟨m, 1⟩] x = if curB = x then some 2 else if m = x then some 1 else none := by
  unfold findN
  by_cases h1 : curB = x
  · subst h1
    simp [List.find?]
  · have a : (curB == x) = false := beq_false_of_ne h1
    rw [if_neg h1]
    by_cases h2 : m = x
    · subst h2
      simp [List.find?, a]
    · have b : (m == x) = false := beq_false_of_ne h2
      rw [if_neg h2]
      simp [List.find?, a, b]
theorem two_idx (m : List UInt8) (c : Nat) (hc : 3 ≤ c) : ∀ n ∈ ([⟨curB, 2⟩, ⟨m, 1⟩] : List PName), n.file < c := fun n hn => by
  simp only [List.mem_cons, List.not_mem_nil, or_false] at hn
  rcases hn with rfl | rfl
  · show 2 < c; omega
  · show 1 < c; omega
theorem crL_idx (m B log : List UInt8) : ∀ n ∈ (crL m B log).names, n.file < (crL m B log).files.length := fun n hn => by
  have hn' : n ∈ changedN [⟨curB, 2⟩, ⟨m, 1⟩] ⟨1, logB4, [], 3⟩ := hn
  rcases mem_changed hn' with h | h
  · have : n.file = 3 := h
    show n.file < 4
    omega
  · exact two_idx m 4 (by decide) n h
theorem crL_bulk (m B log : List UInt8) : bulkF5 (crL m B log).files (crL m B log).names ≤ log.length + (m.length + 1 + B.length) := by
  have h := bulk_made (crL m B log).files [⟨curB, 2⟩, ⟨m, 1⟩] logB4 [] 3
  have e : bulkF5 (crL m B log).files [⟨curB, 2⟩, ⟨m, 1⟩] = m.length + 1 + B.length := by
    unfold crL lineF fullF
    simp [bulkF5]
  rw [e] at h
  exact h
theorem log_made {k : Kn} {n : Nat} {m B : List UInt8} (log : List UInt8) (hk : Fine k n) (hm : logB4 ≠ m) (hq : log.length + (m.length + 1 + B.length) ≤ 1048576) :
    ∃ k1 k2, (pf (cr1 m B) k).create logB4 = (pf ((cr1 m B).create logB4) k1, 0) ∧ (pf ((cr1 m B).create logB4) k1).append logB4 log = (pf (crL m B log) k2, 0) ∧ Fine k1 (n + 1) ∧ Fine k2 (n + 2) := by
  have hf : findN (cr1 m B).names logB4 = none := cr1_find B hm (by decide)
  obtain ⟨k1, q1, a1, h1 | ⟨hno, _⟩⟩ := create_moves 1048576 (c := cr1 m B) (name := logB4) (by decide) hf k hk.quota
  · have hc : findN ((cr1 m B).create logB4).names logB4 = some 3 := by
      have := find_made [⟨curB, 2⟩, ⟨m, 1⟩] logB4 [] 3 logB4
      rw [if_pos rfl] at this
      exact this
    have hb : log.length + ((cr1 m B).create logB4).bulk ((cr1 m B).create logB4).names ≤ 1048576 := by
      rw [bulkF_eq]
      have h := bulk_made ((cr1 m B).create logB4).files [⟨curB, 2⟩, ⟨m, 1⟩] logB4 [] 3
      have e : bulkF5 ((cr1 m B).create logB4).files [⟨curB, 2⟩, ⟨m, 1⟩] = m.length + 1 + B.length := by
        unfold Cr.create Cr.change cr1 lineF fullF
        simp [bulkF5]
      have e2 : (((cr1 m B).create logB4).files.getD 3 file0).b.length = 0 := rfl
      rw [e, e2] at h
      have h2 : bulkF5 ((cr1 m B).create logB4).files ((cr1 m B).create logB4).names ≤ 0 + (m.length + 1 + B.length) := h
      omega
    obtain ⟨k2, q2, a2, h2 | ⟨hno, _⟩⟩ := append_moves (q := 1048576) log hc hb k1 q1
    · refine ⟨k1, k2, h1.1, h2.1, ⟨h1.2 hk.quiet, q1, by have := hk.asked; omega⟩, ⟨h2.2 (h1.2 hk.quiet), q2, by have := hk.asked; omega⟩⟩
    · exact absurd (h1.2 hk.quiet) hno
  · exact absurd hk.quiet hno
theorem write_fails {s t : PSt} {k : Kn} {n : Nat} {log : List UInt8} (ht : chkS t = 0) (hsn : 1 ≤ s.num ∧ s.num ≤ 1099511627776) (hne : nameP 3 s.num ≠ nameP 3 t.num) (hl1 : logB4 ≠ nameP 3 s.num) (hl2 : logB4 ≠ nameP 3 t.num) (hk : Fine k n) (m : Int)
    (hq : 2 * t.bytes.length + 200 + (log.length + (200 + s.bytes.length)) ≤ 1048576) :
    ∃ c4 k4 e, writeP t ((pf (crL (nameP 3 s.num) s.bytes log) k).setFail m) = (pf c4 k4, e) ∧ k4.asked ≤ n + 12 ∧ (∃ k5, (pf c4 k4).setFail (-1) = pf c4 k5 ∧ k5.quiet ∧ k5.asked ≤ n + 12) ∧
      (Holds c4 (nameP 3 t.num) t.bytes ∨ (e ≠ 0 ∧ Holds c4 (nameP 3 s.num) s.bytes)) ∧ findN c4.names logB4 = some 3 ∧ (c4.files.getD 3 file0).b = log := by
  obtain ⟨_, g1, g2⟩ := chkS_zero ht
  obtain ⟨hn, hl⟩ := man_mn g1 g2
  obtain ⟨hn0, hl0⟩ := man_mn hsn.1 hsn.2
  have f1 : findN (crL (nameP 3 s.num) s.bytes log).names (nameP 3 t.num) = none := by
    rw [crL_find, if_neg (Ne.symm hl2), two_find, if_neg (Ne.symm hn.cur), if_neg hne]
  have f2 : findN (crL (nameP 3 s.num) s.bytes log).names tmpB = none := by
    rw [crL_find, if_neg (by decide), two_find, if_neg (by decide), if_neg hn0.tmp]
  have hb := crL_bulk (nameP 3 s.num) s.bytes log
  have hi := crL_idx (nameP 3 s.num) s.bytes log
  have hH : Holds (crL (nameP 3 s.num) s.bytes log) (nameP 3 s.num) s.bytes := by
    refine ⟨2, 1, ?_, rfl, ?_, rfl⟩
    · rw [crL_find, if_neg (by decide), two_find, if_pos rfl]
    · rw [crL_find, if_neg (Ne.symm hl1), two_find, if_neg (Ne.symm hn0.cur), if_pos rfl]
  have hL : findN (crL (nameP 3 s.num) s.bytes log).names logB4 = some 3 := by rw [crL_find, if_pos rfl]
  obtain ⟨j, e, k', hj12, _, hj, hq2, hqu, hak, he⟩ := run_write (q := 1048576) (c := crL (nameP 3 s.num) s.bytes log) (k := ⟨k.quota, k.fused, k.fuse, decide (0 ≤ m), m, k.asked⟩) (m := nameP 3 t.num) (B := t.bytes) hn f1 f2 hi (by omega) hk.quota
  have hs : (pf (crL (nameP 3 s.num) s.bytes log) k).setFail m = pf (crL (nameP 3 s.num) s.bytes log) ⟨k.quota, k.fused, k.fuse, decide (0 ≤ m), m, k.asked⟩ := rfl
  have hw : writeP t ((pf (crL (nameP 3 s.num) s.bytes log) k).setFail m) = (pf ((crL (nameP 3 s.num) s.bytes log :: crsW (crL (nameP 3 s.num) s.bytes log) (nameP 3 t.num) t.bytes).getD j (crL (nameP 3 s.num) s.bytes log)) k', e) := by
    rw [hs]
    unfold writeP
    rw [if_neg (by omega)]
    exact he
  have hfu : k'.fused = false := by
    have h := runF_fused _ (stepsW_fused (nameP 3 t.num) t.bytes) (pf (crL (nameP 3 s.num) s.bytes log) ⟨k.quota, k.fused, k.fuse, decide (0 ≤ m), m, k.asked⟩)
    rw [he] at h
    exact h.trans hk.quiet.1
  have hka := hk.asked
  refine ⟨_, k', e, hw, by simp at hak; omega, ⟨⟨k'.quota, k'.fused, k'.fuse, false, -1, k'.asked⟩, rfl, ⟨hfu, rfl⟩, by simp at hak ⊢; omega⟩, ?_, ?_⟩
  · rcases write_stays hH hi hn hn0 hne hj12 with h | ⟨h1, h2⟩
    · exact .inl h
    · exact .inr ⟨fun h0 => by have := hj.1 h0; omega, h2⟩
  · obtain ⟨a, b⟩ := write_other (B := t.bytes) hi hn hl2 (by decide) (by decide) hj12 hL
    exact ⟨a, by rw [b]; rfl⟩
end Go.Proofs.YtmlfbihlbiikeaaGreatDoor
