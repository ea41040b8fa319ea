/- What a crash does to files, name by name. -/
import Derived.Test.YtkelahekfkhcfaaCutF
namespace Go.Proofs.Ytkelahekfkhcfaa
def name0' : PName := ⟨[], 0⟩
/-- One file is cut. -/
def cutAt (picks : List Int) (i : Nat) (fs : List PFile) (k : Nat) : List PFile := fs.set k (PFs.cut (fs.getD k file0) ((fs.getD k file0).last + PFs.pick picks (i + 1) ((fs.getD k file0).b.length - (fs.getD k file0).last)))
theorem crash_cons (picks : List Int) (n : PName) (r : List PName) (i : Nat) (fs : List PFile) : PFs.crashFiles picks (n :: r) i fs = PFs.crashFiles picks r (i + 1) (cutAt picks i fs n.file) := rfl
theorem crash_snoc (picks : List Int) (x : PName) : ∀ (l : List PName) (i : Nat) (fs : List PFile), PFs.crashFiles picks (l ++ [x]) i fs = cutAt picks (i + l.length) (PFs.crashFiles picks l i fs) x.file
  | [], i, fs => rfl
  | n :: r, i, fs => by
    rw [List.cons_append, crash_cons, crash_cons, crash_snoc picks x r (i + 1), List.length_cons]
    congr 1
    omega
theorem cutAt_length (picks : List Int) (i : Nat) (fs : List PFile) (k : Nat) : (cutAt picks i fs k).length = fs.length := by simp [cutAt]
theorem crash_length (picks : List Int) : ∀ (l : List PName) (i : Nat) (fs : List PFile), (PFs.crashFiles picks l i fs).length = fs.length
  | [], _, _ => rfl
  | n :: r, i, fs => by rw [crash_cons, crash_length picks r, cutAt_length]
def Small (fs : List PFile) : Prop := ∀ k, (fs.getD k file0).b.length ≤ 1048576 ∧ (fs.getD k file0).last ≤ (fs.getD k file0).b.length
theorem cutAt_getD (picks : List Int) (i : Nat) (fs : List PFile) (k j : Nat) (hk : k < fs.length) : (cutAt picks i fs k).getD j file0 = if j = k then PFs.cut (fs.getD k file0) ((fs.getD k file0).last + PFs.pick picks (i + 1) ((fs.getD k file0).b.length - (fs.getD k file0).last)) else fs.getD j file0 := by
  unfold cutAt
  rw [List.getD_eq_getElem?_getD, List.getElem?_set]
  by_cases e : j = k
  · subst e
    simp [hk]
  · rw [if_neg (Ne.symm e), if_neg e, List.getD_eq_getElem?_getD]
theorem pickOf_le (picks : List Int) (i most : Nat) : PFs.pick picks i most ≤ most := by
  rw [pick_eq]
  have := Nat.mod_lt (pickN picks i) (show 0 < most + 1 by omega)
  omega
theorem Small.cut {fs : List PFile} (h : Small fs) (picks : List Int) (i k : Nat) : Small (cutAt picks i fs k) := by
  intro j
  by_cases hk : k < fs.length
  · rw [cutAt_getD picks i fs k j hk]
    split
    · have h1 := h k
      have h2 := pickOf_le picks (i + 1) ((fs.getD k file0).b.length - (fs.getD k file0).last)
      unfold PFs.cut
      simp only [List.length_take]
      omega
    · exact h j
  · have : cutAt picks i fs k = fs := by
      unfold cutAt
      exact List.set_eq_of_length_le (by omega)
    rw [this]
    exact h j
theorem Small.crash (picks : List Int) : ∀ (l : List PName) (i : Nat) (fs : List PFile), Small fs → Small (PFs.crashFiles picks l i fs)
  | [], _, _, h => h
  | n :: r, i, fs, h => by rw [crash_cons]; exact Small.crash picks r _ _ (h.cut picks i n.file)
theorem take_nm (l : List PName) (k : Nat) (h : k < l.length) : l.take (k + 1) = l.take k ++ [l.getD k name0'] := by
  rw [List.take_add_one]
  simp [List.getD, h]
/-- How many bytes the first k names have behind k cuts. -/
def cutBulk (picks : List Int) (l : List PName) (fs : List PFile) (k : Nat) : Nat := bulkF (fun j => ((PFs.crashFiles picks (l.take k) 0 fs).getD j file0).b.length) (l.take k)
theorem bulkF_append (len : Nat → Nat) : ∀ l m, bulkF len (l ++ m) = bulkF len l + bulkF len m
  | [], m => by simp [bulkF]
  | n :: r, m => by
    rw [List.cons_append, bulkF, bulkF, bulkF_append len r m]
    omega
theorem cutBulk_step {K : Nat} (picks : List Int) (l : List PName) (fs : List PFile) (k : Nat) (hk : k < l.length) (hN : Nice K l) (hf : (l.getD k name0').file < fs.length) :
    cutBulk picks l fs (k + 1) = cutBulk picks l fs k + ((PFs.crashFiles picks (l.take (k + 1)) 0 fs).getD (l.getD k name0').file file0).b.length := by
  unfold cutBulk
  rw [take_nm l k hk, bulkF_append]
  have hl : (l.take k).length = k := by rw [List.length_take]; omega
  have e : bulkF (fun j => ((PFs.crashFiles picks (l.take k ++ [l.getD k name0']) 0 fs).getD j file0).b.length) (l.take k) = bulkF (fun j => ((PFs.crashFiles picks (l.take k) 0 fs).getD j file0).b.length) (l.take k) := by
    refine bulkF_congr fun x hx => ?_
    rw [crash_snoc, cutAt_getD _ _ _ _ _ (by rw [crash_length]; exact hf)]
    rw [if_neg]
    intro e
    have hnd := hN.files
    rw [← List.take_append_drop k l, List.map_append, List.nodup_append] at hnd
    refine hnd.2.2 x.file (List.mem_map.2 ⟨x, hx, rfl⟩) (l.getD k name0').file (List.mem_map.2 ⟨l.getD k name0', ?_, rfl⟩) e
    have e5 : l.getD k name0' = l[k] := by simp [List.getD, hk]
    rw [e5, List.drop_eq_getElem_cons hk]
    exact List.mem_cons_self ..
  rw [e]
  simp [bulkF]
theorem cutBulk_le {picks : List Int} {l : List PName} {fs : List PFile} {k : Nat} (h : Small fs) : cutBulk picks l fs k ≤ (l.take k).length * 1048576 := bulkF_le (fun j => (Small.crash picks _ _ _ h j).1) _
theorem Inv.small {S : PFs} (h : Inv S) : Small S.files := fun k => ⟨h.lens k, h.last k⟩
theorem stays_eq (S : PFs) (l : List Int) : S.stays l = (S.since.take (pickN l 0 % (S.since.length + 1))).foldl changedN S.lasts := by
  unfold PFs.stays
  rw [pick_eq]
theorem Inv.stays {S : PFs} (h : Inv S) (l : List Int) : Nice S.files.length (S.stays l) ∧ (S.stays l).length ≤ S.asked := by
  have hc := Chain.take (PFs.pick l 0 S.since.length) h.chain
  refine ⟨Chain.nice h.lasts hc, ?_⟩
  have := Chain.length hc
  have h2 : (S.since.take (PFs.pick l 0 S.since.length)).length ≤ S.since.length := by simp; omega
  have := h.count
  show ((S.since.take (PFs.pick l 0 S.since.length)).foldl changedN S.lasts).length ≤ _
  omega
theorem Inv.crash {S : PFs} (h : Inv S) (l : List Int) : Inv (S.crash l) := by
  have hl : (S.crash l).files.length = S.files.length := crash_length _ _ _ _
  obtain ⟨h1, h2⟩ := h.stays l
  refine ⟨h.asked, h.quota, (fun e => by cases e), (fun e => by cases e), by rw [hl]; exact h1, rfl, by show (S.stays l).length + 0 ≤ S.asked; omega, fun k => (Small.crash l _ _ _ h.small k).1, fun k => (Small.crash l _ _ _ h.small k).2, by
    show ((S.stays l).map (·.file) ++ news []).Nodup
    rw [show news [] = [] from rfl, List.append_nil]
    exact h1.files⟩
end Go.Proofs.Ytkelahekfkhcfaa
