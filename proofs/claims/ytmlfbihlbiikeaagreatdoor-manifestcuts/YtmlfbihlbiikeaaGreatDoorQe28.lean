/- Wherever a Write or an Append stops, and whatever a crash leaves: the manifest that counted is there, or the new one. -/
import Derived.Test.YtmlfbihlbiikeaaGreatDoorQe25
import Derived.Test.YtmlfbihlbiikeaaGreatDoorQe07
import Derived.Test.YtmlfbihlbiikeaaGreatDoorQe15
import Derived.Maps.OwnSet
import Derived.Handy
import Derived.Maps.Ext
import Derived.Sort.KeysCollected
import Derived.Test.YtmlfbihlbiikeaaGreatDoorQe00
set_option linter.unusedVariables false
set_option linter.unusedSimpArgs false
set_option maxRecDepth 100000
namespace Go.Proofs.YtmlfbihlbiikeaaGreatDoor
def Holds (c : Cr) (m B : List UInt8) : Prop := ∃ i j, findN c.names curB = some i ∧ (c.files.getD i file0).b = lineF m ∧ findN c.names m = some j ∧ (c.files.getD j file0).b = B
structure Base (c : Cr) (m B : List UInt8) (i j : Nat) : Prop where
 lasts : c.lasts = c.names
 since : c.since = []
 cur : findN c.names curB = some i
 line : c.files.getD i file0 = fullF (lineF m)
 man : findN c.names m = some j
 bytes : c.files.getD j file0 = fullF B
 apart : i ≠ j
 full : ∀ k, (c.files.getD k file0).last = (c.files.getD k file0).b.length
 idx : ∀ n ∈ c.names, n.file < c.files.length
 tmp : findN c.names tmpB = none
theorem find_mem5 {l : List PName} {x : List UInt8} {i : Nat} (h : findN l x = some i) : ∃ n ∈ l, n.file = i ∧ n.name = x := by
 unfold findN at h
 cases e : l.find? (fun y => y.name == x) with
 | none => rw [e] at h; cases h
 | some n =>
  rw [e] at h
  have := List.find?_some e
  exact ⟨n, List.mem_of_find?_eq_some e, Option.some.inj h, eq_of_beq this⟩
theorem Base.holds {c : Cr} {m B : List UInt8} {i j : Nat} (h : Base c m B i j) : Holds c m B := ⟨i, j, h.cur, by rw [h.line]; rfl, h.man, by rw [h.bytes]; rfl⟩
theorem Base.lt {c : Cr} {m B : List UInt8} {i j : Nat} (h : Base c m B i j) : i < c.files.length ∧ j < c.files.length := by
 obtain ⟨n, hn, e, _⟩ := find_mem5 h.cur
 obtain ⟨p, hp, e2, _⟩ := find_mem5 h.man
 exact ⟨e ▸ h.idx n hn, e2 ▸ h.idx p hp⟩
theorem mem_ins {n x : PName} : ∀ {l : List PName}, x ∈ insN n l → x = n ∨ x ∈ l
 | [], h => .inl (List.mem_singleton.1 h)
 | y :: r, h => by
  unfold insN at h
  split at h
  · exact List.mem_cons.1 h
  · rcases List.mem_cons.1 h with rfl | h
    · exact .inr (by simp)
    · rcases mem_ins h with h | h
      · exact .inl h
      · exact .inr (by simp [h])
theorem mem_without5 {l : List PName} {a : List UInt8} {x : PName} (h : x ∈ without l a) : x ∈ l := (List.mem_filter.1 h).1
theorem mem_changed {l : List PName} {ch : PChange} {x : PName} (h : x ∈ changedN l ch) : x.file = ch.file ∨ x ∈ l := by
 unfold changedN withN at h
 split at h
 · rcases mem_ins h with rfl | h
   · exact .inl rfl
   · exact .inr (mem_without5 h)
 · split at h
   · rcases mem_ins h with rfl | h
     · exact .inl rfl
     · exact .inr (mem_without5 (mem_without5 h))
   · exact .inr (mem_without5 h)
theorem nmW_mem (c : Cr) (m : List UInt8) (l : List PName) (hl : ∀ n ∈ l, n.file < c.files.length) : ∀ n ∈ nmW c m 5 l, n.file < c.files.length + 3 := fun n hn => by
 rw [show nmW c m 5 l = changedN (nmW c m 4 l) ⟨2, tmpB, curB, c.files.length + 2⟩ from rfl] at hn
 rcases mem_changed hn with h | hn
 · have h' : n.file = c.files.length + 2 := h
   omega
 rw [show nmW c m 4 l = changedN (nmW c m 3 l) ⟨1, tmpB, [], c.files.length + 2⟩ from rfl] at hn
 rcases mem_changed hn with h | hn
 · have h' : n.file = c.files.length + 2 := h
   omega
 rw [show nmW c m 3 l = changedN (nmW c m 2 l) ⟨2, tmpB, m, c.files.length + 1⟩ from rfl] at hn
 rcases mem_changed hn with h | hn
 · have h' : n.file = c.files.length + 1 := h
   omega
 rw [show nmW c m 2 l = changedN (nmW c m 1 l) ⟨1, tmpB, [], c.files.length + 1⟩ from rfl] at hn
 rcases mem_changed hn with h | hn
 · have h' : n.file = c.files.length + 1 := h
   omega
 rw [show nmW c m 1 l = changedN l ⟨1, m, [], c.files.length⟩ from rfl] at hn
 rcases mem_changed hn with h | hn
 · have h' : n.file = c.files.length := h
   omega
 · have := hl n hn
   omega
theorem end_base {c : Cr} {m : List UInt8} (B : List UInt8) (hm : Mn m) (hi : ∀ n ∈ c.names, n.file < c.files.length) (hf : ∀ k, (c.files.getD k file0).last = (c.files.getD k file0).b.length) : Base (endW c m B) m B (c.files.length + 2) (c.files.length + 1) where
 lasts := rfl
 since := rfl
 cur := by show findN (nmW c m 5 c.names) curB = _; rw [nm5 c hm, if_pos rfl]
 line := getD_new _ _ 2
 man := by show findN (nmW c m 5 c.names) m = _; rw [nm5 c hm, if_neg hm.cur, if_neg hm.tmp, if_pos rfl]
 bytes := getD_new _ _ 1
 apart := by omega
 full := fun k => by
  show ((c.files ++ [file0, fullF B, fullF (lineF m)]).getD k file0).last = ((c.files ++ [file0, fullF B, fullF (lineF m)]).getD k file0).b.length
  by_cases hk : k < c.files.length
  · rw [getD_old _ _ hk]
    exact hf k
  · obtain ⟨d, rfl⟩ := Nat.exists_eq_add_of_le (Nat.le_of_not_lt hk)
    rw [getD_new]
    have z : ∀ f ∈ [file0, fullF B, fullF (lineF m)], f.last = f.b.length := by
     intro f hf
     simp only [List.mem_cons, List.not_mem_nil, or_false] at hf
     rcases hf with rfl | rfl | rfl <;> rfl
    rw [List.getD_eq_getElem?_getD]
    cases e : ([file0, fullF B, fullF (lineF m)] : List PFile)[d]? with
    | none => rfl
    | some f => exact z f (List.mem_of_getElem? e)
 idx := fun n hn => by
  unfold endW at hn
  dsimp only at hn
  have h1 := nmW_mem c m c.names hi n hn
  have h2 : (endW c m B).files.length = c.files.length + 3 := List.length_append
  omega
 tmp := by
  unfold endW
  dsimp only
  rw [nm5 c hm, if_neg tmp_cur, if_pos rfl]
theorem Base.crash {c : Cr} {m B : List UInt8} {i j : Nat} (h : Base c m B i j) (k : Kn) (picks : List Int) : ∃ k', k'.quiet ∧ k'.quota = k.quota ∧ k'.asked = k.asked ∧ (pf c k).crash picks = pf c k' := by
 obtain ⟨n, fs, k', hn, hl, hc, h1, h2, h3, e⟩ := crash_pf c k picks (fun x => Nat.le_of_eq (h.full x))
 refine ⟨k', h1, h2, h3, ?_⟩
 rw [e, files_same hl hc h.full, h.since, List.take_nil]
 obtain ⟨f, nm, la, si⟩ := c
 obtain rfl : la = nm := h.lasts
 obtain rfl : si = [] := h.since
 rfl
theorem mid_holds {c : Cr} {m mo Bo : List UInt8} (h : Holds c mo Bo) (hi : ∀ n ∈ c.names, n.file < c.files.length) (hm : Mn m) (hmo : Mn mo) (hne : mo ≠ m) (new : List PFile) {k : Nat} (hk : k ≤ 4) (fs : List PFile) (hfs : ∀ i, i < c.files.length → (fs.getD i file0).b = (c.files.getD i file0).b) (la : List PName) (si : List PChange) :
 Holds ⟨fs, nmW c m k c.names, la, si⟩ mo Bo := by
 obtain ⟨i, j, h1, h2, h3, h4⟩ := h
 have hlt : ∀ {x i}, findN c.names x = some i → i < c.files.length := fun {x i} hx => by
  obtain ⟨n, hn, e, _⟩ := find_mem5 hx
  exact e ▸ hi n hn
 have key : ∀ x, x ≠ m → x ≠ tmpB → findN (nmW c m k c.names) x = findN c.names x := fun x a b => by
  match k, hk with
  | 0, _ => rfl
  | 1, _ => rw [nm1, if_neg a]
  | 2, _ => rw [nm2, if_neg b, if_neg a]
  | 3, _ => rw [nm3 c hm, if_neg a, if_neg b]
  | 4, _ => rw [nm4 c hm, if_neg b, if_neg a]
 refine ⟨i, j, by rw [← h1]; exact key curB (fun e => hm.cur e.symm) (fun e => tmp_cur e.symm), ?_, by rw [← h3]; exact key mo hne hmo.tmp, ?_⟩
 · show (fs.getD i file0).b = _
   rw [hfs i (hlt h1), h2]
 · show (fs.getD j file0).b = _
   rw [hfs j (hlt h3), h4]
theorem fin_holds {c : Cr} {m B : List UInt8} (hm : Mn m) (fs : List PFile) (h1 : (fs.getD (c.files.length + 1) file0).b = B) (h2 : (fs.getD (c.files.length + 2) file0).b = lineF m) (la : List PName) (si : List PChange) : Holds ⟨fs, nmW c m 5 c.names, la, si⟩ m B :=
 ⟨c.files.length + 2, c.files.length + 1, by show findN (nmW c m 5 c.names) curB = _; rw [nm5 c hm, if_pos rfl], h2, by show findN (nmW c m 5 c.names) m = _; rw [nm5 c hm, if_neg hm.cur, if_neg hm.tmp, if_pos rfl], h1⟩
theorem stage (c : Cr) (m B : List UInt8) {j : Nat} (hj : j ≤ 12) : (j = 12 ∧ (c :: crsW c m B).getD j c = endW c m B) ∨
 (j < 12 ∧ ∃ new k, (c :: crsW c m B).getD j c = crW c m new k ∧ k ≤ 5 ∧ (k = 5 → new = [file0, fullF B, fullF (lineF m)]) ∧ ∀ i, (new.getD i file0).last ≤ (new.getD i file0).b.length) := by
 have z : ∀ (l : List PFile), (∀ f ∈ l, f.last ≤ f.b.length) → ∀ i, (l.getD i file0).last ≤ (l.getD i file0).b.length := fun l hl i => by
  rw [List.getD_eq_getElem?_getD]
  cases e : l[i]? with
  | none => exact Nat.le_refl _
  | some f => exact hl f (List.mem_of_getElem? e)
 have a0 : (file0 : PFile).last ≤ file0.b.length := Nat.le_refl _
 have a1 : ∀ b, (fullF b).last ≤ (fullF b).b.length := fun b => Nat.le_refl _
 have a2 : ∀ b : List UInt8, (⟨b, 0⟩ : PFile).last ≤ (⟨b, 0⟩ : PFile).b.length := fun b => Nat.zero_le _
 match j, hj with
 | 0, _ => exact .inr ⟨by omega, [], 0, (crW_zero c m).symm, by omega, by omega, z _ (by simp)⟩
 | 1, _ => exact .inr ⟨by omega, _, 1, rfl, by omega, by omega, z _ (by simp [a0])⟩
 | 2, _ => exact .inr ⟨by omega, _, 1, rfl, by omega, by omega, z _ (by simp [a0])⟩
 | 3, _ => exact .inr ⟨by omega, _, 2, rfl, by omega, by omega, z _ (by simp [a0])⟩
 | 4, _ => exact .inr ⟨by omega, _, 2, rfl, by omega, by omega, z _ (by simp [a0])⟩
 | 5, _ => exact .inr ⟨by omega, _, 2, rfl, by omega, by omega, z _ (by simp [a0, a1])⟩
 | 6, _ => exact .inr ⟨by omega, _, 3, rfl, by omega, by omega, z _ (by simp [a0, a1])⟩
 | 7, _ => exact .inr ⟨by omega, _, 3, rfl, by omega, by omega, z _ (by simp [a0, a1])⟩
 | 8, _ => exact .inr ⟨by omega, _, 4, rfl, by omega, by omega, z _ (by simp [a0, a1])⟩
 | 9, _ => exact .inr ⟨by omega, _, 4, rfl, by omega, by omega, z _ (by simp [a0, a1])⟩
 | 10, _ => exact .inr ⟨by omega, _, 4, rfl, by omega, by omega, z _ (by simp [a0, a1])⟩
 | 11, _ => exact .inr ⟨by omega, _, 5, rfl, by omega, fun _ => rfl, z _ (by simp [a0, a1])⟩
 | 12, _ => exact .inl ⟨rfl, rfl⟩
theorem write_crash {c : Cr} {m mo B Bo : List UInt8} {i j : Nat} (h : Base c mo Bo i j) (hm : Mn m) (hmo : Mn mo) (hne : mo ≠ m) {s : Nat} (hs : s ≤ 12) (k : Kn) (picks : List Int) :
 ∃ c2 k2, (pf ((c :: crsW c m B).getD s c) k).crash picks = pf c2 k2 ∧ k2.quiet ∧ k2.quota = k.quota ∧ k2.asked = k.asked ∧ (Holds c2 m B ∨ (s < 12 ∧ Holds c2 mo Bo)) := by
 rcases stage c m B hs with ⟨h12, e⟩ | ⟨hlt, new, q, e, hq, hq5, hw⟩
 · rw [e]
   have hb := end_base (c := c) B hm h.idx h.full
   obtain ⟨k', a, b, d, e2⟩ := hb.crash k picks
   exact ⟨_, k', e2, a, b, d, .inl hb.holds⟩
 · rw [e]
   have hF : ∀ x, ((c.files ++ new).getD x file0).last ≤ ((c.files ++ new).getD x file0).b.length := fun x => by
    by_cases hx : x < c.files.length
    · rw [getD_old _ _ hx]
      exact Nat.le_of_eq (h.full x)
    · obtain ⟨d, rfl⟩ := Nat.exists_eq_add_of_le (Nat.le_of_not_lt hx)
      rw [getD_new]
      exact hw d
   obtain ⟨n, fs, k', hn, hl, hc, a, b, d, e2⟩ := crash_pf (crW c m new q) k picks hF
   refine ⟨_, k', e2, a, b, d, ?_⟩
   have eS : (crW c m new q).since.take n = (chW c.files.length m).take (min n q) := by
    show (c.since ++ (chW c.files.length m).take q).take n = _
    rw [h.since, List.nil_append, List.take_take]
   have eV : ((crW c m new q).since.take n).foldl changedN (crW c m new q).lasts = nmW c m (min n q) c.names := by
    rw [eS, show (crW c m new q).lasts = c.names from h.lasts]
    rfl
   rw [eV]
   have hold : ∀ x, x < c.files.length → fs.getD x file0 = c.files.getD x file0 := fun x hx => by
    have h1 : Cut1 ((c.files ++ new).getD x file0) (fs.getD x file0) := hc x
    rw [getD_old _ _ hx] at h1
    exact h1.full (h.full x)
   by_cases h5 : min n q = 5
   · left
     have q5 : q = 5 := by omega
     have hnew := hq5 q5
     subst hnew
     rw [h5]
     have g1 : fs.getD (c.files.length + 1) file0 = fullF B := by
      have h1 : Cut1 ((c.files ++ [file0, fullF B, fullF (lineF m)]).getD (c.files.length + 1) file0) (fs.getD (c.files.length + 1) file0) := hc _
      rw [getD_new] at h1
      exact h1.full rfl
     have g2 : fs.getD (c.files.length + 2) file0 = fullF (lineF m) := by
      have h1 : Cut1 ((c.files ++ [file0, fullF B, fullF (lineF m)]).getD (c.files.length + 2) file0) (fs.getD (c.files.length + 2) file0) := hc _
      rw [getD_new] at h1
      exact h1.full rfl
     exact fin_holds hm fs (by rw [g1]; rfl) (by rw [g2]; rfl) _ _
   · right
     exact ⟨hlt, mid_holds h.holds h.idx hm hmo hne new (by omega) fs (fun x hx => by rw [hold x hx]) _ _⟩
def stepsA (m b : List UInt8) : List FStep := [fun S => S.append m b, fun S => S.sync m, fun S => S.syncDir]
def crsA (c : Cr) (j : Nat) (B b : List UInt8) : List Cr := [c.put j ⟨B ++ b, B.length⟩, c.put j (fullF (B ++ b)), ⟨c.files.set j (fullF (B ++ b)), c.names, c.names, []⟩]
theorem getD_set (F : List PFile) {i : Nat} (h : i < F.length) (x : PFile) : (F.set i x).getD i file0 = x := by
 rw [List.getD_eq_getElem?_getD, List.getElem?_set_self h]
 rfl
theorem getD_set_ne (F : List PFile) {i j : Nat} (h : i ≠ j) (x : PFile) : (F.set i x).getD j file0 = F.getD j file0 := by
 rw [List.getD_eq_getElem?_getD, List.getElem?_set_ne h, List.getD_eq_getElem?_getD]
theorem append_ch {q : Nat} {c : Cr} {m B : List UInt8} {i j : Nat} (h : Base c m B i j) (b : List UInt8) (hq : b.length + bulkF5 c.files c.names ≤ q) : Ch q c ((stepsA m b).zip (crsA c j B b)) := by
 have hj := h.lt.2
 refine ⟨?_, ?_, ?_, trivial⟩
 · have := append_moves (q := q) b h.man (by rw [bulkF_eq]; exact hq)
   rw [h.bytes] at this
   exact this
 · have := sync_moves q (c := c.put j ⟨B ++ b, B.length⟩) (name := m) h.man
   have e : (c.put j ⟨B ++ b, B.length⟩).files.getD j file0 = ⟨B ++ b, B.length⟩ := getD_set _ hj _
   rw [e] at this
   have e2 : (c.put j ⟨B ++ b, B.length⟩).put j (fullF (B ++ b)) = c.put j (fullF (B ++ b)) := by
    unfold Cr.put
    show (⟨(c.files.set j _).set j _, _, _, _⟩ : Cr) = _
    rw [List.set_set]
   have e3 : (c.put j ⟨B ++ b, B.length⟩).put j ⟨(⟨B ++ b, B.length⟩ : PFile).b, (⟨B ++ b, B.length⟩ : PFile).b.length⟩ = c.put j (fullF (B ++ b)) := e2
   rw [e3] at this
   exact this
 · exact syncDir_moves q (c.put j (fullF (B ++ b)))
theorem append_base {c : Cr} {m B : List UInt8} {i j : Nat} (h : Base c m B i j) (b : List UInt8) : Base ⟨c.files.set j (fullF (B ++ b)), c.names, c.names, []⟩ m (B ++ b) i j where
 lasts := rfl
 since := rfl
 cur := h.cur
 line := by show (c.files.set j _).getD i file0 = _; rw [getD_set_ne _ (fun e => h.apart e.symm), h.line]
 man := h.man
 bytes := getD_set _ h.lt.2 _
 apart := h.apart
 full := fun k => by
  show ((c.files.set j (fullF (B ++ b))).getD k file0).last = ((c.files.set j (fullF (B ++ b))).getD k file0).b.length
  by_cases hk : j = k
  · subst hk
    rw [getD_set _ h.lt.2]
    rfl
  · rw [getD_set_ne _ hk]
    exact h.full k
 idx := fun n hn => by
  show n.file < (c.files.set j _).length
  rw [List.length_set]
  exact h.idx n hn
 tmp := h.tmp
theorem append_crash {c : Cr} {m B : List UInt8} {i j : Nat} (h : Base c m B i j) (b : List UInt8) {s : Nat} (hs : s ≤ 3) (k : Kn) (picks : List Int) :
 ∃ c2 k2 t, (pf ((c :: crsA c j B b).getD s c) k).crash picks = pf c2 k2 ∧ k2.quiet ∧ k2.quota = k.quota ∧ k2.asked = k.asked ∧ t ≤ b.length ∧ (s = 3 → t = b.length) ∧ Holds c2 m (B ++ b.take t) := by
 have hlt := h.lt.2
 have whole : ∀ (c3 : Cr), c3.files = c.files.set j (fullF (B ++ b)) → c3.names = c.names → c3.lasts = c.names → c3.since = [] → ∃ c2 k2 t, (pf c3 k).crash picks = pf c2 k2 ∧ k2.quiet ∧ k2.quota = k.quota ∧ k2.asked = k.asked ∧ t ≤ b.length ∧ (s = 3 → t = b.length) ∧ Holds c2 m (B ++ b.take t) := fun c3 e1 e2 e3 e4 => by
  obtain ⟨f, n, l, si⟩ := c3
  obtain rfl : f = _ := e1
  obtain rfl : n = _ := e2
  obtain rfl : l = _ := e3
  obtain rfl : si = _ := e4
  have hb := append_base h b
  obtain ⟨k', a, d, g, e⟩ := hb.crash k picks
  refine ⟨_, k', b.length, e, a, d, g, Nat.le_refl _, fun _ => rfl, ?_⟩
  rw [List.take_length]
  exact hb.holds
 match s, hs with
 | 0, _ =>
  obtain ⟨k', a, d, g, e⟩ := h.crash k picks
  refine ⟨c, k', 0, e, a, d, g, Nat.zero_le _, fun h => absurd h (by decide), ?_⟩
  rw [List.take_zero, List.append_nil]
  exact h.holds
 | 1, _ =>
  show ∃ c2 k2 t, (pf (c.put j ⟨B ++ b, B.length⟩) k).crash picks = _ ∧ _
  obtain ⟨n, fs, k', hn, hl, hc, a, d, g, e⟩ := crash_pf (c.put j ⟨B ++ b, B.length⟩) k picks (fun x => by
   show ((c.files.set j ⟨B ++ b, B.length⟩).getD x file0).last ≤ ((c.files.set j ⟨B ++ b, B.length⟩).getD x file0).b.length
   by_cases hx : j = x
   · subst hx
     rw [getD_set _ hlt]
     show B.length ≤ (B ++ b).length
     rw [List.length_append]
     omega
   · rw [getD_set_ne _ hx]
     exact Nat.le_of_eq (h.full x))
  have hother : ∀ x, j ≠ x → fs.getD x file0 = c.files.getD x file0 := fun x hx => by
   have h1 : Cut1 ((c.files.set j ⟨B ++ b, B.length⟩).getD x file0) (fs.getD x file0) := hc x
   rw [getD_set_ne _ hx] at h1
   exact h1.full (h.full x)
  have hj : ∃ t, t ≤ b.length ∧ (fs.getD j file0).b = B ++ b.take t := by
   have h1 : Cut1 ((c.files.set j ⟨B ++ b, B.length⟩).getD j file0) (fs.getD j file0) := hc j
   rw [getD_set _ hlt] at h1
   rcases h1 with h1 | ⟨x, hx1, hx2, h1⟩
   · refine ⟨b.length, Nat.le_refl _, ?_⟩
     rw [h1, List.take_length]
   · have hx1' : B.length ≤ x := hx1
     have hx2' : x ≤ (B ++ b).length := hx2
     rw [List.length_append] at hx2'
     obtain ⟨t, rfl⟩ := Nat.exists_eq_add_of_le hx1'
     refine ⟨t, by omega, ?_⟩
     rw [h1]
     show (B ++ b).take (B.length + t) = _
     rw [List.take_length_add_append]
  obtain ⟨t, ht, hb⟩ := hj
  have eV : ((c.put j ⟨B ++ b, B.length⟩).since.take n).foldl changedN (c.put j ⟨B ++ b, B.length⟩).lasts = c.names := by
   show (c.since.take n).foldl changedN c.lasts = _
   rw [h.since, h.lasts, List.take_nil]
   rfl
  rw [eV] at e
  refine ⟨_, k', t, e, a, d, g, ht, fun h => absurd h (by decide), i, j, h.cur, ?_, h.man, hb⟩
  show (fs.getD i file0).b = _
  rw [hother i (fun e => h.apart e.symm), h.line]
  rfl
 | 2, _ => exact whole (c.put j (fullF (B ++ b))) rfl rfl h.lasts h.since
 | 3, _ => exact whole ⟨c.files.set j (fullF (B ++ b)), c.names, c.names, []⟩ rfl rfl rfl rfl
def manD (d : UInt8) : List UInt8 := [77, 65, 78, 73, 70, 69, 83, 84, 45, 48, 48, 48, 48, 48, d]
def cr0 : Cr := ⟨[], [], [], []⟩
theorem fresh_3 : nmW cr0 (manD 51) 5 cr0.names = [⟨curB, 2⟩, ⟨manD 51, 1⟩] := by rfl
theorem fresh_5 : nmW cr0 (manD 53) 5 cr0.names = [⟨curB, 2⟩, ⟨manD 53, 1⟩] := by rfl
theorem name_d {d n : Nat} (h : n < 10) (h0 : 1 ≤ n) (hd : d = 48 + n) : nameP 3 n = manD (UInt8.ofNat d) := by
 subst hd
 rw [nameP_man h0 (by omega)]
 unfold numB pad6
 rw [decDigits_small h]
 rfl
theorem name_3 : nameP 3 3 = manD 51 := name_d (d := 51) (by decide) (by decide) rfl
theorem name_5 : nameP 3 5 = manD 53 := name_d (d := 53) (by decide) (by decide) rfl
theorem name_9 : nameP 3 9 = manD 57 := name_d (d := 57) (by decide) (by decide) rfl
end Go.Proofs.YtmlfbihlbiikeaaGreatDoor
namespace Go.Proofs.YtmlfbihlbiikeaaGreatDoor
open Go.RowKit
theorem idxL_arr (p k : Nat) (hk : k < 4) (W : World) : (Instr.indexAt 42 (.pointer (some ⟨p, 0, none⟩)) (.int .i64 (k : Int))).run Tryz.prog W = .ok (.pointer (some ⟨p, k, none⟩)) W := by
 have h1 : (k : Int) < 4 := by omega
 have hsz : (sizeOf 41).run Tryz.prog W = .ok 1 W := by kernel_rfl
 simp [Instr.indexAt, run_underlying Tryz.underlying42, asIntOf, h1, hk, show ¬ 4 ≤ k by omega, hsz, Addr.add_lit, go_sem]
theorem Box.level {w : World} {p : Nat} {t : TypeId} {v : PV} {s : SV} (h : Box w p t (vA v s)) {n : Nat} (hn : n < 4) : w.cell? ⟨p, n, none⟩ = some (.slice (s.a n) (v n).length (s.c n)) := by
 rw [h.cell]
 exact four (P := fun n => (vA v s)[n]? = some (.slice (s.a n) (v n).length (s.c n))) hn rfl rfl rfl rfl
end Go.Proofs.YtmlfbihlbiikeaaGreatDoor
namespace Go.Proofs.YtmlfbihlbiikeaaGreatDoor
open Go.RowKit
end Go.Proofs.YtmlfbihlbiikeaaGreatDoor
namespace Go.Proofs.YtmlfbihlbiikeaaGreatDoor
open Go.RowKit Go.Maps
def ptrElem (v : Value) : Option (DataW Unit × List MemPlace) := match v with
 | .pointer none => some (.nil, [])
 | .pointer (some ⟨b, 0, none⟩) => some (.lit (.int .i64 (b : Int)), [])
 | _ => none
theorem ptrElem_at (b : Nat) : ptrElem (at_ b) = some (.lit (.int .i64 (b : Int)), []) := rfl
theorem ptrElem_inv {v : Value} {b : Nat} {ps : List MemPlace} (h : ptrElem v = some (.lit (.int .i64 (b : Int)), ps)) : v = at_ b := by
 unfold ptrElem at h
 split at h
 · simp at h
 · rename_i c
   simp only [Option.some.injEq, Prod.mk.injEq, DataW.lit.injEq, Lit.int.injEq, true_and] at h
   obtain rfl : c = b := by omega
   rfl
 · simp at h
theorem ptrElem_nil_inv {v : Value} {ps : List MemPlace} (h : ptrElem v = some (.nil, ps)) : v = .pointer none := by
 unfold ptrElem at h
 split at h
 · rfl
 · simp at h
 · simp at h
abbrev entOf (blk : Nat → Nat) (x : PName) : Lit × DataW Unit := (.string x.name, .lit (.int .i64 ((blk x.file : Nat) : Int)))
def mapOf (blk : Nat → Nat) (l : List PName) : DataW Unit := .map (l.map (entOf blk))
theorem ltB_before : ∀ a b : List UInt8, (Lit.string a).before (.string b) = ltB a b
 | [], [] => rfl
 | [], _ :: _ => rfl
 | _ :: _, [] => rfl
 | a :: r, b :: s => by
  have ih := ltB_before r s
  simp only [Lit.before, bytesBefore, ltB] at ih ⊢
  by_cases h1 : a < b
  · have : a.toNat < b.toNat := h1
    simp [h1, this]
  · have n1 : ¬ a.toNat < b.toNat := h1
    simp only [h1, decide_false, Bool.false_or, n1, if_false]
    by_cases h2 : a = b
    · subst h2
      simp [ih]
    · have : b.toNat < a.toNat := by
       have : a.toNat ≠ b.toNat := fun e => h2 (UInt8.toNat_inj.1 e)
       omega
      simp [h2, this]
theorem mapOf_ins (blk : Nat → Nat) (n : PName) : ∀ l : List PName, DataW.insert (entOf blk n) (l.map (entOf blk)) = (insN n l).map (entOf blk)
 | [] => rfl
 | x :: r => by
  rw [List.map_cons, DataW.insert, insN, ltB_before]
  split
  · rfl
  · rw [mapOf_ins blk n r]; rfl
theorem mapOf_filter (blk : Nat → Nat) (name : List UInt8) : ∀ l : List PName, (l.map (entOf blk)).filter (fun p => !p.1.sameKey (.string name)) = (without l name).map (entOf blk)
 | [] => rfl
 | x :: r => by
  have ih := mapOf_filter blk name r
  unfold without at ih ⊢
  rw [List.map_cons, List.filter_cons, List.filter_cons]
  have e : (!(entOf blk x).1.sameKey (.string name)) = (x.name != name) := rfl
  rw [e, ih]
  split <;> rfl
theorem mapOf_put (blk : Nat → Nat) (l : List PName) (n : PName) : (mapOf blk l).put (.string n.name) (.lit (.int .i64 ((blk n.file : Nat) : Int))) = mapOf blk (withN l n) := by
 unfold mapOf withN
 rw [← mapOf_ins, ← mapOf_filter]
 rfl
theorem mapOf_del (blk : Nat → Nat) (l : List PName) (name : List UInt8) : (mapOf blk l).del (.string name) = mapOf blk (without l name) := by
 unfold mapOf
 rw [← mapOf_filter]
 rfl
theorem atKey_list (es : List (Lit × DataW Unit)) (k : Lit) (z : DataW Unit) : (DataW.map es).atKey k z = ((es.find? (fun p => p.1.sameKey k)).map (·.2)).getD z := by
 simp only [DataW.atKey]
 cases es.find? (fun p => p.1.sameKey k) <;> rfl
theorem mapOf_at (blk : Nat → Nat) (name : List UInt8) (l : List PName) : (mapOf blk l).atKey (.string name) .nil = match findN l name with | some k => .lit (.int .i64 ((blk k : Nat) : Int)) | none => .nil := by
 unfold mapOf
 rw [atKey_list]
 induction l with
 | nil => rfl
 | cons x r ih =>
  have e : ((entOf blk x).1.sameKey (.string name)) = (x.name == name) := rfl
  unfold findN at ih ⊢
  rw [List.map_cons, List.find?_cons, List.find?_cons, e]
  cases x.name == name
  · exact ih
  · rfl
theorem mapOf_keys (blk : Nat → Nat) (l : List PName) : strKeys (mapOf blk l) = l.map (·.name) := by
 show (l.map (entOf blk)).map _ = _
 rw [List.map_map]
 rfl
theorem mapOf_size (blk : Nat → Nat) (l : List PName) : Maps.size (mapOf blk l) = l.length := by simp [mapOf, Maps.size]
theorem mapOf_congr {blk blk' : Nat → Nat} {l : List PName} (h : ∀ x ∈ l, blk x.file = blk' x.file) : mapOf blk l = mapOf blk' l := by
 unfold mapOf
 rw [List.map_congr_left fun x hx => by show entOf blk x = entOf blk' x; unfold entOf; rw [h x hx]]
theorem lawS : Keyed Tryz.prog 9 := string_keyed Tryz.underlying9
def NmAt (w : World) (mo : Option Nat) (blk : Nat → Nat) (l : List PName) : Prop := match mo with
 | none => l = []
 | some m => w.ownsMap Tryz.prog 9 ptrElem m l.length (mapOf blk l)
theorem own_tight {w : World} {m n : Nat} {D : DataW Unit} (h : w.ownsMap Tryz.prog 9 ptrElem m n D) : w.ownsMap Tryz.prog 9 ptrElem m (Maps.size D) D := by
 obtain ⟨es, clock, hb, F, hs, rfl⟩ := h
 exact ⟨es, clock, hb, F, by rw [Maps.size, length_read]; exact Nat.le_refl _, rfl⟩
theorem NmAt.of {w : World} {m n : Nat} {blk : Nat → Nat} {l : List PName} (h : w.ownsMap Tryz.prog 9 ptrElem m n (mapOf blk l)) : NmAt w (some m) blk l := by
 have := own_tight h
 rw [mapOf_size] at this
 exact this
theorem NmAt.kept {w w' : World} {mo : Option Nat} {blk : Nat → Nat} {l : List PName} (h : NmAt w mo blk l) (hk : ∀ m, mo = some m → w'.heap[m]? = w.heap[m]?) : NmAt w' mo blk l := by
 cases mo with
 | none => exact h
 | some m =>
  obtain ⟨es, clock, hb, F, hs, hD⟩ := h
  exact ⟨es, clock, (hk m rfl).trans hb, F, hs, hD⟩
theorem NmAt.isMap {w : World} {m : Nat} {blk : Nat → Nat} {l : List PName} (h : NmAt w (some m) blk l) : ∃ es clock, w.heap[m]? = some (.map es clock) := by
 obtain ⟨es, clock, hb, _⟩ := h
 exact ⟨es, clock, hb⟩
def ptrOf (blk : Nat → Nat) : Option Nat → Value
 | some k => at_ (blk k)
 | none => .pointer none
theorem zeroPtr (w : World) : (zeroValue 96).run Tryz.prog w = .ok (.pointer none) w := by kernel_rfl
theorem look_long {w : World} {m : Nat} {es : Array MapEntry} {clock : Nat} (hb : w.heap[m]? = some (.map es clock)) (F : WideElems.Fit Tryz.prog 9 ptrElem es clock) (s : ByteArray) (hs : ¬ s.size ≤ maxLen) :
 (Instr.lookup 85 (.map (some m)) (.string s) false).run Tryz.prog w = .ok (.pointer none) w := by
 have hks : ∀ y ∈ es.toList, MapKept.IsKey .string y.key ∧ y.key ≠ .string s := fun y hy => by
  obtain ⟨z, hz⟩ := F.reads y hy
  have := WideElems.rd_key hz
  obtain ⟨x, hx, _, hlen⟩ := Maps.keyOf_str Tryz.underlying9 this
  rw [hx]
  refine ⟨trivial, fun e => hs ?_⟩
  have e2 : (⟨x.toArray⟩ : ByteArray) = s := Value.string.inj e
  rw [← e2]
  exact hlen
 have hf : Instr.findNow .string (.string s) es.toList 0 = some none := by
  rcases MapKept.findNow_spec (d := .string) (k := .string s) trivial es.toList 0 (fun x hx => (hks x hx).1) with ⟨h1, _⟩ | ⟨j, e, _, h2, h3⟩
  · exact h1
  · exact absurd h3 (hks e (List.mem_of_getElem? h2)).2
 have h1 := MapKept.run_findKey (P := Tryz.prog) (w := w) Tryz.underlying9 hf
 have h2 := MapKept.run_checkKey (P := Tryz.prog) (w := w) (k := .string s) Tryz.underlying9 trivial es.isEmpty 9999
 simp [Instr.lookup, run_underlying Tryz.underlying85, MapKept.run_getObj_map hb, h2, h1, Result.andThen]
theorem NmAt.look {w : World} {mo : Option Nat} {blk : Nat → Nat} {l : List PName} (h : NmAt w mo blk l) (hl : ∀ x ∈ l, x.name.length ≤ 32) (s : ByteArray) :
 (Instr.lookup 85 (.map mo) (.string s) false).run Tryz.prog w = .ok (ptrOf blk (findN l s.data.toList)) w := by
 by_cases hs : s.size ≤ maxLen
 · have hkey : keyOf Tryz.prog 9 (.string s) = some (.string s.data.toList) := WideMaps.keyOf_string_mk Tryz.underlying9 hs
   cases mo with
   | none =>
    obtain rfl : l = [] := h
    exact Maps.look_nil false lawS Tryz.underlying85 (zeroPtr w) hkey
   | some m =>
    obtain ⟨v, ps, hrun, hv⟩ := World.ownsMap.lookup h lawS Tryz.underlying85 (zeroPtr w) (zd := .nil) (zp := []) rfl hkey
    rw [hrun]
    rw [mapOf_at] at hv
    cases hf : findN l s.data.toList with
    | none =>
     rw [hf] at hv
     rw [ptrElem_nil_inv hv]
     rfl
    | some k =>
     rw [hf] at hv
     rw [ptrElem_inv hv]
     rfl
 · have hf : findN l s.data.toList = none := by
    unfold findN
    rw [List.find?_eq_none.2, Option.map_none]
    intro x hx e
    have := hl x hx
    rw [beq_iff_eq] at e
    rw [e] at this
    have e3 : s.data.toList.length = s.size := rfl
    apply hs
    unfold maxLen
    omega
   rw [hf]
   cases mo with
   | none =>
    have h2 := MapKept.run_checkKey (P := Tryz.prog) (w := w) (k := .string s) Tryz.underlying9 trivial true 9999
    have h1 := MapKept.run_findKey (P := Tryz.prog) (w := w) (kt := 9) (k := .string s) (l := []) Tryz.underlying9 rfl
    simp [Instr.lookup, run_underlying Tryz.underlying85, h2, h1, Result.andThen]
    rfl
   | some m =>
    obtain ⟨es, clock, hb, F, _, _⟩ := h
    exact look_long hb F s hs
end Go.Proofs.YtmlfbihlbiikeaaGreatDoor
namespace Go.Proofs.YtmlfbihlbiikeaaGreatDoor
open Go.RowKit
structure FsC where
 q : Int
 u : Int
 o : Int
 fs : Bool
 fn : Int
 ss : Bool
 sn : Int
 mn : Option Nat
 ml : Option Nat
 sa : Option Addr
 sl : Nat
 sc : Nat
def FsC.arr (c : FsC) : Array Value := #[.int .i64 c.q, .int .i64 c.u, .int .i64 c.o, .bool c.fs, .int .i64 c.fn, .bool c.ss, .int .i64 c.sn, .map c.mn, .map c.ml, .slice c.sa c.sl c.sc]
def FsB (w : World) (p : Nat) (c : FsC) : Prop := Box w p 88 c.arr
theorem grown_alloc {w w' : World} {row : Option Nat} (h : w.grownBy w' row) (o : Obj) : w.grownBy (w'.alloc o) row :=
 ⟨h.os, h.tape, h.output, by have := h.size; simp; omega, fun k hk hr => (Below.heap_alloc _ _ k (Nat.lt_of_lt_of_le hk h.size)).trans (h.block k hk hr)⟩
theorem grown_set {w w' : World} {p : Nat} (h : w.grownBy w' (some p)) (j : Nat) (v : Value) : w.grownBy (w'.setCell ⟨p, j, none⟩ v) (some p) :=
 ⟨h.os, h.tape, h.output, by have := h.size; simpa using this, fun k hk hr => (Below.heap_setCell _ _ _ k (fun e => hr (by rw [e]))).trans (h.block k hk hr)⟩
theorem FsB.cells {w : World} {p : Nat} {c : FsC} (h : FsB w p c) : w.cell? ⟨p, 0, none⟩ = some (.int .i64 c.q) ∧ w.cell? ⟨p, 1, none⟩ = some (.int .i64 c.u) ∧ w.cell? ⟨p, 2, none⟩ = some (.int .i64 c.o) ∧ w.cell? ⟨p, 3, none⟩ = some (.bool c.fs) ∧ w.cell? ⟨p, 4, none⟩ = some (.int .i64 c.fn) ∧ w.cell? ⟨p, 5, none⟩ = some (.bool c.ss) ∧ w.cell? ⟨p, 6, none⟩ = some (.int .i64 c.sn) ∧ w.cell? ⟨p, 7, none⟩ = some (.map c.mn) ∧ w.cell? ⟨p, 8, none⟩ = some (.map c.ml) ∧ w.cell? ⟨p, 9, none⟩ = some (.slice c.sa c.sl c.sc) :=
 ⟨Box.cell h 0, Box.cell h 1, Box.cell h 2, Box.cell h 3, Box.cell h 4, Box.cell h 5, Box.cell h 6, Box.cell h 7, Box.cell h 8, Box.cell h 9⟩
end Go.Proofs.YtmlfbihlbiikeaaGreatDoor
namespace Go.Proofs.YtmlfbihlbiikeaaGreatDoor
open Go.RowKit
def FsC.ask (c : FsC) : FsC × Int :=
 if (c.fs && (c.fn == 0)) = true then ({ c with o := c.o + 1 }, 44)
 else if (c.ss && (c.sn == 0)) = true then ({ c with o := c.o + 1, fn := if c.fs then c.fn - 1 else c.fn, ss := false, sn := 0 }, 45)
 else ({ c with o := c.o + 1, fn := if c.fs then c.fn - 1 else c.fn, sn := if c.ss then c.sn - 1 else c.sn }, 0)
set_option maxHeartbeats 1000000 in
theorem begin_any (w : World) (p : Nat) (c : FsC) (h : FsB w p c) (ho : 0 ≤ c.o ∧ c.o ≤ 2000000) (hf : 0 ≤ c.fn ∧ c.fn ≤ 9223372036854775807) (hs : 0 ≤ c.sn ∧ c.sn ≤ 9223372036854775807) :
 Calls Tryz.prog 38 #[at_ p] w fun e w' => e = .returned (.int .i64 c.ask.2) ∧ FsB w' p c.ask.1 ∧ w.grownBy w' (some p) := by
 obtain ⟨c0, c1, c2, c3, c4, c5, c6, c7, c8, c9⟩ := h.cells
 have f2 := Box.soft h 2
 have f4 := Box.soft h 4
 have f5 := Box.soft h 5
 have f6 := Box.soft h 6
 have hlt := Box.lt h
 obtain ⟨q, u, o, fs, fn, ss, sn, mn, ml, sa, sl, sc⟩ := c
 simp only at c0 c1 c2 c3 c4 c5 c6 c7 c8 c9 ho hf hs
 cases fs <;> cases ss
 all_goals
  go_enter Tryz.func38, Tryz.ntmps38
  go_wp2
 all_goals go_returns
 all_goals
  refine ⟨ret1 ?_, ?_, ?_⟩
  · simp [FsC.ask, *]
  · apply Box.eq
    · repeat (first | with_reducible apply Box.alloc | with_reducible apply Box.set)
      exact h
    · simp [FsC.ask, FsC.arr, *]
  · repeat (first | with_reducible apply grown_alloc | with_reducible apply grown_set)
    exact World.grownBy.refl _ _
end Go.Proofs.YtmlfbihlbiikeaaGreatDoor
