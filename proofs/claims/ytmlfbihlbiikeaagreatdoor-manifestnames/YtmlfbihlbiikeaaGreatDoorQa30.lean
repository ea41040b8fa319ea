/- What holds of a file system at all times, by plain functions: names in one line, changes of names that can be done anew, bytes counted. -/
import Derived.Test.YtmlfbihlbiikeaaGreatDoorQa02
import Derived.Test.YtmlfbihlbiikeaaGreatDoorQa28
namespace Go.Proofs.YtmlfbihlbiikeaaGreatDoor
theorem find_mem {l : List PName} {name : List UInt8} {k : Nat} (h : findN l name = some k) : ∃ x ∈ l, x.name = name ∧ x.file = k := by
  unfold findN at h
  cases hf : l.find? (fun x => x.name == name) with
  | none => rw [hf] at h; cases h
  | some x =>
    rw [hf] at h
    exact ⟨x, List.mem_of_find?_eq_some hf, by simpa using List.find?_some hf, by simpa using h⟩
theorem find_none {l : List PName} {name : List UInt8} (h : findN l name = none) : ∀ x ∈ l, x.name ≠ name := by
  intro x hx e
  unfold findN at h
  rw [Option.map_eq_none_iff, List.find?_eq_none] at h
  exact h x hx (by simp [e])
theorem find_of {l : List PName} (hn : (l.map (·.name)).Nodup) {x : PName} (hx : x ∈ l) : findN l x.name = some x.file := by
  induction l with
  | nil => cases hx
  | cons y r ih =>
    unfold findN
    rw [List.find?_cons]
    rw [List.map_cons, List.nodup_cons] at hn
    by_cases e : (y.name == x.name) = true
    · rw [e]
      rcases List.mem_cons.1 hx with rfl | hx
      · rfl
      · exact absurd (List.mem_map.2 ⟨x, hx, (by simpa using e : y.name = x.name).symm⟩) hn.1
    · have e' : (y.name == x.name) = false := by simpa using e
      rw [e']
      rcases List.mem_cons.1 hx with rfl | hx
      · simp at e
      · exact ih hn.2 hx
theorem mem_without {l : List PName} {name : List UInt8} {x : PName} : x ∈ without l name ↔ x ∈ l ∧ x.name ≠ name := by
  unfold without
  rw [List.mem_filter]
  simp
theorem without_absent {l : List PName} {name : List UInt8} (h : ∀ x ∈ l, x.name ≠ name) : without l name = l := by
  unfold without
  rw [List.filter_eq_self]
  intro x hx
  simpa using h x hx
theorem ins_perm (n : PName) : ∀ l : List PName, (insN n l).Perm (n :: l)
  | [] => List.Perm.refl _
  | x :: r => by
    unfold insN
    split
    · exact List.Perm.refl _
    · exact ((ins_perm n r).cons x).trans (List.Perm.swap n x r)
theorem with_perm (l : List PName) (n : PName) : (withN l n).Perm (n :: without l n.name) := ins_perm n _
theorem mem_with {l : List PName} {n x : PName} : x ∈ withN l n ↔ x = n ∨ (x ∈ l ∧ x.name ≠ n.name) := by
  rw [(with_perm l n).mem_iff, List.mem_cons, mem_without]
structure Nice (K : Nat) (l : List PName) : Prop where
  names : (l.map (·.name)).Nodup
  files : (l.map (·.file)).Nodup
  good : ∀ x ∈ l, goodN x.name = true ∧ x.file < K
theorem Nice.nil (K : Nat) : Nice K [] := ⟨List.nodup_nil, List.nodup_nil, fun _ h => by cases h⟩
theorem Nice.mono {K K' : Nat} {l : List PName} (h : Nice K l) (hk : K ≤ K') : Nice K' l := ⟨h.names, h.files, fun x hx => ⟨(h.good x hx).1, Nat.lt_of_lt_of_le (h.good x hx).2 hk⟩⟩
theorem Nice.without {K : Nat} {l : List PName} (h : Nice K l) (name : List UInt8) : Nice K (without l name) :=
  ⟨h.names.sublist (List.filter_sublist.map _), h.files.sublist (List.filter_sublist.map _), fun x hx => h.good x (mem_without.1 hx).1⟩
theorem Nice.with {K : Nat} {l : List PName} (h : Nice K l) (n : PName) (hg : goodN n.name = true) (hf : n.file < K) (hn : ∀ x ∈ l, x.name ≠ n.name → x.file ≠ n.file) : Nice K (withN l n) := by
  have hp := with_perm l n
  have hw := h.without n.name
  refine ⟨(hp.map _).nodup_iff.2 ?_, (hp.map _).nodup_iff.2 ?_, fun x hx => ?_⟩
  · rw [List.map_cons, List.nodup_cons]
    refine ⟨fun hm => ?_, hw.names⟩
    obtain ⟨y, hy, e⟩ := List.mem_map.1 hm
    exact (mem_without.1 hy).2 e
  · rw [List.map_cons, List.nodup_cons]
    refine ⟨fun hm => ?_, hw.files⟩
    obtain ⟨y, hy, e⟩ := List.mem_map.1 hm
    obtain ⟨h1, h2⟩ := mem_without.1 hy
    exact hn y h1 h2 e
  · rcases mem_with.1 hx with rfl | hx
    · exact ⟨hg, hf⟩
    · exact h.good x hx.1
theorem inj_of_nodup {α β : Type} {f : α → β} : ∀ {l : List α}, (l.map f).Nodup → ∀ x ∈ l, ∀ y ∈ l, f x = f y → x = y
  | [], _, x, hx, _, _, _ => by cases hx
  | a :: r, h, x, hx, y, hy, e => by
    rw [List.map_cons, List.nodup_cons] at h
    rcases List.mem_cons.1 hx with rfl | hx' <;> rcases List.mem_cons.1 hy with rfl | hy'
    · rfl
    · exact absurd (List.mem_map.2 ⟨y, hy', e.symm⟩) h.1
    · exact absurd (List.mem_map.2 ⟨x, hx', e⟩) h.1
    · exact inj_of_nodup h.2 x hx' y hy' e
structure OkC (K : Nat) (l : List PName) (c : PChange) : Prop where
  kind : c.kind = 1 ∨ c.kind = 2 ∨ c.kind = 3
  one : c.kind = 1 → goodN c.name = true ∧ findN l c.name = none ∧ c.file < K ∧ ∀ x ∈ l, x.file ≠ c.file
  two : c.kind = 2 → findN l c.name = some c.file ∧ goodN c.to = true
  three : c.kind = 3 → (findN l c.name).isSome = true
theorem Nice.step {K : Nat} {l : List PName} {c : PChange} (h : Nice K l) (hc : OkC K l c) : Nice K (changedN l c) := by
  unfold changedN
  rcases hc.kind with e | e | e
  · rw [if_pos e]
    obtain ⟨h1, h2, h3, h4⟩ := hc.one e
    exact h.with _ h1 h3 (fun x hx _ => h4 x hx)
  · rw [if_neg (by omega), if_pos e]
    obtain ⟨h1, h2⟩ := hc.two e
    obtain ⟨x, hx, e1, e2⟩ := find_mem h1
    refine (h.without _).with _ h2 (by simpa [← e2] using (h.good x hx).2) (fun y hy hne => ?_)
    obtain ⟨hy1, hy2⟩ := mem_without.1 hy
    intro e3
    exact hy2 (by rw [inj_of_nodup h.files y hy1 x hx (by rw [e2]; exact e3), e1])
  · rw [if_neg (by omega), if_neg (by omega)]
    exact h.without _
theorem OkC.mono {K K' : Nat} {l : List PName} {c : PChange} (h : OkC K l c) (hk : K ≤ K') : OkC K' l c := ⟨h.kind, fun e => let ⟨a, b, d, f⟩ := h.one e; ⟨a, b, Nat.lt_of_lt_of_le d hk, f⟩, h.two, h.three⟩
def Chain (K : Nat) : List PName → List PChange → List PName → Prop
  | l, [], m => l = m
  | l, c :: r, m => OkC K l c ∧ Chain K (changedN l c) r m
theorem Chain.snoc {K : Nat} {c : PChange} : ∀ {s : List PChange} {l m : List PName}, Chain K l s m → OkC K m c → Chain K l (s ++ [c]) (changedN m c)
  | [], _, _, h, hc => by obtain rfl := h; exact ⟨hc, rfl⟩
  | _ :: _, _, _, h, hc => ⟨h.1, Chain.snoc h.2 hc⟩
theorem Chain.nice {K : Nat} : ∀ {s : List PChange} {l m : List PName}, Nice K l → Chain K l s m → Nice K m
  | [], _, _, h, hc => by obtain rfl := hc; exact h
  | _ :: _, _, _, h, hc => Chain.nice (h.step hc.1) hc.2
theorem Chain.fold {K : Nat} : ∀ {s : List PChange} {l m : List PName}, Chain K l s m → m = s.foldl changedN l
  | [], _, _, h => h.symm
  | c :: r, l, _, h => Chain.fold (s := r) (l := changedN l c) h.2
theorem Chain.take {K : Nat} : ∀ {s : List PChange} {l m : List PName} (n : Nat), Chain K l s m → Chain K l (s.take n) ((s.take n).foldl changedN l)
  | [], _, _, n, _ => by simp [Chain]
  | c :: r, l, m, 0, h => rfl
  | c :: r, l, m, n + 1, h => ⟨h.1, Chain.take n h.2⟩
theorem Chain.mono {K K' : Nat} (hk : K ≤ K') : ∀ {s : List PChange} {l m : List PName}, Chain K l s m → Chain K' l s m
  | [], _, _, h => h
  | _ :: _, _, _, h => ⟨h.1.mono hk, Chain.mono hk h.2⟩
theorem without_le (l : List PName) (name : List UInt8) : (without l name).length ≤ l.length := List.length_filter_le _ _
theorem with_le (l : List PName) (n : PName) : (withN l n).length ≤ l.length + 1 := by
  have := (with_perm l n).length_eq
  have h2 := without_le l n.name
  simp at this
  omega
theorem changed_le (l : List PName) (c : PChange) : (changedN l c).length ≤ l.length + 1 := by
  unfold changedN
  split
  · exact with_le _ _
  · split
    · have := with_le (without l c.name) ⟨c.to, c.file⟩
      have := without_le l c.name
      omega
    · have := without_le l c.name
      omega
theorem Chain.length {K : Nat} : ∀ {s : List PChange} {l m : List PName}, Chain K l s m → m.length ≤ l.length + s.length
  | [], _, _, h => by obtain rfl := h; exact Nat.le_refl _
  | c :: r, l, _, h => by
    have := Chain.length h.2
    have := changed_le l c
    simp
    omega
theorem Chain.live {K : Nat} {L : Nat → Prop} : ∀ {s : List PChange} {l m : List PName}, Chain K l s m → (∀ x ∈ l, L x.file) → (∀ c ∈ s, c.kind = 1 → L c.file) → ∀ x ∈ m, L x.file
  | [], _, _, h, hl, _ => by obtain rfl := h; exact hl
  | c :: r, l, _, h, hl, hs => by
    refine Chain.live h.2 (fun x hx => ?_) (fun d hd => hs d (List.mem_cons_of_mem _ hd))
    unfold changedN at hx
    split at hx
    · rename_i e
      rcases mem_with.1 hx with rfl | hx
      · exact hs c (List.mem_cons_self ..) e
      · exact hl x hx.1
    · split at hx
      · rename_i e1 e
        rcases mem_with.1 hx with rfl | hx
        · obtain ⟨y, hy, _, e2⟩ := find_mem (h.1.two e).1
          rw [← e2]
          exact hl y hy
        · exact hl x (mem_without.1 hx.1).1
      · exact hl x (mem_without.1 hx).1
theorem Chain.files {K : Nat} : ∀ {s : List PChange} {l m : List PName}, Chain K l s m → ∀ c ∈ s, c.kind = 1 → c.file < K
  | [], _, _, _, c, hc, _ => by cases hc
  | d :: r, l, m, h, c, hc, hk => by
    rcases List.mem_cons.1 hc with rfl | hc
    · exact (h.1.one hk).2.2.1
    · exact Chain.files h.2 c hc hk
/-! bytes -/
def bulkF (len : Nat → Nat) : List PName → Nat
  | [] => 0
  | n :: r => len n.file + bulkF len r
theorem bulk_eq (S : PFs) : ∀ l, S.bulk l = bulkF (fun k => (S.fileOf k).b.length) l
  | [] => rfl
  | n :: r => by rw [PFs.bulk, bulkF, bulk_eq S r]
theorem bulkF_perm {len : Nat → Nat} {l m : List PName} (h : l.Perm m) : bulkF len l = bulkF len m := by
  induction h with
  | nil => rfl
  | cons x _ ih => simp [bulkF, ih]
  | swap x y l => simp [bulkF]; omega
  | trans _ _ h1 h2 => exact h1.trans h2
theorem bulkF_congr {len len' : Nat → Nat} : ∀ {l : List PName}, (∀ x ∈ l, len x.file = len' x.file) → bulkF len l = bulkF len' l
  | [], _ => rfl
  | n :: r, h => by rw [bulkF, bulkF, h n (List.mem_cons_self ..), bulkF_congr fun x hx => h x (List.mem_cons_of_mem _ hx)]
theorem bulkF_le {len : Nat → Nat} {M : Nat} (h : ∀ k, len k ≤ M) : ∀ l : List PName, bulkF len l ≤ l.length * M
  | [] => Nat.zero_le _
  | n :: r => by
    have h1 := h n.file
    have h2 := bulkF_le h r
    simp only [bulkF, List.length_cons, Nat.succ_mul]
    omega
theorem perm_without {l : List PName} (hn : (l.map (·.name)).Nodup) {x : PName} (hx : x ∈ l) : l.Perm (x :: without l x.name) := by
  induction l with
  | nil => cases hx
  | cons y r ih =>
    rw [List.map_cons, List.nodup_cons] at hn
    rcases List.mem_cons.1 hx with rfl | hx'
    · have : without (x :: r) x.name = r := by
        unfold without
        rw [List.filter_cons]
        simp only [bne_self_eq_false, Bool.false_eq_true, if_false]
        exact without_absent (fun z hz e => hn.1 (List.mem_map.2 ⟨z, hz, e⟩))
      rw [this]
    · have hne : y.name ≠ x.name := fun e => hn.1 (List.mem_map.2 ⟨x, hx', e.symm⟩)
      have : without (y :: r) x.name = y :: without r x.name := by
        unfold without
        rw [List.filter_cons]
        simp [hne]
      rw [this]
      exact ((ih hn.2 hx').cons y).trans (List.Perm.swap x y _)
theorem bulk_without {len : Nat → Nat} {K : Nat} {l : List PName} (h : Nice K l) {name : List UInt8} {k : Nat} (hf : findN l name = some k) : bulkF len l = len k + bulkF len (without l name) := by
  obtain ⟨x, hx, rfl, rfl⟩ := find_mem hf
  rw [bulkF_perm (perm_without h.names hx)]
  rfl
theorem bulk_with (len : Nat → Nat) (l : List PName) (n : PName) : bulkF len (withN l n) = len n.file + bulkF len (without l n.name) := by
  rw [bulkF_perm (with_perm l n)]
  rfl
theorem without_twice (l : List PName) (a : List UInt8) : without (without l a) a = without l a := without_absent (fun _ h => (mem_without.1 h).2)
theorem bulk_set {len len' : Nat → Nat} {K : Nat} {l : List PName} (h : Nice K l) {name : List UInt8} {k : Nat} (hf : findN l name = some k) (he : ∀ j, j ≠ k → len' j = len j) : bulkF len' l + len k = bulkF len l + len' k := by
  rw [bulk_without (len := len') h hf, bulk_without (len := len) h hf]
  obtain ⟨x, hx, e1, e2⟩ := find_mem hf
  have : bulkF len' (without l name) = bulkF len (without l name) := bulkF_congr fun y hy => he _ fun e => by
    obtain ⟨h1, h2⟩ := mem_without.1 hy
    exact h2 (by rw [inj_of_nodup h.files y h1 x hx (by rw [e, e2]), e1])
  omega
def news (s : List PChange) : List Nat := (s.filter (fun c => c.kind == 1)).map (·.file)
theorem news_snoc (s : List PChange) (c : PChange) : news (s ++ [c]) = if c.kind = 1 then news s ++ [c.file] else news s := by
  unfold news
  rw [List.filter_append, List.map_append]
  by_cases e : c.kind = 1
  · simp [e]
  · simp [e]
theorem mem_news {s : List PChange} {k : Nat} : k ∈ news s ↔ ∃ c ∈ s, c.kind = 1 ∧ c.file = k := by
  unfold news
  rw [List.mem_map]
  constructor
  · rintro ⟨c, hc, e⟩
    obtain ⟨h1, h2⟩ := List.mem_filter.1 hc
    exact ⟨c, h1, by simpa using h2, e⟩
  · rintro ⟨c, hc, h1, e⟩
    exact ⟨c, List.mem_filter.2 ⟨hc, by simpa using h1⟩, e⟩
structure Inv (S : PFs) : Prop where
  asked : S.asked ≤ 1000000
  quota : S.quota ≤ 1048576
  fuse : S.fused = true → 0 ≤ S.fuse ∧ S.fuse ≤ 9223372036854775807
  fail : S.fails = true → 0 ≤ S.fail ∧ S.fail ≤ 9223372036854775807
  lasts : Nice S.files.length S.lasts
  chain : Chain S.files.length S.lasts S.since S.names
  count : S.lasts.length + S.since.length ≤ S.asked
  lens : ∀ k, (S.fileOf k).b.length ≤ 1048576
  last : ∀ k, (S.fileOf k).last ≤ (S.fileOf k).b.length
  fresh : (S.lasts.map (·.file) ++ news S.since).Nodup
theorem Inv.nice {S : PFs} (h : Inv S) : Nice S.files.length S.names := Chain.nice h.lasts h.chain
theorem Inv.few {S : PFs} (h : Inv S) : S.names.length ≤ 1000000 := by
  have := Chain.length h.chain
  have := h.count
  have := h.asked
  omega
theorem Inv.bulk {S : PFs} (h : Inv S) : S.bulk S.names ≤ 1048576000000 := by
  rw [bulk_eq]
  have := bulkF_le (len := fun k => (S.fileOf k).b.length) h.lens S.names
  have := h.few
  omega
theorem good_len {name : List UInt8} (h : goodN name = true) : 0 < name.length ∧ name.length ≤ 32 := by
  unfold goodN at h
  simpa using h
theorem Inv.short {S : PFs} (h : Inv S) : ∀ x ∈ S.names, x.name.length ≤ 32 := fun x hx => (good_len (h.nice.good x hx).1).2
theorem Nice.short {K : Nat} {l : List PName} (h : Nice K l) : ∀ x ∈ l, x.name.length ≤ 32 := fun x hx => (good_len (h.good x hx).1).2
end Go.Proofs.YtmlfbihlbiikeaaGreatDoor
namespace Go.Proofs.YtmlfbihlbiikeaaGreatDoor
open Go.RowKit
structure FG where
  blk : Nat
  a : Option Addr
  cap : Nat
def FG.row (f : FG) : Option Nat := (Value.slice f.a 0 0).ownBlock
theorem FG.row_eq (f : FG) (n c : Nat) : (Value.slice f.a n c).ownBlock = f.row := by
  unfold FG.row
  cases f.a <;> rfl
structure FileAt (w : World) (f : FG) (x : PFile) : Prop where
  box : Box w f.blk 99 #[.slice f.a x.b.length f.cap, .int .i64 ((x.last : Nat) : Int)]
  own : OwnB w 0 f.a x.b.length f.cap x.b
theorem FileAt.kept {w w' : World} {f : FG} {x : PFile} (h : FileAt w f x) (hb : w'.heap[f.blk]? = w.heap[f.blk]?) (hr : ∀ b, f.row = some b → w'.heap[b]? = w.heap[b]?) : FileAt w' f x :=
  ⟨h.box.kept hb, ⟨h.own.size, row_same h.own.row (fun b e => hr b (by rw [← f.row_eq]; exact e))⟩⟩
def cellsC1 (blk : Nat → Nat) (c : PChange) : List Value :=
  if c.kind = 1 then [.string ByteArray.empty, .string (strOf c.name), at_ (blk c.file)]
  else if c.kind = 2 then [.string (strOf c.name), .string (strOf c.to), .pointer none]
  else [.string (strOf c.name), .string ByteArray.empty, .pointer none]
def cellsC (blk : Nat → Nat) : List PChange → List Value
  | [] => []
  | c :: r => cellsC1 blk c ++ cellsC blk r
theorem cellsC1_length (blk : Nat → Nat) (c : PChange) : (cellsC1 blk c).length = 3 := by
  unfold cellsC1
  split
  · rfl
  · split <;> rfl
theorem cellsC_append (blk : Nat → Nat) : ∀ l m, cellsC blk (l ++ m) = cellsC blk l ++ cellsC blk m
  | [], _ => rfl
  | c :: r, m => by rw [List.cons_append, cellsC, cellsC, cellsC_append blk r m, List.append_assoc]
theorem cellsC1_congr {blk blk' : Nat → Nat} {c : PChange} (h : c.kind = 1 → blk c.file = blk' c.file) : cellsC1 blk c = cellsC1 blk' c := by
  unfold cellsC1
  split
  · rename_i e
    rw [h e]
  · rfl
theorem cellsC_congr {blk blk' : Nat → Nat} : ∀ {l : List PChange}, (∀ c ∈ l, c.kind = 1 → blk c.file = blk' c.file) → cellsC blk l = cellsC blk' l
  | [], _ => rfl
  | c :: r, h => by rw [cellsC, cellsC, cellsC1_congr (h c (List.mem_cons_self ..)), cellsC_congr fun d hd => h d (List.mem_cons_of_mem _ hd)]
structure Gh where
  fl : Nat → FG
  live : Nat → Prop
  mn : Option Nat
  ml : Option Nat
  sa : Option Addr
  sc : Nat
def Gh.blk (g : Gh) (k : Nat) : Nat := (g.fl k).blk
def Gh.srow (g : Gh) : Option Nat := (Value.slice g.sa 0 0).ownBlock
theorem Gh.srow_eq (g : Gh) (n c : Nat) : (Value.slice g.sa n c).ownBlock = g.srow := by
  unfold Gh.srow
  cases g.sa <;> rfl
def cellsOf (S : PFs) (g : Gh) : FsC := ⟨S.quota, S.bulk S.names, S.asked, S.fused, if S.fused then S.fuse else 0, S.fails, if S.fails then S.fail else 0, g.mn, g.ml, g.sa, S.since.length, g.sc⟩
structure FsAt (w : World) (p : Nat) (S : PFs) (g : Gh) : Prop where
  fs : FsB w p (cellsOf S g)
  nm : NmAt w g.mn g.blk S.names
  lm : NmAt w g.ml g.blk S.lasts
  apart : ∀ m, g.mn = some m → g.ml ≠ some m
  sn : w.ownsRow 0 101 3 (.slice g.sa S.since.length g.sc) S.since.length (cellsC g.blk S.since)
  files : ∀ k, g.live k → FileAt w (g.fl k) (S.fileOf k)
  inj : ∀ k j, g.live k → g.live j → k ≠ j → (g.fl k).blk ≠ (g.fl j).blk ∧ ∀ b, (g.fl k).row = some b → (g.fl j).row ≠ some b
  liveN : ∀ x ∈ S.names, g.live x.file
  liveL : ∀ x ∈ S.lasts, g.live x.file
  liveS : ∀ c ∈ S.since, c.kind = 1 → g.live c.file
def Inner (g : Gh) (k : Nat) : Prop := g.mn = some k ∨ g.ml = some k ∨ g.srow = some k ∨ ∃ j, g.live j ∧ (k = (g.fl j).blk ∨ (g.fl j).row = some k)
def Foot (p : Nat) (g : Gh) (k : Nat) : Prop := k = p ∨ Inner g k
theorem NmAt.tag {w : World} {m : Nat} {blk : Nat → Nat} {l : List PName} (h : NmAt w (some m) blk l) : tag w m = some 1000 := by
  obtain ⟨es, clock, hb⟩ := h.isMap
  unfold Go.Proofs.YtmlfbihlbiikeaaGreatDoor.tag
  rw [hb]
  rfl
section
variable {w : World} {p : Nat} {S : PFs} {g : Gh}
theorem FsAt.tagP (h : FsAt w p S g) : tag w p = some 88 := Box.tag h.fs
theorem FsAt.tagN (h : FsAt w p S g) {m : Nat} (e : g.mn = some m) : tag w m = some 1000 := by
  have := h.nm
  rw [e] at this
  exact this.tag
theorem FsAt.tagL (h : FsAt w p S g) {m : Nat} (e : g.ml = some m) : tag w m = some 1000 := by
  have := h.lm
  rw [e] at this
  exact this.tag
theorem FsAt.tagS (h : FsAt w p S g) {b : Nat} (e : g.srow = some b) : tag w b = some 101 := row_tag h.sn (by rw [g.srow_eq]; exact e)
theorem FsAt.tagF (h : FsAt w p S g) {k : Nat} (hk : g.live k) : tag w (g.fl k).blk = some 99 := (h.files k hk).box.tag
theorem FsAt.tagR (h : FsAt w p S g) {k b : Nat} (hk : g.live k) (e : (g.fl k).row = some b) : tag w b = some 5 := row_tag (h.files k hk).own.row (by rw [FG.row_eq]; exact e)
theorem FsAt.foot_lt (h : FsAt w p S g) {k : Nat} (hk : Foot p g k) : k < w.heap.size := by
  rcases hk with rfl | e | e | e | ⟨j, hj, rfl | e⟩
  · exact tag_lt h.tagP
  · exact tag_lt (h.tagN e)
  · exact tag_lt (h.tagL e)
  · exact tag_lt (h.tagS e)
  · exact tag_lt (h.tagF hj)
  · exact tag_lt (h.tagR hj e)
theorem FsAt.inner_ne (h : FsAt w p S g) {k : Nat} (hk : Inner g k) : k ≠ p := by
  rcases hk with e | e | e | ⟨j, hj, rfl | e⟩
  · exact tag_ne (h.tagN e) h.tagP (by decide)
  · exact tag_ne (h.tagL e) h.tagP (by decide)
  · exact tag_ne (h.tagS e) h.tagP (by decide)
  · exact tag_ne (h.tagF hj) h.tagP (by decide)
  · exact tag_ne (h.tagR hj e) h.tagP (by decide)
theorem FsAt.frame {w' : World} {S' : PFs} (h : FsAt w p S g) (hs : ∀ k, Inner g k → w'.heap[k]? = w.heap[k]?) (hfs : FsB w' p (cellsOf S' g)) (e1 : S'.names = S.names) (e2 : S'.lasts = S.lasts) (e3 : S'.since = S.since) (e4 : S'.files = S.files) : FsAt w' p S' g where
  fs := hfs
  nm := by rw [e1]; exact h.nm.kept fun m e => hs m (.inl e)
  lm := by rw [e2]; exact h.lm.kept fun m e => hs m (.inr (.inl e))
  apart := h.apart
  sn := by rw [e3]; exact row_same h.sn fun b e => hs b (.inr (.inr (.inl (by rw [← g.srow_eq]; exact e))))
  files := fun k hk => by
    have : S'.fileOf k = S.fileOf k := by unfold PFs.fileOf; rw [e4]
    rw [this]
    exact (h.files k hk).kept (hs _ (.inr (.inr (.inr ⟨k, hk, .inl rfl⟩)))) fun b e => hs b (.inr (.inr (.inr ⟨k, hk, .inr e⟩)))
  inj := h.inj
  liveN := by rw [e1]; exact h.liveN
  liveL := by rw [e2]; exact h.liveL
  liveS := by rw [e3]; exact h.liveS
end
end Go.Proofs.YtmlfbihlbiikeaaGreatDoor
