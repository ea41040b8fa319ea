/- The contracts of Read, List and Damage. -/
import Derived.Test.YtkelahekfkhcfaaSmall
import Derived.Test.YtkelahekfkhcfaaRising
import Derived.Test.YtkelahekfkhcfaaBits
namespace Go.Proofs.Ytkelahekfkhcfaa
open Go.RowKit Go.Maps
set_option maxRecDepth 100000 in
theorem readable_at {w : World} {p : Nat} {S : PFs} {g : Gh} (h : FsAt w p S g) : Calls Try.prog 53 #[at_ p] w fun e w' => e = .returned (.int .i64 (if S.off = true then 44 else 0)) ∧ Below w.heap.size w w' := by
  obtain ⟨q0, q1, q2, q3, q4, _⟩ := h.fs.cells
  simp only [cellsOf] at q3 q4
  have hoff : S.off = (S.fused && (S.fuse == 0)) := rfl
  cases hf : S.fused with
  | false =>
    rw [hf] at q3 q4 hoff
    simp only [Bool.false_eq_true, if_false] at q4
    rw [hoff]
    go_enter Try.func53, Try.ntmps53
    go_wp2
    go_returns
    exact ⟨rfl, (Below.refl _ _).alloc (Nat.le_refl _) _⟩
  | true =>
    rw [hf] at q3 q4 hoff
    simp only [if_true] at q4
    rw [hoff]
    by_cases h0 : S.fuse = 0
    · rw [h0] at q4 ⊢
      go_enter Try.func53, Try.ntmps53
      go_wp2
      go_returns
      exact ⟨rfl, (Below.refl _ _).alloc (Nat.le_refl _) _⟩
    · have e : (S.fuse == 0) = false := by simpa using h0
      rw [e]
      go_enter Try.func53, Try.ntmps53
      go_wp2
      go_returns
      exact ⟨rfl, (Below.refl _ _).alloc (Nat.le_refl _) _⟩
theorem FsAt.below {w w' : World} {p : Nat} {S : PFs} {g : Gh} (h : FsAt w p S g) (hb : Below w.heap.size w w') : FsAt w' p S g := h.frame (fun k hk => hb.block k (h.foot_lt (.inr hk))) (Box.kept h.fs (hb.block p (tag_lt h.tagP))) rfl rfl rfl rfl
set_option maxRecDepth 100000 in
theorem read_at {w : World} {p : Nat} {S : PFs} {g : Gh} (h : FsAt w p S g) (hI : Inv S) (name : ByteArray) : Calls Try.prog 22 #[at_ p, .string name] w fun e w' =>
    ∃ a c, e = .returned (.tuple #[.slice a (S.read name.data.toList).1.length c, .int .i64 ((S.read name.data.toList).2 : Nat)]) ∧ OwnB w' w.heap.size a (S.read name.data.toList).1.length c (S.read name.data.toList).1 ∧ Below w.heap.size w w' := by
  go_enter Try.func22, Try.ntmps22
  go_wp2_with fail
  refine (readable_at h).mono ?_
  rintro e w2 ⟨rfl, hb2⟩
  by_cases ho : S.off = true
  · rw [if_pos ho]
    have hS : S.read name.data.toList = ([], 44) := by rw [PFs.read, if_pos ho]
    go_wp2
    go_returns
    rw [hS]
    exact ⟨none, 0, rfl, ⟨rfl, World.ownsRow_nil _ _ _ 1⟩, hb2⟩
  · rw [if_neg ho]
    have h2 := h.below hb2
    obtain ⟨q0, q1, q2, q3, q4, q5, q6, q7, _⟩ := h2.fs.cells
    simp only [cellsOf] at q7
    have hlk := h2.nm.look hI.short name
    cases hf : findN S.names name.data.toList with
    | none =>
      rw [hf, ptrOf] at hlk
      have hS : S.read name.data.toList = ([], 42) := by rw [PFs.read, if_neg ho, hf]
      go_wp2
      go_returns
      rw [hS]
      exact ⟨none, 0, rfl, ⟨rfl, World.ownsRow_nil _ _ _ 1⟩, hb2⟩
    | some k =>
      rw [hf, ptrOf] at hlk
      have hS : S.read name.data.toList = ((S.fileOf k).b, 0) := by rw [PFs.read, if_neg ho, hf]
      obtain ⟨x, hx, _, hxk⟩ := find_mem hf
      have hk : g.live k := by rw [← hxk]; exact h.liveN x hx
      have hF := h2.files k hk
      have c0 := hF.box.cell 0
      simp at c0
      rw [show g.blk k = (g.fl k).blk from rfl] at hlk
      have hbl := hI.lens k
      go_wp2_with fail
      refine (copied_any w2 _ _ _ _ hF.own.bs (by omega)).mono ?_
      rintro e w3 ⟨rfl, ho3, hb3, _⟩
      go_wp2
      go_returns
      rw [hS]
      exact ⟨_, _, rfl, ho3.mono hb2.size, hb2.trans (hb3.mono hb2.size)⟩
theorem lt_of_ltB : ∀ a b : List UInt8, ltB a b = true → a < b
  | _, [], h => by cases ‹List UInt8› <;> simp [ltB] at h
  | [], _ :: _, _ => List.nil_lt_cons _ _
  | a :: r, b :: s, h => by
    rw [List.cons_lt_cons_iff]
    unfold ltB at h
    split at h
    · rename_i h1
      exact .inl h1
    · rename_i h1
      split at h
      · cases h
      · rename_i h2
        exact .inr ⟨UInt8.toNat_inj.1 (by omega), lt_of_ltB r s h⟩
theorem names_sorted {w : World} {m : Nat} {blk : Nat → Nat} {l : List PName} (h : NmAt w (some m) blk l) : (l.map (·.name)).mergeSort (fun x y => decide (x ≤ y)) = l.map (·.name) := by
  obtain ⟨es, he, hp, _⟩ := World.ownsMap.canon h lawS
  have e : l.map (entOf blk) = es := by simpa [mapOf] using he
  rw [← e] at hp
  refine List.mergeSort_of_pairwise ?_
  rw [List.pairwise_map] at hp ⊢
  refine hp.imp fun {x y} hxy => ?_
  rw [ltB_before] at hxy
  exact decide_eq_true (List.le_of_lt (lt_of_ltB _ _ hxy))
theorem ssAt_of_row {w : World} {B : Nat} {v : Value} {l : List (List UInt8)} (h : w.ownsRow B 9 1 v l.length (l.map Go.Proofs.encStr)) : ∃ a c, v = .slice a l.length c ∧ SsAt w a l.length c l ∧ ∀ ad, a = some ad → B ≤ ad.block ∧ ad.block < w.heap.size := by
  rcases h.2 with ⟨hv, hn⟩ | ⟨g, c, cur, hv, hb, hg, hn, hc, hz, ht⟩
  · rw [hn]
    refine ⟨none, 0, hv, ⟨hn, Nat.le_refl _, Nat.zero_le _, fun _ => rfl, fun h0 => absurd h0 (Nat.lt_irrefl _)⟩, fun ad e => by cases e⟩
  · refine ⟨_, c, hv, ⟨rfl, hn, hc, fun h0 => by simp at h0, fun _ => ⟨g, 0, rfl, fun j hj => ?_⟩⟩, fun ad e => ?_⟩
    · rw [hv] at h
      have hca := World.ownsRow.cellAt h j (by omega)
      rw [Nat.zero_add, hca]
      simp [List.getD, hj, Go.Proofs.Ytkelahekfkhcfaa.strOf]
    · cases e
      exact ⟨hb, (Array.getElem?_eq_some_iff.1 hg).1⟩
set_option maxRecDepth 100000 in
theorem list_at {w : World} {p : Nat} {S : PFs} {g : Gh} (h : FsAt w p S g) (hI : Inv S) : Calls Try.prog 23 #[at_ p] w fun e w' =>
    ∃ a c, e = .returned (.tuple #[.slice a S.list.1.length c, .int .i64 (S.list.2 : Nat)]) ∧ SsAt w' a S.list.1.length c S.list.1 ∧ (∀ ad, a = some ad → w.heap.size ≤ ad.block ∧ ad.block < w'.heap.size) ∧ Below w.heap.size w w' := by
  go_enter Try.func23, Try.ntmps23
  go_wp2_with fail
  refine (readable_at h).mono ?_
  rintro e w2 ⟨rfl, hb2⟩
  have nil : ∀ W : World, SsAt W none 0 0 [] := fun W => ⟨rfl, Nat.le_refl _, Nat.zero_le _, fun _ => rfl, fun h0 => absurd h0 (Nat.lt_irrefl _)⟩
  by_cases ho : S.off = true
  · rw [if_pos ho]
    have hS : S.list = ([], 44) := by rw [PFs.list, if_pos ho]
    go_wp2
    go_returns
    rw [hS]
    exact ⟨none, 0, rfl, nil _, (fun _ e => by cases e), hb2⟩
  · rw [if_neg ho]
    have hS : S.list = (S.names.map (·.name), 0) := by rw [PFs.list, if_neg ho]
    have h2 := h.below hb2
    obtain ⟨q0, q1, q2, q3, q4, q5, q6, q7, _⟩ := h2.fs.cells
    simp only [cellsOf] at q7
    have hnm := h2.nm
    cases hm : g.mn with
    | none =>
      rw [hm] at q7 hnm
      have hn0 : S.names = [] := hnm
      go_wp2_with fail
      refine (rising_nil w2).mono ?_
      rintro e w3 ⟨rfl, hb3⟩
      go_wp2
      go_returns
      rw [hS, hn0]
      exact ⟨none, 0, rfl, nil _, (fun _ e => by cases e), hb2.trans (hb3.mono hb2.size)⟩
    | some m =>
      rw [hm] at q7 hnm
      have hfew := hI.few
      go_wp2_with fail
      refine (rising_own m _ (mapOf g.blk S.names) ptrElem w2 hnm (by rw [mapOf_size]; unfold maxLen; omega) (by rw [mapOf_size]; omega)).mono ?_
      rintro e w3 ⟨v, ss, rfl, hperm, hrow, _, hb3⟩
      have hss : ss.mergeSort (fun x y => decide (x ≤ y)) = S.names.map (·.name) := by
        rw [mapOf_keys] at hperm
        rw [← names_sorted hnm]
        exact mergeSort_of_perm hperm
      have hlen : ss.length = (S.names.map (·.name)).length := by
        rw [mapOf_keys] at hperm
        exact hperm.length_eq
      rw [hss, hlen] at hrow
      obtain ⟨a, c, rfl, hs3, hf3⟩ := ssAt_of_row hrow
      go_wp2
      go_returns
      rw [hS]
      refine ⟨a, c, ret2 ?_ rfl, hs3, fun ad e => ⟨Nat.le_trans hb2.size (hf3 ad e).1, (hf3 ad e).2⟩, hb2.trans (hb3.mono hb2.size)⟩
      show Value.slice a S.names.length c = Value.slice a (S.names.map (·.name)).length c
      rw [List.length_map]
set_option maxRecDepth 100000 in
set_option maxHeartbeats 1000000 in
theorem damage_at {w : World} {p : Nat} {S : PFs} {g : Gh} (h : FsAt w p S g) (hI : Inv S) (name : ByteArray) (n : Int) (t : UInt8) (hn : -9223372036854775808 ≤ n ∧ n ≤ 9223372036854775807) : Calls Try.prog 28 #[at_ p, .string name, .int .i64 n, .int .u8 (t.toNat : Int)] w fun e w' =>
    e = .returned (.int .i64 ((S.damage name.data.toList n t).2 : Nat)) ∧ Inv (S.damage name.data.toList n t).1 ∧ ∃ g', FsAt w' p (S.damage name.data.toList n t).1 g' ∧ Turn p g g' w w' := by
  obtain ⟨q0, q1, q2, q3, q4, q5, q6, q7, _⟩ := h.fs.cells
  simp only [cellsOf] at q7
  have hlk := h.nm.look hI.short name
  cases hf : findN S.names name.data.toList with
  | none =>
    rw [hf, ptrOf] at hlk
    have HS : Hid (S.damage name.data.toList n t = (S, 42)) := by
      show S.damage name.data.toList n t = _
      rw [PFs.damage, hf]
    go_enter Try.func28, Try.ntmps28
    go_wp2
    go_returns
    rw [HS.out]
    exact ⟨rfl, hI, g, h, Turn.same (Chg.refl _ _)⟩
  | some k =>
    rw [hf, ptrOf] at hlk
    obtain ⟨x, hx, _, hxk⟩ := find_mem hf
    have hk : g.live k := by rw [← hxk]; exact h.liveN x hx
    have hkl : k < S.files.length := by rw [← hxk]; exact (hI.nice.good x hx).2
    have hF := h.files k hk
    have c0 := hF.box.cell 0
    simp at c0
    rw [show g.blk k = (g.fl k).blk from rfl] at hlk
    have hbl := hI.lens k
    obtain ⟨L, HL⟩ : ∃ L, Hid (L = (S.fileOf k).b.length) := ⟨_, rfl⟩
    rw [← HL.out] at c0 hbl
    by_cases h1 : n < 0
    · have HS : Hid (S.damage name.data.toList n t = (S, 1)) := by
        show S.damage name.data.toList n t = _
        rw [PFs.damage, hf]
        show (if _ then _ else _) = _
        rw [if_pos (.inl h1)]
      go_enter Try.func28, Try.ntmps28
      go_wp2
      go_returns
      rw [HS.out]
      exact ⟨rfl, hI, g, h, Turn.same (Chg.refl _ _)⟩
    · by_cases h2 : (L : Int) ≤ n
      · have HS : Hid (S.damage name.data.toList n t = (S, 1)) := by
          show S.damage name.data.toList n t = _
          rw [PFs.damage, hf]
          show (if _ then _ else _) = _
          rw [if_pos (.inr (by rw [← HL.out]; exact h2))]
        go_enter Try.func28, Try.ntmps28
        go_wp2
        go_returns
        rw [HS.out]
        exact ⟨rfl, hI, g, h, Turn.same (Chg.refl _ _)⟩
      · obtain ⟨j, rfl⟩ : ∃ j : Nat, n = (j : Int) := ⟨n.toNat, by omega⟩
        have hj : j < L := by omega
        have HS : Hid (S.damage name.data.toList (j : Int) t = ({ S with files := S.files.set k ⟨(S.fileOf k).b.set j ((S.fileOf k).b.getD j 0 ^^^ t), (S.fileOf k).last⟩ }, 0)) := by
          show S.damage name.data.toList (j : Int) t = _
          rw [PFs.damage, hf]
          show (if _ then _ else _) = _
          rw [if_neg (by rw [← HL.out]; omega)]
          rfl
        obtain ⟨gb, ea, _, hglt, hcell⟩ := hF.own.cells (by rw [← HL.out]; omega)
        have hcj := hcell j (by rw [← HL.out]; exact hj)
        have hown := hF.own
        rw [ea] at c0 hown
        have hfz := hown.unfrozen j
        obtain ⟨y, HY⟩ : ∃ y, Hid (y = (S.fileOf k).b.getD j 0) := ⟨_, rfl⟩
        rw [← HY.out] at hcj
        have hxor : bits .xor .u8 (y.toNat : Int) (t.toNat : Int) = (((y ^^^ t).toNat : Nat) : Int) := by
          rw [nbits_xor8 y.toNat t.toNat y.toNat_lt t.toNat_lt]
          rfl
        have hj1 : (j : Int) < (L : Int) := by omega
        have hrg : (g.fl k).row = some gb := by unfold FG.row; rw [ea]; rfl
        have hpg : gb ≠ p := tag_ne (h.tagR hk hrg) h.tagP (by decide)
        have hbg : gb ≠ (g.fl k).blk := tag_ne (h.tagR hk hrg) (h.tagF hk) (by decide)
        go_enter Try.func28, Try.ntmps28
        go_wp2
        go_returns
        rw [HS.out]
        have hfo := fun i => fileOf_set S k i ⟨(S.fileOf k).b.set j ((S.fileOf k).b.getD j 0 ^^^ t), (S.fileOf k).last⟩ hkl
        have hch : Chg (fun i => i = p ∨ i = (g.fl k).blk ∨ (g.fl k).row = some i) w (w.setCell ⟨gb, j, none⟩ (.int .u8 (((y ^^^ t).toNat : Nat) : Int))) := (Chg.refl _ _).set (p := gb) (fun _ => .inr (.inr hrg)) _ _
        refine ⟨rfl, hI.file (k := k) (x := ⟨(S.fileOf k).b.set j ((S.fileOf k).b.getD j 0 ^^^ t), (S.fileOf k).last⟩) hkl rfl rfl rfl rfl rfl rfl ⟨rfl, rfl, rfl, rfl⟩ (by show (List.set _ _ _).length ≤ _; rw [List.length_set, ← HL.out]; exact hbl) (by show (S.fileOf k).last ≤ (List.set _ _ _).length; rw [List.length_set]; exact hI.last k), g.put k (g.fl k), ?_, Turn.file hk rfl (fun b e => .inl e) hch⟩
        refine FsAt.file h hk rfl (fun b e => .inl e) ?_ (fun i hi => by rw [hfo, if_neg hi]) rfl rfl rfl ?_ hch
        · rw [hfo, if_pos rfl]
          refine ⟨?_, ?_⟩
          · show Box _ _ _ #[.slice (g.fl k).a (List.set _ _ _).length (g.fl k).cap, _]
            rw [List.length_set]
            exact hF.box.kept (Below.heap_setCell _ _ _ _ hbg.symm)
          · show OwnB _ 0 (g.fl k).a (List.set _ _ _).length (g.fl k).cap _
            rw [List.length_set, ea, ← HY.out]
            have hst := hown.row.stored j (.int .u8 (((y ^^^ t).toNat : Nat) : Int))
            refine ⟨by rw [List.length_set], ?_⟩
            have e : cellsB ((S.fileOf k).b.set j (y ^^^ t)) = (cellsB (S.fileOf k).b).set j (.int .u8 (((y ^^^ t).toNat : Nat) : Int)) := by simp [cellsB, List.map_set]
            rw [e]
            exact hst.1
        · have e : cellsOf ({ S with files := S.files.set k ⟨(S.fileOf k).b.set j ((S.fileOf k).b.getD j 0 ^^^ t), (S.fileOf k).last⟩ } : PFs) g = cellsOf S g := by
            unfold cellsOf
            have : ({ S with files := S.files.set k ⟨(S.fileOf k).b.set j ((S.fileOf k).b.getD j 0 ^^^ t), (S.fileOf k).last⟩ } : PFs).bulk S.names = S.bulk S.names := by
              rw [bulk_eq, bulk_eq]
              refine bulkF_congr fun x _ => ?_
              simp only [hfo]
              split
              · rename_i e
                rw [e]
                exact List.length_set
              · rfl
            rw [this]
          rw [e]
          exact Box.kept h.fs (Below.heap_setCell _ _ _ _ hpg.symm)
end Go.Proofs.Ytkelahekfkhcfaa
