/- The contracts of pickAt and cut, and of maps.Clone here. -/
import Derived.Test.YtkelahekfkhcfaaSyDir
namespace Go.Proofs.Ytkelahekfkhcfaa
open Go.RowKit Go.Maps
/-- A pick at a place: never below 0. -/
def pickN (l : List Int) (i : Nat) : Nat := (if l.getD i 0 < 0 then -1 - l.getD i 0 else l.getD i 0).toNat
theorem pick_eq (l : List Int) (i most : Nat) : PFs.pick l i most = pickN l i % (most + 1) := by
  unfold PFs.pick pickN
  have key : ∀ x : Int, 0 ≤ x → (x % ((most : Int) + 1)).toNat = x.toNat % (most + 1) := fun x hx => by
    obtain ⟨n, rfl⟩ := Int.eq_ofNat_of_zero_le hx
    show ((n : Int) % ((most + 1 : Nat) : Int)).toNat = _
    rw [← Int.natCast_emod]
    rfl
  split
  · exact key _ (by omega)
  · exact key _ (by omega)
set_option maxRecDepth 100000 in
theorem pickAt_any (w : World) (a : Option Addr) (len cap : Nat) (l : List Int) (h : IsAt w a len cap l) (i : Nat) (hi : i ≤ 10000000) : Calls Try.prog 49 #[.slice a len cap, .int .i64 (i : Int)] w fun e w' => e = .returned (.int .i64 (pickN l i : Nat)) ∧ w' = w := by
  have hs := h.size
  have hm := h.max
  have hl := h.le
  unfold maxLen at hm
  by_cases hlt : i < len
  · obtain ⟨b, off, rfl, hc⟩ := h.here (by omega)
    have c0 := hc i hlt
    have hw := h.wf i hlt
    unfold pickN
    have h1 : (i : Int) < (len : Int) := by omega
    have h2 : (0 : Int) ≤ (i : Int) := by omega
    clear hc h
    generalize l.getD i 0 = x at c0 hw ⊢
    by_cases hx : x < 0
    · rw [if_pos hx]
      have e : ((-1 - x).toNat : Int) = -1 - x := by omega
      go_enter Try.func49, Try.ntmps49
      go_wp2
      go_returns
      refine ⟨ret1 ?_, rfl⟩
      show Value.int .i64 _ = _
      rw [e]
    · rw [if_neg hx]
      have e : (x.toNat : Int) = x := by omega
      go_enter Try.func49, Try.ntmps49
      go_wp2
      go_returns
      exact ⟨rfl, rfl⟩
  · have e : pickN l i = 0 := by
      unfold pickN
      have : l.getD i 0 = 0 := by simp [List.getD, List.getElem?_eq_none (by omega : l.length ≤ i)]
      rw [this]
      rfl
    rw [e]
    have h1 : (len : Int) ≤ (i : Int) := by omega
    clear h
    go_enter Try.func49, Try.ntmps49
    go_wp2
    go_returns
    exact ⟨rfl, rfl⟩
theorem tmod_nat (a b : Nat) : Int.tmod (a : Int) ((b : Int) + 1) = ((a % (b + 1) : Nat) : Int) := by
  rw [Int.tmod_eq_emod_of_nonneg (by omega), Int.natCast_emod]
  rfl
theorem OwnB.upTo {w : World} {B : Nat} {a : Option Addr} {len cap : Nat} {bs : List UInt8} (h : OwnB w B a len cap bs) (n : Nat) (hn : n ≤ len) : OwnB w B a n cap (bs.take n) := by
  have hs := h.size
  have hl : (bs.take n).length = n := by rw [List.length_take]; omega
  refine ⟨hl, by rw [cellsB_length, hl]; simp, ?_⟩
  rcases h.row.2 with ⟨hv, h0⟩ | ⟨g, c, cur, hv, hB, hg, h1, h2, h3, h4⟩
  · simp only [Value.slice.injEq] at hv
    obtain ⟨rfl, rfl, rfl⟩ := hv
    obtain rfl : n = 0 := by omega
    exact .inl ⟨rfl, rfl⟩
  · simp only [Value.slice.injEq, true_and] at hv
    obtain ⟨rfl, rfl⟩ := hv
    refine .inr ⟨g, cap, cur, rfl, hB, hg, by omega, h2, h3, ?_⟩
    have e : cellsB (bs.take n) = (cellsB bs).take n := by simp [cellsB, List.map_take]
    rw [e, ← h4, List.take_take]
    congr 1
    omega
theorem FileAt.cutTo {w W : World} {f : FG} {x : PFile} (h : FileAt w f x) {n : Nat} (hn : n ≤ x.b.length) (hb : Box W f.blk 79 #[.slice f.a n f.cap, .int .i64 (n : Int)]) (hr : ∀ b, f.row = some b → W.heap[b]? = w.heap[b]?) : FileAt W f (PFs.cut x n) := by
  have hl : (x.b.take n).length = n := by rw [List.length_take]; omega
  refine ⟨?_, ?_⟩
  · show Box W f.blk _ #[.slice f.a (x.b.take n).length f.cap, .int .i64 ((n : Nat) : Int)]
    rw [hl]
    exact hb
  · show OwnB W 0 f.a (x.b.take n).length f.cap (x.b.take n)
    rw [hl]
    have := h.own.upTo n hn
    exact ⟨this.size, row_same this.row fun b e => hr b (by rw [← f.row_eq]; exact e)⟩
set_option maxRecDepth 100000 in
set_option maxHeartbeats 1000000 in
theorem cut_any (w : World) (f : FG) (x : PFile) (P : Nat) (h : FileAt w f x) (hl : x.last ≤ x.b.length) (hb : x.b.length ≤ 1048576) (_hP : P ≤ 9223372036854775807) :
    Calls Try.prog 52 #[at_ f.blk, .int .i64 (P : Int)] w fun e w' => e = .returned (.tuple #[]) ∧ FileAt w' f (PFs.cut x (x.last + P % (x.b.length - x.last + 1))) ∧ Chg (fun i => i = f.blk) w w' := by
  have c0 := h.box.cell 0
  have c1 := h.box.cell 1
  have s0 := h.box.soft 0
  have s1 := h.box.soft 1
  simp at c0 c1
  have hcap : x.b.length ≤ f.cap := h.own.bs.le
  have hmax : f.cap ≤ maxLen := h.own.bs.max
  unfold maxLen at hmax
  obtain ⟨L, HL⟩ : ∃ L, Hid (L = x.b.length) := ⟨_, rfl⟩
  obtain ⟨D, HD⟩ : ∃ D, Hid (D = x.b.length - x.last) := ⟨_, rfl⟩
  obtain ⟨T, HT⟩ : ∃ T, Hid (T = x.last) := ⟨_, rfl⟩
  rw [← HL.out] at c0 hcap hb
  rw [← HT.out] at c1
  have hTL : T ≤ L := by rw [HL.out, HT.out]; exact hl
  have hsub : (L : Int) - (T : Int) = (D : Int) := by rw [HL.out, HT.out, HD.out]; omega
  have htm := tmod_nat P D
  obtain ⟨M, HM⟩ : ∃ M, Hid (M = P % (D + 1)) := ⟨_, rfl⟩
  rw [← HM.out] at htm
  have hMD : M ≤ D := by have := HM.out; have := Nat.mod_lt P (show 0 < D + 1 by omega); omega
  have hTM : T + M ≤ L := by have := HL.out; have := HT.out; have := HD.out; omega
  have hD1 : (D : Int) + 1 ≠ 0 := by omega
  have hn : x.last + P % (x.b.length - x.last + 1) = T + M := by rw [HM.out, HD.out, HT.out]
  have hlen : (x.b.take (T + M)).length = T + M := by rw [List.length_take]; have := HL.out; omega
  rw [hn]
  have hrb : ∀ b, f.row = some b → b ≠ f.blk := fun b e => tag_ne (row_tag h.own.row (by rw [FG.row_eq]; exact e)) h.box.tag (by decide)
  have hLb : T + M ≤ x.b.length := by rw [← HL.out]; exact hTM
  cases ha : f.a with
  | none =>
    have hz : f.cap = 0 := h.own.bs.bare ha
    rw [ha] at c0
    obtain rfl : L = 0 := by omega
    obtain rfl : T = 0 := by omega
    obtain rfl : M = 0 := by omega
    rw [hz] at c0
    go_enter Try.func52, Try.ntmps52
    go_wp2
    go_region
    go_wp2
    go_region
    go_wp2
    go_region
    go_wp2
    go_returns
    refine ⟨rfl, h.cutTo hLb ?_ (fun b e => (Below.heap_setCell _ _ _ _ (hrb b e)).trans (Below.heap_setCell _ _ _ _ (hrb b e))), (((Chg.refl (fun i => i = f.blk) w).set (p := f.blk) (fun _ => rfl) 1 _).set (p := f.blk) (fun _ => rfl) 0 _).drew.drew.drew⟩
    rw [ha, hz]
    exact Box.eq ((h.box.set 1 _).set 0 _) (by simp)
  | some ad =>
    rw [ha] at c0
    obtain ⟨gr, rfl⟩ : ∃ gr, ad = ⟨gr, 0, none⟩ := by
      have hr := h.own.row
      rw [ha] at hr
      rcases hr.2 with ⟨hv, h0⟩ | ⟨g, cp, cur, hv, _⟩
      · simp at hv
      · simp only [Value.slice.injEq, Option.some.injEq] at hv
        exact ⟨g, hv.1⟩
    have hb1 : (0 : Int) ≤ (T : Int) + (M : Int) := by omega
    have hb2 : (T : Int) + (M : Int) ≤ (f.cap : Int) := by omega
    go_enter Try.func52, Try.ntmps52
    go_wp2
    go_region
    go_wp2
    go_region
    go_wp2
    go_region
    go_wp2
    go_returns
    refine ⟨rfl, h.cutTo hLb ?_ (fun b e => (Below.heap_setCell _ _ _ _ (hrb b e)).trans (Below.heap_setCell _ _ _ _ (hrb b e))), (((Chg.refl (fun i => i = f.blk) w).set (p := f.blk) (fun _ => rfl) 1 _).set (p := f.blk) (fun _ => rfl) 0 _).drew.drew.drew⟩
    rw [ha]
    exact Box.eq ((h.box.set 1 _).set 0 _) (by simp)
end Go.Proofs.Ytkelahekfkhcfaa
