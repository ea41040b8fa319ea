/- Rows of keys with values; the contract of the table's entries. -/
import Derived.Test.YtnggajconglfcaaDoorM8Get
import Derived.Deep.OwnRows
namespace Go.Proofs.YtnggajconglfcaaDoor
open Go.RowKit
set_option linter.unusedVariables false
set_option linter.unusedSimpArgs false
abbrev TKV : TypeId := 45
def kvc (e : KV) : List Value := [.string e.1.user, .int .u64 (e.1.seq : Int), .int .i64 e.1.kind, .string e.2]
def cellsKV (l : List KV) : List Value := l.flatMap kvc
theorem cellsKV_len : ∀ l : List KV, (cellsKV l).length = l.length * 4
  | [] => rfl
  | x :: r => by
    have := cellsKV_len r
    unfold cellsKV at this ⊢
    rw [List.flatMap_cons, List.length_append, this]
    simp [kvc]
    omega
theorem cellsKV_get : ∀ (l : List KV) (k i : Nat) (hk : k < l.length), i < 4 → (cellsKV l)[k * 4 + i]? = (kvc l[k])[i]?
  | x :: r, 0, i, _, hi => by
    unfold cellsKV
    rw [List.flatMap_cons, List.getElem?_append_left (by simp [kvc]; omega)]
    simp
  | x :: r, k + 1, i, hk, hi => by
    have := cellsKV_get r k i (by simpa using hk) hi
    unfold cellsKV at this ⊢
    rw [List.flatMap_cons, List.getElem?_append_right (by simp [kvc]; omega)]
    rw [show (k + 1) * 4 + i - (kvc x).length = k * 4 + i by simp [kvc]; omega, this]
    simp
/-- The slice value reads as keys with values. -/
structure KsAt (w : World) (a : Option Addr) (n c : Nat) (l : List KV) : Prop where
  size : l.length = n
  le : n ≤ c
  max : c ≤ maxLen
  here : 0 < n → ∃ b off, a = some ⟨b, off, none⟩ ∧ ∀ j, j < n * 4 → w.cell? ⟨b, off + j, none⟩ = (cellsKV l)[j]?
theorem KsAt.below {w w' : World} {a : Option Addr} {n c : Nat} {l : List KV} (h : KsAt w a n c l) (hb : Below w.heap.size w w') : KsAt w' a n c l := ⟨h.size, h.le, h.max, fun hp => by
  obtain ⟨b, off, ha, hc⟩ := h.here hp
  have hb0 : b < w.heap.size := by
    have h0 := hc 0 (by omega)
    have hz := h.size
    rw [List.getElem?_eq_getElem (by rw [cellsKV_len]; omega)] at h0
    exact World.block_lt_of_cell? w _ h0
  exact ⟨b, off, ha, fun j hj => by rw [hb.cell hb0]; exact hc j hj⟩⟩
theorem infoKV : (Tryd.prog.info? TKV).map (fun i => (i.zero, i.size, i.bytes)) = some (some (.agg #[.string ⟨#[]⟩, .int .u64 0, .int .i64 0, .string ⟨#[]⟩]), 4, 48) := by kernel_rfl
theorem made_kv (n : Nat) (hn : n ≤ 5864062014805) (w : World) : ∃ arr : Array Value, arr.size = n * 4 ∧ (Instr.makeSlice 27 (.int .i64 (n : Int)) (.int .i64 (n : Int))).run Tryd.prog w = .ok (.slice (some ⟨w.heap.size, 0, none⟩) n n) (w.alloc (.cells arr TKV)) := by
  obtain ⟨i, hi, hzz⟩ := Option.map_eq_some_iff.1 infoKV
  simp only [Prod.mk.injEq] at hzz
  obtain ⟨hz, hs, hb⟩ := hzz
  have hr := run_make (P := Tryd.prog) w 27 TKV i _ Tryd.underlying27 hi hz .i64 .i64 n n (by omega) (Int.le_refl _) (by rw [hb]; omega) (by omega)
  simp only [Int.toNat_natCast, hs] at hr
  exact ⟨_, by simp [madeCells], hr⟩
theorem setfour {arr : Array Value} {k : Nat} {x y z u : Value} (hs : k * 4 + 4 ≤ arr.size) (j : Nat) : ((((arr.setIfInBounds (k * 4) x).setIfInBounds (k * 4 + 1) y).setIfInBounds (k * 4 + 2) z).setIfInBounds (k * 4 + 3) u)[j]? = if j = k * 4 then some x else if j = k * 4 + 1 then some y else if j = k * 4 + 2 then some z else if j = k * 4 + 3 then some u else arr[j]? := by
  simp only [Array.getElem?_setIfInBounds, Array.size_setIfInBounds]
  repeat' split
  all_goals first | rfl | omega | simp_all
set_option maxRecDepth 100000 in
theorem idxKV (w : World) {a : Option Addr} {b off n c i : Nat} (ha : a = some ⟨b, off, none⟩) (hi : i < n) : (Instr.indexAt 27 (.slice a n c) (.int .i64 (i : Int))).run Tryd.prog w = .ok (.pointer (some ⟨b, off + i * 4, none⟩)) w := by
  subst ha
  have h1 : (0 : Int) ≤ (i : Int) ∧ (i : Int) < (n : Int) := by omega
  have hsz : (sizeOf (Tryd.prog.elem 27)).run Tryd.prog w = .ok 4 w := by kernel_rfl
  rw [run_indexAt_slice (P := Tryd.prog) (h := Tryd.underlying27), if_pos h1, hsz]
  simp [Result.andThen, Addr.add_lit]
section
variable {w w' : World} {p : Nat} {T : PT} {G : TG}
set_option maxRecDepth 100000 in
set_option maxHeartbeats 1000000 in
theorem entries_at (h : TbAt w p T G) {a : Option Addr} {n c : Nat} {l : List KV} (hs : StAt w a n c (l.map (·.1.txt))) (hl : ∀ e ∈ l, e ∈ T.kvs) (hn : n ≤ 1000) (hg : Glob w) :
    Calls Tryd.prog 30 #[at_ p, .slice a n c] w fun e w' => ∃ b, e = .returned (.slice (some ⟨b, 0, none⟩) n n) ∧ w.heap.size ≤ b ∧ (∃ arr, Box w' b TKV arr ∧ arr.size = n * 4 ∧ ∀ j, j < n * 4 → arr[j]? = (cellsKV l)[j]?) ∧ Below w.heap.size w w' := by
  have HA : Hid (TbAt w p T G) := h
  have HG : Hid (Glob w) := hg
  have HS : Hid (StAt w a n c (l.map (·.1.txt))) := hs
  have HL : Hid (∀ e ∈ l, e ∈ T.kvs) := hl
  have hlen : l.length = n := by have := hs.size; simpa using this
  have HLn : Hid (l.length = n) := hlen
  have hcm := hs.max
  have hln := hs.le
  unfold maxLen at hcm
  obtain ⟨arr0, ha0, hmk⟩ := made_kv n (by omega) w
  have HB0 : Hid (Box (w.alloc (.cells arr0 TKV)) w.heap.size TKV arr0 ∧ arr0.size = n * 4 ∧ Below w.heap.size w (w.alloc (.cells arr0 TKV))) := ⟨Box.new w TKV arr0, ha0, (Below.refl _ _).alloc (Nat.le_refl _) _⟩
  clear h hg hs hl hlen ha0
  go_enter Tryd.func30, Tryd.ntmps30
  go_wp2_with fail
  go_loopw [14] (fun x wr => ∃ k : Nat, k ≤ n ∧ x = .int .i64 (k : Int) ∧ Hid (Below w.heap.size w wr ∧ ∃ arr, Box wr w.heap.size TKV arr ∧ arr.size = n * 4 ∧ ∀ j, j < k * 4 → arr[j]? = (cellsKV l)[j]?)) (fun x _ => n - (intOf x).toNat)
  case atStart => exact ⟨0, Nat.zero_le _, rfl, HB0.out.2.2, arr0, HB0.out.1, HB0.out.2.1, fun j hj => absurd hj (by omega)⟩
  case round =>
    obtain ⟨k, hk, rfl, HR⟩ := hrel
    by_cases hkn : k < n
    · obtain ⟨r1, arr, r2, r3, r4⟩ := HR.out
      have st := HS.out.below r1
      have hkl : k < l.length := by rw [HLn.out]; exact hkn
      obtain ⟨b, off, hab, hc⟩ := st.here (by omega)
      have hcell := hc k hkn
      rw [show (l.map (·.1.txt)).getD k ⟨#[]⟩ = l[k].1.txt by simp [List.getD, hkl]] at hcell
      have hem := HL.out _ (List.getElem_mem hkl)
      have hok := HA.out.inv.ok _ hem
      have hk1 : l[k].1.Ok := (IK.ok_of hok.key).1
      have hk2 : l[k].1.user.size ≤ 64 := (IK.ok_of hok.key).2
      have hidx := fun W => idxStr W (a := a) (b := b) (off := off) (n := n) (c := c) hab hkn
      have HKO := memKeyOf_at l[k].1 hk1 hk2 (HG.out.of_below0 r1)
      have HC : Hid (∀ i, i < 4 → (cellsKV l)[k * 4 + i]? = (kvc l[k])[i]?) := fun i hi => cellsKV_get l k i hkl hi
      have HE : Hid (l[k] ∈ T.kvs ∧ EOk l[k]) := ⟨hem, hok⟩
      generalize l[k] = e at HKO HC HE hcell hk1 hk2
      have HQ : Hid (Below w.heap.size w wr ∧ Box wr w.heap.size TKV arr ∧ arr.size = n * 4 ∧ ∀ j, j < k * 4 → arr[j]? = (cellsKV l)[j]?) := ⟨r1, r2, r3, r4⟩
      generalize e.1.txt = Y at HKO hcell
      unfold IK.v at HKO
      have hkk := hk1.2
      clear r1 r2 r3 r4 st hc hem hok hab
      go_wp2_with fail
      refine HKO.mono ?_
      rintro _ w2 ⟨rfl, hb2⟩
      have hB2 : Below w.heap.size w w2 := HQ.out.1.trans (hb2.mono HQ.out.1.size)
      have bx2 : Box w2 w.heap.size TKV arr := HQ.out.2.1.kept (hb2.block _ HQ.out.2.1.lt)
      have hA3 := HA.out.below (hB2.alloc hB2.size (.cells #[.string e.1.user, .int .u64 (e.1.seq : Int), .int .i64 e.1.kind] TK))
      have cm : (w2.alloc (.cells #[.string e.1.user, .int .u64 (e.1.seq : Int), .int .i64 e.1.kind] TK)).cell? ⟨p, 1, none⟩ = some (.map G.m) := hA3.box.cell 1
      have hlook : (Instr.lookup 56 (.map G.m) (.agg #[.string e.1.user, .int .u64 (e.1.seq : Int), .int .i64 e.1.kind]) false).run Tryd.prog (w2.alloc (.cells #[.string e.1.user, .int .u64 (e.1.seq : Int), .int .i64 e.1.kind] TK)).drew = .ok (.agg #[.string e.2]) (w2.alloc (.cells #[.string e.1.user, .int .u64 (e.1.seq : Int), .int .i64 e.1.kind] TK)).drew := (hA3.map.kept (w' := (w2.alloc (.cells #[.string e.1.user, .int .u64 (e.1.seq : Int), .int .i64 e.1.kind] TK)).drew) (fun _ _ => rfl)).get HE.out.1 (IK.wf_of HE.out.2.key)
      have bxk := Box.new w2 TK #[.string e.1.user, .int .u64 (e.1.seq : Int), .int .i64 e.1.kind]
      have bx3 : Box (w2.alloc (.cells #[.string e.1.user, .int .u64 (e.1.seq : Int), .int .i64 e.1.kind] TK)) w.heap.size TKV arr := bx2.alloc _
      have hB3 : Below w.heap.size w (w2.alloc (.cells #[.string e.1.user, .int .u64 (e.1.seq : Int), .int .i64 e.1.kind] TK)) := hB2.alloc hB2.size _
      have d0 : (w2.alloc (.cells #[.string e.1.user, .int .u64 (e.1.seq : Int), .int .i64 e.1.kind] TK)).cell? ⟨w2.heap.size, 0, none⟩ = some (.string e.1.user) := bxk.cell 0
      have d1 : (w2.alloc (.cells #[.string e.1.user, .int .u64 (e.1.seq : Int), .int .i64 e.1.kind] TK)).cell? ⟨w2.heap.size, 1, none⟩ = some (.int .u64 (e.1.seq : Int)) := bxk.cell 1
      have d2 : (w2.alloc (.cells #[.string e.1.user, .int .u64 (e.1.seq : Int), .int .i64 e.1.kind] TK)).cell? ⟨w2.heap.size, 2, none⟩ = some (.int .i64 e.1.kind) := bxk.cell 2
      have hfield := fun W => fieldV W e.2
      have hidx2 := fun W => idxKV W (a := some ⟨w.heap.size, 0, none⟩) (b := w.heap.size) (off := 0) (n := n) (c := n) rfl hkn
      simp only [Nat.zero_add] at hidx2
      have HW3 : Hid (Below w.heap.size w (w2.alloc (.cells #[.string e.1.user, .int .u64 (e.1.seq : Int), .int .i64 e.1.kind] TK)) ∧ Box (w2.alloc (.cells #[.string e.1.user, .int .u64 (e.1.seq : Int), .int .i64 e.1.kind] TK)) w.heap.size TKV arr) := ⟨hB3, bx3⟩
      have hne : w2.heap.size ≠ w.heap.size := by have := bx2.lt; omega
      have q0 := bx3.soft (k * 4)
      have q1 := bx3.soft (k * 4 + 1)
      have q2 := bx3.soft (k * 4 + 2)
      have q3 := bx3.soft (k * 4 + 3)
      have haz : k * 4 + 4 ≤ arr.size := by have := HQ.out.2.2.1; omega
      have m0 : (w2.alloc (.cells #[.string e.1.user, .int .u64 (e.1.seq : Int), .int .i64 e.1.kind] TK)).cell? ⟨w.heap.size, k * 4, none⟩ = some arr[k * 4] := by rw [bx3.cell]; simp
      have m1 : (w2.alloc (.cells #[.string e.1.user, .int .u64 (e.1.seq : Int), .int .i64 e.1.kind] TK)).cell? ⟨w.heap.size, k * 4 + 1, none⟩ = some arr[k * 4 + 1] := by rw [bx3.cell]; simp
      have m2 : (w2.alloc (.cells #[.string e.1.user, .int .u64 (e.1.seq : Int), .int .i64 e.1.kind] TK)).cell? ⟨w.heap.size, k * 4 + 2, none⟩ = some arr[k * 4 + 2] := by rw [bx3.cell]; simp
      have m3 : (w2.alloc (.cells #[.string e.1.user, .int .u64 (e.1.seq : Int), .int .i64 e.1.kind] TK)).cell? ⟨w.heap.size, k * 4 + 3, none⟩ = some arr[k * 4 + 3] := by rw [bx3.cell]; simp
      clear hA3 bxk bx3 bx2 hB3 hB2 hb2 HKO hcell
      go_wp2_with fail
      generalize w2.alloc (.cells #[.string e.1.user, .int .u64 (e.1.seq : Int), .int .i64 e.1.kind] TK) = W3 at cm hlook d0 d1 d2 q0 q1 q2 q3 m0 m1 m2 m3 HW3 ⊢
      go_region
      go_wp2
      go_roundw
      case rel =>
        refine ⟨k + 1, hkn, by go_num, ?_, _, ((((HW3.out.2.set (k * 4) _).set (k * 4 + 1) _).set (k * 4 + 2) _).set (k * 4 + 3) _).kept rfl, ?_, fun j hj => ?_⟩
        · exact ((((HW3.out.1.setCell (Nat.le_refl _) _).setCell (Nat.le_refl _) _).setCell (Nat.le_refl _) _).setCell (Nat.le_refl _) _).drew
        · simp only [Array.size_setIfInBounds]
          exact HQ.out.2.2.1
        · rw [setfour haz]
          have hC := HC.out
          by_cases h0 : j < k * 4
          · rw [if_neg (by omega), if_neg (by omega), if_neg (by omega), if_neg (by omega)]
            exact HQ.out.2.2.2 j h0
          · have : j = k * 4 + 0 ∨ j = k * 4 + 1 ∨ j = k * 4 + 2 ∨ j = k * 4 + 3 := by omega
            rcases this with rfl | rfl | rfl | rfl
            · rw [hC 0 (by omega), if_pos (by omega)]
              rfl
            · rw [hC 1 (by omega), if_neg (by omega), if_pos rfl]
              rfl
            · rw [hC 2 (by omega), if_neg (by omega), if_neg (by omega), if_pos rfl]
              rfl
            · rw [hC 3 (by omega), if_neg (by omega), if_neg (by omega), if_neg (by omega), if_pos rfl]
              rfl
      case measure => simp only [intOf]; omega
    · go_wp2
      go_ret
      obtain ⟨r1, arr, r2, r3, r4⟩ := HR.out
      obtain rfl : k = n := by omega
      exact ⟨w.heap.size, ret1 rfl, Nat.le_refl _, ⟨arr, r2, r3, r4⟩, r1⟩
end
end Go.Proofs.YtnggajconglfcaaDoor
