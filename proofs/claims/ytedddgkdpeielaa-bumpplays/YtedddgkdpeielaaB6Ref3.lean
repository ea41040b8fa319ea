/- The document's own arena: bytes. -/
import Derived.Test.YtedddgkdpeielaaB6Ref2
namespace Go.Proofs.Ytedddgkdpeielaa
open Go.RowKit
theorem row_bs {w : World} {g : Nat} {bs : List UInt8} (h : Box w g 5 (cellsB bs).toArray) (k n c : Nat) (hk : k + n ≤ bs.length) (hc : n ≤ c) (hm : c ≤ 65536) : BsAt w (some ⟨g, k, none⟩) n c ((bs.drop k).take n) := by
  refine ⟨by simp; omega, hc, by unfold maxLen; omega, by simp, fun _ => ⟨g, k, rfl, fun j hj => ?_⟩⟩
  rw [h.cell (k + j)]
  have e := cellsB_get bs (k + j) (by omega)
  simp at e
  simp [e, List.getD, hj]
theorem slice_lh (gb s k n : Nat) (h : k + n ≤ s) : ∃ a' : Addr, (∀ W : World, (Instr.slice 32 (.slice (some ⟨gb, 0, none⟩) s s) (some (.int .i64 (k : Int))) (some (.int .i64 ((k : Int) + (n : Int)))) none).run Try.prog W = .ok (.slice (some a') n (s - k)) W) ∧ (0 < n → a' = ⟨gb, k, none⟩) := by
  have he : Try.prog.elem 32 = 5 := by simp only [Program.elem, Try.underlying32]
  refine ⟨if s = k then ⟨gb, 0, none⟩ else ⟨gb, k, none⟩, fun W => ?_, fun h0 => by rw [if_neg (by omega)]⟩
  have hs : (sizeOf 5).run Try.prog W = .ok 1 W := by
    obtain ⟨i, hi, _, h1, _⟩ := info_parts infoU8
    simp [sizeOf, typeInfo, hi, h1]
  have e : ((k : Int) + (n : Int)).toNat = k + n := by omega
  rw [run_slice_lh W 32 (some ⟨gb, 0, none⟩) s s (by rw [he]; exact Try.underlying32) .i64 .i64 (k : Int) _ (by omega) (by omega) (by omega), he, hs]
  simp only [Result.andThen, sliced, e, Int.toNat_natCast]
  by_cases h0 : s = k
  · rw [if_pos h0, if_pos h0, Nat.add_sub_cancel_left]
  · rw [if_neg h0, if_neg h0, Option.map_some, Addr.add_lit, Nat.add_sub_cancel_left]
    simp
set_option maxRecDepth 100000 in
theorem rget_at {w : World} {B q gb : Nat} {ac : Option Addr} {cc : Nat} {A : PA} (h : RfAt w B q gb ac cc A) (k n : Int) (hk : in64 k) : Calls Try.prog 22 #[at_ q, .int .i64 k, .int .i64 n] w fun e w' => ∃ a len cap, e = .returned (.tuple #[.slice a len cap, .int .i64 (A.get k n).2]) ∧ BsAt w' a len cap (A.get k n).1 ∧ Below w.heap.size w w' := by
  have d0 := h.d0
  have d1 := h.d1
  have i1 := h.inv.used
  have i2 := h.inv.size
  obtain ⟨s, hs⟩ : ∃ s, s = A.bytes.length := ⟨_, rfl⟩
  obtain ⟨u, hu⟩ : ∃ u, u = A.used := ⟨_, rfl⟩
  rw [← hs] at d0 i1 i2
  rw [← hu] at d1 i1
  have hqlt : q < w.heap.size := h.box.lt
  cases hf : A.fits k n with
  | false =>
    have HE : Hid (A.get k n = ([], 1)) := by unfold Hid; simp [PA.get, hf]
    have hf' : 0 ≤ k → 0 ≤ n → (u : Int) < k + n := by simpa [PA.fits, ← hu] using hf
    obtain ⟨hk1, hk2⟩ := hk
    clear h hs hu hf d0 hqlt
    have HF : Hid (0 ≤ k → 0 ≤ n → (u : Int) < k + n) := hf'
    clear hf'
    by_cases h1 : n < 0
    · clear hk1
      go_enter Try.func22, Try.ntmps22
      go_wp2
      go_returns
      rw [HE.out]
      exact ⟨none, 0, 0, rfl, BsAt.nil _, Below.refl _ _⟩
    · by_cases h2 : k < 0
      · clear hk1
        go_enter Try.func22, Try.ntmps22
        go_wp2
        go_returns
        rw [HE.out]
        exact ⟨none, 0, 0, rfl, BsAt.nil _, Below.refl _ _⟩
      · by_cases h3 : (u : Int) < k
        · clear hk1
          go_enter Try.func22, Try.ntmps22
          go_wp2
          go_returns
          rw [HE.out]
          exact ⟨none, 0, 0, rfl, BsAt.nil _, Below.refl _ _⟩
        · have h4 : (u : Int) - k < n := by have := HF.out (by omega) (by omega); omega
          clear hk1
          go_enter Try.func22, Try.ntmps22
          go_wp2
          go_returns
          rw [HE.out]
          exact ⟨none, 0, 0, rfl, BsAt.nil _, Below.refl _ _⟩
  | true =>
    obtain ⟨a, b, rfl, rfl, hle⟩ := PA.fits_nat hf
    have HE : Hid (A.get (a : Int) (b : Int) = ((A.bytes.drop a).take b, 0)) := by unfold Hid; simp [PA.get, hf]
    rw [← hu] at hle
    obtain ⟨a', hsl, ha'⟩ := slice_lh gb s a b (by omega)
    have HB : Hid (BsAt w (some a') b (s - a) ((A.bytes.drop a).take b)) := by
      unfold Hid
      by_cases h0 : b = 0
      · subst h0
        simpa using BsAt.empty (w := w) a' (s - a) (by unfold maxLen; omega)
      · rw [ha' (by omega)]
        exact row_bs h.row a b (s - a) (by omega) (by omega) (by omega)
    have h1 : ¬ ((b : Int) < 0) := by omega
    have h2 : ¬ ((a : Int) < 0) := by omega
    have h3 : ¬ ((u : Int) < (a : Int)) := by omega
    have h4 : ¬ ((u : Int) - (a : Int) < (b : Int)) := by omega
    clear h hk hf hs hu ha'
    go_enter Try.func22, Try.ntmps22
    go_wp2_with (first | (at_builtin; refine wpList_app0 w rfl _ _ rfl rfl (some a') b (s - a) _ rfl HB.out (by omega) ?_))
    intro a9 c9 w9 ho hb9
    go_wp2
    go_returns
    rw [HE.out]
    exact ⟨_, _, _, rfl, ho.bs, hb9⟩
/-- Bytes that are laid one by one. -/
def part (bytes bs : List UInt8) (k t : Nat) : List UInt8 := bytes.take k ++ bs.take t ++ bytes.drop (k + t)
theorem part_zero (bytes bs : List UInt8) (k : Nat) : part bytes bs k 0 = bytes := by simp [part]
theorem part_full (bytes bs : List UInt8) (k : Nat) : part bytes bs k bs.length = bytes.take k ++ bs ++ bytes.drop (k + bs.length) := by simp [part]
theorem part_len {bytes bs : List UInt8} {k t : Nat} (h : k + t ≤ bytes.length) (ht : t ≤ bs.length) : (part bytes bs k t).length = bytes.length := by
  simp [part]
  omega
theorem part_set {bytes bs : List UInt8} {k t : Nat} (h : k + t < bytes.length) (ht : t < bs.length) : (part bytes bs k t).set (k + t) (bs.getD t 0) = part bytes bs k (t + 1) := by
  unfold part
  have e : (bytes.take k ++ bs.take t).length = k + t := by simp; omega
  have e2 : bs.take (t + 1) = bs.take t ++ [bs.getD t 0] := by
    rw [List.take_add_one, List.getElem?_eq_getElem ht]
    simp [List.getD, ht]
  rw [List.set_append, if_neg (by omega), e, Nat.sub_self, List.drop_eq_getElem_cons h, List.set_cons_zero, e2]
  simp only [List.append_assoc, List.singleton_append, Nat.add_assoc]
set_option maxRecDepth 100000 in
set_option maxHeartbeats 1000000 in
theorem rput_at {w0 w : World} {q gb : Nat} {ac : Option Addr} {cc : Nat} {A : PA} (h : RfAt w w0.heap.size q gb ac cc A) (hw : Below w0.heap.size w0 w) (k : Int) (hk : in64 k) (ba : Option Addr) (bl bc : Nat) (bs : List UInt8) (hb : BsAt w0 ba bl bc bs) : Calls Try.prog 21 #[at_ q, .int .i64 k, .slice ba bl bc] w fun e w' => e = .returned (.int .i64 (A.put k bs).1) ∧ RfAt w' w0.heap.size q gb ac cc (A.put k bs).2 ∧ Chg (RFoot q gb ac) w w' := by
  have HA : Hid (RfAt w w0.heap.size q gb ac cc A) := h
  have d1 := h.d1
  have i1 := h.inv.used
  have i2 := h.inv.size
  have hs := hb.size
  have hmx := hb.max
  have hle2 := hb.le
  unfold maxLen at hmx
  obtain ⟨u, hu⟩ : ∃ u, u = A.used := ⟨_, rfl⟩
  rw [← hu] at d1 i1
  cases hf : A.fits k bl with
  | false =>
    have HE : Hid (A.put k bs = (1, A)) := by unfold Hid; simp [PA.put, hs, hf]
    have hf' : 0 ≤ k → (u : Int) < k + bl := by simpa [PA.fits, ← hu] using hf
    have HF : Hid (0 ≤ k → (u : Int) < k + bl) := hf'
    obtain ⟨hk1, hk2⟩ := hk
    clear h hu hf hf' hs hb
    by_cases h2 : k < 0
    · clear hk1
      go_enter Try.func21, Try.ntmps21
      go_wp2
      go_returns
      rw [HE.out]
      exact ⟨rfl, HA.out, Chg.refl _ _⟩
    · by_cases h3 : (u : Int) < k
      · clear hk1
        go_enter Try.func21, Try.ntmps21
        go_wp2
        go_returns
        rw [HE.out]
        exact ⟨rfl, HA.out, Chg.refl _ _⟩
      · have h4 : (u : Int) - k < (bl : Int) := by have := HF.out (by omega); omega
        clear hk1
        go_enter Try.func21, Try.ntmps21
        go_wp2
        go_returns
        rw [HE.out]
        exact ⟨rfl, HA.out, Chg.refl _ _⟩
  | true =>
    obtain ⟨a, b, rfl, hb', hle⟩ := PA.fits_nat hf
    obtain rfl : b = bl := by omega
    rw [← hu] at hle
    have HE : Hid (A.put (a : Int) bs = (0, { A with bytes := part A.bytes bs a b })) := by unfold Hid; rw [← hs, part_full]; simp [PA.put, hs, hf]
    have HS : Hid (bs.length = b) := hs
    have HBS : Hid (BsAt w0 ba b bc bs) := hb
    have HW0 : Hid (Below w0.heap.size w0 w) := hw
    obtain ⟨s, hsz⟩ : ∃ s, Hid (s = A.bytes.length) := ⟨_, rfl⟩
    rw [← hsz.out] at i1 i2
    have h2 : ¬ ((a : Int) < 0) := by omega
    have h3 : ¬ ((u : Int) < (a : Int)) := by omega
    have h4 : ¬ ((u : Int) - (a : Int) < (b : Int)) := by omega
    have HR0 : Hid (RfAt w w0.heap.size q gb ac cc { A with bytes := part A.bytes bs a 0 } ∧ Chg (RFoot q gb ac) w w) := ⟨by rw [part_zero]; exact h, Chg.refl _ _⟩
    clear h hk hf hu hb' hb hs hw
    go_enter Try.func21, Try.ntmps21
    go_wp2_with fail
    clear d1
    go_loopw [7] (fun i wr => ∃ t : Nat, t ≤ b ∧ i = .int .i64 (t : Int) ∧ Hid (RfAt wr w0.heap.size q gb ac cc { A with bytes := part A.bytes bs a t } ∧ Chg (RFoot q gb ac) w wr)) (fun i _ => b - (intOf i).toNat)
    case atStart => exact ⟨0, Nat.zero_le _, rfl, HR0⟩
    case round =>
      obtain ⟨t, ht, rfl, HR⟩ := hrel
      clear HR0
      by_cases htb : t < b
      · have hpl : (part A.bytes bs a t).length = s := by
          rw [hsz.out]
          exact part_len (by rw [← hsz.out]; omega) (by rw [HS.out]; omega)
        have d0 := HR.out.1.d0
        simp only [hpl] at d0
        have hlt : q < wr.heap.size := HR.out.1.box.lt
        have hlt2 : gb < wr.heap.size := HR.out.1.row.lt
        have g0 := HR.out.1.row.cell (a + t)
        have sg := HR.out.1.row.soft (a + t)
        obtain ⟨y, hy⟩ : ∃ y : UInt8, (cellsB (part A.bytes bs a t)).toArray[a + t]? = some (.int .u8 (y.toNat : Int)) := ⟨_, by
          have := cellsB_get (part A.bytes bs a t) (a + t) (by omega)
          simpa using this⟩
        rw [hy] at g0
        have hbw : Below w0.heap.size w0 wr := HW0.out.trans (HR.out.2.below (fun k hk => HA.out.foot_ge hk) HW0.out.size)
        obtain ⟨bb, off, hba, hbc⟩ := (HBS.out.below (Nat.le_refl _) hbw).here (by omega)
        have x0 := hbc t htb
        obtain ⟨x, hx⟩ : ∃ x, Hid (x = bs.getD t 0) := ⟨_, rfl⟩
        rw [← hx.out] at x0
        have H9 : Hid (RfAt (wr.setCell ⟨gb, a + t, none⟩ (.int .u8 (x.toNat : Int))) w0.heap.size q gb ac cc { A with bytes := part A.bytes bs a (t + 1) } ∧ Chg (RFoot q gb ac) w (wr.setCell ⟨gb, a + t, none⟩ (.int .u8 (x.toNat : Int)))) := by
          obtain ⟨hr, hc⟩ := HR.out
          have hpl2 : (part A.bytes bs a (t + 1)).length = s := by
            rw [hsz.out]
            exact part_len (by rw [← hsz.out]; omega) (by rw [HS.out]; omega)
          have e9 : (part A.bytes bs a t).set (a + t) x = part A.bytes bs a (t + 1) := by
            rw [hx.out]
            exact part_set (by rw [← hsz.out]; omega) (by rw [HS.out]; exact htb)
          refine ⟨⟨?_, ?_, ?_, ?_, hr.hq, hr.hg⟩, hc.set (fun _ => .inr (.inl rfl)) _ _⟩
          · have := hr.box.other hr.qg (a + t) (.int .u8 (x.toNat : Int))
            simp only [hpl] at this
            simp only [hpl2]
            exact this
          · refine Box.eq (hr.row.set (a + t) _) ?_
            rw [setArr6, ← e9]
            simp [cellsB, List.map_set]
          · exact hr.cells.kept (fun k e => Below.heap_setCell _ _ _ _ (hr.cg e))
          · have h8 := hr.inv
            exact ⟨by have := h8.used; simp only [hpl] at this; simp only [hpl2]; exact this, by simp only [hpl2]; exact i2, h8.cells, h8.wf⟩
        clear hbc hbw hy hpl
        rw [hba]
        have hx1 : (0 : Int) ≤ (t : Int) := by omega
        have hx2 : (t : Int) < (b : Int) := by omega
        have hx3 : (0 : Int) ≤ (a : Int) + (t : Int) := by omega
        have hx4 : (a : Int) + (t : Int) < (s : Int) := by omega
        have hx5 : ((a : Int) + (t : Int)).toNat = a + t := by omega
        go_wp2_with fail
        go_region
        go_wp2
        go_roundw
        case rel => exact ⟨t + 1, by omega, by go_num, H9.out.1.drew, H9.out.2.drew⟩
        case measure => simp [intOf]; omega
      · obtain rfl : t = b := by omega
        go_wp2
        go_returns
        rw [HE.out]
        exact ⟨rfl, HR.out⟩
end Go.Proofs.Ytedddgkdpeielaa
