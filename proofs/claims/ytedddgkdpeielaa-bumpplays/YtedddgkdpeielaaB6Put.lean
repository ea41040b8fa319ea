/- The contracts of Put, Get and New. -/
import Derived.Test.YtedddgkdpeielaaB6Met
namespace Go.Proofs.Ytedddgkdpeielaa
open Go.RowKit
theorem PA.fits_nat {A : PA} {k n : Int} (h : A.fits k n = true) : ∃ a b : Nat, k = a ∧ n = b ∧ a + b ≤ A.used := by
  simp [PA.fits] at h
  exact ⟨k.toNat, n.toNat, by omega, by omega, by omega⟩
theorem infoU81 : (Try.prog.info? 5).map (·.size) = some 1 := by kernel_rfl
theorem setRow_block (w : World) (g : Nat) (cur new : Array Value) (t : TypeId) (h : Box w g t cur) : Box (w.setRow g new) g t new := by
  have h' : w.heap[g]? = some (.cells cur t (0, 0)) := h
  have hlt := h.lt
  show (w.setRow g new).heap[g]? = some (.cells new t (0, 0))
  simp [World.setRow, Array.getElem?_modify, h']
theorem chg_setRow (w : World) (g : Nat) (new : Array Value) : Chg (On g) w (w.setRow g new) := by
  refine ⟨rfl, rfl, rfl, by simp [World.setRow], fun k hk hn => ?_⟩
  simp only [World.setRow, Array.getElem?_modify]
  rw [if_neg (fun e => hn e.symm)]
/-- Bytes are copied into an arena. -/
theorem copy_in {w : World} {p : Nat} {A : PA} (h : ArAt w p A) (k : Nat) (a : Addr) (ba : Option Addr) (bl bc : Nat) (bs : List UInt8) (hb : BsAt w ba bl bc bs) (hk : k + bl ≤ A.used) (ha : 0 < bl → a = ⟨p, 2 + k, none⟩) :
    ∃ W2, (Builtin.copy_ #[32, 32] 3 #[.slice (some a) bl bl, .slice ba bl bc]).run Try.prog w = .ok (.int .i64 (bl : Int)) W2 ∧ ArAt W2 p { A with bytes := A.bytes.take k ++ bs ++ A.bytes.drop (k + bs.length) } ∧ Chg (On p) w W2 := by
  have hs := hb.size
  have i1 := h.inv.used
  have i2 := h.inv.size
  by_cases h0 : bl = 0
  · refine ⟨w, ?_, ?_, Chg.refl _ _⟩
    · have := run_copy_none (P := Try.prog) w 32 32 3 5 (some a) ba bl bl bl bc Try.underlying32 infoU81 (by rw [h0]; rfl)
      rw [this, h0]
      rfl
    · obtain rfl := List.eq_nil_of_length_eq_zero (hs.trans h0)
      simpa using h
  · obtain ⟨b, off, rfl, hc⟩ := hb.here (by omega)
    obtain rfl := ha (by omega)
    have hcs : (cellsB bs).length = bl := by rw [cellsB_length, hs]
    have hr := run_copy_row (P := Try.prog) w 32 32 3 5 p (2 + k) bl bl ⟨b, off, none⟩ bl bc (arL A).toArray TA (cellsB bs) Try.underlying32 infoU81 h.box (by rw [hcs]; exact (Nat.min_self bl).symm) (fun j v hv => by
      have hj : j < bs.length := by have := (List.getElem?_eq_some_iff.1 hv).1; rwa [cellsB_length] at this
      rw [cellsB_get bs j hj] at hv
      obtain rfl := Option.some.inj hv
      rw [Addr.add_lit]
      exact hc j (by rw [← hs]; exact hj)) (by rw [hcs, List.size_toArray, arL_len h.inv]; omega) (cellsB_one bs)
    rw [List.toList_toArray, arL_over k bs (by omega), hcs] at hr
    refine ⟨_, hr, ⟨setRow_block w p _ _ TA h.box, ?_⟩, chg_setRow w p _⟩
    have hl : (A.bytes.take k ++ bs ++ A.bytes.drop (k + bs.length)).length = A.bytes.length := over_length (by omega)
    exact ⟨by rw [hl]; exact i1, by rw [hl]; exact i2, h.inv.cells, h.inv.wf⟩
set_option maxRecDepth 100000 in
theorem put_nil {w : World} (k : Int) (ba : Option Addr) (bl bc : Nat) : Calls Try.prog 17 #[.pointer none, .int .i64 k, .slice ba bl bc] w fun e w' => e = .returned (.int .i64 1) ∧ w' = w := by
  go_enter Try.func17, Try.ntmps17
  go_wp2_with fail
  refine (piece_nil _ _).mono ?_
  rintro _ _ ⟨rfl, rfl⟩
  go_wp2
  go_returns
  exact ⟨rfl, rfl⟩
set_option maxRecDepth 100000 in
theorem put_at {w : World} {p : Nat} {A : PA} (h : ArAt w p A) (k : Int) (hk : in64 k) (ba : Option Addr) (bl bc : Nat) (bs : List UInt8) (hb : BsAt w ba bl bc bs) : Calls Try.prog 17 #[at_ p, .int .i64 k, .slice ba bl bc] w fun e w' => e = .returned (.int .i64 (A.put k bs).1) ∧ ArAt w' p (A.put k bs).2 ∧ Chg (On p) w w' := by
  have HA : Hid (ArAt w p A) := h
  have HK : Hid (in64 k) := hk
  have hs := hb.size
  cases hf : A.fits k bl with
  | false =>
    have HE : Hid (A.put k bs = (1, A)) := by unfold Hid; simp [PA.put, hs, hf]
    have HF : Hid (A.fits k bl = false) := hf
    clear h hk hs hf hb
    go_enter Try.func17, Try.ntmps17
    go_wp2_with fail
    refine (piece_no HA.out k bl HK.out HF.out).mono ?_
    rintro _ _ ⟨rfl, rfl⟩
    go_wp2
    go_returns
    rw [HE.out]
    exact ⟨rfl, HA.out, Chg.refl _ _⟩
  | true =>
    obtain ⟨a, b, rfl, hb', hle⟩ := PA.fits_nat hf
    obtain rfl : b = bl := by omega
    have HE : Hid (A.put (a : Int) bs = (0, { A with bytes := A.bytes.take a ++ bs ++ A.bytes.drop (a + bs.length) })) := by unfold Hid; simp [PA.put, hs, hf]
    have HB : Hid (BsAt w ba b bc bs) := hb
    have HL : Hid (a + b ≤ A.used) := hle
    clear h hk hs hf hb hb' hle
    go_enter Try.func17, Try.ntmps17
    go_wp2_with fail
    refine (piece_yes HA.out a b HL.out).mono ?_
    rintro _ _ ⟨⟨x, rfl, hx⟩, hw⟩
    obtain rfl := hw.symm
    clear hw
    obtain ⟨W2, hr, h2, hc⟩ := copy_in HA.out a x ba b bc bs HB.out HL.out hx
    have H2 : Hid (ArAt W2 p { A with bytes := A.bytes.take a ++ bs ++ A.bytes.drop (a + bs.length) } ∧ Chg (On p) w W2) := ⟨h2, hc⟩
    clear h2 hc hx
    go_wp2
    go_returns
    rw [HE.out]
    exact ⟨rfl, H2.out⟩
theorem own_madeB (n : Nat) (hn : n ≤ 65536) (w : World) : ∃ W1, (Instr.makeSlice 32 (.int .i64 (n : Int)) (.int .i64 (n : Int))).run Try.prog w = .ok (.slice (some ⟨w.heap.size, 0, none⟩) n n) W1 ∧ Box W1 w.heap.size 5 (cellsB (List.replicate n 0)).toArray ∧ Below w.heap.size w W1 ∧ W1.heap.size = w.heap.size + 1 := by
  refine ⟨_, run_make_row' (P := Try.prog) 32 5 (.int .u8 0) 1 Try.underlying32 infoU8 rfl .i64 .i64 n (by omega) (by omega) w, ?_, (Below.refl _ _).alloc (Nat.le_refl _) _, by simp⟩
  have e : madeCells #[.int .u8 0] n = (cellsB (List.replicate n 0)).toArray := by
    apply Array.ext_getElem?
    intro i
    by_cases hi : i < n
    · simp [madeCells, cellsB, hi, Nat.mod_one]
    · simp [madeCells, cellsB, hi]
  rw [e]
  exact Box.new w _ _
theorem own_boxB {w : World} {B g : Nat} {bs : List UInt8} (h : Box w g 5 (cellsB bs).toArray) (hB : B ≤ g) (hl : bs.length ≤ 65536) : OwnB w B (some ⟨g, 0, none⟩) bs.length bs.length bs := by
  refine ⟨rfl, by rw [cellsB_length]; simp, .inr ⟨g, bs.length, (cellsB bs).toArray, rfl, hB, h, Nat.le_refl _, by unfold maxLen; omega, by simp [cellsB_length], ?_⟩⟩
  have : (cellsB bs).length = bs.length * 1 := by rw [cellsB_length]; simp
  simp [← this]
/-- Bytes are copied into a row that was just made. -/
theorem copy_out {w : World} {g : Nat} {cur : List UInt8} (h : Box w g 5 (cellsB cur).toArray) (a : Addr) (n c : Nat) (bs : List UInt8) (hb : BsAt w (some a) n c bs) (hn : cur.length = n) :
    ∃ W2, (Builtin.copy_ #[32, 32] 3 #[.slice (some ⟨g, 0, none⟩) n n, .slice (some a) n c]).run Try.prog w = .ok (.int .i64 (n : Int)) W2 ∧ Box W2 g 5 (cellsB bs).toArray ∧ Chg (On g) w W2 ∧ W2.heap.size = w.heap.size := by
  have hs := hb.size
  by_cases h0 : n = 0
  · refine ⟨w, ?_, ?_, Chg.refl _ _, rfl⟩
    · have := run_copy_none (P := Try.prog) w 32 32 3 5 (some ⟨g, 0, none⟩) (some a) n n n c Try.underlying32 infoU81 (by rw [h0]; rfl)
      rw [this, h0]
      rfl
    · obtain rfl := List.eq_nil_of_length_eq_zero (hs.trans h0)
      obtain rfl := List.eq_nil_of_length_eq_zero (hn.trans h0)
      exact h
  · obtain ⟨b, off, e, hc⟩ := hb.here (by omega)
    obtain rfl := Option.some.inj e
    have hcs : (cellsB bs).length = n := by rw [cellsB_length, hs]
    have hr := run_copy_row (P := Try.prog) w 32 32 3 5 g 0 n n ⟨b, off, none⟩ n c (cellsB cur).toArray 5 (cellsB bs) Try.underlying32 infoU81 h (by rw [hcs]; exact (Nat.min_self n).symm) (fun j v hv => by
      have hj : j < bs.length := by have := (List.getElem?_eq_some_iff.1 hv).1; rwa [cellsB_length] at this
      rw [cellsB_get bs j hj] at hv
      obtain rfl := Option.some.inj hv
      rw [Addr.add_lit]
      exact hc j (by rw [← hs]; exact hj)) (by rw [hcs, List.size_toArray, cellsB_length]; omega) (cellsB_one bs)
    rw [hcs] at hr
    refine ⟨_, hr, ?_, chg_setRow w g _, by simp [World.setRow]⟩
    refine Box.eq (setRow_block w g _ _ _ h) ?_
    have : (cellsB cur).length = n := by rw [cellsB_length, hn]
    simp [this]
set_option maxRecDepth 100000 in
theorem get_nil {w : World} (k n : Int) : Calls Try.prog 13 #[.pointer none, .int .i64 k, .int .i64 n] w fun e w' => e = .returned (.tuple #[.slice none 0 0, .int .i64 1]) ∧ w' = w := by
  go_enter Try.func13, Try.ntmps13
  go_wp2_with fail
  refine (piece_nil _ _).mono ?_
  rintro _ _ ⟨rfl, rfl⟩
  go_wp2
  go_returns
  exact ⟨rfl, rfl⟩
set_option maxRecDepth 100000 in
theorem get_at {w : World} {p : Nat} {A : PA} (h : ArAt w p A) (k n : Int) (hk : in64 k) : Calls Try.prog 13 #[at_ p, .int .i64 k, .int .i64 n] w fun e w' => ∃ a len cap, e = .returned (.tuple #[.slice a len cap, .int .i64 (A.get k n).2]) ∧ OwnB w' w.heap.size a len cap (A.get k n).1 ∧ len ≤ 65536 ∧ Below w.heap.size w w' := by
  have HA : Hid (ArAt w p A) := h
  have HK : Hid (in64 k) := hk
  cases hf : A.fits k n with
  | false =>
    have HE : Hid (A.get k n = ([], 1)) := by unfold Hid; simp [PA.get, hf]
    have HF : Hid (A.fits k n = false) := hf
    clear h hk hf
    go_enter Try.func13, Try.ntmps13
    go_wp2_with fail
    refine (piece_no HA.out k n HK.out HF.out).mono ?_
    rintro _ _ ⟨rfl, rfl⟩
    go_wp2
    go_returns
    rw [HE.out]
    exact ⟨none, 0, 0, rfl, ⟨rfl, World.ownsRow_nil _ _ _ 1⟩, Nat.zero_le _, Below.refl _ _⟩
  | true =>
    obtain ⟨a, b, rfl, rfl, hle⟩ := PA.fits_nat hf
    have HE : Hid (A.get (a : Int) (b : Int) = ((A.bytes.drop a).take b, 0)) := by unfold Hid; simp [PA.get, hf]
    have HL : Hid (a + b ≤ A.used) := hle
    have i1 := h.inv.used
    have i2 := h.inv.size
    have hb1 : b ≤ 65536 := by omega
    have HS : Hid (((A.bytes.drop a).take b).length = b) := by unfold Hid; simp; omega
    have HS2 : Hid (a + b ≤ A.bytes.length) := by unfold Hid; omega
    obtain ⟨W1, hmk, hbx, hbl, hsz⟩ := own_madeB b hb1 w
    have HB : Hid (Box W1 w.heap.size 5 (cellsB (List.replicate b 0)).toArray ∧ Below w.heap.size w W1 ∧ W1.heap.size = w.heap.size + 1) := ⟨hbx, hbl, hsz⟩
    clear h hk hf hle i1 i2 hbx hbl hsz
    go_enter Try.func13, Try.ntmps13
    go_wp2_with fail
    refine (piece_yes HA.out a b HL.out).mono ?_
    rintro _ _ ⟨⟨x, rfl, hx⟩, hw⟩
    obtain rfl := hw.symm
    clear hw
    have hsrc : BsAt W1 (some x) b b ((A.bytes.drop a).take b) := by
      by_cases h0 : b = 0
      · subst h0
        simpa using BsAt.empty (w := W1) x 0 (by unfold maxLen; omega)
      · rw [hx (by omega)]
        exact (HA.out.below HB.out.2.1).bs a b HS2.out
    obtain ⟨W2, hcp, hb2, hc2, hz2⟩ := copy_out HB.out.1 x b b _ hsrc (by simp)
    have H2 : Hid (Box W2 w.heap.size 5 (cellsB ((A.bytes.drop a).take b)).toArray ∧ Below w.heap.size w W2) := ⟨hb2, HB.out.2.1.trans (hc2.below (fun k hk => by rw [hk]; exact Nat.le_refl _) (by have := HB.out.2.2; omega))⟩
    clear hsrc hb2 hc2 hz2 hx
    go_wp2
    go_returns
    rw [HE.out]
    refine ⟨_, _, _, rfl, ?_, hb1, H2.out.2⟩
    have := own_boxB (B := w.heap.size) H2.out.1 (Nat.le_refl _) (by rw [HS.out]; exact hb1)
    rw [HS.out] at this
    exact this
end Go.Proofs.Ytedddgkdpeielaa
