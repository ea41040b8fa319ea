/- The statements' own awake: it answers true. -/
import Derived.Test.YtiflepadjcpjjaaQa09
import Derived.Test.YtiflepadjcpjjaaChecked
import Derived.Test.YtiflepadjcpjjaaQa04
import Derived.Test.YtiflepadjcpjjaaQa01
import Derived.Test.YtiflepadjcpjjaaQa00
import Derived.Test.YtiflepadjcpjjaaQa02
namespace Go.Proofs.Ytiflepadjcpjjaa
open Go.RowKit
set_option linter.unusedVariables false
set_option linter.unusedSimpArgs false
def xa : PE := ⟨3, 0, 0, [⟨1, 300⟩], []⟩
def xb : PE := ⟨0, 0, 0, [], [⟨4, 0, 0, ⟨⟨#[]⟩, 0, 0⟩, ⟨⟨#[]⟩, 0, 0⟩⟩]⟩
theorem xa_err : xa.err = 0 := by decide
theorem xa_enc : xa.enc = [3, 0, 0, 1, 1, 172, 2, 0] := by decide
theorem xa_lay : xa.lay = [3, 0, 0, 1, 1, 172, 2, 0] := by rw [PE.lay_yes xa_err, xa_enc]
theorem xa_dec : decE [3, 0, 0, 1, 1, 172, 2, 0] = some xa := decE_iff.2 ⟨xa_err, xa_enc⟩
theorem xb_err : xb.err = 130 := by
  unfold PE.err xb
  simp [errL, PF.err, gErr]
set_option maxRecDepth 100000 in
set_option maxHeartbeats 2000000 in
theorem awake_any (w : World) : Calls Try.prog 8 #[] w fun e w' => e = .returned (.bool true) ∧ Below w.heap.size w w' := by
  obtain ⟨W1, e1, HW⟩ : ∃ W1, W1 = (w.alloc (.cells (gA ⟨1, 300⟩) TG)).alloc (.cells (eA xa ⟨some ⟨w.heap.size, 0, none⟩, 1, none, 0⟩) TE) ∧ Hid (Below w.heap.size w W1 ∧ Box W1 (w.heap.size + 1) TE (eA xa ⟨some ⟨w.heap.size, 0, none⟩, 1, none, 0⟩) ∧ EdAt W1 xa ⟨some ⟨w.heap.size, 0, none⟩, 1, none, 0⟩) := by
    refine ⟨_, rfl, ((Below.refl _ _).alloc (Nat.le_refl _) _).alloc (by simp) _, ?_, (GsAt.one w ⟨1, 300⟩).below ((Below.refl _ _).alloc (Nat.le_refl _) _), FlAt.nil _⟩
    have := Box.new (w.alloc (.cells (gA ⟨1, 300⟩) TG)) TE (eA xa ⟨some ⟨w.heap.size, 0, none⟩, 1, none, 0⟩)
    simpa using this
  have hen : ∀ W, W = (w.alloc (.cells (gA ⟨1, 300⟩) TG)).alloc (.cells (eA xa ⟨some ⟨w.heap.size, 0, none⟩, 1, none, 0⟩) TE) → Calls Try.prog 9 #[.agg #[.int .u64 3, .int .u64 0, .int .u64 0, .slice (some ⟨w.heap.size, 0, none⟩) 1 1, .slice none 0 0]] W fun e w' => ∃ a' c', e = .returned (.tuple #[.slice a' 8 c', .int .i64 0]) ∧ OwnB w' W1.heap.size a' 8 c' [3, 0, 0, 1, 1, 172, 2, 0] ∧ Below W1.heap.size W1 w' := by
    rintro W rfl
    rw [← e1]
    have := eenc_any xa _ W1 HW.out.2.2 (fun f hf => by cases hf)
    rw [xa_lay, xa_err] at this
    exact this
  clear e1
  go_enter Try.func8, Try.ntmps8
  go_wp2_with fail
  refine (hen _ rfl).mono ?_
  rintro _ w2 ⟨a2, k2, rfl, ho2, hb2⟩
  have H2 : Hid (Below w.heap.size w w2 ∧ Box w2 (w.heap.size + 1) TE (eA xa ⟨some ⟨w.heap.size, 0, none⟩, 1, none, 0⟩) ∧ EdAt w2 xa ⟨some ⟨w.heap.size, 0, none⟩, 1, none, 0⟩ ∧ BsAt w2 a2 8 k2 [3, 0, 0, 1, 1, 172, 2, 0]) := ⟨HW.out.1.trans (hb2.mono HW.out.1.size), HW.out.2.1.kept (hb2.block _ HW.out.2.1.lt), HW.out.2.2.below hb2, ho2.bs⟩
  have hde := edec_any a2 8 k2 [3, 0, 0, 1, 1, 172, 2, 0] w2 ho2.bs (by omega)
  clear hen hb2 ho2 HW
  go_wp2_with fail
  refine hde.mono ?_
  rintro _ w3 ⟨hb3, ⟨hno, _⟩ | ⟨x, s, hx, rfl, hog, hof⟩⟩
  · rw [xa_dec] at hno
    cases hno
  obtain rfl : x = xa := by rw [xa_dec] at hx; exact (Option.some.inj hx).symm
  obtain ⟨W3, e3, H3⟩ : ∃ W3, W3 = w3.alloc (.cells (eA xa s) TE) ∧ Hid (Below w.heap.size w W3 ∧ Box W3 (w.heap.size + 1) TE (eA xa ⟨some ⟨w.heap.size, 0, none⟩, 1, none, 0⟩) ∧ EdAt W3 xa ⟨some ⟨w.heap.size, 0, none⟩, 1, none, 0⟩ ∧ BsAt W3 a2 8 k2 [3, 0, 0, 1, 1, 172, 2, 0] ∧ EdAt W3 xa s) := by
    have hb : Below w2.heap.size w2 (w3.alloc (.cells (eA xa s) TE)) := hb3.trans ((Below.refl _ _).alloc hb3.size _)
    exact ⟨_, rfl, H2.out.1.trans (hb.mono H2.out.1.size), H2.out.2.1.kept (hb.block _ H2.out.2.1.lt), H2.out.2.2.1.below hb, H2.out.2.2.2.below (Nat.le_refl _) hb, ⟨(hog.alloc _).gs, (hof.alloc _).fs⟩⟩
  have d0 : w3.cell? ⟨w.heap.size + 1, 0, none⟩ = some (.int .u64 3) := (H2.out.2.1.kept (hb3.block _ H2.out.2.1.lt)).cell 0
  have d1 : w3.cell? ⟨w.heap.size + 1, 1, none⟩ = some (.int .u64 0) := (H2.out.2.1.kept (hb3.block _ H2.out.2.1.lt)).cell 1
  have d2 : w3.cell? ⟨w.heap.size + 1, 2, none⟩ = some (.int .u64 0) := (H2.out.2.1.kept (hb3.block _ H2.out.2.1.lt)).cell 2
  have d3 : w3.cell? ⟨w.heap.size + 1, 3, none⟩ = some (.slice (some ⟨w.heap.size, 0, none⟩) 1 1) := (H2.out.2.1.kept (hb3.block _ H2.out.2.1.lt)).cell 3
  have d4 : w3.cell? ⟨w.heap.size + 1, 4, none⟩ = some (.slice none 0 0) := (H2.out.2.1.kept (hb3.block _ H2.out.2.1.lt)).cell 4
  have hlt : w.heap.size + 1 < w3.heap.size := (H2.out.2.1.kept (hb3.block _ H2.out.2.1.lt)).lt
  have hsm : ∀ W, W = w3.alloc (.cells (eA xa s) TE) → Calls Try.prog 11 #[.agg #[.int .u64 3, .int .u64 0, .int .u64 0, .slice (some ⟨w.heap.size, 0, none⟩) 1 1, .slice none 0 0], .agg #[.int .u64 (xa.log : Int), .int .u64 (xa.next : Int), .int .u64 (xa.last : Int), .slice s.a xa.dels.length s.c, .slice s.a' xa.adds.length s.c']] W fun e w' => e = .returned (.bool true) ∧ Below W3.heap.size W3 w' := by
    rintro W rfl
    rw [← e3]
    have := same_eq (x := xa) (s := ⟨some ⟨w.heap.size, 0, none⟩, 1, none, 0⟩) (t := s) H3.out.2.2.1 H3.out.2.2.2.2
    exact this
  clear hde hb3 hx hog hof e3 H2
  go_wp2_with fail
  refine (hsm _ rfl).mono ?_
  rintro _ w4 ⟨rfl, hb4⟩
  have H4 : Hid (Below w.heap.size w w4) := H3.out.1.trans (hb4.mono H3.out.1.size)
  obtain ⟨b, o, hba, hbc⟩ := (H3.out.2.2.2.1.below (Nat.le_refl _) hb4).here (by omega)
  subst hba
  have g0 : w4.cell? ⟨b, o, none⟩ = some (.int .u8 3) := hbc 0 (by omega)
  have g5 : w4.cell? ⟨b, o + 5, none⟩ = some (.int .u8 172) := hbc 5 (by omega)
  have HC : Hid (∀ W : World, Below w.heap.size w (W.alloc (.cells (fA ⟨4, 0, 0, ⟨⟨#[]⟩, 0, 0⟩, ⟨⟨#[]⟩, 0, 0⟩⟩) TF)) → Calls Try.prog 12 #[.agg #[.int .u64 0, .int .u64 0, .int .u64 0, .slice none 0 0, .slice (some ⟨W.heap.size, 0, none⟩) 1 1]] (W.alloc (.cells (fA ⟨4, 0, 0, ⟨⟨#[]⟩, 0, 0⟩, ⟨⟨#[]⟩, 0, 0⟩⟩) TF)) fun e w' => e = .returned (.int .i64 130) ∧ Below w.heap.size w w') := fun W hW => by
    have := echeck_any xb ⟨none, 0, some ⟨W.heap.size, 0, none⟩, 1⟩ (W.alloc (.cells (fA ⟨4, 0, 0, ⟨⟨#[]⟩, 0, 0⟩, ⟨⟨#[]⟩, 0, 0⟩⟩) TF)) ⟨GsAt.nil _, FlAt.one _ _⟩ (fun f hf => by
      obtain rfl := List.mem_singleton.1 hf
      exact ⟨by show (0 : Nat) ≤ _; omega, by show (0 : Nat) ≤ _; omega⟩)
    rw [xb_err] at this
    refine this.mono ?_
    rintro e w' ⟨rfl, hb⟩
    exact ⟨rfl, hW.trans (hb.mono hW.size)⟩
  clear hsm hb4 hbc d0 d1 d2 d3 d4 H3
  go_wp2_with fail
  refine (HC.out w4 (H4.out.alloc H4.out.size _)).mono ?_
  rintro _ w5 ⟨rfl, hb5⟩
  have H5 : Hid (Below w.heap.size w w5) := hb5
  clear hb5
  go_wp2
  go_ret
  exact ⟨ret1 rfl, H5.out⟩
end Go.Proofs.Ytiflepadjcpjjaa
/- The contract of the document's own Uvarint and Text: for any bytes they return what the plain functions uvRead and txtRead tell. -/
namespace Go.Proofs.Ytiflepadjcpjjaa
open Go.RowKit

theorem ruv_step (acc c k : Nat) (ha : acc < 2 ^ (7 * k)) (hk : k ≤ 9) (h1 : k = 9 → c % 128 ≤ 1) :
    ((acc : Int) + (c : Int) % 128 * 2 ^ (7 * k) % 18446744073709551616) % 18446744073709551616 = ((acc + c % 128 * 2 ^ (7 * k) : Nat) : Int) := by
  obtain ⟨_, h3, h4⟩ := uv_or acc c k ha hk h1
  have e : (c : Int) % 128 * 2 ^ (7 * k) = ((c % 128 * 2 ^ (7 * k) : Nat) : Int) := by simp
  rw [e]
  omega

set_option maxRecDepth 100000 in
set_option maxHeartbeats 400000 in
theorem ruvarint_any (a : Option Addr) (len cap : Nat) (bs : List UInt8) (w : World) (h : BsAt w a len cap bs) :
    Calls Try.prog 45 #[.slice a len cap] w fun e w' => e = .returned (.tuple #[.int .u64 ((uvRead bs).1 : Nat), .int .i64 ((uvRead bs).2.1 : Nat), .int .i64 ((uvRead bs).2.2 : Nat)]) ∧ w' = w := by
  have hcap := h.max
  have hle := h.le
  have hlen := h.size
  unfold maxLen at hcap
  go_enter Try.func45, Try.ntmps45
  go_wp2
  go_loop [5, 6] (fun n i => ∃ k acc : Nat, k ≤ len ∧ k ≤ 9 ∧ i = .int .i64 k ∧ n = .int .u64 acc ∧ Hid (acc < 2 ^ (7 * k) ∧ uvRead bs = uvGo k acc (bs.drop k))) (fun _ i => len - (intOf i).toNat)
  case atStart => exact ⟨0, 0, Nat.zero_le _, by omega, rfl, rfl, by simp, rfl⟩
  case round =>
    obtain ⟨k, acc, hk, hk9, rfl, rfl, HR⟩ := hrel
    by_cases hlt : k < len
    · obtain ⟨b, off, rfl, hc⟩ := h.here (by omega)
      have hck := hc k hlt
      have hc8 : (bs.getD k 0).toNat < 256 := UInt8.toNat_lt _
      generalize hcd : (bs.getD k 0).toNat = c at hck hc8
      have HC : Hid ((bs.getD k 0).toNat = c) := hcd
      have HB : Hid (k < bs.length) := by unfold Hid; omega
      clear hc hcd hlen h
      by_cases h9 : 9 ≤ k
      · have h9' : ((k : Int) == 9) = true := by simp; omega
        by_cases h1 : 1 < c
        · go_wp2
          go_ret3
          have e := HR.out.2.trans (uvGo_at_long bs k acc HB.out (by omega) (by rw [HC.out]; exact h1))
          rw [e]
          exact ⟨rfl, rfl⟩
        · have h128 : c < 128 := by omega
          go_wp2
          go_ret3
          have e := HR.out.2.trans (uvGo_at_last bs k acc HB.out (by rw [HC.out]; omega) (by rw [HC.out]; exact h128))
          have e2 := ruv_step acc c k HR.out.1 hk9 (by omega)
          rw [e, HC.out]
          exact ⟨ret3 (congrArg (Value.int .u64) e2) rfl rfl, rfl⟩
      · have h9' : ((k : Int) == 9) = false := by simp; omega
        by_cases h128 : c < 128
        · go_wp2
          go_ret3
          have e := HR.out.2.trans (uvGo_at_last bs k acc HB.out (by rw [HC.out]; omega) (by rw [HC.out]; exact h128))
          rw [e, HC.out]
          have e2 := ruv_step acc c k HR.out.1 hk9 (by omega)
          exact ⟨ret3 (congrArg (Value.int .u64) e2) rfl rfl, rfl⟩
        · go_wp2
          go_round
          case rel =>
            have e := HR.out.2.trans (uvGo_at_more bs k acc HB.out (by rw [HC.out]; omega) (by rw [HC.out]; exact h128))
            rw [HC.out] at e
            have e2 := ruv_step acc c k HR.out.1 hk9 (by omega)
            exact ⟨k + 1, acc + c % 128 * 2 ^ (7 * k), by omega, by omega, by go_num, congrArg (Value.int .u64) e2, uv_next acc c k HR.out.1, e⟩
          case measure => simp [intOf]; omega
    · go_wp2
      go_ret3
      have e := HR.out.2.trans (uvGo_at_nil bs k acc (by omega))
      rw [e]
      exact ⟨rfl, rfl⟩

theorem ruvarint_eq {a : Option Addr} {len cap : Nat} {bs : List UInt8} {w : World} (h : BsAt w a len cap bs) {n k er : Nat} (hr : uvRead bs = (n, k, er)) :
    Calls Try.prog 45 #[.slice a len cap] w fun e w' => e = .returned (.tuple #[.int .u64 (n : Nat), .int .i64 (k : Nat), .int .i64 (er : Nat)]) ∧ w' = w := by
  have := ruvarint_any a len cap bs w h
  rw [hr] at this
  exact this

set_option maxRecDepth 100000 in
set_option maxHeartbeats 400000 in
theorem rtext_any (a : Option Addr) (len cap : Nat) (bs : List UInt8) (w : World) (h : BsAt w a len cap bs) :
    Calls Try.prog 46 #[.slice a len cap] w fun e w' => e = .returned (.tuple #[.string (strOf (txtRead bs).1), .int .i64 ((txtRead bs).2.1 : Nat), .int .i64 ((txtRead bs).2.2 : Nat)]) ∧ w' = w := by
  have hcap := h.max
  have hle := h.le
  have hlen := h.size
  unfold maxLen at hcap
  have hok := uvRead_ok bs
  generalize hr : uvRead bs = r at hok
  obtain ⟨n, k, er⟩ := r
  simp only at hok
  obtain ⟨hn, hok⟩ := hok
  have HT : Hid (uvRead bs = (n, k, er)) := hr
  have HL : Hid (bs.length = len) := hlen
  clear hr hlen
  by_cases he : er = 0
  · subst he
    have hk : 0 < k ∧ k ≤ len ∧ k ≤ 10 := by have := HL.out; omega
    clear hok
    obtain ⟨b, off, rfl, hc⟩ := h.here (by omega)
    clear hc
    by_cases hnl : n ≤ len - k
    · have HE : Hid (txtRead bs = ((bs.drop k).take n, k + n, 0)) := txtRead_yes HT.out (by have := HL.out; omega)
      have h64 : n ≤ 2 ^ 63 - 1 - k := by omega
      by_cases hck : k < cap
      · have hcv := (h.sub k n (by omega)).asStr (P := Try.prog) (dst := 9) Try.underlying28 Try.underlying5 Try.underlying9
        go_enter Try.func46, Try.ntmps46
        go_wp2_with (go_at_call 45; refine (ruvarint_eq h HT.out).mono ?_; rintro e w' ⟨rfl, rfl⟩)
        go_ret3
        rw [HE.out]
        exact ⟨ret3 rfl rfl rfl, rfl⟩
      · obtain rfl : cap = k := by omega
        obtain rfl : n = 0 := by omega
        have hcv := (BsAt.empty (w := w) ⟨b, off, none⟩ 0 (Nat.zero_le _)).asStr (P := Try.prog) (dst := 9) Try.underlying28 Try.underlying5 Try.underlying9
        go_enter Try.func46, Try.ntmps46
        go_wp2_with (go_at_call 45; refine (ruvarint_eq h HT.out).mono ?_; rintro e w' ⟨rfl, rfl⟩)
        go_ret3
        rw [HE.out]
        exact ⟨ret3 rfl rfl rfl, rfl⟩
    · have HE : Hid (txtRead bs = ([], 0, 10)) := txtRead_short HT.out (by have := HL.out; omega)
      go_enter Try.func46, Try.ntmps46
      go_wp2_with (go_at_call 45; refine (ruvarint_eq h HT.out).mono ?_; rintro e w' ⟨rfl, rfl⟩)
      all_goals
        go_ret3
        rw [HE.out]
        exact ⟨ret3 rfl rfl rfl, rfl⟩
  · have HE : Hid (txtRead bs = ([], 0, er)) := txtRead_err HT.out he
    have he' : ((er : Int) != 0) = true := by simp; omega
    go_enter Try.func46, Try.ntmps46
    go_wp2_with (go_at_call 45; refine (ruvarint_eq h HT.out).mono ?_; rintro e w' ⟨rfl, rfl⟩)
    go_ret3
    rw [HE.out]
    exact ⟨ret3 rfl rfl rfl, rfl⟩
end Go.Proofs.Ytiflepadjcpjjaa
/- The contract of the document's own Fixed: for any bytes and any size it returns what the plain function fxRead tells. -/
namespace Go.Proofs.Ytiflepadjcpjjaa
open Go.RowKit

set_option maxRecDepth 100000 in
set_option maxHeartbeats 400000 in
theorem rfixed_any (a : Option Addr) (len cap : Nat) (bs : List UInt8) (size : Int) (w : World) (h : BsAt w a len cap bs) :
    Calls Try.prog 57 #[.slice a len cap, .int .i64 size] w fun e w' => e = .returned (.tuple #[.int .u64 ((fxRead bs size).1 : Nat), .int .i64 ((fxRead bs size).2 : Nat)]) ∧ w' = w := by
  have hcap := h.max
  have hle := h.le
  have hlen := h.size
  unfold maxLen at hcap
  by_cases hs : size < 1 ∨ 8 < size
  · have HE : Hid (fxRead bs size = (0, 1)) := by unfold fxRead Hid; rw [if_pos hs]
    by_cases h1 : size < 1
    · clear hs
      go_enter Try.func57, Try.ntmps57
      go_wp2
      go_ret2
      rw [HE.out]
      exact ⟨ret2 rfl rfl, rfl⟩
    · have h2 : 8 < size := by omega
      have h1' : decide (size < 1) = false := by simpa using h1
      clear hs
      go_enter Try.func57, Try.ntmps57
      go_wp2
      go_ret2
      rw [HE.out]
      exact ⟨ret2 rfl rfl, rfl⟩
  · have hs1 : 1 ≤ size := by omega
    have hs2 : size ≤ 8 := by omega
    have h1' : decide (size < 1) = false := by simp; omega
    have h2' : decide (8 < size) = false := by simp; omega
    obtain ⟨n, rfl⟩ : ∃ n : Nat, size = (n : Int) := ⟨size.toNat, by omega⟩
    by_cases hl : len < n
    · have HE : Hid (fxRead bs n = (0, 10)) := by unfold fxRead Hid; rw [if_neg hs, if_pos (by simp; omega)]
      clear hs
      go_enter Try.func57, Try.ntmps57
      go_wp2
      go_ret2
      rw [HE.out]
      exact ⟨ret2 rfl rfl, rfl⟩
    · have HE : Hid (fxRead bs n = (leNat (bs.take n), 0)) := by unfold fxRead Hid; rw [if_neg hs, if_neg (by simp; omega)]; simp
      obtain ⟨b, off, rfl, hc⟩ := h.here (by omega)
      have HL : Hid (bs.length = len) := hlen
      clear hs hlen h
      have HC : Hid (∀ j, j < len → w.cell? ⟨b, off + j, none⟩ = some (.int .u8 ((bs.getD j 0).toNat : Int))) := hc
      clear hc
      go_enter Try.func57, Try.ntmps57
      go_wp2
      go_loop [6, 7] (fun x i => ∃ k acc : Nat, k ≤ n ∧ i = .int .i64 ((k : Int) - 1) ∧ x = .int .u64 acc ∧ Hid (acc = leNat ((bs.take n).drop k))) (fun _ i => ((intOf i) + 1).toNat)
      case atStart => exact ⟨n, 0, Nat.le_refl _, rfl, rfl, by simp [Hid, leNat]⟩
      case round =>
        obtain ⟨k, acc, hk, rfl, rfl, HR⟩ := hrel
        by_cases hlt : 0 < k
        · obtain ⟨j, rfl⟩ : ∃ j, k = j + 1 := ⟨k - 1, by omega⟩
          have hck := HC.out j (by omega)
          have hc8 : (bs.getD j 0).toNat < 256 := UInt8.toNat_lt _
          have hs : leNat ((bs.take n).drop j) = (bs.getD j 0).toNat + 256 * leNat ((bs.take n).drop (j + 1)) := by
            rw [drop_cons (bs.take n) j (by have := HL.out; simp; omega)]
            simp [leNat, List.getD, show j < n by omega]
          have ha := leNat_lt64 ((bs.take n).drop j) (by simp; omega)
          rw [← HR.out] at hs
          rw [hs] at ha
          generalize hcd : (bs.getD j 0).toNat = c at hck hc8 hs ha
          have HS : Hid (leNat ((bs.take n).drop j) = c + 256 * acc) := hs
          clear hcd hs
          go_wp2
          go_round
          case rel =>
            exact ⟨j, c + 256 * acc, by omega, by go_num, congrArg (Value.int .u64) (by omega), HS.out.symm⟩
          case measure => simp [intOf]
        · obtain rfl : k = 0 := by omega
          go_wp2
          go_ret2
          rw [HE.out]
          exact ⟨ret2 (by rw [HR.out]; rfl) rfl, rfl⟩
end Go.Proofs.Ytiflepadjcpjjaa
/- The contract of the document's own Decode: the key of bytes, as plain functions tell it. -/
namespace Go.Proofs.Ytiflepadjcpjjaa
open Go.RowKit

set_option maxRecDepth 100000 in
set_option maxHeartbeats 400000 in
theorem rdecode_any (a : Option Addr) (len cap : Nat) (bs : List UInt8) (w : World) (h : BsAt w a len cap bs) :
    Calls Try.prog 47 #[.slice a len cap] w fun e w' => e = .returned (.tuple #[.agg #[.string (strOf (keyUser bs)), .int .u64 ((keySeq bs : Nat) : Int), .int .i64 ((keyKind bs : Nat) : Int)], .int .i64 ((keyErr bs : Nat) : Int)]) ∧ Below w.heap.size w w' := by
  have hcap := h.max
  have hle := h.le
  have hlen := h.size
  unfold maxLen at hcap
  by_cases h1 : len < 8
  · have hno : keyOk bs = false := by rw [Bool.eq_false_iff, Ne, keyOk_iff]; omega
    have HE : Hid (keyUser bs = [] ∧ keySeq bs = 0 ∧ keyKind bs = 0 ∧ keyErr bs = 20) := by simp [Hid, keyUser, keySeq, keyKind, keyErr, hno]
    clear hlen h hno
    go_enter Try.func47, Try.ntmps47
    go_wp2
    obtain ⟨e1, e2, e3, e4⟩ := HE.out
    rw [e1, e2, e3, e4]
    refine bodyPost_ret (v := .tuple #[.agg #[.string (strOf []), .int .u64 0, .int .i64 0], .int .i64 20]) (by simp [results, Try.results47, go_sem, strOf]) rfl ⟨rfl, (Below.refl _ _).alloc (Nat.le_refl _) _⟩
  · by_cases h2 : 72 < len
    · have hno : keyOk bs = false := by rw [Bool.eq_false_iff, Ne, keyOk_iff]; omega
      have HE : Hid (keyUser bs = [] ∧ keySeq bs = 0 ∧ keyKind bs = 0 ∧ keyErr bs = 20) := by simp [Hid, keyUser, keySeq, keyKind, keyErr, hno]
      clear hlen h hno
      go_enter Try.func47, Try.ntmps47
      go_wp2
      obtain ⟨e1, e2, e3, e4⟩ := HE.out
      rw [e1, e2, e3, e4]
      refine bodyPost_ret (v := .tuple #[.agg #[.string (strOf []), .int .u64 0, .int .i64 0], .int .i64 20]) (by simp [results, Try.results47, go_sem, strOf]) rfl ⟨rfl, (Below.refl _ _).alloc (Nat.le_refl _) _⟩
    · obtain ⟨u, rfl⟩ : ∃ u, len = u + 8 := ⟨len - 8, by omega⟩
      obtain ⟨b, off, rfl, _⟩ := h.here (by omega)
      have HT : Hid (BsAt w (some ⟨b, off + u, none⟩) 8 (cap - u) (bs.drop u)) := by
        have := h.sub u 8 (by omega)
        rwa [List.take_of_length_le (by simp; omega)] at this
      have HU : Hid (BsAt w (some ⟨b, off, none⟩) u cap (bs.take u)) := h.upTo u (by omega)
      have HN : Hid (fxRead (bs.drop u) 8 = (keyNum bs, 0)) := by
        unfold fxRead keyNum Hid
        rw [if_neg (by omega), if_neg (by simp; omega), hlen]
        simp
        rw [List.take_of_length_le (by simp; omega)]
      have hlt := keyNum_lt bs
      have HX : Hid (bs.length = u + 8) := hlen
      generalize hnn : keyNum bs = n at hlt HN
      have HS : Hid ((strOf (bs.take u)).size = u) := by
        show (bs.take u).toArray.size = u
        simp
        omega
      generalize hSS : strOf (bs.take u) = S at HS
      clear hlen h
      by_cases hk : n % 256 ≤ 1
      · have hok : keyOk bs = true := by rw [keyOk_iff, hnn, HX.out]; omega
        have HE : Hid (keyUser bs = bs.take u ∧ keySeq bs = n / 256 ∧ keyKind bs = n % 256 ∧ keyErr bs = 0) := by simp [Hid, keyUser, keySeq, keyKind, keyErr, hok, HX.out, hnn]
        clear hok
        go_enter Try.func47, Try.ntmps47
        go_wp2_with (first
          | (go_at_call 57; refine (rfixed_any _ _ _ (bs.drop u) 8 _ (HT.out.alloc _)).mono ?_; rw [HN.out]; rintro e w1 ⟨rfl, rfl⟩; have hcv := conv_of (HU.out.alloc (.cells #[.string ⟨#[]⟩, .int .u64 0, .int .i64 0] 42))))
        obtain ⟨e1, e2, e3, e4⟩ := HE.out
        rw [e1, e2, e3, e4, hSS]
        refine bodyPost_ret (v := .tuple #[.agg #[.string S, .int .u64 ((n : Int) / 256), .int .i64 ((n : Int) % 256)], .int .i64 0]) (by simp [results, Try.results47, go_sem, *]) rfl ⟨rfl, ?_⟩
        exact (Below.refl _ _).alloc (Nat.le_refl _) _
      · have hno : keyOk bs = false := by rw [Bool.eq_false_iff, Ne, keyOk_iff, hnn]; omega
        have HE : Hid (keyUser bs = [] ∧ keySeq bs = 0 ∧ keyKind bs = 0 ∧ keyErr bs = 20) := by simp [Hid, keyUser, keySeq, keyKind, keyErr, hno]
        clear hno
        go_enter Try.func47, Try.ntmps47
        go_wp2_with (first
          | (go_at_call 57; refine (rfixed_any _ _ _ (bs.drop u) 8 _ (HT.out.alloc _)).mono ?_; rw [HN.out]; rintro e w1 ⟨rfl, rfl⟩; have hcv := conv_of (HU.out.alloc (.cells #[.string ⟨#[]⟩, .int .u64 0, .int .i64 0] 42))))
        obtain ⟨e1, e2, e3, e4⟩ := HE.out
        rw [e1, e2, e3, e4]
        refine bodyPost_ret (v := .tuple #[.agg #[.string (strOf []), .int .u64 0, .int .i64 0], .int .i64 20]) (by simp [results, Try.results47, go_sem, strOf, *]) rfl ⟨rfl, ?_⟩
        exact (Below.refl _ _).alloc (Nat.le_refl _) _
end Go.Proofs.Ytiflepadjcpjjaa
