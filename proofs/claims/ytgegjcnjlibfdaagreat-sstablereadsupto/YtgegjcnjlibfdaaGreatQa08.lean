/- The contracts of codec's PutFixed, behind no bytes, and of Fixed. -/
import Derived.Test.YtgegjcnjlibfdaaGreatQa03
import Derived.Test.YtgegjcnjlibfdaaGreatQa07
import Derived.Test.YtgegjcnjlibfdaaGreatChecked
import Derived.Test.YtgegjcnjlibfdaaGreatQa01
import Derived.Test.YtgegjcnjlibfdaaGreatQa00
import Derived.Test.YtgegjcnjlibfdaaGreatKeyPlain
import Derived.Deep.RegionLaw
import Derived.Maps.AppendAt
namespace Go.Proofs.YtgegjcnjlibfdaaGreat
open Go.RowKit
theorem putFixed_nil (n L : Nat) (size : Int) (w : World) (hn : n < 18446744073709551616) (hL : (fxPut n size).length = L) :
    Calls Tryz.prog 60 #[.slice none 0 0, .int .u64 (n : Int), .int .i64 size] w fun e w' => ∃ a' c', e = .returned (.slice a' L c') ∧ BsAt w' a' L c' (fxPut n size) ∧ Below w.heap.size w w' := by
  refine (putFixed_any none 0 0 [] n size w (BsAt.nil w) hn (by omega)).mono ?_
  rintro e w' ⟨a', c', rfl, ho, hb⟩
  rw [hL, Nat.zero_add] at ho ⊢
  exact ⟨a', c', rfl, ho.bs, hb⟩
theorem fixed_eq {a : Option Addr} {len cap : Nat} {bs : List UInt8} {size : Int} {w : World} (h : BsAt w a len cap bs) {n er : Nat} (hr : fxRead bs size = (n, er)) :
    Calls Tryz.prog 74 #[.slice a len cap, .int .i64 size] w fun e w' => e = .returned (.tuple #[.int .u64 (n : Nat), .int .i64 (er : Nat)]) ∧ w' = w := by
  have := fixed_any a len cap bs size w h
  rw [hr] at this
  exact this
end Go.Proofs.YtgegjcnjlibfdaaGreat
/- The contract of codec.Uvarint: for any bytes it returns the number, how many bytes it has, and the error that the plain function uvRead tells. -/
namespace Go.Proofs.YtgegjcnjlibfdaaGreat
open Go.RowKit

theorem uv_step (acc c k : Nat) (hc : c < 256) (ha : acc < 2 ^ (7 * k)) (hk : k ≤ 9) (h1 : k = 9 → c % 128 ≤ 1) :
    bits .or .u64 (acc : Int) (IntKind.u64.wrap (IntKind.u64.wrap (bits .andNot .u8 (c : Int) 128) * 2 ^ (7 * k))) = ((acc + c % 128 * 2 ^ (7 * k) : Nat) : Int) := by
  have e1 := nbits_andNot8_128 ⟨c, hc⟩
  simp only at e1
  obtain ⟨h2, h3, h4⟩ := uv_or acc c k ha hk h1
  have e0 : IntKind.u64.wrap ((c % 128 : Nat) : Int) = ((c % 128 : Nat) : Int) := by simp [IntKind.wrap, IntKind.bits, IntKind.signed]; omega
  have e2 : IntKind.u64.wrap (((c % 128 : Nat) : Int) * 2 ^ (7 * k)) = (((c % 128 * 2 ^ (7 * k)) % 18446744073709551616 : Nat) : Int) := by
    simp [IntKind.wrap, IntKind.bits, IntKind.signed]
  rw [e1, e0, e2, nbits_or64 _ _ h4 (Nat.mod_lt _ (by omega)), h2]

set_option maxRecDepth 100000 in
set_option maxHeartbeats 400000 in
theorem uvarint_any (a : Option Addr) (len cap : Nat) (bs : List UInt8) (w : World) (h : BsAt w a len cap bs) :
    Calls Tryz.prog 112 #[.slice a len cap] w fun e w' => e = .returned (.tuple #[.int .u64 ((uvRead bs).1 : Nat), .int .i64 ((uvRead bs).2.1 : Nat), .int .i64 ((uvRead bs).2.2 : Nat)]) ∧ w' = w := by
  have hcap := h.max
  have hle := h.le
  have hlen := h.size
  unfold maxLen at hcap
  go_enter Tryz.func112, Tryz.ntmps112
  go_wp2
  go_loop [2, 9] (fun n i => ∃ k acc : Nat, k ≤ len ∧ k ≤ 9 ∧ i = .int .i64 k ∧ n = .int .u64 acc ∧ Hid (acc < 2 ^ (7 * k) ∧ uvRead bs = uvGo k acc (bs.drop k))) (fun _ i => len - (intOf i).toNat)
  case atStart => exact ⟨0, 0, Nat.zero_le _, by omega, rfl, rfl, by simp, rfl⟩
  case round =>
    obtain ⟨k, acc, hk, hk9, rfl, rfl, HR⟩ := hrel
    by_cases hlt : k < len
    · obtain ⟨b, off, rfl, hc⟩ := h.here (by omega)
      have hck := hc k hlt
      have hc8 : (bs.getD k 0).toNat < 256 := UInt8.toNat_lt _
      generalize hcd : (bs.getD k 0).toNat = c at hck hc8
      have HC : Hid ((bs.getD k 0).toNat = c) := hcd
      have HB : Hid (k < bs.length) := by unfold Hid; omega
      clear hc hcd hlen h
      by_cases h9 : 9 ≤ k
      · have h9' : ((k : Int) == 9) = true := by simp; omega
        by_cases h1 : 1 < c
        · go_wp2
          go_ret3
          have e := HR.out.2.trans (uvGo_at_long bs k acc HB.out (by omega) (by rw [HC.out]; exact h1))
          rw [e]
          exact ⟨rfl, rfl⟩
        · have h128 : c < 128 := by omega
          go_wp2
          go_ret3
          have e := HR.out.2.trans (uvGo_at_last bs k acc HB.out (by rw [HC.out]; omega) (by rw [HC.out]; exact h128))
          have e2 := uv_step acc c k hc8 HR.out.1 hk9 (by omega)
          rw [e, HC.out]
          exact ⟨ret3 (congrArg (Value.int .u64) e2) rfl rfl, rfl⟩
      · have h9' : ((k : Int) == 9) = false := by simp; omega
        by_cases h128 : c < 128
        · go_wp2
          go_ret3
          have e := HR.out.2.trans (uvGo_at_last bs k acc HB.out (by rw [HC.out]; omega) (by rw [HC.out]; exact h128))
          rw [e, HC.out]
          have e2 := uv_step acc c k hc8 HR.out.1 hk9 (by omega)
          exact ⟨ret3 (congrArg (Value.int .u64) e2) rfl rfl, rfl⟩
        · go_wp2
          go_round
          case rel =>
            have e := HR.out.2.trans (uvGo_at_more bs k acc HB.out (by rw [HC.out]; omega) (by rw [HC.out]; exact h128))
            rw [HC.out] at e
            have e2 := uv_step acc c k hc8 HR.out.1 hk9 (by omega)
            exact ⟨k + 1, acc + c % 128 * 2 ^ (7 * k), by omega, by omega, by go_num, congrArg (Value.int .u64) e2, uv_next acc c k HR.out.1, e⟩
          case measure => simp [intOf]; omega
    · go_wp2
      go_ret3
      have e := HR.out.2.trans (uvGo_at_nil bs k acc (by omega))
      rw [e]
      exact ⟨rfl, rfl⟩

theorem uvarint_eq {a : Option Addr} {len cap : Nat} {bs : List UInt8} {w : World} (h : BsAt w a len cap bs) {n k er : Nat} (hr : uvRead bs = (n, k, er)) :
    Calls Tryz.prog 112 #[.slice a len cap] w fun e w' => e = .returned (.tuple #[.int .u64 (n : Nat), .int .i64 (k : Nat), .int .i64 (er : Nat)]) ∧ w' = w := by
  have := uvarint_any a len cap bs w h
  rw [hr] at this
  exact this
end Go.Proofs.YtgegjcnjlibfdaaGreat
/- Structs of three fields in memory: what is known of their cells in a later world. -/
namespace Go.Proofs.YtgegjcnjlibfdaaGreat
open Go.RowKit

structure Rec3 (w : World) (n : Nat) (x y z : Value) : Prop where
  c0 : w.cell? ⟨n, 0, none⟩ = some x
  c1 : w.cell? ⟨n, 1, none⟩ = some y
  c2 : w.cell? ⟨n, 2, none⟩ = some z
  f0 : w.frozen? ⟨n, 0, none⟩ = false
  f1 : w.frozen? ⟨n, 1, none⟩ = false
  f2 : w.frozen? ⟨n, 2, none⟩ = false
  lt : n < w.heap.size

theorem Rec3.new (w : World) (n : Nat) (hn : n = w.heap.size) (x y z : Value) (t : TypeId) : Rec3 (w.alloc (.cells #[x, y, z] t)) n x y z := by
  subst hn
  refine ⟨?_, ?_, ?_, ?_, ?_, ?_, by simp⟩ <;> simp
theorem Rec3.below {B n : Nat} {w w' : World} {x y z : Value} (h : Rec3 w n x y z) (hB : w.heap.size ≤ B) (hb : Below B w w') : Rec3 w' n x y z := by
  have hn : n < B := Nat.lt_of_lt_of_le h.lt hB
  refine ⟨?_, ?_, ?_, ?_, ?_, ?_, Nat.lt_of_lt_of_le h.lt hb.size⟩
  · rw [hb.cell hn]; exact h.c0
  · rw [hb.cell hn]; exact h.c1
  · rw [hb.cell hn]; exact h.c2
  · rw [hb.frozen hn]; exact h.f0
  · rw [hb.frozen hn]; exact h.f1
  · rw [hb.frozen hn]; exact h.f2
theorem Rec3.alloc {n : Nat} {w : World} {x y z : Value} (h : Rec3 w n x y z) (o : Obj) : Rec3 (w.alloc o) n x y z := h.below (Nat.le_refl _) ((Below.refl _ _).alloc (Nat.le_refl _) _)
end Go.Proofs.YtgegjcnjlibfdaaGreat
/- The contract of ikey.Decode: the key of bytes, as plain functions tell it. -/
namespace Go.Proofs.YtgegjcnjlibfdaaGreat
open Go.RowKit

set_option maxRecDepth 100000 in
set_option maxHeartbeats 400000 in
theorem decode_any (a : Option Addr) (len cap : Nat) (bs : List UInt8) (w : World) (h : BsAt w a len cap bs) :
    Calls Tryz.prog 134 #[.slice a len cap] w fun e w' => e = .returned (.tuple #[.agg #[.string (strOf (keyUser bs)), .int .u64 ((keySeq bs : Nat) : Int), .int .i64 ((keyKind bs : Nat) : Int)], .int .i64 ((keyErr bs : Nat) : Int)]) ∧ Below w.heap.size w w' := by
  have hcap := h.max
  have hle := h.le
  have hlen := h.size
  unfold maxLen at hcap
  by_cases h1 : len < 8
  · have hno : keyOk bs = false := by rw [Bool.eq_false_iff, Ne, keyOk_iff]; omega
    have HE : Hid (keyUser bs = [] ∧ keySeq bs = 0 ∧ keyKind bs = 0 ∧ keyErr bs = 20) := by simp [Hid, keyUser, keySeq, keyKind, keyErr, hno]
    clear hlen h hno
    go_enter Tryz.func134, Tryz.ntmps134
    go_wp2
    obtain ⟨e1, e2, e3, e4⟩ := HE.out
    rw [e1, e2, e3, e4]
    refine bodyPost_ret (v := .tuple #[.agg #[.string (strOf []), .int .u64 0, .int .i64 0], .int .i64 20]) (by simp [results, Tryz.results134, go_sem, strOf]) rfl ⟨rfl, (Below.refl _ _).alloc (Nat.le_refl _) _⟩
  · by_cases h2 : 72 < len
    · have hno : keyOk bs = false := by rw [Bool.eq_false_iff, Ne, keyOk_iff]; omega
      have HE : Hid (keyUser bs = [] ∧ keySeq bs = 0 ∧ keyKind bs = 0 ∧ keyErr bs = 20) := by simp [Hid, keyUser, keySeq, keyKind, keyErr, hno]
      clear hlen h hno
      go_enter Tryz.func134, Tryz.ntmps134
      go_wp2
      obtain ⟨e1, e2, e3, e4⟩ := HE.out
      rw [e1, e2, e3, e4]
      refine bodyPost_ret (v := .tuple #[.agg #[.string (strOf []), .int .u64 0, .int .i64 0], .int .i64 20]) (by simp [results, Tryz.results134, go_sem, strOf]) rfl ⟨rfl, (Below.refl _ _).alloc (Nat.le_refl _) _⟩
    · obtain ⟨u, rfl⟩ : ∃ u, len = u + 8 := ⟨len - 8, by omega⟩
      obtain ⟨b, off, rfl, _⟩ := h.here (by omega)
      have HT : Hid (BsAt w (some ⟨b, off + u, none⟩) 8 (cap - u) (bs.drop u)) := by
        have := h.sub u 8 (by omega)
        rwa [List.take_of_length_le (by simp; omega)] at this
      have HU : Hid (BsAt w (some ⟨b, off, none⟩) u cap (bs.take u)) := h.upTo u (by omega)
      have HN : Hid (fxRead (bs.drop u) 8 = (keyNum bs, 0)) := by
        unfold fxRead keyNum Hid
        rw [if_neg (by omega), if_neg (by simp; omega), hlen]
        simp
        rw [List.take_of_length_le (by simp; omega)]
      have hlt := keyNum_lt bs
      have HX : Hid (bs.length = u + 8) := hlen
      generalize hnn : keyNum bs = n at hlt HN
      have hand : bits .and .u64 (n : Int) 255 = ((n % 256 : Nat) : Int) := by
        rw [show (255 : Int) = ((255 : Nat) : Int) by rfl, nbits_and64 _ _ hlt (by omega), show (255 : Nat) = 2 ^ 8 - 1 by rfl, Nat.and_two_pow_sub_one_eq_mod]
      have HS : Hid ((strOf (bs.take u)).size = u) := by
        show (bs.take u).toArray.size = u
        simp
        omega
      generalize hSS : strOf (bs.take u) = S at HS
      clear hlen h
      by_cases hk : n % 256 ≤ 1
      · have hok : keyOk bs = true := by rw [keyOk_iff, hnn, HX.out]; omega
        have HE : Hid (keyUser bs = bs.take u ∧ keySeq bs = n / 256 ∧ keyKind bs = n % 256 ∧ keyErr bs = 0) := by simp [Hid, keyUser, keySeq, keyKind, keyErr, hok, HX.out, hnn]
        have hck : ∀ W, Calls Tryz.prog 96 #[.agg #[.string S, .int .u64 ((n : Int) / 256), .int .i64 ((n : Int) % 256)]] W fun e w' => e = .returned (.int .i64 0) ∧ Below W.heap.size W w' := fun W => by
          have := check_any S (n / 256) ((n : Int) % 256) W (by rw [HS.out]; omega)
          rwa [chk_mk (by rw [HS.out]; omega) (by omega) (by omega), Int.natCast_ediv] at this
        clear hok hk
        go_enter Tryz.func134, Tryz.ntmps134
        go_wp2_with (first
          | (go_at_call 74; refine (fixed_any _ _ _ (bs.drop u) 8 _ (HT.out.alloc _)).mono ?_; rw [HN.out]; rintro e w1 ⟨rfl, rfl⟩; have hcv := conv_of (HU.out.alloc (.cells #[.string ⟨#[]⟩, .int .u64 0, .int .i64 0] 52)))
          | (go_at_call 96; refine (hck _).mono ?_; rintro e w2 ⟨rfl, hb2⟩
             have HB : Hid (Below w.heap.size w w2) := (((Below.refl _ w).alloc (Nat.le_refl _) _).alloc (by simp) _).trans (hb2.mono (by simp; omega))
             obtain ⟨c0, c1, c2, f0, f1, f2, hl⟩ := ((Rec3.new w w.heap.size rfl _ _ _ _).alloc _).below (Nat.le_refl _) hb2
             obtain ⟨d0, d1, d2, _, _, _, hm⟩ := (Rec3.new _ (w.heap.size + 1) (by simp) _ _ _ _).below (Nat.le_refl _) hb2
             clear hb2))
        obtain ⟨e1, e2, e3, e4⟩ := HE.out
        rw [e1, e2, e3, e4, hSS]
        refine bodyPost_ret (v := .tuple #[.agg #[.string S, .int .u64 ((n : Int) / 256), .int .i64 ((n : Int) % 256)], .int .i64 0]) (by simp [results, Tryz.results134, go_sem, *]) rfl ⟨rfl, ?_⟩
        exact ((HB.out.setCell (Nat.le_refl _) _).setCell (Nat.le_refl _) _).setCell (Nat.le_refl _) _
      · have hno : keyOk bs = false := by rw [Bool.eq_false_iff, Ne, keyOk_iff, hnn]; omega
        have HE : Hid (keyUser bs = [] ∧ keySeq bs = 0 ∧ keyKind bs = 0 ∧ keyErr bs = 20) := by simp [Hid, keyUser, keySeq, keyKind, keyErr, hno]
        have hck : ∀ W, Calls Tryz.prog 96 #[.agg #[.string S, .int .u64 ((n : Int) / 256), .int .i64 ((n : Int) % 256)]] W fun e w' => e = .returned (.int .i64 23) ∧ Below W.heap.size W w' := fun W => by
          have := check_any S (n / 256) ((n : Int) % 256) W (by rw [HS.out]; omega)
          rwa [show chk S.size (n / 256) ((n : Int) % 256) = 23 by unfold chk; rw [if_neg (by rw [HS.out]; omega), if_neg (by omega), if_neg (by omega)], Int.natCast_ediv] at this
        clear hno hk
        go_enter Tryz.func134, Tryz.ntmps134
        go_wp2_with (first
          | (go_at_call 74; refine (fixed_any _ _ _ (bs.drop u) 8 _ (HT.out.alloc _)).mono ?_; rw [HN.out]; rintro e w1 ⟨rfl, rfl⟩; have hcv := conv_of (HU.out.alloc (.cells #[.string ⟨#[]⟩, .int .u64 0, .int .i64 0] 52)))
          | (go_at_call 96; refine (hck _).mono ?_; rintro e w2 ⟨rfl, hb2⟩
             have HB : Hid (Below w.heap.size w w2) := (((Below.refl _ w).alloc (Nat.le_refl _) _).alloc (by simp) _).trans (hb2.mono (by simp; omega))
             obtain ⟨c0, c1, c2, f0, f1, f2, hl⟩ := ((Rec3.new w w.heap.size rfl _ _ _ _).alloc _).below (Nat.le_refl _) hb2
             obtain ⟨d0, d1, d2, _, _, _, hm⟩ := (Rec3.new _ (w.heap.size + 1) (by simp) _ _ _ _).below (Nat.le_refl _) hb2
             clear hb2))
        obtain ⟨e1, e2, e3, e4⟩ := HE.out
        rw [e1, e2, e3, e4]
        refine bodyPost_ret (v := .tuple #[.agg #[.string (strOf []), .int .u64 0, .int .i64 0], .int .i64 20]) (by simp [results, Tryz.results134, go_sem, strOf, *]) rfl ⟨rfl, ?_⟩
        exact ((HB.out.setCell (Nat.le_refl _) _).setCell (Nat.le_refl _) _).setCell (Nat.le_refl _) _
end Go.Proofs.YtgegjcnjlibfdaaGreat
/- Bytes appended to the call's own, as a step of a region that draws its order; what parts of slices are. -/
namespace Go.Proofs.YtgegjcnjlibfdaaGreat
open Go.RowKit
theorem step_appB {ops : Array Oper} {o : Oper} {a : Act} {w : World} {K : Act → World → Prop} {Q : Exit → Act → World → Prop} {E : Prop} (hgd : o.guard = none) (s x : Operand)
    (ho : o.op = .call { callee := .builtin .append, args := #[s, x], argTypes := #[27, 27] })
    (B : Nat) (a1 : Option Addr) (n1 c1 : Nat) (bs : List UInt8) (hs : a.eval s = .slice a1 n1 c1) (hown : OwnB w B a1 n1 c1 bs)
    (a2 : Option Addr) (n2 c2 : Nat) (cs : List UInt8) (hx : a.eval x = .slice a2 n2 c2) (hsrc : BsAt w a2 n2 c2 cs)
    (hl : n1 + n2 ≤ 140737488355328) (hB : B ≤ w.heap.size)
    (h : ∀ a' c' w', OwnB w' B a' (n1 + n2) c' (bs ++ cs) → Below B w w' → K (a.put o.dst (.slice a' (n1 + n2) c')) w') :
    if Region.wanted o (yielded ops a.tmps) = true then Oper.wp Tryz.prog o a w K Q else E := by
  have hw : Region.wanted o (yielded ops a.tmps) = true := by simp [Region.wanted, hgd]
  rw [if_pos hw]
  obtain ⟨i, hi, hz0, hz1, hz2⟩ := info_parts infoU8
  have hsz := hsrc.size
  have hlt : ∀ k, (Value.slice a1 n1 c1).ownBlock = some k → B ≤ k := fun k hk => (hown.row.lt k hk).1
  cases a2 with
  | none =>
    have hc0 := hsrc.bare rfl
    have hle := hsrc.le
    obtain rfl : n2 = 0 := by omega
    subst hc0
    obtain rfl := List.eq_nil_of_length_eq_zero hsz
    have hrun := run_append_owned_none (P := Tryz.prog) (w := w) B 27 o.type 5 i 1 Tryz.underlying27 hi _ n1 _ hown.row
    unfold Oper.wp
    simp [execOp, ho, resolve, invoke, builtin, hs, hx, hrun, Result.andThen]
    exact h a1 c1 w (by simpa using hown) (Below.refl _ _)
  | some ad =>
    have hcell : ∀ j u, (cellsB cs)[j]? = some u → w.cell? (ad.add j) = some u := by
      intro j u hu
      have hj : j < cs.length := by have := (List.getElem?_eq_some_iff.1 hu).1; rwa [cellsB_length] at this
      obtain ⟨b, off, he, hc⟩ := hsrc.here (by omega)
      obtain rfl := Option.some.inj he
      rw [cellsB_get cs j hj] at hu
      obtain rfl := Option.some.inj hu
      rw [Addr.add_lit]
      exact hc j (by omega)
    obtain ⟨v', w', hr, h2, h3, h4, h5⟩ := run_append_own_at (P := Tryz.prog) w B 27 o.type 5 i (.int .u8 0) 1 1 Tryz.underlying27 hi hz0 hz1 hz2 rfl (by decide) _ n1 _ hown.row ad n2 c2 (cellsB cs) (by rw [cellsB_length]; omega) hcell (cellsB_one cs) (by unfold maxLen; omega) (by omega) hB
    unfold Oper.wp execOp
    simp only [ho, resolve, invoke, builtin, Sem.run_bind, Sem.run_pure, Result.andThen_ok, List.map_toArray, List.map_cons, List.map_nil, hs, hx, hr]
    rw [← cellsB_append] at h2
    obtain ⟨a', c', rfl, ho'⟩ := own_of_row h2
    exact h a' c' w' ho' ((Below.refl B w).grown h3 hB hlt)
/-- The first k bytes. -/
theorem slice_to {w0 : World} {bs0 : List UInt8} {a : Option Addr} {len cap : Nat} (h : BsAt w0 a len cap bs0) (k : Nat) (hk : k ≤ len) :
    ∃ a', (∀ W : World, (Instr.slice 27 (.slice a len cap) none (some (.int .i64 (k : Int))) none).run Tryz.prog W = .ok (.slice a' k cap) W) ∧
      (∀ (W : World) (bs : List UInt8), BsAt W a len cap bs → BsAt W a' k cap (bs.take k)) := by
  have hle := h.le
  have hmx := h.max
  cases a with
  | none =>
    obtain rfl := h.bare rfl
    obtain rfl : k = 0 := by omega
    refine ⟨none, fun W => ?_, fun W bs hb => hb.upTo 0 (by omega)⟩
    simp [Instr.slice, run_underlying Tryz.underlying27, go_sem]
  | some ad =>
    obtain ⟨b, off, s⟩ := ad
    by_cases hc : cap = 0
    · subst hc
      obtain rfl : k = 0 := by omega
      refine ⟨some ⟨b, off, s⟩, fun W => ?_, fun W bs hb => hb.upTo 0 (by omega)⟩
      simp [Instr.slice, run_underlying Tryz.underlying27, go_sem]
    · refine ⟨some ⟨b, off, s⟩, fun W => ?_, fun W bs hb => hb.upTo k hk⟩
      simp [Instr.slice, run_underlying Tryz.underlying27, go_sem]
      intro hh
      omega
/-- The bytes from lo to hi. -/
theorem slice_mid {w0 : World} {bs0 : List UInt8} {a : Option Addr} {len cap : Nat} (h : BsAt w0 a len cap bs0) (lo hi : Nat) (hlo : lo ≤ hi) (hhi : hi ≤ len) :
    ∃ a', (∀ W : World, (Instr.slice 27 (.slice a len cap) (some (.int .i64 (lo : Int))) (some (.int .i64 (hi : Int))) none).run Tryz.prog W = .ok (.slice a' (hi - lo) (cap - lo)) W) ∧
      (∀ (W : World) (bs : List UInt8), BsAt W a len cap bs → BsAt W a' (hi - lo) (cap - lo) ((bs.drop lo).take (hi - lo))) := by
  have hle := h.le
  have hmx := h.max
  cases a with
  | none =>
    obtain rfl := h.bare rfl
    obtain rfl : hi = 0 := by omega
    obtain rfl : lo = 0 := by omega
    refine ⟨none, fun W => ?_, fun W bs hb => hb.upTo 0 (by omega)⟩
    simp [Instr.slice, run_underlying Tryz.underlying27, go_sem]
  | some ad =>
    obtain ⟨b, off, s⟩ := ad
    by_cases hc : cap - lo = 0
    · obtain rfl : lo = cap := by omega
      obtain rfl : hi = lo := by omega
      refine ⟨some ⟨b, off, s⟩, fun W => ?_, fun W bs hb => ?_⟩
      · simp [Instr.slice, run_underlying Tryz.underlying27, go_sem]
      · rw [Nat.sub_self, List.take_zero]
        exact BsAt.empty _ _ (by omega)
    · refine ⟨some ((⟨b, off, s⟩ : Addr).add lo), fun W => ?_, fun W bs hb => ?_⟩
      · have h1 : hi ≤ cap := by omega
        have h3 : ¬ cap = lo := by omega
        simp [Instr.slice, run_underlying Tryz.underlying27, go_sem, h1, hlo, h3]
      · rcases Nat.eq_zero_or_pos (hi - lo) with h0 | h0
        · rw [h0, List.take_zero]
          exact BsAt.empty _ _ (by omega)
        · obtain ⟨b', o', e, _⟩ := hb.here (by omega)
          simp only [Option.some.injEq, Addr.mk.injEq] at e
          obtain ⟨rfl, rfl, rfl⟩ := e
          rw [Addr.add_lit]
          exact hb.sub lo (hi - lo) (by omega)
end Go.Proofs.YtgegjcnjlibfdaaGreat
/- A number of 64 bits without a sign as an int: small ones stay what they are. -/
namespace Go.Proofs.YtgegjcnjlibfdaaGreat
open Go.RowKit
theorem i64_wrap (k : Nat) (h : k < 9223372036854775808) : IntKind.i64.wrap (k : Int) = (k : Int) := by
  simp [IntKind.wrap, IntKind.bits, IntKind.signed]
  omega
theorem conv_u64_int (k : Nat) (h : k < 9223372036854775808) (W : World) : (convert 33 3 (.int .u64 (k : Int))).run Tryz.prog W = .ok (.int .i64 (k : Int)) W := by
  have e := i64_wrap k h
  generalize (k : Int) = z at e ⊢
  simp [convert, run_underlying Tryz.underlying33, run_underlying Tryz.underlying3, go_sem, e]
end Go.Proofs.YtgegjcnjlibfdaaGreat
