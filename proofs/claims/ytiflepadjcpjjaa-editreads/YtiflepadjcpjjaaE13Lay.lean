/- The contracts of edit's layNumbers and layKeys. -/
import Derived.Test.YtiflepadjcpjjaaE13Check
import Derived.Test.YtiflepadjcpjjaaQa07
namespace Go.Proofs.Ytiflepadjcpjjaa
open Go.RowKit
set_option linter.unusedVariables false
set_option linter.unusedSimpArgs false
def nsV (ns : List Nat) : List Value := ns.map fun (n : Nat) => Value.int .u64 (n : Int)
theorem Box.grown {w w' : World} {g : Nat} {t : TypeId} {arr : Array Value} (h : Box w g t arr) {B : Nat} {a : Option Addr} {len cap : Nat} {bs : List UInt8} (ho : OwnB w B a len cap bs) (hg : w.grownBy w' (Value.slice a len cap).ownBlock) (ht : t ≠ 5) : Box w' g t arr :=
  h.kept ((Chg.grown hg).block g h.lt (fun e => tag_ne h.tag (row_tag ho.row e) ht rfl))
/-- Blocks that hold no bytes stay. -/
def KeepB (w w' : World) : Prop := ∀ (g : Nat) (t : TypeId) (arr : Array Value), Box w g t arr → t ≠ 5 → Box w' g t arr
theorem KeepB.refl (w : World) : KeepB w w := fun _ _ _ h _ => h
theorem KeepB.trans {a b c : World} (h : KeepB a b) (k : KeepB b c) : KeepB a c := fun g t arr hb ht => k g t arr (h g t arr hb ht) ht
theorem KeepB.of {w w' : World} (h : Below w.heap.size w w') : KeepB w w' := fun g t arr hb ht => hb.kept (h.block _ hb.lt)
theorem KeepB.grown {w w' : World} {B : Nat} {a : Option Addr} {len cap : Nat} {bs : List UInt8} (ho : OwnB w B a len cap bs) (hg : w.grownBy w' (Value.slice a len cap).ownBlock) : KeepB w w' := fun g t arr hb ht => hb.grown ho hg ht
theorem KeepB.alloc (w : World) (o : Obj) : KeepB w (w.alloc o) := fun g t arr hb ht => hb.alloc o
set_option maxRecDepth 100000 in
theorem idx_nums (g n k : Nat) (hk : k < n) (W : World) : (Instr.indexAt 63 (.slice (some ⟨g, 0, none⟩) n n) (.int .i64 (k : Int))).run Try.prog W = .ok (.pointer (some ⟨g, k, none⟩)) W := by
  have h1 : (0 : Int) ≤ (k : Int) ∧ (k : Int) < ((n : Nat) : Int) := by omega
  have hsz : (sizeOf (Try.prog.elem 63)).run Try.prog W = .ok 1 W := by kernel_rfl
  rw [run_indexAt_slice (P := Try.prog) (h := (by kernel_rfl : Try.prog.underlying 63 = some (.slice (Try.prog.elem 63)))), if_pos h1, hsz]
  simp [Result.andThen, Addr.add_lit]
set_option maxRecDepth 100000 in
set_option maxHeartbeats 1000000 in
theorem layNumbers_any (B : Nat) (a : Option Addr) (len cap : Nat) (bs : List UInt8) (ns : List Nat) (g N : Nat) (arr : Array Value) (w : World) (h : OwnB w B a len cap bs) (hB : B ≤ w.heap.size) (hN : ns.length = N) (hbx : Box w g 23 arr) (harr : arr.toList = nsV ns) (hlt : ∀ n ∈ ns, n < 18446744073709551616) (hl : len + 10 * N ≤ 140737488355000) (hN4 : N ≤ 4) :
    Calls Try.prog 16 #[.slice a len cap, .slice (some ⟨g, 0, none⟩) N N] w fun e w' => ∃ a' c', e = .returned (.slice a' (bs ++ ns.flatMap uvEnc).length c') ∧ OwnB w' B a' (bs ++ ns.flatMap uvEnc).length c' (bs ++ ns.flatMap uvEnc) ∧ Below B w w' ∧ KeepB w w' := by
  have HS : Hid (arr.toList = nsV ns ∧ (∀ n ∈ ns, n < 18446744073709551616) ∧ ns.length = N) := ⟨harr, hlt, hN⟩
  have H0 : Hid (OwnB w B a len cap bs ∧ Box w g 23 arr) := ⟨h, hbx⟩
  have hz := h.size
  clear h hbx harr hlt hN
  go_enter Try.func16, Try.ntmps16
  go_wp2_with fail
  go_loopw [0, 9] (fun o i wr => ∃ (k : Nat) (a' : Option Addr) (n' c' : Nat), k ≤ N ∧ i = .int .i64 (k : Int) ∧ o = .slice a' n' c' ∧ n' ≤ len + 10 * k ∧ Hid (OwnB wr B a' n' c' (bs ++ (ns.take k).flatMap uvEnc) ∧ Below B w wr ∧ KeepB w wr)) (fun _ i _ => N - (intOf i).toNat)
  case atStart => exact ⟨0, a, len, cap, Nat.zero_le _, rfl, rfl, by omega, by simpa using H0.out.1, Below.refl _ _, KeepB.refl _⟩
  case round =>
    obtain ⟨k, a', n', c', hk, rfl, rfl, hn', HR⟩ := hrel
    by_cases hkn : k < N
    · have hkl : k < ns.length := by rw [HS.out.2.2]; exact hkn
      have hidx := fun W => idx_nums g N k hkn W
      have hc : wr.cell? ⟨g, k, none⟩ = some (.int .u64 ((ns[k] : Nat) : Int)) := by
        rw [(HR.out.2.2 _ _ _ H0.out.2 (by decide)).cell, ← Array.getElem?_toList, HS.out.1, nsV, List.getElem?_map, List.getElem?_eq_getElem hkl]
        rfl
      have hx := HS.out.2.1 ns[k] (List.getElem_mem hkl)
      have HT : Hid (ns.take (k + 1) = ns.take k ++ [ns[k]]) := List.take_succ_eq_append_getElem hkl
      generalize ns[k] = x at hc hx HT
      have HP : Hid (∀ W, Calls Try.prog 33 #[.slice none 0 0, .int .u64 (x : Int)] W fun e w' => ∃ a1 c1, e = .returned (.slice a1 (uvEnc x).length c1) ∧ OwnB w' W.heap.size a1 (uvEnc x).length c1 (uvEnc x) ∧ Below W.heap.size W w') := fun W => by
        have := putUvarint_any none 0 0 [] x W (BsAt.nil W) hx (by omega)
        simpa only [Nat.zero_add, List.nil_append] using this
      have hle := uvEnc_length x
      go_wp2_with fail
      refine (HP.out _).mono ?_
      rintro _ w1 ⟨a1, c1, rfl, ho1, hb1⟩
      have H1 : Hid (OwnB w1 B a' n' c' (bs ++ (ns.take k).flatMap uvEnc) ∧ Below B w w1 ∧ KeepB w w1) := ⟨HR.out.1.below hb1, HR.out.2.1.trans (hb1.mono (Nat.le_trans hB HR.out.2.1.size)), HR.out.2.2.trans (KeepB.of hb1)⟩
      have H1s : Hid (BsAt w1 a1 (uvEnc x).length c1 (uvEnc x)) := ho1.bs
      have hB1 : B ≤ w1.heap.size := Nat.le_trans hB H1.out.2.1.size
      clear ho1 hb1
      go_wp2_with (first
        | (at_builtin; refine wpList_app _ rfl _ _ rfl B _ n' c' (bs ++ (ns.take k).flatMap uvEnc) rfl H1.out.1 _ _ _ (uvEnc x) rfl H1s.out (by omega) hB1 ?_))
      intro a2 c2 w2 ho2 hb2 hg2
      have H2 : Hid (OwnB w2 B a2 (n' + (uvEnc x).length) c2 (bs ++ (ns.take (k + 1)).flatMap uvEnc) ∧ Below B w w2 ∧ KeepB w w2) := by
        refine ⟨?_, H1.out.2.1.trans hb2, H1.out.2.2.trans (KeepB.grown H1.out.1 hg2)⟩
        rw [HT.out, List.flatMap_append, ← List.append_assoc]
        simpa using ho2
      clear ho2 hb2 hg2
      go_wp2
      go_roundw
      case rel => exact ⟨k + 1, a2, n' + (uvEnc x).length, c2, hkn, by go_num, rfl, by omega, H2.out⟩
      case measure => simp only [intOf]; omega
    · have HF : Hid (OwnB wr B a' n' c' (bs ++ ns.flatMap uvEnc) ∧ Below B w wr ∧ KeepB w wr) := by
        have := HR.out.1
        rw [List.take_of_length_le (by rw [HS.out.2.2]; omega)] at this
        exact ⟨this, HR.out.2⟩
      have hs := HF.out.1.size
      go_wp2
      go_ret
      rw [hs]
      exact ⟨a', c', ret1 rfl, HF.out.1, HF.out.2⟩
def kc (k : IK) : List Value := [.string k.user, .int .u64 (k.seq : Int), .int .i64 k.kind]
theorem kc_len (k : IK) : (kc k).length = 3 := rfl
theorem enc_size {k : IK} (h : k.err = 0) : (txtPut k.enc).length ≤ 82 := by
  have h1 := enc_len h
  have h2 := err_le h
  have h3 := uvEnc_length k.enc.length
  unfold txtPut
  rw [List.length_append]
  omega
set_option maxRecDepth 100000 in
set_option maxHeartbeats 1000000 in
theorem layKeys_any (B : Nat) (a : Option Addr) (len cap : Nat) (bs : List UInt8) (ks : List IK) (g : Nat) (arr : Array Value) (w : World) (h : OwnB w B a len cap bs) (hB : B ≤ w.heap.size) (hN : ks.length = 2) (hbx : Box w g 42 arr) (harr : arr.toList = ks.flatMap kc) (hok : ∀ k ∈ ks, k.err = 0) (hl : len + 164 ≤ 140737488355000) :
    Calls Try.prog 17 #[.slice a len cap, .slice (some ⟨g, 0, none⟩) 2 2] w fun e w' => ∃ a' c', e = .returned (.slice a' (bs ++ ks.flatMap fun k => txtPut k.enc).length c') ∧ OwnB w' B a' (bs ++ ks.flatMap fun k => txtPut k.enc).length c' (bs ++ ks.flatMap fun k => txtPut k.enc) ∧ Below B w w' := by
  have HS : Hid (arr.toList = ks.flatMap kc ∧ (∀ k ∈ ks, k.err = 0) ∧ ks.length = 2) := ⟨harr, hok, hN⟩
  have H0 : Hid (OwnB w B a len cap bs ∧ Box w g 42 arr) := ⟨h, hbx⟩
  have hz := h.size
  clear h hbx harr hok hN
  go_enter Try.func17, Try.ntmps17
  go_wp2_with fail
  go_loopw [0, 11] (fun o i wr => ∃ (k : Nat) (a' : Option Addr) (n' c' : Nat), k ≤ 2 ∧ i = .int .i64 (k : Int) ∧ o = .slice a' n' c' ∧ n' ≤ len + 82 * k ∧ Hid (OwnB wr B a' n' c' (bs ++ (ks.take k).flatMap fun k => txtPut k.enc) ∧ Below B w wr ∧ Box wr g 42 arr)) (fun _ i _ => 2 - (intOf i).toNat)
  case atStart => exact ⟨0, a, len, cap, Nat.zero_le _, rfl, rfl, by omega, by simpa using H0.out.1, Below.refl _ _, H0.out.2⟩
  case round =>
    obtain ⟨k, a', n', c', hk, rfl, rfl, hn', HR⟩ := hrel
    by_cases hkn : k < 2
    · have hkl : k < ks.length := by rw [HS.out.2.2]; exact hkn
      have hidx := fun W => idx_keys g 2 k hkn W
      have hc : ∀ i, i < 3 → wr.cell? ⟨g, k * 3 + i, none⟩ = (kc ks[k])[i]? := fun i hi => by
        rw [HR.out.2.2.cell, ← Array.getElem?_toList, HS.out.1, flat_get kc_len ks k i hkl hi]
      have d0 : wr.cell? ⟨g, k * 3, none⟩ = some (.string ks[k].user) := hc 0 (by omega)
      have d1 : wr.cell? ⟨g, k * 3 + 1, none⟩ = some (.int .u64 (ks[k].seq : Int)) := hc 1 (by omega)
      have d2 : wr.cell? ⟨g, k * 3 + 2, none⟩ = some (.int .i64 ks[k].kind) := hc 2 (by omega)
      have hx := HS.out.2.1 ks[k] (List.getElem_mem hkl)
      have HT : Hid (ks.take (k + 1) = ks.take k ++ [ks[k]]) := List.take_succ_eq_append_getElem hkl
      clear hc
      generalize ks[k] = x at d0 d1 d2 hx HT
      have hus := err_le hx
      have HX : Hid (Below B w (wr.alloc (.cells #[.string x.user, .int .u64 (x.seq : Int), .int .i64 x.kind] 42)) ∧ OwnB (wr.alloc (.cells #[.string x.user, .int .u64 (x.seq : Int), .int .i64 x.kind] 42)) B a' n' c' (bs ++ (ks.take k).flatMap fun k => txtPut k.enc) ∧ Box (wr.alloc (.cells #[.string x.user, .int .u64 (x.seq : Int), .int .i64 x.kind] 42)) g 42 arr) := ⟨HR.out.2.1.alloc (Nat.le_trans hB HR.out.2.1.size) _, HR.out.1.alloc _, HR.out.2.2.alloc _⟩
      have HE : Hid (∀ W, Calls Try.prog 34 #[.agg #[.string x.user, .int .u64 (x.seq : Int), .int .i64 x.kind]] W fun e w' => ∃ a1 c1, e = .returned (.tuple #[.slice a1 x.enc.length c1, .int .i64 ((x.err : Nat) : Int)]) ∧ BsAt w' a1 x.enc.length c1 x.enc ∧ Below W.heap.size W w') := fun W => encode_any x.user x.seq x.kind W (by omega)
      have hle := enc_size hx
      have hel := enc_len hx
      have HP : Hid (∀ W, Calls Try.prog 35 #[.slice none 0 0, .string (strOf x.enc)] W fun e w' => ∃ a1 c1, e = .returned (.slice a1 (txtPut x.enc).length c1) ∧ OwnB w' W.heap.size a1 (txtPut x.enc).length c1 (txtPut x.enc) ∧ Below W.heap.size W w') := fun W => by
        have := putText_any none 0 0 [] (strOf x.enc) W (BsAt.nil W) (by rw [str_len]; omega)
        rw [show (strOf x.enc).data.toList = x.enc by simp [strOf]] at this
        simpa only [Nat.zero_add, List.nil_append] using this
      clear hel
      go_wp2_with fail
      refine (HE.out _).mono ?_
      rintro _ w1 ⟨a1, c1, rfl, hs1, hb1⟩
      have H1 : Hid (OwnB w1 B a' n' c' (bs ++ (ks.take k).flatMap fun k => txtPut k.enc) ∧ Below B w w1 ∧ Box w1 g 42 arr) := ⟨HX.out.2.1.below hb1, HX.out.1.trans (hb1.mono (Nat.le_trans hB HX.out.1.size)), HX.out.2.2.kept (hb1.block _ HX.out.2.2.lt)⟩
      have hcv := conv_of hs1
      clear hs1 hb1 HX d0 d1 d2
      rw [hx]
      go_wp2_with fail
      refine (HP.out _).mono ?_
      rintro _ w2 ⟨a2, c2, rfl, ho2, hb2⟩
      have H2 : Hid (OwnB w2 B a' n' c' (bs ++ (ks.take k).flatMap fun k => txtPut k.enc) ∧ Below B w w2 ∧ Box w2 g 42 arr) := ⟨H1.out.1.below hb2, H1.out.2.1.trans (hb2.mono (Nat.le_trans hB H1.out.2.1.size)), H1.out.2.2.kept (hb2.block _ H1.out.2.2.lt)⟩
      have H2s : Hid (BsAt w2 a2 (txtPut x.enc).length c2 (txtPut x.enc)) := ho2.bs
      have hB2 : B ≤ w2.heap.size := Nat.le_trans hB H2.out.2.1.size
      clear ho2 hb2 hcv
      go_wp2_with (first
        | (at_builtin; refine wpList_app _ rfl _ _ rfl B _ n' c' (bs ++ (ks.take k).flatMap fun k => txtPut k.enc) rfl H2.out.1 _ _ _ (txtPut x.enc) rfl H2s.out (by omega) hB2 ?_))
      intro a3 c3 w3 ho3 hb3 hg3
      have H3 : Hid (OwnB w3 B a3 (n' + (txtPut x.enc).length) c3 (bs ++ (ks.take (k + 1)).flatMap fun k => txtPut k.enc) ∧ Below B w w3 ∧ Box w3 g 42 arr) := by
        refine ⟨?_, H2.out.2.1.trans hb3, H2.out.2.2.grown H2.out.1 hg3 (by decide)⟩
        rw [HT.out, List.flatMap_append, ← List.append_assoc]
        simpa using ho3
      clear ho3 hb3 hg3
      go_wp2
      go_roundw
      case rel => exact ⟨k + 1, a3, n' + (txtPut x.enc).length, c3, hkn, by go_num, rfl, by omega, H3.out⟩
      case measure => simp only [intOf]; omega
    · have HF : Hid (OwnB wr B a' n' c' (bs ++ ks.flatMap fun k => txtPut k.enc) ∧ Below B w wr) := by
        have := HR.out.1
        rw [List.take_of_length_le (by rw [HS.out.2.2]; omega)] at this
        exact ⟨this, HR.out.2.1⟩
      have hs := HF.out.1.size
      go_wp2
      go_ret
      rw [hs]
      exact ⟨a', c', ret1 rfl, HF.out.1, HF.out.2⟩
end Go.Proofs.Ytiflepadjcpjjaa
