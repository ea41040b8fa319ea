/- One file's cut in a crash, told over whole file systems. -/
import Derived.Test.YtmlfbihlbiikeaaGreatDoorQa35
import Derived.Test.YtmlfbihlbiikeaaGreatDoorQa02
namespace Go.Proofs.YtmlfbihlbiikeaaGreatDoor
open Go.RowKit Go.Maps
theorem Gh.put_self (g : Gh) (k : Nat) : g.put k (g.fl k) = g := by
  unfold Gh.put
  have : (fun j => if j = k then g.fl k else g.fl j) = g.fl := by
    funext j
    split
    · rename_i e
      rw [e]
    · rfl
  rw [this]
theorem Chg.ghost {R : Nat → Prop} {w w' : World} {p j : Nat} {x y : Value} (h : Chg R w w') (hp : R p) : Chg R (w.setCell ⟨p, j, none⟩ x) (w'.setCell ⟨p, j, none⟩ y) :=
  ⟨h.os, h.tape, h.output, by have := h.size; simpa using this, fun k hk hn => by
    have hne : k ≠ p := fun e => hn (by rw [e]; exact hp)
    rw [Below.heap_setCell _ _ _ _ hne, Below.heap_setCell _ _ _ _ hne]
    exact h.block k (by simpa using hk) hn⟩
def SKof (S : PFs) (l : List Int) (T : List PName) (k : Nat) : PFs := { S with names := T, lasts := T, since := [], files := PFs.crashFiles l (T.take k) 0 S.files }
def CK (S : PFs) (g : Gh) (mc m : Nat) (U : Int) : FsC := { cellsOf S g with mn := some mc, ml := some m, u := U, sa := none, sl := 0, sc := 0 }
def G2 (g : Gh) (mc m : Nat) : Gh := { g with mn := some mc, ml := some m, sa := none, sc := 0 }
def gw (w : World) (p : Nat) (X : PFs) : World := w.setCell ⟨p, 1, none⟩ (.int .i64 ((X.bulk X.names : Nat) : Int))
theorem cells_SK (S : PFs) (l : List Int) (T : List PName) (k : Nat) (g : Gh) (mc m : Nat) : cellsOf (SKof S l T k) (G2 g mc m) = CK S g mc m (((SKof S l T k).bulk (SKof S l T k).names : Nat) : Int) := rfl
theorem SK_file (S : PFs) (l : List Int) (T : List PName) (k : Nat) (hk : k < T.length) (hf : (T.getD k name0').file < S.files.length) (j : Nat) : (SKof S l T (k + 1)).fileOf j = if j = (T.getD k name0').file then PFs.cut ((SKof S l T k).fileOf j) (((SKof S l T k).fileOf j).last + pickN l (k + 1) % (((SKof S l T k).fileOf j).b.length - ((SKof S l T k).fileOf j).last + 1)) else (SKof S l T k).fileOf j := by
  show (PFs.crashFiles l (T.take (k + 1)) 0 S.files).getD j file0 = _
  have hl : (T.take k).length = k := by rw [List.length_take]; omega
  rw [take_nm T k hk, crash_snoc, hl, Nat.zero_add, cutAt_getD _ _ _ _ _ (by rw [crash_length]; exact hf), pick_eq]
  split
  · rename_i e
    rw [e]
    rfl
  · rfl
theorem crash_step {wr w5 : World} {p : Nat} {S : PFs} {l : List Int} {T : List PName} {g : Gh} {mc m k : Nat} {f : FG} (hN : Nice S.files.length T) (hk : k < T.length) (hfg : f = g.fl (T.getD k name0').file) (HB : FsB wr p (CK S g mc m ((cutBulk l T S.files k : Nat) : Int))) (HF : FsAt (gw wr p (SKof S l T k)) p (SKof S l T k) (G2 g mc m))
    (h5 : FileAt w5 f (PFs.cut ((SKof S l T k).fileOf (T.getD k name0').file) (((SKof S l T k).fileOf (T.getD k name0').file).last + pickN l (k + 1) % (((SKof S l T k).fileOf (T.getD k name0').file).b.length - ((SKof S l T k).fileOf (T.getD k name0').file).last + 1)))) (hc5 : Chg (fun i => i = f.blk) wr w5) (L : Nat)
    (hL : L = ((SKof S l T (k + 1)).fileOf (T.getD k name0').file).b.length) :
    FsB (w5.setCell ⟨p, 1, none⟩ (.int .i64 (((cutBulk l T S.files k : Nat) : Int) + (L : Int)))).drew p (CK S g mc m ((cutBulk l T S.files (k + 1) : Nat) : Int)) ∧ FsAt (gw (w5.setCell ⟨p, 1, none⟩ (.int .i64 (((cutBulk l T S.files k : Nat) : Int) + (L : Int)))).drew p (SKof S l T (k + 1))) p (SKof S l T (k + 1)) (G2 g mc m) := by
  have hx : T.getD k name0' ∈ T := by simp [List.getD, hk]
  have hff := (hN.good _ hx).2
  have hlive : g.live (T.getD k name0').file := HF.liveN _ hx
  have hSK := SK_file S l T k hk hff
  have hpb : f.blk ≠ p := by
    rw [hfg]
    exact HF.inner_ne (.inr (.inr (.inr ⟨_, hlive, .inl rfl⟩)))
  have hrp : ∀ b, f.row = some b → b ≠ p := fun b e => by
    rw [hfg] at e
    exact HF.inner_ne (.inr (.inr (.inr ⟨_, hlive, .inr e⟩)))
  have hB5 : FsB w5 p (CK S g mc m ((cutBulk l T S.files k : Nat) : Int)) := Box.kept HB (hc5.block p (Box.lt HB) (fun e => hpb e.symm))
  have hstep : cutBulk l T S.files (k + 1) = cutBulk l T S.files k + L := by
    rw [cutBulk_step l T S.files k hk hN hff, hL]
    rfl
  have hB6 : FsB (w5.setCell ⟨p, 1, none⟩ (.int .i64 (((cutBulk l T S.files k : Nat) : Int) + (L : Int)))).drew p (CK S g mc m ((cutBulk l T S.files (k + 1) : Nat) : Int)) := by
    refine Box.eq (Box.set hB5 1 _) ?_
    rw [hstep]
    simp [CK, FsC.arr]
  refine ⟨hB6, ?_⟩
  have hcw : Chg (fun i => i = p ∨ i = f.blk) wr (w5.setCell ⟨p, 1, none⟩ (.int .i64 (((cutBulk l T S.files k : Nat) : Int) + (L : Int)))).drew := ((hc5.wide fun _ _ e => .inr e).set (p := p) (fun _ => .inl rfl) _ _).drew
  have hcg : Chg (fun i => i = p ∨ i = ((G2 g mc m).fl (T.getD k name0').file).blk ∨ ((G2 g mc m).fl (T.getD k name0').file).row = some i) (gw wr p (SKof S l T k)) (gw (w5.setCell ⟨p, 1, none⟩ (.int .i64 (((cutBulk l T S.files k : Nat) : Int) + (L : Int)))).drew p (SKof S l T (k + 1))) := by
    refine (hcw.ghost (.inl rfl)).wide fun i _ e => e.imp id (fun e => .inl ?_)
    rw [e, hfg]
    rfl
  have hf6 : FileAt (gw (w5.setCell ⟨p, 1, none⟩ (.int .i64 (((cutBulk l T S.files k : Nat) : Int) + (L : Int)))).drew p (SKof S l T (k + 1))) f ((SKof S l T (k + 1)).fileOf (T.getD k name0').file) := by
    rw [hSK, if_pos rfl]
    exact h5.kept ((Below.heap_setCell _ _ _ _ hpb).trans (Below.heap_setCell _ _ _ _ hpb)) fun b e => (Below.heap_setCell _ _ _ _ (hrp b e)).trans (Below.heap_setCell _ _ _ _ (hrp b e))
  have := FsAt.file (k := (T.getD k name0').file) (f := (G2 g mc m).fl (T.getD k name0').file) (S' := SKof S l T (k + 1)) HF hlive rfl (fun b e => .inl e) (by rw [hfg] at hf6; exact hf6) (fun j hj => by rw [hSK, if_neg hj]) rfl rfl rfl (by
    rw [cells_SK]
    refine Box.eq (Box.set hB6 1 _) ?_
    simp [CK, FsC.arr]) hcg
  rw [Gh.put_self] at this
  exact this
theorem pickN_le {w : World} {a : Option Addr} {len cap : Nat} {l : List Int} (h : IsAt w a len cap l) (i : Nat) : pickN l i ≤ 9223372036854775807 := by
  unfold pickN
  by_cases hi : i < len
  · have := h.wf i hi
    split
    · omega
    · omega
  · have hs := h.size
    have : l.getD i 0 = 0 := by simp [List.getD, List.getElem?_eq_none (by omega : l.length ≤ i)]
    rw [this]
    decide
end Go.Proofs.YtmlfbihlbiikeaaGreatDoor
namespace Go.Proofs.YtmlfbihlbiikeaaGreatDoor
open Go.Shelf Go.RowKit Go.Lib
set_option linter.unusedVariables false
set_option linter.unusedSimpArgs false
def szS : Value → Nat
  | .string s => s.size
  | _ => 0
set_option maxRecDepth 100000 in
set_option maxHeartbeats 1000000 in
theorem rname_any (k : Int) (n : Nat) (hn : n < 18446744073709551616) (w : World) (hg : Gl w) :
    Calls Tryz.prog 13 #[.int .i64 k, .int .u64 (n : Int)] w fun e w' => e = .returned (.string (strOf (nameP k n))) ∧ Below w.heap.size w w' := by
  by_cases h4 : k = 4
  · subst h4
    go_enter Tryz.func13, Tryz.ntmps13
    go_wp2
    go_ret
    exact ⟨rfl, Below.refl _ _⟩
  by_cases h5 : k = 5
  · subst h5
    go_enter Tryz.func13, Tryz.ntmps13
    go_wp2
    go_ret
    exact ⟨rfl, Below.refl _ _⟩
  have b4 : (k == 4) = false := beq_eq_false_iff_ne.2 h4
  have b5 : (k == 5) = false := beq_eq_false_iff_ne.2 h5
  by_cases h1 : (n : Int) < 1
  · have hE : nameP k n = [] := nameP_out ⟨h4, h5⟩ (.inl (by omega))
    rw [hE]
    clear hg hE
    go_enter Tryz.func13, Tryz.ntmps13
    go_wp2
    go_ret
    exact ⟨rfl, Below.refl _ _⟩
  by_cases h2 : (1099511627776 : Int) < (n : Int)
  · have hE : nameP k n = [] := nameP_out ⟨h4, h5⟩ (.inr (by omega))
    rw [hE]
    clear hg hE
    go_enter Tryz.func13, Tryz.ntmps13
    go_wp2
    go_ret
    exact ⟨rfl, Below.refl _ _⟩
  have HF := fmt_any n hn w hg.pow
  have HD := dec_any n hn
  have HN : Hid (1 ≤ n ∧ n ≤ 1099511627776) := by
    unfold Hid
    omega
  have HE : Hid (nameP k n = if k = 1 then numB n ++ logB else if k = 2 then numB n ++ tabB else if k = 3 then manB ++ numB n else []) := by
    unfold Hid nameP
    rw [if_neg h4, if_neg h5, if_neg (by omega)]
  have eS : ∀ l : List UInt8, (⟨l.toArray⟩ : ByteArray) = strOf l := fun l => rfl
  rw [eS] at HF
  have HS : ∀ l : List UInt8, (strOf l).size = l.length := strOf_size
  have HA : Hid (∀ (V : World) (a b : List UInt8), a.length ≤ 100 → b.length ≤ 100 → (Op.stringOp .add (strOf a) (strOf b)).run Tryz.prog V = .ok (.string (strOf (a ++ b))) V) := fun V a b ha hb => by
    rw [run_string_add_sum (P := Tryz.prog) V _ _ (by rw [strOf_size, strOf_size]; omega), strOf_add]
  clear hg eS
  go_enter Tryz.func13, Tryz.ntmps13
  go_wp2_with fail
  refine HF.mono ?_
  rintro _ w2 ⟨rfl, hb2⟩
  have HB : Hid (Below w.heap.size w w2) := hb2
  clear hb2 HF
  go_wp2_with fail
  go_loop [5] (fun s => ∃ (j : Nat) (S : ByteArray), s = .string S ∧ S.size ≤ 30 ∧ Hid (S = strOf (List.replicate j 48 ++ decDigits n) ∧ (j = 0 ∨ j + (decDigits n).length ≤ 6))) (fun s => 30 - szS s)
  case atStart => exact ⟨0, _, rfl, by rw [HS]; omega, rfl, .inl rfl⟩
  case round =>
    obtain ⟨j, S, rfl, hsz, HR⟩ := hrel
    by_cases hlt : S.size < 6
    · have HX : Hid (S.size = j + (decDigits n).length) := by
        unfold Hid
        rw [HR.out.1, HS, List.length_append, List.length_replicate]
      have hadd : ∀ V : World, (Op.stringOp .add ⟨#[48]⟩ S).run Tryz.prog V = .ok (.string (strOf (List.replicate (j + 1) 48 ++ decDigits n))) V := fun V => by
        rw [HR.out.1]
        have := HA.out V [48] (List.replicate j 48 ++ decDigits n) (by simp) (by rw [List.length_append, List.length_replicate]; have := HX.out; omega)
        rw [List.replicate_succ]
        exact this
      have HZ : Hid ((strOf (List.replicate (j + 1) 48 ++ decDigits n)).size = S.size + 1) := by
        unfold Hid
        rw [HS, List.length_append, List.length_replicate, HX.out]
        omega
      obtain ⟨T, HT⟩ : ∃ T : ByteArray, Hid (T = strOf (List.replicate (j + 1) 48 ++ decDigits n)) := ⟨strOf (List.replicate (j + 1) 48 ++ decDigits n), rfl⟩
      rw [← HT.out] at hadd HZ
      go_wp2
      go_round
      case rel => exact ⟨j + 1, T, rfl, by rw [HZ.out]; omega, HT.out, .inr (by have := HX.out; omega)⟩
      case measure =>
        have := HZ.out
        simp only [szS]
        omega
    · have HX : Hid (S = strOf (numB n)) := by
        unfold Hid
        have h1 : S.size = j + (decDigits n).length := by rw [HR.out.1, HS, List.length_append, List.length_replicate]
        rw [HR.out.1]
        unfold numB pad6
        have : j = 6 - (decDigits n).length := by
          have := HR.out.2
          omega
        rw [this]
      have hlen : S.size ≤ 30 := hsz
      clear hsz HR
      by_cases c1 : k = 1
      · have HE1 : Hid (nameP k n = numB n ++ logB) := by
          unfold Hid
          rw [HE.out, if_pos c1]
        subst c1
        have ha : ∀ V : World, (Op.stringOp .add S ⟨#[46, 108, 111, 103]⟩).run Tryz.prog V = .ok (.string (strOf (nameP 1 n))) V := fun V => by
          rw [HE1.out, HX.out]
          exact HA.out V (numB n) logB (by have := numB_any n hn; omega) (by decide)
        clear HX
        go_wp2
        go_ret
        exact ⟨rfl, HB.out⟩
      by_cases c2 : k = 2
      · have HE1 : Hid (nameP k n = numB n ++ tabB) := by
          unfold Hid
          rw [HE.out, if_neg c1, if_pos c2]
        subst c2
        have ha : ∀ V : World, (Op.stringOp .add S ⟨#[46, 116, 97, 98]⟩).run Tryz.prog V = .ok (.string (strOf (nameP 2 n))) V := fun V => by
          rw [HE1.out, HX.out]
          exact HA.out V (numB n) tabB (by have := numB_any n hn; omega) (by decide)
        clear HX
        go_wp2
        go_ret
        exact ⟨rfl, HB.out⟩
      by_cases c3 : k = 3
      · have HE1 : Hid (nameP k n = manB ++ numB n) := by
          unfold Hid
          rw [HE.out, if_neg c1, if_neg c2, if_pos c3]
        subst c3
        have ha : ∀ V : World, (Op.stringOp .add ⟨#[77, 65, 78, 73, 70, 69, 83, 84, 45]⟩ S).run Tryz.prog V = .ok (.string (strOf (nameP 3 n))) V := fun V => by
          rw [HE1.out, HX.out]
          exact HA.out V manB (numB n) (by decide) (by have := numB_any n hn; omega)
        clear HX
        go_wp2
        go_ret
        exact ⟨rfl, HB.out⟩
      · have HE1 : Hid (nameP k n = []) := by
          unfold Hid
          rw [HE.out, if_neg c1, if_neg c2, if_neg c3]
        have b1 : (k == 1) = false := beq_eq_false_iff_ne.2 c1
        have b2 : (k == 2) = false := beq_eq_false_iff_ne.2 c2
        have b3 : (k == 3) = false := beq_eq_false_iff_ne.2 c3
        go_wp2
        go_ret
        exact ⟨ret1 (by rw [HE1.out]; rfl), HB.out⟩
theorem snoc15 {α : Type} {P : List α → Prop} (h0 : P []) (h1 : ∀ l x, P l → P (l ++ [x])) : ∀ l, P l := fun l => by
  have : ∀ n (l : List α), l.length = n → P l := by
    intro n
    induction n with
    | zero => intro l hl; obtain rfl := List.eq_nil_of_length_eq_zero hl; exact h0
    | succ n ih =>
      intro l hl
      have hne : l ≠ [] := fun e => by rw [e] at hl; cases hl
      rw [← List.dropLast_concat_getLast hne]
      exact h1 _ _ (ih _ (by rw [List.length_dropLast]; omega))
  exact this l.length l rfl
theorem digs_snoc (l : List UInt8) (b : UInt8) : digs (l ++ [b]) = digs l ++ if isD b then [b] else [] := by
  unfold digs
  rw [List.filter_append]
  congr 1
  cases h : isD b <;> simp [h]
theorem valN_snoc (l : List UInt8) (b : UInt8) : valN (l ++ [b]) = valN l * 10 + (b.toNat - 48) := by
  unfold valN
  rw [List.foldl_append]
  rfl
theorem valN_lt : ∀ (l : List UInt8), (∀ b ∈ l, isD b = true) → valN l < 10 ^ l.length := fun l => by
  refine snoc15 (P := fun l => (∀ b ∈ l, isD b = true) → valN l < 10 ^ l.length) (fun _ => by decide) (fun l b ih h => ?_) l
  have h1 := ih (fun x hx => h x (by simp [hx]))
  have h2 := h b (by simp)
  unfold isD at h2
  simp only [Bool.and_eq_true, decide_eq_true_eq] at h2
  rw [valN_snoc, List.length_append, List.length_singleton, Nat.pow_succ]
  omega
theorem take_snoc15 (s : List UInt8) {i : Nat} (h : i < s.length) : s.take (i + 1) = s.take i ++ [s[i]] := by
  rw [List.take_succ_eq_append_getElem h]
set_option maxRecDepth 100000 in
set_option maxHeartbeats 1000000 in
theorem rdigits_any (s : List UInt8) (hs : s.length ≤ 281474976710656) (w : World) :
    Calls Tryz.prog 36 #[.string (strOf s)] w fun e w' => e = .returned (.int .u64 ((digV s : Nat) : Int)) ∧ w' = w := by
  have HS : Hid (∀ i (h : i < s.length), ∀ V : World, (Instr.index 9 (.string (strOf s)) (.int .i64 (i : Int))).run Tryz.prog V = .ok (.int .u8 (((s[i]).toNat : Nat) : Int)) V) := fun i h V => by
    have hi : i < (strOf s).size := by rw [strOf_size]; exact h
    have e : ((i : Int)).toNat = i := by omega
    rw [run_index_string (P := Tryz.prog) V 9 (strOf s) .i64 (i : Int) Tryz.underlying9, dif_pos ⟨by omega, by omega⟩]
    simp [strOf]
    rfl
  have hsz : (strOf s).size = s.length := strOf_size s
  obtain ⟨S, HSe⟩ : ∃ S, Hid (S = strOf s) := ⟨strOf s, rfl⟩
  rw [← HSe.out] at HS hsz ⊢
  go_enter Tryz.func36, Tryz.ntmps36
  go_wp2_with fail
  go_loop [3, 4, 5] (fun s3 s4 s5 => ∃ (i m : Nat) (v : Int), i ≤ s.length ∧ s5 = .int .i64 (i : Int) ∧ m ≤ i ∧ s4 = .int .i64 (m : Int) ∧ s3 = .int .u64 v ∧ Hid (m = (digs (s.take i)).length ∧ v = ((valN (digs (s.take i)) % 18446744073709551616 : Nat) : Int))) (fun _ _ s5 => s.length - (RowKit.intOf s5).toNat)
  case atStart => exact ⟨0, 0, 0, by omega, rfl, by omega, rfl, rfl, rfl, rfl⟩
  case round =>
    obtain ⟨i, m, v, hi, rfl, hm, rfl, rfl, HR⟩ := hrel
    by_cases hlt : i < s.length
    · have hx := HS.out i hlt
      have HT : Hid (digs (s.take (i + 1)) = digs (s.take i) ++ if isD s[i] then [s[i]] else []) := by
        show _ = _
        rw [take_snoc15 s hlt, digs_snoc]
      generalize s[i] = b at hx HT
      have hb := b.toNat_lt
      have HI : Hid ((isD b = true ↔ 48 ≤ b.toNat ∧ b.toNat ≤ 57)) := by
        unfold Hid isD
        simp
      have HB : Hid (i < s.length) := hlt
      obtain ⟨x, HXE⟩ : ∃ x : Nat, Hid (x = b.toNat) := ⟨b.toNat, rfl⟩
      have HX2 : Hid (x = b.toNat) := HXE
      rw [← HXE.out] at hx hb
      by_cases h1 : (48 : Int) ≤ (x : Int)
      · by_cases h2 : (x : Int) ≤ 57
        · have hc : IntKind.u8.wrap ((x : Int) - 48) = ((x - 48 : Nat) : Int) := by simp [IntKind.wrap, IntKind.bits, IntKind.signed]; omega
          go_wp2
          refine ⟨⟨i + 1, m + 1, _, HB.out, by go_num, by omega, by go_num, rfl, ?_⟩, ?_⟩
          · have hD : isD b = true := HI.out.2 (by have := HX2.out; omega)
            rw [HT.out, if_pos hD, List.length_append, valN_snoc]
            refine ⟨by rw [HR.out.1]; rfl, ?_⟩
            rw [HR.out.2, IntKind.wrap_u64, IntKind.wrap_u64]
            have := HX2.out
            omega
          · simp only [RowKit.intOf]
            have := HB.out
            omega
        · have HD : Hid (isD b = false) := by
            cases e : isD b with
            | false => rfl
            | true => have := HI.out.1 e; have := HX2.out; omega
          go_wp2
          refine ⟨⟨i + 1, m, v, HB.out, by go_num, by omega, rfl, rfl, ?_⟩, ?_⟩
          · rw [HT.out, HD.out]
            simp only [Bool.false_eq_true, if_false, List.append_nil]
            exact HR.out
          · simp only [RowKit.intOf]
            have := HB.out
            omega
      · have HD : Hid (isD b = false) := by
          cases e : isD b with
          | false => rfl
          | true => have := HI.out.1 e; have := HX2.out; omega
        go_wp2
        refine ⟨⟨i + 1, m, v, HB.out, by go_num, by omega, rfl, rfl, ?_⟩, ?_⟩
        · rw [HT.out, HD.out]
          simp only [Bool.false_eq_true, if_false, List.append_nil]
          exact HR.out
        · simp only [RowKit.intOf]
          have := HB.out
          omega
    · have hE : s.take i = s := List.take_of_length_le (by omega)
      rw [hE] at HR
      by_cases h13 : (13 : Int) < (m : Int)
      · have HV : Hid (digV s = 0) := by
          unfold Hid digV
          rw [if_pos (by rw [← HR.out.1]; omega)]
        clear hE
        go_wp2
        go_ret
        exact ⟨ret1 (by rw [HV.out]; rfl), rfl⟩
      · have HV : Hid ((digV s : Int) = v) := by
          unfold Hid digV
          have h1 := valN_lt (digs s) (fun b hb => (List.mem_filter.1 hb).2)
          have h2 := HR.out.1
          have h3 : 10 ^ (digs s).length ≤ 10 ^ 13 := Nat.pow_le_pow_right (by omega) (by omega)
          rw [if_neg (by omega), HR.out.2, Nat.mod_eq_of_lt (by omega)]
        clear hE
        go_wp2
        go_ret
        exact ⟨ret1 (by rw [HV.out]; rfl), rfl⟩
theorem digV_lt (s : List UInt8) : digV s < 18446744073709551616 := by
  unfold digV
  split
  · decide
  · have h1 := valN_lt (digs s) (fun b hb => (List.mem_filter.1 hb).2)
    have h3 : 10 ^ (digs s).length ≤ 10 ^ 13 := Nat.pow_le_pow_right (by omega) (by omega)
    omega
theorem parseR_hit {s : List UInt8} {k : Int} (hk : numK k) (hc : s ≠ curB) (ht : s ≠ tmpB) (h : nameP k (digV s) = s ∧ s ≠ []) : parseR s = (k, digV s) := by
  have h1 := made_some hk h
  have hN : Names s k (digV s) := by
    refine ⟨fun e => absurd e hc, fun e => absurd e ht, fun j m a b c e => ?_, fun _ _ e => absurd h.1.symm (e k _ hk h1.1 h1.2)⟩
    exact name_kind hk a h1.1 h1.2 b c (h.1.trans e)
  obtain ⟨e1, e2⟩ := hN.same (parseR_names s)
  rw [Prod.ext_iff]
  exact ⟨e1.symm, e2.symm⟩
theorem parseR_miss {s : List UInt8} (hc : s ≠ curB) (ht : s ≠ tmpB) (h : ∀ k, numK k → ¬ (nameP k (digV s) = s ∧ s ≠ [])) : parseR s = (0, 0) := by
  unfold parseR
  rw [if_neg hc, if_neg ht, if_neg (h 1 (.inl rfl)), if_neg (h 2 (.inr (.inl rfl))), if_neg (h 3 (.inr (.inr rfl)))]
set_option maxRecDepth 100000 in
set_option maxHeartbeats 1000000 in
theorem rparse_any (s : List UInt8) (hs : s.length ≤ 281474976710656) (w : World) (hg : Gl w) :
    Calls Tryz.prog 12 #[.string (strOf s)] w fun e w' => e = .returned (.tuple #[.int .i64 (parseR s).1, .int .u64 (((parseR s).2 : Nat) : Int)]) ∧ Below w.heap.size w w' := by
  have HG : Hid (Gl w) := hg
  have HS : Hid ((strOf s).toList = s) := by
    show (strOf s).toList = s
    rw [ByteArray.toList_eq]
    simp [strOf]
  have HNA := fun (k : Int) (W : World) (h : Gl W) => rname_any k (digV s) (digV_lt s) W h
  have HDG := fun (W : World) => rdigits_any s hs W
  clear hg
  by_cases hc : s = curB
  · have hb : ((strOf s).toList == [67, 85, 82, 82, 69, 78, 84]) = true := by rw [HS.out, hc]; decide
    have HP : Hid (parseR s = (4, 0)) := by unfold Hid parseR; rw [if_pos hc]
    clear hc
    generalize strOf s = S at *
    go_enter Tryz.func12, Tryz.ntmps12
    go_wp2
    go_ret2
    rw [HP.out]
    exact ⟨rfl, Below.refl _ _⟩
  have hb1 : ((strOf s).toList == [67, 85, 82, 82, 69, 78, 84]) = false := by rw [HS.out]; exact beq_eq_false_iff_ne.2 hc
  by_cases ht : s = tmpB
  · have hb : ((strOf s).toList == [67, 85, 82, 82, 69, 78, 84, 46, 116, 109, 112]) = true := by rw [HS.out, ht]; decide
    have HP : Hid (parseR s = (5, 0)) := by unfold Hid parseR; rw [if_neg hc, if_pos ht]
    clear hc ht
    generalize strOf s = S at *
    go_enter Tryz.func12, Tryz.ntmps12
    go_wp2
    go_ret2
    rw [HP.out]
    exact ⟨rfl, Below.refl _ _⟩
  have hb2 : ((strOf s).toList == [67, 85, 82, 82, 69, 78, 84, 46, 116, 109, 112]) = false := by rw [HS.out]; exact beq_eq_false_iff_ne.2 ht
  have HC : Hid (s ≠ curB ∧ s ≠ tmpB) := ⟨hc, ht⟩
  clear hc ht
  generalize strOf s = S at *
  go_enter Tryz.func12, Tryz.ntmps12
  go_wp2_with fail
  refine (HDG _).mono ?_
  rintro _ w2 ⟨rfl, rfl⟩
  clear HDG hb1 hb2
  go_wp2_with fail
  go_loopw [5] (fun s5 wr => ∃ k : Int, (1 ≤ k ∧ k ≤ 4) ∧ s5 = .int .i64 k ∧ Hid (Below w2.heap.size w2 wr ∧ ∀ j, numK j → j < k → ¬ (nameP j (digV s) = s ∧ s ≠ []))) (fun s5 _ => (4 - RowKit.intOf s5).toNat)
  case atStart => exact ⟨1, by omega, rfl, Below.refl _ _, fun j hj hlt => by unfold numK at hj; omega⟩
  case round =>
    obtain ⟨k, ⟨hk1, hk4⟩, rfl, HR⟩ := hrel
    by_cases hk : k ≤ 3
    · have HNK : Hid (numK k) := by unfold Hid numK; omega
      have HN' := HNA k wr (HG.out.later HR.out.1)
      go_wp2_with fail
      refine HN'.mono ?_
      rintro _ w3 ⟨rfl, hb3⟩
      have H3 : Hid (Below w2.heap.size w2 w3) := HR.out.1.trans (hb3.mono HR.out.1.size)
      have HX : Hid ((strOf (nameP k (digV s))).toList = nameP k (digV s)) := by
        show (strOf (nameP k (digV s))).toList = _
        rw [ByteArray.toList_eq]
        simp [strOf]
      clear hb3 HN'
      by_cases h0 : nameP k (digV s) = s
      · have he : ((strOf (nameP k (digV s))).toList == S.toList) = true := by rw [HS.out, HX.out, h0]; simp
        by_cases h1 : s = []
        · have he2 : (S.toList == []) = true := by rw [HS.out, h1]; rfl
          have HREL : Hid (∀ j, numK j → j < k + 1 → ¬ (nameP j (digV s) = s ∧ s ≠ [])) := fun j hj hlt h => h.2 h1
          clear h0 h1
          go_wp2
          go_roundw
          case rel => exact ⟨k + 1, by omega, rfl, H3.out, HREL.out⟩
          case measure => simp only [RowKit.intOf]; omega
        · have he2 : (S.toList == []) = false := by rw [HS.out]; exact beq_eq_false_iff_ne.2 h1
          have HP : Hid (parseR s = (k, digV s)) := parseR_hit HNK.out HC.out.1 HC.out.2 ⟨h0, h1⟩
          clear h0 h1
          go_wp2
          go_ret2
          rw [HP.out]
          exact ⟨rfl, H3.out⟩
      · have he : ((strOf (nameP k (digV s))).toList == S.toList) = false := by rw [HS.out, HX.out]; exact beq_eq_false_iff_ne.2 h0
        have HREL : Hid (∀ j, numK j → j < k + 1 → ¬ (nameP j (digV s) = s ∧ s ≠ [])) := fun j hj hlt h => by
          by_cases e : j = k
          · subst e
            exact h0 h.1
          · exact HR.out.2 j hj (by omega) h
        clear h0
        go_wp2
        go_roundw
        case rel => exact ⟨k + 1, by omega, rfl, H3.out, HREL.out⟩
        case measure => simp only [RowKit.intOf]; omega
    · have HP : Hid (parseR s = (0, 0)) := parseR_miss HC.out.1 HC.out.2 (fun j hj => HR.out.2 j hj (by unfold numK at hj; omega))
      go_wp2
      go_ret2
      rw [HP.out]
      exact ⟨rfl, HR.out.1⟩
end Go.Proofs.YtmlfbihlbiikeaaGreatDoor
