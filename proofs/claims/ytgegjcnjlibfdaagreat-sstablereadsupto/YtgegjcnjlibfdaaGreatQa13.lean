/- The contract of sstable's lay: a part behind bytes of the call's own. -/
import Derived.Test.YtgegjcnjlibfdaaGreatQa12
import Derived.Test.YtgegjcnjlibfdaaGreatQa07
import Derived.Test.YtgegjcnjlibfdaaGreatQa08
import Derived.Test.YtgegjcnjlibfdaaGreatC11MemA
import Derived.Deep.RegionLaw
import Derived.Deep.RegionHeld3
import Derived.Maps.AppendAt
import Derived.Test.YtgegjcnjlibfdaaGreatC11OpenA
import Derived.Test.YtgegjcnjlibfdaaGreatC11FindA
import Derived.Test.YtgegjcnjlibfdaaGreatQa05
import Derived.Deep.DeepCutAuto
namespace Go.Proofs.YtgegjcnjlibfdaaGreat
set_option maxRecDepth 100000
open Go.RowKit
set_option linter.unusedVariables false
set_option linter.unusedSimpArgs false
theorem step_appAt {ops : Array Oper} {o : Oper} {a : Act} {w : World} {K : Act → World → Prop} {Q : Exit → Act → World → Prop} {E : Prop} (hgd : o.guard = none) (s x : Operand)
    (ho : o.op = .call { callee := .builtin .append, args := #[s, x], argTypes := #[27, 27] })
    (B : Nat) (a1 : Option Addr) (n1 c1 : Nat) (bs : List UInt8) (hs : a.eval s = .slice a1 n1 c1) (hown : OwnB w B a1 n1 c1 bs)
    (a2 : Option Addr) (n2 c2 : Nat) (cs : List UInt8) (hx : a.eval x = .slice a2 n2 c2) (hsrc : BsAt w a2 n2 c2 cs)
    (hl : n1 + n2 ≤ 140737488355328) (hB : B ≤ w.heap.size)
    (h : ∀ a' c' w', OwnB w' B a' (n1 + n2) c' (bs ++ cs) → w.grownBy w' (blkOf a1) → K (a.put o.dst (.slice a' (n1 + n2) c')) w') :
    if Region.wanted o (yielded ops a.tmps) = true then Oper.wp Tryz.prog o a w K Q else E := by
  have hw : Region.wanted o (yielded ops a.tmps) = true := by simp [Region.wanted, hgd]
  rw [if_pos hw]
  obtain ⟨i, hi, hz0, hz1, hz2⟩ := info_parts infoU8
  have hsz := hsrc.size
  have hlt : ∀ k, (Value.slice a1 n1 c1).ownBlock = some k → B ≤ k := fun k hk => (hown.row.lt k hk).1
  cases a2 with
  | none =>
    have hc0 := hsrc.bare rfl
    have hle := hsrc.le
    obtain rfl : n2 = 0 := by omega
    subst hc0
    obtain rfl := List.eq_nil_of_length_eq_zero hsz
    have hrun := run_append_owned_none (P := Tryz.prog) (w := w) B 27 o.type 5 i 1 Tryz.underlying27 hi _ n1 _ hown.row
    unfold Oper.wp
    simp [execOp, ho, resolve, invoke, builtin, hs, hx, hrun, Result.andThen]
    exact h a1 c1 w (by simpa using hown) (World.grownBy.refl _ _)
  | some ad =>
    have hcell : ∀ j u, (cellsB cs)[j]? = some u → w.cell? (ad.add j) = some u := by
      intro j u hu
      have hj : j < cs.length := by have := (List.getElem?_eq_some_iff.1 hu).1; rwa [cellsB_length] at this
      obtain ⟨b, off, he, hc⟩ := hsrc.here (by omega)
      obtain rfl := Option.some.inj he
      rw [cellsB_get cs j hj] at hu
      obtain rfl := Option.some.inj hu
      rw [Addr.add_lit]
      exact hc j (by omega)
    obtain ⟨v', w', hr, h2, h3, h4, h5⟩ := run_append_own_at (P := Tryz.prog) w B 27 o.type 5 i (.int .u8 0) 1 1 Tryz.underlying27 hi hz0 hz1 hz2 rfl (by decide) _ n1 _ hown.row ad n2 c2 (cellsB cs) (by rw [cellsB_length]; omega) hcell (cellsB_one cs) (by unfold maxLen; omega) (by omega) hB
    unfold Oper.wp execOp
    simp only [ho, resolve, invoke, builtin, Sem.run_bind, Sem.run_pure, Result.andThen_ok, List.map_toArray, List.map_cons, List.map_nil, hs, hx, hr]
    rw [← cellsB_append] at h2
    obtain ⟨a', c', rfl, ho'⟩ := own_of_row h2
    rw [own_blk] at h3
    exact h a' c' w' ho' h3
theorem put4_nil (n : Nat) (w : World) (hn : n < 18446744073709551616) : Calls Tryz.prog 60 #[.slice none 0 0, .int .u64 (n : Int), .int .i64 4] w fun e w' => ∃ a' c', e = .returned (.slice a' 4 c') ∧ BsAt w' a' 4 c' (fxEnc n 4) ∧ Below w.heap.size w w' :=
  putFixed_nil n 4 4 w hn (by rw [show fxPut n 4 = fxEnc n 4 from rfl, fxEnc_length])
theorem bs_kept {w w' : World} {a : Option Addr} {n c : Nat} {l : List UInt8} (h : BsAt w a n c l) (hk : ∀ k, k < w.heap.size → blkOf a = some k → w'.heap[k]? = w.heap[k]?) : BsAt w' a n c l := by
  by_cases h0 : 0 < n
  · obtain ⟨b, off, rfl, hc⟩ := h.here h0
    refine h.kept fun k e => ?_
    have hb0 : b < w.heap.size := World.block_lt_of_cell? w _ (hc 0 h0)
    cases e
    exact hk _ hb0 rfl
  · exact ⟨h.size, h.le, h.max, h.bare, fun hp => absurd hp h0⟩
set_option maxHeartbeats 4000000 in
theorem lay_any {B n c n2 c2 : Nat} {a a2 : Option Addr} {bs cs : List UInt8} {w : World} (h : OwnB w B a n c bs) (hB : B ≤ w.heap.size) (h2 : BsAt w a2 n2 c2 cs) (hoff : ∀ k, blkOf a = some k → blkOf a2 ≠ some k) (hl : n + n2 + 4 ≤ 1000000000000) :
    Calls Tryz.prog 63 #[.slice a n c, .slice a2 n2 c2] w fun e w' => ∃ a' c', e = .returned (.tuple #[.slice a' (n + n2 + 4) c', .agg #[.int .u64 (n : Int), .int .u64 (n2 : Int)]]) ∧ OwnB w' B a' (n + n2 + 4) c' (bs ++ partB cs) ∧ Chg (fun k => blkOf a = some k) w w' := by
  have hcv1 := conv_int_u64 n (by omega)
  have hcv2 := conv_int_u64 n2 (by omega)
  have HO : Hid (OwnB w B a n c bs ∧ BsAt w a2 n2 c2 cs) := ⟨h, h2⟩
  clear h h2
  have H1 : Hid (Chg (fun k => blkOf a = some k) w ((w.alloc (.cells #[.int .u64 0, .int .u64 0] TPl)).alloc (.cells #[.int .u64 (n : Int), .int .u64 (n2 : Int)] TPl)) ∧ Box ((w.alloc (.cells #[.int .u64 0, .int .u64 0] TPl)).alloc (.cells #[.int .u64 (n : Int), .int .u64 (n2 : Int)] TPl)) w.heap.size TPl #[.int .u64 0, .int .u64 0] ∧ Box ((w.alloc (.cells #[.int .u64 0, .int .u64 0] TPl)).alloc (.cells #[.int .u64 (n : Int), .int .u64 (n2 : Int)] TPl)) (w.heap.size + 1) TPl #[.int .u64 (n : Int), .int .u64 (n2 : Int)]
      ∧ OwnB ((w.alloc (.cells #[.int .u64 0, .int .u64 0] TPl)).alloc (.cells #[.int .u64 (n : Int), .int .u64 (n2 : Int)] TPl)) B a n c bs ∧ BsAt ((w.alloc (.cells #[.int .u64 0, .int .u64 0] TPl)).alloc (.cells #[.int .u64 (n : Int), .int .u64 (n2 : Int)] TPl)) a2 n2 c2 cs) :=
    ⟨((Chg.refl _ _).alloc _).alloc _, (Box.new _ _ _).alloc _, by have := Box.new (w.alloc (.cells #[.int .u64 0, .int .u64 0] TPl)) TPl #[.int .u64 (n : Int), .int .u64 (n2 : Int)]; rw [World.size_alloc] at this; exact this, (HO.out.1.alloc _).alloc _, (HO.out.2.alloc _).alloc _⟩
  go_enter Tryz.func63, Tryz.ntmps63
  go_wp2_with (first | (at_builtin; generalize (w.alloc (.cells #[.int .u64 0, .int .u64 0] TPl)).alloc (.cells #[.int .u64 (n : Int), .int .u64 (n2 : Int)] TPl) = W1 at *
                        refine wpList_appAt W1 rfl _ _ rfl B a n c bs rfl H1.out.2.2.2.1 a2 n2 c2 cs rfl H1.out.2.2.2.2 (by omega) (Nat.le_trans hB H1.out.1.size) ?_; intro a3 c3 w3 ho3 hb3 hg3 hl3
                        have H3 : Hid (Chg (fun k => blkOf a = some k) w w3 ∧ Box w3 w.heap.size TPl #[.int .u64 0, .int .u64 0] ∧ Box w3 (w.heap.size + 1) TPl #[.int .u64 (n : Int), .int .u64 (n2 : Int)] ∧ OwnB w3 B a3 (n + n2) c3 (bs ++ cs) ∧ BsAt w3 a2 n2 c2 cs ∧ (∀ k, k < w.heap.size → blkOf a3 = some k → blkOf a = some k)) := by
                          have ht : ∀ {q : Nat} {arr : Array Value}, Box W1 q TPl arr → Box w3 q TPl arr := fun {q arr} hq => hq.kept (hg3.block q hq.lt (fun e => by have := H1.out.2.2.2.1.tag e.symm; rw [hq.tag] at this; cases this))
                          refine ⟨H1.out.1.andThen (Chg.grown hg3) (fun k _ hk => hk), ht H1.out.2.1, ht H1.out.2.2.1, ho3, bs_kept H1.out.2.2.2.2 (fun k hk e => hg3.block k hk (fun e2 => hoff k e2.symm e)), fun k hk e => ?_⟩
                          · rcases hl3 with e2 | e2
                            · rw [← e2]; exact e
                            · rw [e2] at e
                              have := H1.out.1.size
                              have := Option.some.inj e
                              omega
                        clear hb3 hg3 hl3 ho3))
  have c0 : w3.drew.cell? ⟨w.heap.size + 1, 0, none⟩ = some (.int .u64 (n : Int)) := H3.out.2.2.1.cell 0
  have c1 : w3.drew.cell? ⟨w.heap.size + 1, 1, none⟩ = some (.int .u64 (n2 : Int)) := H3.out.2.2.1.cell 1
  have hsl := sumN_lt cs
  have HS : Hid (sumN cs = sumN cs) := rfl
  generalize hsm : sumN cs = sm at hsl
  have HSM : Hid (sumN cs = sm) := hsm
  have HSU : Hid (∀ V, BsAt V a2 n2 c2 cs → Calls Tryz.prog 76 #[.slice a2 n2 c2] V fun e w' => e = .returned (.int .u64 (sm : Int)) ∧ Below V.heap.size V w') := fun V hV => by have := sumOf_any hV; rw [hsm] at this; exact this
  clear hsm HS hoff H1 HO
  go_region_held3 (fun V => V.cell? ⟨w.heap.size + 1, 0, none⟩ = some (.int .u64 (n : Int)) ∧ V.cell? ⟨w.heap.size + 1, 1, none⟩ = some (.int .u64 (n2 : Int))) (first | exact ⟨c0, c1⟩ | go_keep)
    (first
     | (go_at_call 76; refine (HSU.out _ H3.out.2.2.2.2.1.drew).mono ?_; rintro _ w4 ⟨rfl, hb40⟩
        have hb4 : Below w3.heap.size w3 w4 := (Below.refl _ _).drew.trans hb40
        have H4 : Hid (Chg (fun k => blkOf a = some k) w w4 ∧ Box w4 w.heap.size TPl #[.int .u64 0, .int .u64 0] ∧ Box w4 (w.heap.size + 1) TPl #[.int .u64 (n : Int), .int .u64 (n2 : Int)] ∧ OwnB w4 B a3 (n + n2) c3 (bs ++ cs)) :=
          ⟨H3.out.1.andThen (R' := fun k => blkOf a = some k) (Chg.of hb4) (fun k _ hk => hk), H3.out.2.1.kept (hb4.block _ H3.out.2.1.lt), H3.out.2.2.1.kept (hb4.block _ H3.out.2.2.1.lt), H3.out.2.2.2.1.below hb4⟩
        have c0 : w4.cell? ⟨w.heap.size + 1, 0, none⟩ = some (.int .u64 (n : Int)) := H4.out.2.2.1.cell 0
        have c1 : w4.cell? ⟨w.heap.size + 1, 1, none⟩ = some (.int .u64 (n2 : Int)) := H4.out.2.2.1.cell 1
        clear hb4 hb40)
     | (go_at_call 60; refine (put4_nil sm _ (by omega)).mono ?_; rintro _ w5 ⟨a5, c5, rfl, ho5, hb5⟩
        have H5 : Hid (Chg (fun k => blkOf a = some k) w w5 ∧ Box w5 w.heap.size TPl #[.int .u64 0, .int .u64 0] ∧ Box w5 (w.heap.size + 1) TPl #[.int .u64 (n : Int), .int .u64 (n2 : Int)] ∧ OwnB w5 B a3 (n + n2) c3 (bs ++ cs) ∧ BsAt w5 a5 4 c5 (fxEnc sm 4)) :=
          ⟨H4.out.1.andThen (R' := fun k => blkOf a = some k) (Chg.of hb5) (fun k _ hk => hk), H4.out.2.1.kept (hb5.block _ H4.out.2.1.lt), H4.out.2.2.1.kept (hb5.block _ H4.out.2.2.1.lt), H4.out.2.2.2.below hb5, ho5⟩
        have c0 : w5.cell? ⟨w.heap.size + 1, 0, none⟩ = some (.int .u64 (n : Int)) := H5.out.2.2.1.cell 0
        have c1 : w5.cell? ⟨w.heap.size + 1, 1, none⟩ = some (.int .u64 (n2 : Int)) := H5.out.2.2.1.cell 1
        clear hb5 ho5)
     | (refine step_appAt rfl (.tmp 17) (.tmp 20) rfl B a3 (n + n2) c3 (bs ++ cs) (by simp [Act.eval]) H5.out.2.2.2.1 a5 4 c5 (fxEnc sm 4) (by simp [Act.eval]) H5.out.2.2.2.2 (by omega) (Nat.le_trans hB H5.out.1.size) ?_
        intro a6 c6 w6 ho6 hg6
        have H6 : Hid (Chg (fun k => blkOf a = some k) w w6 ∧ Box w6 w.heap.size TPl #[.int .u64 0, .int .u64 0] ∧ Box w6 (w.heap.size + 1) TPl #[.int .u64 (n : Int), .int .u64 (n2 : Int)] ∧ OwnB w6 B a6 (n + n2 + 4) c6 (bs ++ cs ++ fxEnc sm 4)) := by
          have ht : ∀ {q : Nat} {arr : Array Value}, Box w5 q TPl arr → Box w6 q TPl arr := fun {q arr} hq => hq.kept (hg6.block q hq.lt (fun e => by have := H5.out.2.2.2.1.tag e.symm; rw [hq.tag] at this; cases this))
          exact ⟨H5.out.1.andThen (Chg.grown hg6) (fun k hk e => H3.out.2.2.2.2.2 k hk e), ht H5.out.2.1, ht H5.out.2.2.1, ho6⟩
        have c0 : w6.cell? ⟨w.heap.size + 1, 0, none⟩ = some (.int .u64 (n : Int)) := H6.out.2.2.1.cell 0
        have c1 : w6.cell? ⟨w.heap.size + 1, 1, none⟩ = some (.int .u64 (n2 : Int)) := H6.out.2.2.1.cell 1
        have d0 : w6.cell? ⟨w.heap.size, 0, none⟩ = some (.int .u64 0) := H6.out.2.1.cell 0
        have d1 : w6.cell? ⟨w.heap.size, 1, none⟩ = some (.int .u64 0) := H6.out.2.1.cell 1
        have f0 := H6.out.2.1.soft 0
        have f1 := H6.out.2.1.soft 1
        clear hg6 ho6))
  all_goals go_wp2
  all_goals (
    have z := (H6.out.2.1.set 0 (.int .u64 (n : Int))).set 1 (.int .u64 (n2 : Int))
    have z0 := z.cell 0
    have z1 := z.cell 1
    refine bodyPost_ret (v := .tuple #[.slice a6 (n + n2 + 4) c6, .agg #[.int .u64 (n : Int), .int .u64 (n2 : Int)]]) (by simp [results, Tryz.results63, go_sem, z0, z1]) rfl ⟨a6, c6, rfl, ?_, ?_⟩
    · have h7 := H6.out.2.2.2
      unfold partB
      rw [HSM.out, ← List.append_assoc]
      have hne : ∀ k, blkOf a6 = some k → k ≠ w.heap.size := fun k hk e => by
        have h8 := h7.tag hk
        rw [e, H6.out.2.1.tag] at h8
        cases h8
      refine h7.kept fun k hk => ?_
      rw [Below.heap_setCell _ _ _ _ (hne k hk), Below.heap_setCell _ _ _ _ (hne k hk)]
    · exact (H6.out.1.set (fun hh => absurd hh (Nat.lt_irrefl _)) 0 _).set (fun hh => absurd hh (Nat.lt_irrefl _)) 1 _)
end Go.Proofs.YtgegjcnjlibfdaaGreat
/- The contract of sstable's foot: its bytes. -/
namespace Go.Proofs.YtgegjcnjlibfdaaGreat
set_option maxRecDepth 100000
open Go.RowKit
set_option linter.unusedVariables false
set_option linter.unusedSimpArgs false
abbrev TU64 : TypeId := 33
theorem idxU (lb : Nat) {j n c : Nat} (hj : j < n) (W : World) : (Instr.indexAt 157 (.slice (some ⟨lb, 0, none⟩) n c) (.int .i64 (j : Int))).run Tryz.prog W = .ok (.pointer (some ⟨lb, j, none⟩)) W := by
  have h1 : (0 : Int) ≤ (j : Int) ∧ (j : Int) < (n : Int) := by omega
  have hsz : (sizeOf (Tryz.prog.elem 157)).run Tryz.prog W = .ok 1 W := by kernel_rfl
  rw [run_indexAt_slice (P := Tryz.prog) (h := (by kernel_rfl : Tryz.prog.underlying 157 = some (.slice (Tryz.prog.elem 157)))), if_pos h1, hsz]
  simp [Result.andThen, Addr.add_lit]
def fiveA (fa fn xa xn ct : Nat) : Array Value := #[.int .u64 (fa : Int), .int .u64 (fn : Int), .int .u64 (xa : Int), .int .u64 (xn : Int), .int .u64 (ct : Int)]
def encs (ns : List Nat) : List UInt8 := (ns.map fun n => fxEnc n 4).flatten
theorem encs_take (ns : List Nat) (k : Nat) (hk : k < ns.length) : encs (ns.take (k + 1)) = encs (ns.take k) ++ fxEnc ns[k] 4 := by
  unfold encs
  rw [List.take_succ_eq_append_getElem hk, List.map_append, List.flatten_append]
  simp
theorem five_get (fa fn xa xn ct k : Nat) (hk : k < [fa, fn, xa, xn, ct].length) : (fiveA fa fn xa xn ct)[k]? = some (.int .u64 (([fa, fn, xa, xn, ct][k] : Nat) : Int)) := by
  have hk5 : k < 5 := hk
  rcases (by omega : k = 0 ∨ k = 1 ∨ k = 2 ∨ k = 3 ∨ k = 4) with rfl | rfl | rfl | rfl | rfl <;> rfl
set_option maxHeartbeats 2000000 in
theorem foot_bytes (fa fn xa xn ct : Nat) (hs : ∀ n ∈ [fa, fn, xa, xn, ct], n < 18446744073709551616) (w : World) :
    Calls Tryz.prog 66 #[.agg (fiveA fa fn xa xn ct)] w fun e w' => ∃ a' c', e = .returned (.slice a' 28 c') ∧ OwnB w' w.heap.size a' 28 c' (footB fa fn xa xn ct) ∧ Below w.heap.size w w' := by
  have HS : Hid (∀ n ∈ [fa, fn, xa, xn, ct], n < 18446744073709551616) := hs
  clear hs
  have HX : Hid (Below w.heap.size w ((w.alloc (.cells (fiveA fa fn xa xn ct) 72)).alloc (.cells (fiveA fa fn xa xn ct) TU64)) ∧ Box ((w.alloc (.cells (fiveA fa fn xa xn ct) 72)).alloc (.cells (fiveA fa fn xa xn ct) TU64)) (w.heap.size + 1) TU64 (fiveA fa fn xa xn ct)) :=
    ⟨((Below.refl _ _).alloc (Nat.le_refl _) _).alloc (by simp) _, by have := Box.new (w.alloc (.cells (fiveA fa fn xa xn ct) 72)) TU64 (fiveA fa fn xa xn ct); rw [World.size_alloc] at this; exact this⟩
  have HG : Hid (∀ k (hk : k < [fa, fn, xa, xn, ct].length), (fiveA fa fn xa xn ct)[k]? = some (.int .u64 (([fa, fn, xa, xn, ct][k] : Nat) : Int))) := fun k hk => five_get fa fn xa xn ct k hk
  have HE : Hid (encs [fa, fn, xa, xn, ct] ++ wordB = footB fa fn xa xn ct) := by simp [Hid, encs, footB]
  have HN : Hid ([fa, fn, xa, xn, ct].length = 5) := rfl
  have hv : fiveA fa fn xa xn ct = #[.int .u64 (fa : Int), .int .u64 (fn : Int), .int .u64 (xa : Int), .int .u64 (xn : Int), .int .u64 (ct : Int)] := rfl
  generalize hns : [fa, fn, xa, xn, ct] = ns at *
  rw [hv]
  rw [hv] at HX HG
  clear hv hns
  go_enter Tryz.func66, Tryz.ntmps66
  go_wp2_with fail
  go_loopw [3, 22] (fun s3 s22 wr => ∃ (k no co : Nat) (ao : Option Addr), k ≤ 5 ∧ s22 = .int .i64 (k : Int) ∧ s3 = .slice ao no co ∧ no ≤ 20 ∧ Hid (no = 4 * k ∧ Below w.heap.size w wr ∧ Box wr (w.heap.size + 1) TU64 #[.int .u64 (fa : Int), .int .u64 (fn : Int), .int .u64 (xa : Int), .int .u64 (xn : Int), .int .u64 (ct : Int)] ∧ OwnB wr w.heap.size ao no co (encs (ns.take k)))) (fun _ s22 _ => 5 - (intOf s22).toNat)
  case atStart => exact ⟨0, 0, 0, none, by omega, rfl, rfl, by omega, rfl, HX.out.1, HX.out.2, OwnB.nil _ _⟩
  case round =>
    obtain ⟨k, no, co, ao, hk, rfl, rfl, hno, HI⟩ := hrel
    by_cases hlt : k < 5
    · have hkn : k < ns.length := by rw [HN.out]; exact hlt
      have hcell := (HI.out.2.2.1.cell k).trans (HG.out k hkn)
      have hlt64 : ns[k] < 18446744073709551616 := HS.out _ (List.getElem_mem _)
      have HT : Hid (encs (ns.take (k + 1)) = encs (ns.take k) ++ fxEnc ns[k] 4) := encs_take ns k hkn
      generalize ns[k] = x at hcell hlt64 HT
      have hix := fun W => idxU (w.heap.size + 1) (n := 5) (c := 5) hlt W
      go_wp2_with fail
      refine (put4_nil x _ hlt64).mono ?_
      rintro _ w5 ⟨a5, c5, rfl, ho5, hb5⟩
      have H5 : Hid (Below w.heap.size w w5 ∧ Box w5 (w.heap.size + 1) TU64 #[.int .u64 (fa : Int), .int .u64 (fn : Int), .int .u64 (xa : Int), .int .u64 (xn : Int), .int .u64 (ct : Int)] ∧ OwnB w5 w.heap.size ao no co (encs (ns.take k)) ∧ BsAt w5 a5 4 c5 (fxEnc x 4)) := ⟨HI.out.2.1.trans (hb5.mono HI.out.2.1.size), HI.out.2.2.1.kept (hb5.block _ HI.out.2.2.1.lt), HI.out.2.2.2.below hb5, ho5⟩
      clear ho5 hb5
      go_wp2_with (first | (at_builtin; refine wpList_appAt w5 rfl _ _ rfl w.heap.size ao no co _ rfl H5.out.2.2.1 a5 4 c5 _ rfl H5.out.2.2.2 (by omega) H5.out.1.size ?_; intro a6 c6 w6 ho6 hb6 hg6 hl6
                            have H6 : Hid (Below w.heap.size w w6 ∧ Box w6 (w.heap.size + 1) TU64 #[.int .u64 (fa : Int), .int .u64 (fn : Int), .int .u64 (xa : Int), .int .u64 (xn : Int), .int .u64 (ct : Int)] ∧ OwnB w6 w.heap.size a6 (no + 4) c6 (encs (ns.take (k + 1)))) := ⟨H5.out.1.trans hb6, H5.out.2.1.kept (hg6.block _ H5.out.2.1.lt (fun e => by have h8 := H5.out.2.2.1.tag e.symm; rw [H5.out.2.1.tag] at h8; cases h8)), by rw [HT.out]; exact ho6⟩
                            clear ho6 hb6 hg6 hl6))
      go_roundw
      case rel => exact ⟨k + 1, no + 4, c6, a6, hlt, by go_num, rfl, by have := HI.out.1; omega, by have := HI.out.1; omega, H6.out⟩
      case measure => simp [intOf]; omega
    · obtain rfl : k = 5 := by omega
      have HT : Hid (OwnB wr w.heap.size ao no co (encs ns) ∧ no = 20) := by
        have h1 := HI.out.2.2.2
        rw [List.take_of_length_le (by rw [HN.out]; omega)] at h1
        exact ⟨h1, HI.out.1⟩
      go_wp2_with (first | (at_builtin; refine wpList_appS wr rfl _ _ rfl w.heap.size ao no co _ rfl HT.out.1 _ rfl (by show no + 8 ≤ _; omega) HI.out.2.1.size ?_; intro a6 c6 w6 ho6 hb6 hg6
                            have H6 : Hid (OwnB w6 w.heap.size a6 (no + 8) c6 (encs ns ++ wordB) ∧ Below w.heap.size w w6) := ⟨ho6, HI.out.2.1.trans hb6⟩
                            clear ho6 hb6 hg6))
      go_ret
      have e28 : no + 8 = 28 := by have := HT.out.2; omega
      have H7 := H6.out
      rw [e28, HE.out] at H7
      exact ⟨a6, c6, ret1 (by rw [← e28]; rfl), H7⟩
end Go.Proofs.YtgegjcnjlibfdaaGreat
/- Steps of regions that draw their order: bytes onto an empty row, an entry onto a row of entries; a part told by two numbers without a sign. -/
namespace Go.Proofs.YtgegjcnjlibfdaaGreat
set_option maxRecDepth 100000
open Go.RowKit
set_option linter.unusedVariables false
set_option linter.unusedSimpArgs false
theorem slice_mid_u {w0 : World} {bs0 : List UInt8} {a : Option Addr} {len cap : Nat} (h : BsAt w0 a len cap bs0) (lo hi : Nat) (hlo : lo ≤ hi) (hhi : hi ≤ len) :
    ∃ a', (∀ W : World, (Instr.slice 27 (.slice a len cap) (some (.int .u64 (lo : Int))) (some (.int .u64 (hi : Int))) none).run Tryz.prog W = .ok (.slice a' (hi - lo) (cap - lo)) W) ∧
      (∀ (W : World) (bs : List UInt8), BsAt W a len cap bs → BsAt W a' (hi - lo) (cap - lo) ((bs.drop lo).take (hi - lo))) := by
  have hle := h.le
  have hmx := h.max
  cases a with
  | none =>
    obtain rfl := h.bare rfl
    obtain rfl : hi = 0 := by omega
    obtain rfl : lo = 0 := by omega
    refine ⟨none, fun W => ?_, fun W bs hb => hb.upTo 0 (by omega)⟩
    simp [Instr.slice, run_underlying Tryz.underlying27, go_sem]
  | some ad =>
    obtain ⟨b, off, s⟩ := ad
    by_cases hc : cap - lo = 0
    · obtain rfl : lo = cap := by omega
      obtain rfl : hi = lo := by omega
      refine ⟨some ⟨b, off, s⟩, fun W => ?_, fun W bs hb => ?_⟩
      · simp [Instr.slice, run_underlying Tryz.underlying27, go_sem]
      · rw [Nat.sub_self, List.take_zero]
        exact BsAt.empty _ _ (by omega)
    · refine ⟨some ((⟨b, off, s⟩ : Addr).add lo), fun W => ?_, fun W bs hb => ?_⟩
      · have h1 : hi ≤ cap := by omega
        have h3 : ¬ cap = lo := by omega
        simp [Instr.slice, run_underlying Tryz.underlying27, go_sem, h1, hlo, h3]
      · rcases Nat.eq_zero_or_pos (hi - lo) with h0 | h0
        · rw [h0, List.take_zero]
          exact BsAt.empty _ _ (by omega)
        · obtain ⟨b', o', e, _⟩ := hb.here (by omega)
          simp only [Option.some.injEq, Addr.mk.injEq] at e
          obtain ⟨rfl, rfl, rfl⟩ := e
          rw [Addr.add_lit]
          exact hb.sub lo (hi - lo) (by omega)
theorem step_app0 {ops : Array Oper} {o : Oper} {a : Act} {K : Act → World → Prop} {Q : Exit → Act → World → Prop} {E : Prop} (w : World) (hgd : o.guard = none) (s x : Operand)
    (ho : o.op = .call { callee := .builtin .append, args := #[s, x], argTypes := #[27, 27] })
    (g : Nat) (hg : g = w.heap.size) (hs : a.eval s = .slice (some ⟨g, 0, none⟩) 0 0)
    (a2 : Option Addr) (n2 c2 : Nat) (cs : List UInt8) (hx : a.eval x = .slice a2 n2 c2) (hsrc : BsAt w a2 n2 c2 cs) (hl : n2 ≤ 140737488355328)
    (h : ∀ a' c' w', OwnB w' g a' n2 c' cs → Below g w w' → K (a.put o.dst (.slice a' n2 c')) w') :
    if Region.wanted o (yielded ops a.tmps) = true then Oper.wp Tryz.prog o a (w.alloc (.cells #[] 5)) K Q else E := by
  subst hg
  refine step_appB hgd s x ho w.heap.size _ 0 0 [] hs (OwnB.made w) a2 n2 c2 cs hx (hsrc.alloc _) (by omega) (by simp) ?_
  intro a' c' w' h1 h2
  rw [Nat.zero_add] at h1 ⊢
  exact h a' c' w' h1 (((Below.refl _ _).alloc (Nat.le_refl _) _).trans h2)
theorem step_pushK {ops : Array Oper} {o : Oper} {a : Act} {K : Act → World → Prop} {Q : Exit → Act → World → Prop} {E : Prop} (W : World) (hgd : o.guard = none) (s x : Operand)
    (ho : o.op = .call { callee := .builtin .append, args := #[s, x], argTypes := #[23, 23] })
    (B : Nat) (a1 : Option Addr) (n1 c1 : Nat) (l : List KV) (hs : a.eval s = .slice a1 n1 c1) (hown : OwnK W B a1 n1 c1 l)
    (v : KV) (cv : Array Value) (hcv : cv.toList = kvc v) (g : Nat) (hg : g = W.heap.size) (hx : a.eval x = .slice (some ⟨g, 0, none⟩) 1 1)
    (hb : n1 + 1 ≤ 2000000000000) (hB : B ≤ W.heap.size)
    (h : ∀ a' c' w', OwnK w' B a' (n1 + 1) c' (l ++ [v]) → Below B W w' → (W.alloc (.cells cv TKV)).grownBy w' (blkOf a1) → K (a.put o.dst (.slice a' (n1 + 1) c')) w') :
    if Region.wanted o (yielded ops a.tmps) = true then Oper.wp Tryz.prog o a (W.alloc (.cells cv TKV)) K Q else E := by
  subst hg
  have hw : Region.wanted o (yielded ops a.tmps) = true := by simp [Region.wanted, hgd]
  rw [if_pos hw]
  obtain ⟨i, hi, hz0, hz1, hz2⟩ := info_parts infoKV
  have hl := hown.size
  have hown2 := hown.alloc (.cells cv TKV)
  have hlt : ∀ k, (Value.slice a1 n1 c1).ownBlock = some k → B ≤ k := fun k hk => (hown.row.lt k hk).1
  have hB2 : B ≤ (W.alloc (.cells cv TKV)).heap.size := by simp; omega
  have hcell : ∀ j u, (kvc v)[j]? = some u → (W.alloc (.cells cv TKV)).cell? ((⟨W.heap.size, 0, none⟩ : Addr).add j) = some u := by
    intro j u hu
    rw [Addr.add_lit, Nat.zero_add, (Box.new W TKV cv).cell, ← Array.getElem?_toList, hcv]
    exact hu
  have hone : ∀ u ∈ kvc v, u.oneCell' = true := by
    have := cellsKV_one [v]
    simpa [cellsKV] using this
  obtain ⟨v', w', hr, h2, h3, h4, h5⟩ := run_append_own_at (P := Tryz.prog) (W.alloc (.cells cv TKV)) B 23 o.type TKV i _ 4 48 Tryz.underlying23 hi hz0 hz1 hz2 rfl (by decide) _ n1 _ hown2.row ⟨W.heap.size, 0, none⟩ 1 1 (kvc v) (by simp [kvc]) hcell hone (by unfold maxLen; omega) (by omega) hB2
  unfold Oper.wp execOp
  simp only [ho, resolve, invoke, builtin, Sem.run_bind, Sem.run_pure, Result.andThen_ok, List.map_toArray, List.map_cons, List.map_nil, hs, hx, hr]
  obtain ⟨a', c', rfl⟩ := slice_of_row h2
  refine h a' c' w' ⟨by rw [List.length_append]; simp; omega, ?_⟩ (((Below.refl _ _).alloc hB _).trans ((Below.refl B _).grown h3 hB2 hlt)) (by rw [← own_blk a1 n1 c1]; exact h3)
  rw [cellsKV_append]
  simpa [cellsKV] using h2
end Go.Proofs.YtgegjcnjlibfdaaGreat
/- What stays when a row of entries grows. -/
namespace Go.Proofs.YtgegjcnjlibfdaaGreat
open Go.RowKit
set_option linter.unusedVariables false
set_option linter.unusedSimpArgs false
/-- Blocks that hold no entries stay. -/
def Oth (W W' : World) : Prop := ∀ k, k < W.heap.size → tag W k ≠ some TKV → W'.heap[k]? = W.heap[k]?
theorem oth_push {W W' : World} {B : Nat} {a : Option Addr} {n c : Nat} {l : List KV} (h : OwnK W B a n c l) (o : Obj) (hg : (W.alloc o).grownBy W' (blkOf a)) : Oth W W' := fun k hk ht => by
  rw [hg.block k (by simp; omega) (fun e => ht (h.tag e.symm))]
  exact Below.heap_alloc W o k hk
theorem Box.oth {W W' : World} {p : Nat} {t : TypeId} {arr : Array Value} (h : Box W p t arr) (hk : Oth W W') (ht : t ≠ TKV) : Box W' p t arr := h.kept (hk p h.lt (by rw [h.tag]; intro e; exact ht (Option.some.inj e)))
theorem OwnB.oth {W W' : World} {B : Nat} {a : Option Addr} {n c : Nat} {l : List UInt8} (h : OwnB W B a n c l) (hk : Oth W W') : OwnB W' B a n c l := h.kept fun k e => hk k (tag_lt (h.tag e)) (by rw [h.tag e]; decide)
theorem BkAt.oth {W W' : World} {B p iv sz : Nat} {ss : List (List UInt8)} (h : BkAt W B p iv sz ss) (hk : Oth W W') : BkAt W' B p iv sz ss := by
  obtain ⟨g, arr, ab, nb, cb, body, h1, h2, h2', h3, h4, h5, h6⟩ := h.here
  exact ⟨h.ge, g, arr, ab, nb, cb, body, h1, h2, h2', h3.oth hk (by decide), h4.oth hk (by decide), h5, h6.oth hk⟩
theorem GB.oth {W W' : World} {B p iv : Nat} {l : List KV} (h : GB W B p iv l) (hk : Oth W W') : GB W' B p iv l := ⟨h.bk.oth hk, h.ok, h.one, h.top, h.small⟩
end Go.Proofs.YtgegjcnjlibfdaaGreat
