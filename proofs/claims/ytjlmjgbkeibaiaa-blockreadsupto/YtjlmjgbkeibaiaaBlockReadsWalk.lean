/- The walk of BlockReads. -/
import Derived.Test.YtjlmjgbkeibaiaaK11Law
import Derived.Test.YtjlmjgbkeibaiaaR11ReadA
import Derived.Deep.DeepCutAuto
namespace Go.Proofs.Ytjlmjgbkeibaiaa
open Go.RowKit
set_option linter.unusedVariables false
set_option linter.unusedSimpArgs false
theorem OwnB.storeB {w : World} {B g len cap : Nat} {bs : List UInt8} (h : OwnB w B (some ⟨g, 0, none⟩) len cap bs) (j : Nat) (x : UInt8) : OwnB (w.setCell ⟨g, j, none⟩ (.int .u8 (x.toNat : Int))) B (some ⟨g, 0, none⟩) len cap (bs.set j x) := by
  have hs := h.size
  refine ⟨by simp [hs], by rw [cellsB_length]; simp [hs], ?_⟩
  rcases h.row.2 with ⟨hv, _⟩ | ⟨g', c, cur, hv, hb, hg, hn, hc, hz, ht⟩
  · simp at hv
  · simp only [Value.slice.injEq, Option.some.injEq, Addr.mk.injEq, true_and, and_true] at hv
    obtain ⟨rfl, rfl⟩ := hv
    refine .inr ⟨g, cap, cur.setIfInBounds j (.int .u8 (x.toNat : Int)), rfl, hb, Box.set (w := w) (p := g) (t := 5) hg j _, hn, hc, by simpa using hz, ?_⟩
    rw [Nat.mul_one] at ht ⊢
    rw [Array.toList_setIfInBounds, List.take_set, ht]
    simp [cellsB]
theorem first_ex {l : List KV} (hr : Rises l) (k : IK) : ∃ m, FirstAt l k m := by
  refine ⟨l.findIdx fun e => decide (0 ≤ e.1.cmp k), firstAt_of hr List.findIdx_le_length (fun i h hi => ?_) (fun h => ?_)⟩
  · have := List.not_of_lt_findIdx hi
    simp at this
    omega
  · have := List.findIdx_getElem (w := h)
    simpa using this
/-- What Open and Read tell, side by side. -/
theorem both_tell (b : List UInt8) (hb : b.length ≤ 2000000) {W : World} {B : Nat} {r : Ending}
    (h : (openP b = none ∧ r = .returned (.tuple #[.pointer none, .int .i64 111])) ∨ ∃ ss ls p, openP b = some (ss, ls) ∧ r = .returned (.tuple #[at_ p, .int .i64 0]) ∧ BkAt W B p (ivOf b) ls.flatten.length ss) :
    ∃ (xv : Value) (ev : Int), r = .returned (.tuple #[xv, .int .i64 ev]) ∧ ((readP b = none ∧ xv = .pointer none ∧ ev = 111) ∨ ∃ l p u, readP b = some l ∧ xv = at_ p ∧ ev = 0 ∧ GB W B p u l ∧ 3 * l.length ≤ b.length) := by
  rcases h with ⟨h1, rfl⟩ | ⟨ss, ls, p, h1, rfl, hbk⟩
  · refine ⟨_, _, rfl, .inl ⟨?_, rfl, rfl⟩⟩
    rcases readP_open b (by omega) with ⟨h2, _⟩ | ⟨l, ss, ls, _, h3, _⟩
    · exact h2
    · rw [h1] at h3
      cases h3
  · refine ⟨_, _, rfl, .inr ⟨ls.flatten, p, ivOf b, ?_, rfl, rfl, gb_of h1 hbk (by omega), ?_⟩⟩
    · rcases readP_open b (by omega) with ⟨_, h3⟩ | ⟨l, ss', ls', h2, h3, h4⟩
      · rw [h1] at h3
        cases h3
      · rw [h1] at h3
        cases h3
        rw [h2, h4]
    · obtain ⟨_, hu1, _, _, hlay, _, _⟩ := open_some h1
      have := lay_ge hu1 ls.flatten
      rw [← hlay] at this
      exact this
set_option maxRecDepth 100000 in
set_option maxHeartbeats 4000000 in
theorem blockReads_walk (a0 : Option Addr) (len0 cap0 : Nat) (b0 : List UInt8) (s2 : ByteArray) (q2 k2 : Int) (at0 : Int) (w : World) (w0 : BsAt w a0 len0 cap0 b0) (e0 : cap0 ≤ 1048576) (x2 : (Lit.int .u64 q2).wf = true) (_y2 : (Lit.int .i64 k2).wf = true) (_w3 : (Lit.int .i64 at0).wf = true) :
    Calls Try.prog 5 #[.slice a0 len0 cap0, .agg #[.string s2, .int .u64 q2, .int .i64 k2], .int .i64 at0] w fun e w' => e = .returned (.bool true) ∧ Below w.heap.size w w' := by
  obtain ⟨n2, rfl⟩ : ∃ n : Nat, q2 = (n : Int) := by
    simp [Lit.wf, IntKind.min, IntKind.max, IntKind.bits, IntKind.signed] at x2
    exact ⟨q2.toNat, by omega⟩
  have hle := w0.le
  have HLN : Hid (b0.length = len0) := w0.size
  have HBS : Hid (BsAt w a0 len0 cap0 b0) := w0
  clear w0 x2 _y2 _w3
  have H0 : Hid (Below w.heap.size w (w.alloc (.cells #[.string s2, .int .u64 (n2 : Int), .int .i64 k2] 32)) ∧ Box (w.alloc (.cells #[.string s2, .int .u64 (n2 : Int), .int .i64 k2] 32)) w.heap.size 32 #[.string s2, .int .u64 (n2 : Int), .int .i64 k2]) := ⟨(Below.refl _ _).alloc (Nat.le_refl _) _, Box.new _ _ _⟩
  go_enter Try.func5, Try.ntmps5
  go_wp2_with fail
  refine (awake_any _).mono ?_
  rintro _ v1 ⟨rfl, hb1⟩
  have HB1 : Hid (Below w.heap.size w v1 ∧ Box v1 w.heap.size TK #[.string s2, .int .u64 (n2 : Int), .int .i64 k2] ∧ BsAt v1 a0 len0 cap0 b0) := by
    have hb := H0.out.1.trans (hb1.mono H0.out.1.size)
    exact ⟨hb, H0.out.2.kept (hb1.block _ H0.out.2.lt), HBS.out.below (Nat.le_refl _) hb⟩
  clear hb1 H0 HBS
  go_wp2_with (first
    | (at_builtin; refine wpList_app0 v1 rfl _ _ rfl rfl _ _ _ b0 rfl HB1.out.2.2 (by omega) ?_; intro al cl v2 ho2 hb2))
  have H2 : Hid (Below v1.heap.size v1 v2 ∧ OwnB v2 v1.heap.size al len0 cl b0) := ⟨hb2, ho2⟩
  have hcl : len0 ≤ cl := ho2.bs.le
  clear hb2 ho2
  refine (open_any al len0 cl b0 _ H2.out.2.bs (by omega)).mono ?_
  rintro r v3 ⟨hb3, hr⟩
  obtain ⟨xv, ev, rfl, hxe⟩ := both_tell b0 (by rw [HLN.out]; omega) hr
  have HXE : Hid ((readP b0 = none ∧ xv = .pointer none ∧ ev = 111) ∨ ∃ l p u, readP b0 = some l ∧ xv = at_ p ∧ ev = 0 ∧ GB v3 v2.heap.size p u l ∧ 3 * l.length ≤ b0.length) := hxe
  have H3 : Hid (Below v1.heap.size v1 v3 ∧ OwnB v3 v1.heap.size al len0 cl b0 ∧ ∀ k, blkOf al = some k → k < v2.heap.size) := ⟨H2.out.1.trans (hb3.mono H2.out.1.size), H2.out.2.below hb3, fun k e => tag_lt (H2.out.2.tag e)⟩
  clear hxe hr hb3
  go_wp2
  go_loopw [11] (fun i wr => ∃ k : Nat, k ≤ len0 ∧ i = .int .i64 (k : Int) ∧ Hid (∃ X, OwnB wr v1.heap.size al len0 cl X) ∧ Hid (Below v1.heap.size v1 wr ∧ ∀ k, v2.heap.size ≤ k → k < v3.heap.size → wr.heap[k]? = v3.heap[k]?)) (fun i _ => len0 - (intOf i).toNat)
  case atStart => exact ⟨0, Nat.zero_le _, rfl, ⟨_, H3.out.2.1⟩, H3.out.1, fun _ _ _ => rfl⟩
  case round =>
    obtain ⟨k, hk, rfl, HX, HB⟩ := hrel
    by_cases hlt : k < len0
    · obtain ⟨X, hX⟩ := HX.out
      obtain ⟨g, rfl, hgw, _, hc⟩ := hX.cells (by omega)
      have hck := hc k hlt
      have hfk := hX.unfrozen k
      have hg2 := H3.out.2.2 g rfl
      have HXX : Hid (OwnB (wr.setCell ⟨g, k, none⟩ (.int .u8 99)) v1.heap.size (some ⟨g, 0, none⟩) len0 cl (X.set k 99)) := hX.storeB k 99
      have HBB : Hid (Below v1.heap.size v1 (wr.setCell ⟨g, k, none⟩ (.int .u8 99)) ∧ ∀ j, v2.heap.size ≤ j → j < v3.heap.size → (wr.setCell ⟨g, k, none⟩ (.int .u8 99)).heap[j]? = v3.heap[j]?) := ⟨HB.out.1.setCell hgw _, fun j h1 h2 => by rw [Below.heap_setCell _ _ _ j (fun e => by simp only at e; omega)]; exact HB.out.2 j h1 h2⟩
      generalize (X.getD k 0).toNat = xk at hck
      clear hc hX hg2
      go_wp2
      go_roundw
      case rel => exact ⟨k + 1, by omega, by go_num, ⟨_, HXX.out⟩, HBB.out⟩
      case measure => simp [intOf]; omega
    · obtain rfl : k = len0 := by omega
      have H4 : Hid (Below v1.heap.size v1 wr) := HB.out.1
      have HXE4 : Hid ((readP b0 = none ∧ xv = .pointer none ∧ ev = 111) ∨ ∃ l p u, readP b0 = some l ∧ xv = at_ p ∧ ev = 0 ∧ GB wr v2.heap.size p u l ∧ 3 * l.length ≤ b0.length) := by
        rcases HXE.out with h | ⟨l, p, u, h1, h2, h3, h4, h5⟩
        · exact .inl h
        · exact .inr ⟨l, p, u, h1, h2, h3, h4.keep HB.out.2, h5⟩
      clear HXE HB HX H3
      go_wp2_with fail
      refine (rread_any a0 k cap0 b0 _ (HB1.out.2.2.below (Nat.le_refl _) H4.out) (by omega)).mono ?_
      rintro r5 v5 ⟨hb5, h5⟩
      rcases HXE4.out with ⟨hrn, rfl, rfl⟩ | ⟨l, p, u, hrs, rfl, rfl, hgb, hll⟩
      · rcases h5 with ⟨_, rfl⟩ | ⟨l, _, _, h6, _⟩
        case inr =>
          rw [hrn] at h6
          cases h6
        have HE : Hid (Below w.heap.size w v5) := by
          have h := H4.out.trans (hb5.mono H4.out.size)
          exact HB1.out.1.trans (h.mono HB1.out.1.size)
        clear hb5 hrn HXE4
        go_wp2
        go_ret
        exact ⟨ret1 rfl, HE.out⟩
      · rcases h5 with ⟨h6, _⟩ | ⟨l', al2, cl2, h6, rfl, hks⟩
        · rw [hrs] at h6
          cases h6
        obtain rfl : l' = l := by rw [hrs] at h6; cases h6; rfl
        obtain ⟨n, HSZ⟩ : ∃ n, Hid (l'.length = n) := ⟨l'.length, (rfl : l'.length = l'.length)⟩
        have hnb : n ≤ 1000000 := by rw [HSZ.out, HLN.out] at hll; omega
        rw [HSZ.out] at hks ⊢
        have H5 : Hid (Below w.heap.size w v5 ∧ Box v5 w.heap.size TK #[.string s2, .int .u64 (n2 : Int), .int .i64 k2] ∧ GB v5 v2.heap.size p u l' ∧ KsAt v5 al2 n cl2 l') := by
          have h := H4.out.trans (hb5.mono H4.out.size)
          exact ⟨HB1.out.1.trans (h.mono HB1.out.1.size), HB1.out.2.1.kept (h.block _ HB1.out.2.1.lt), hgb.below hb5, hks⟩
        have HRI : Hid (Rises l' ∧ ∃ m, FirstAt l' ⟨s2, n2, k2⟩ m) := ⟨hgb.rise, first_ex hgb.rise _⟩
        clear hb5 hks hgb hll hrs h6 HXE4 HB1 H4 H2
        generalize v2.heap.size = B at H5
        generalize l' = l at H5 HRI HSZ
        obtain ⟨_, m, hm⟩ := HRI.out
        have HM : Hid (FirstAt l ⟨s2, n2, k2⟩ m) := hm
        clear hm
        have HLNN : Hid (∀ (V : World), GB V B p u l → Calls Try.prog 15 #[at_ p] V fun rr w' => rr = .returned (.int .i64 (n : Int)) ∧ V = w') := fun V hV => by
          have := len_any hV.bk
          rw [HSZ.out] at this
          exact this
        have HFD : Hid (∀ (V : World), GB V B p u l → Calls Try.prog 16 #[at_ p, .agg #[.string s2, .int .u64 (n2 : Int), .int .i64 k2]] V fun rr w' => rr = .returned (.int .i64 (m : Int)) ∧ Below V.heap.size V w') := fun V hV => (find_any hV ⟨s2, n2, k2⟩).mono fun r w' ⟨m', h1, h2, h3⟩ => ⟨by rw [h2, h1.uniq HM.out], h3⟩
        have HRF : Hid (∀ (V : World), KsAt V al2 n cl2 l → Calls Try.prog 17 #[.slice al2 n cl2, .agg #[.string s2, .int .u64 (n2 : Int), .int .i64 k2]] V fun rr w' => rr = .returned (.int .i64 (m : Int)) ∧ Below V.heap.size V w') := fun V hV => (rfind_any hV HRI.out.1 (by omega) ⟨s2, n2, k2⟩).mono fun r w' ⟨m', h1, h2, h3⟩ => ⟨by rw [h2, h1.uniq HM.out], h3⟩
        have HKP : Hid (∀ V V' : World, Below V.heap.size V V' → (Below w.heap.size w V ∧ Box V w.heap.size TK #[.string s2, .int .u64 (n2 : Int), .int .i64 k2] ∧ GB V B p u l ∧ KsAt V al2 n cl2 l) → (Below w.heap.size w V' ∧ Box V' w.heap.size TK #[.string s2, .int .u64 (n2 : Int), .int .i64 k2] ∧ GB V' B p u l ∧ KsAt V' al2 n cl2 l)) := fun V V' hb h => ⟨h.1.trans (hb.mono h.1.size), h.2.1.kept (hb.block _ h.2.1.lt), h.2.2.1.below hb, h.2.2.2.below hb⟩
        have H6 : Hid ((Below w.heap.size w v5.drew ∧ Box v5.drew w.heap.size TK #[.string s2, .int .u64 (n2 : Int), .int .i64 k2] ∧ GB v5.drew B p u l ∧ KsAt v5.drew al2 n cl2 l)) := HKP.out _ _ (Below.refl _ _).drew H5.out
        have c0 : v5.drew.cell? ⟨w.heap.size, 0, none⟩ = some (.string s2) := H6.out.2.1.cell 0
        have c1 : v5.drew.cell? ⟨w.heap.size, 1, none⟩ = some (.int .u64 (n2 : Int)) := H6.out.2.1.cell 1
        have c2 : v5.drew.cell? ⟨w.heap.size, 2, none⟩ = some (.int .i64 k2) := H6.out.2.1.cell 2
        have hnn : ((n : Int) != (n : Int)) = false := by simp
        have hmm : ((m : Int) != (m : Int)) = false := by simp
        go_wp2_with fail
        go_region_held3 (fun V => V.cell? ⟨w.heap.size, 0, none⟩ = some (.string s2) ∧ V.cell? ⟨w.heap.size, 1, none⟩ = some (.int .u64 (n2 : Int)) ∧ V.cell? ⟨w.heap.size, 2, none⟩ = some (.int .i64 k2)) (first | exact ⟨c0, c1, c2⟩ | go_keep)
          (first
           | (go_at_call 17; refine (HRF.out _ H7.out.2.2.2).mono ?_; rintro _ vz ⟨rfl, hbz⟩
              have H8 : Hid ((Below w.heap.size w vz ∧ Box vz w.heap.size TK #[.string s2, .int .u64 (n2 : Int), .int .i64 k2] ∧ GB vz B p u l ∧ KsAt vz al2 n cl2 l)) := HKP.out _ _ hbz H7.out
              have c0 : vz.cell? ⟨w.heap.size, 0, none⟩ = some (.string s2) := H8.out.2.1.cell 0
              have c1 : vz.cell? ⟨w.heap.size, 1, none⟩ = some (.int .u64 (n2 : Int)) := H8.out.2.1.cell 1
              have c2 : vz.cell? ⟨w.heap.size, 2, none⟩ = some (.int .i64 k2) := H8.out.2.1.cell 2
              clear hbz)
           | (go_at_call 16; refine (HFD.out _ H6.out.2.2.1).mono ?_; rintro _ vy ⟨rfl, hby⟩
              have H7 : Hid ((Below w.heap.size w vy ∧ Box vy w.heap.size TK #[.string s2, .int .u64 (n2 : Int), .int .i64 k2] ∧ GB vy B p u l ∧ KsAt vy al2 n cl2 l)) := HKP.out _ _ hby H6.out
              have c0 : vy.cell? ⟨w.heap.size, 0, none⟩ = some (.string s2) := H7.out.2.1.cell 0
              have c1 : vy.cell? ⟨w.heap.size, 1, none⟩ = some (.int .u64 (n2 : Int)) := H7.out.2.1.cell 1
              have c2 : vy.cell? ⟨w.heap.size, 2, none⟩ = some (.int .i64 k2) := H7.out.2.1.cell 2
              clear hby)
           | (go_at_call 15; refine (HLNN.out _ H6.out.2.2.1).mono ?_; rintro _ vx ⟨rfl, hvx⟩
              obtain rfl : v5.drew = vx := hvx))
        clear H7 H6 H5 HFD HRF c0 c1 c2
        go_wp2_with fail
        go_loopw [14] (fun x wr => ∃ i : Nat, i ≤ n ∧ x = .int .i64 (i : Int) ∧ Hid ((Below w.heap.size w wr ∧ Box wr w.heap.size TK #[.string s2, .int .u64 (n2 : Int), .int .i64 k2] ∧ GB wr B p u l ∧ KsAt wr al2 n cl2 l))) (fun x _ => n - (intOf x).toNat)
        case atStart => exact ⟨0, Nat.zero_le _, rfl, H8.out⟩
        case round =>
          obtain ⟨i, hi, rfl, HR⟩ := hrel
          by_cases hin : i < n
          · have hil : i < l.length := by rw [HSZ.out]; exact hin
            have HAT := at_yes HR.out.2.2.1 (i := i) hil
            obtain ⟨b, off, hab, _⟩ := HR.out.2.2.2.cells4 (by omega)
            have HC : Hid (∀ W, KsAt W al2 n cl2 l → W.cell? ⟨b, off + i * 4, none⟩ = some (.string l[i].1.user) ∧ W.cell? ⟨b, off + i * 4 + 1, none⟩ = some (.int .u64 (l[i].1.seq : Int)) ∧ W.cell? ⟨b, off + i * 4 + 2, none⟩ = some (.int .i64 l[i].1.kind) ∧ W.cell? ⟨b, off + i * 4 + 3, none⟩ = some (.string l[i].2)) := fun W hW => by
              obtain ⟨b', off', hab', hc⟩ := hW.cells4 (by omega)
              rw [hab] at hab'
              cases hab'
              exact hc i hil
            have hidx := fun W => idxKV W (a := al2) (b := b) (off := off) (n := n) (c := cl2) hab hin
            generalize l[i] = e at HAT HC
            have HAT2 : Hid (Calls Try.prog 18 #[at_ p, .int .i64 (i : Int)] wr fun r w' => r = .returned (.tuple #[.agg #[.string e.1.user, .int .u64 (e.1.seq : Int), .int .i64 e.1.kind, .string e.2], .int .i64 0]) ∧ Below wr.heap.size wr w') := HAT
            clear HAT hab
            have hneq := fun W => run_neq_kv e W
            go_wp2_with fail
            refine HAT2.out.mono ?_
            rintro _ z5 ⟨rfl, hz5⟩
            have H5 : Hid ((Below w.heap.size w z5 ∧ Box z5 w.heap.size TK #[.string s2, .int .u64 (n2 : Int), .int .i64 k2] ∧ GB z5 B p u l ∧ KsAt z5 al2 n cl2 l)) := HKP.out _ _ hz5 HR.out
            clear hz5 HAT2
            go_wp2_with fail
            have hb6 : Below z5.heap.size z5 (z5.alloc (.cells #[.string e.1.user, .int .u64 (e.1.seq : Int), .int .i64 e.1.kind, .string e.2] 42)) := (Below.refl _ _).alloc (Nat.le_refl _) _
            have H6 : Hid ((Below w.heap.size w (z5.alloc (.cells #[.string e.1.user, .int .u64 (e.1.seq : Int), .int .i64 e.1.kind, .string e.2] 42)) ∧ Box (z5.alloc (.cells #[.string e.1.user, .int .u64 (e.1.seq : Int), .int .i64 e.1.kind, .string e.2] 42)) w.heap.size TK #[.string s2, .int .u64 (n2 : Int), .int .i64 k2] ∧ GB (z5.alloc (.cells #[.string e.1.user, .int .u64 (e.1.seq : Int), .int .i64 e.1.kind, .string e.2] 42)) B p u l ∧ KsAt (z5.alloc (.cells #[.string e.1.user, .int .u64 (e.1.seq : Int), .int .i64 e.1.kind, .string e.2] 42)) al2 n cl2 l) ∧ Box (z5.alloc (.cells #[.string e.1.user, .int .u64 (e.1.seq : Int), .int .i64 e.1.kind, .string e.2] 42)) z5.heap.size TKV #[.string e.1.user, .int .u64 (e.1.seq : Int), .int .i64 e.1.kind, .string e.2]) := ⟨HKP.out _ _ hb6 H5.out, Box.new _ _ _⟩
            clear hb6 H5
            generalize z5.alloc (.cells #[.string e.1.user, .int .u64 (e.1.seq : Int), .int .i64 e.1.kind, .string e.2] 42) = z6 at H6 ⊢
            generalize z5.heap.size = eb at H6 ⊢
            obtain ⟨x0, x1, x2, x3⟩ := HC.out _ H6.out.1.2.2.2
            have y0 : z6.cell? ⟨eb, 0, none⟩ = some (.string e.1.user) := H6.out.2.cell 0
            have y1 : z6.cell? ⟨eb, 1, none⟩ = some (.int .u64 (e.1.seq : Int)) := H6.out.2.cell 1
            have y2 : z6.cell? ⟨eb, 2, none⟩ = some (.int .i64 e.1.kind) := H6.out.2.cell 2
            have y3 : z6.cell? ⟨eb, 3, none⟩ = some (.string e.2) := H6.out.2.cell 3
            go_quiet (fail)
            go_wp2
            go_roundw
            case rel => exact ⟨i + 1, hin, by go_num, HKP.out _ _ (Below.drewM (Below.refl _ _) _) H6.out.1⟩
            case measure => simp only [intOf]; omega
          · obtain rfl : i = n := by omega
            by_cases hat : 0 ≤ at0 ∧ at0 < (i : Int)
            · obtain ⟨m0, rfl⟩ : ∃ m : Nat, at0 = (m : Int) := ⟨at0.toNat, by omega⟩
              have hml : m0 < l.length := by rw [HSZ.out]; omega
              have HAT := at_yes HR.out.2.2.1 (i := m0) hml
              generalize l[m0] = e at HAT
              have HAT2 : Hid (Calls Try.prog 18 #[at_ p, .int .i64 (m0 : Int)] wr fun r w' => r = .returned (.tuple #[.agg #[.string e.1.user, .int .u64 (e.1.seq : Int), .int .i64 e.1.kind, .string e.2], .int .i64 0]) ∧ Below wr.heap.size wr w') := HAT
              clear HAT
              have hd2 : decide ((m0 : Int) < (i : Int)) = true := decide_eq_true hat.2
              go_wp2_with fail
              refine HAT2.out.mono ?_
              rintro _ z5 ⟨rfl, hz5⟩
              have H5 : Hid (Below w.heap.size w z5) := HR.out.1.trans (hz5.mono HR.out.1.size)
              clear hz5 HAT2
              go_wp2
              go_ret
              exact ⟨ret1 rfl, H5.out.alloc H5.out.size _⟩
            · have HAT := at_no (q := at_ p) (i := at0) (n := i) (W := wr) (fun V hV => HLNN.out V (HR.out.2.2.1.below hV)) (by omega)
              have HAT2 : Hid (Calls Try.prog 18 #[at_ p, .int .i64 at0] wr fun r w' => r = .returned (.tuple #[.agg #[.string ⟨#[]⟩, .int .u64 0, .int .i64 0, .string ⟨#[]⟩], .int .i64 1]) ∧ Below wr.heap.size wr w') := HAT
              clear HAT
              go_wp2_with fail
              refine HAT2.out.mono ?_
              rintro _ z5 ⟨rfl, hz5⟩
              have H5 : Hid (Below w.heap.size w z5) := HR.out.1.trans (hz5.mono HR.out.1.size)
              clear hz5 HAT2
              by_cases h0 : 0 ≤ at0
              · have hd2 : decide (at0 < (i : Int)) = false := decide_eq_false (by omega)
                go_wp2
                go_ret
                exact ⟨ret1 rfl, H5.out.alloc H5.out.size _⟩
              · go_wp2
                go_ret
                exact ⟨ret1 rfl, H5.out.alloc H5.out.size _⟩
end Go.Proofs.Ytjlmjgbkeibaiaa
