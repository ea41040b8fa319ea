/- The walk of MergeOne, by what is asked of merge's iterator. -/
import Derived.Test.YtfijibengmgegaaM16Two
namespace Go.Proofs.Ytfijibengmgegaa
open Go.RowKit
set_option linter.unusedVariables false
set_option linter.unusedSimpArgs false
theorem ls_one {W : World} {g : Nat} {a : Option Addr} {n c : Nat} {l : List KV} (hg : Box W g TRow #[.slice none 0 0, .slice a n c, .slice none 0 0]) (hk : KsAt W a n c l) (hb : a = none → c = 0) : LsAt W (some ⟨g, 0, none⟩) 3 3 [[], l, []] := by
  have hz := hk.size
  subst hz
  refine ⟨rfl, Nat.le_refl _, by unfold maxLen; omega, fun e => (by cases e), fun _ => ⟨g, 0, rfl, fun i hi => ?_⟩⟩
  rcases (show i = 0 ∨ i = 1 ∨ i = 2 by omega) with rfl | rfl | rfl
  · exact ⟨none, 0, hg.cell 0, KsAt.nil W, fun _ => rfl⟩
  · exact ⟨a, c, hg.cell 1, hk, hb⟩
  · exact ⟨none, 0, hg.cell 2, KsAt.nil W, fun _ => rfl⟩
theorem ls_two {W : World} {g B : Nat} {a b : Option Addr} {n m c d : Nat} {l k : List KV} (hg : Box W g TRow #[.slice a n c, .slice b m d]) (hk : OwnK W B a n c l) (hm : OwnK W B b m d k) : LsAt W (some ⟨g, 0, none⟩) 2 2 [l, k] := by
  have hz := hk.size
  have hy := hm.size
  subst hz
  subst hy
  refine ⟨rfl, Nat.le_refl _, by unfold maxLen; omega, fun e => (by cases e), fun _ => ⟨g, 0, rfl, fun i hi => ?_⟩⟩
  rcases (show i = 0 ∨ i = 1 by omega) with rfl | rfl
  · exact ⟨a, c, hg.cell 0, hk.ks, hk.spot.1⟩
  · exact ⟨b, d, hg.cell 1, hm.ks, hm.spot.1⟩
set_option maxRecDepth 100000 in
set_option maxHeartbeats 8000000 in
theorem mergeOne_of {D : MgRel} (F : MgOk D) (a : Option Addr) (n c : Nat) (l : List KV) (cut : Int) (w : World) (h : KsAt w a n c l) (hb : a = none → c = 0) (hn : n ≤ 2932031007317) :
    Calls Try.prog 8 #[.slice a n c, .int .i64 cut] w fun e w' => e = .returned (.bool true) ∧ Below w.heap.size w w' := by
  have H0 : Hid (KsAt w a n c l ∧ (a = none → c = 0)) := ⟨h, hb⟩
  have HSZ : Hid (l.length = n) := h.size
  clear h hb
  go_enter Try.func8, Try.ntmps8
  go_wp2_with fail
  refine (awake16 F w).mono ?_
  rintro _ w1 ⟨rfl, hb1⟩
  have H1 : Hid (Below w.heap.size w (w1.alloc (.cells #[.slice none 0 0, .slice a n c, .slice none 0 0] TRow)) ∧ Box (w1.alloc (.cells #[.slice none 0 0, .slice a n c, .slice none 0 0] TRow)) w1.heap.size TRow #[.slice none 0 0, .slice a n c, .slice none 0 0]) := ⟨hb1.alloc hb1.size _, Box.new _ _ _⟩
  clear hb1
  go_wp2_with fail
  generalize w1.alloc (.cells #[.slice none 0 0, .slice a n c, .slice none 0 0] TRow) = w2 at H1 ⊢
  generalize w1.heap.size = eb at H1 ⊢
  have HF1 : Hid (FewL [[], l, []]) := ⟨by simp, by rw [all_one_len]; have := HSZ.out; omega⟩
  refine (F.new (some ⟨eb, 0, none⟩) 3 3 [[], l, []] w2 (ls_one H1.out.2 (H0.out.1.below H1.out.1) H0.out.2) HF1.out).mono ?_
  rintro _ w3 ⟨hb3, hcase⟩
  rcases hcase with ⟨hr, p, R3, rfl, hd3, hR3⟩ | ⟨_, rfl⟩
  · have S3 : Hid (MgS D w w.heap.size w3 R3 p [[], l, []] none (fun _ => False)) := MgS.made hd3 (H1.out.1.trans (hb3.mono H1.out.1.size)) (Nat.le_trans H1.out.1.size hb3.size) (fun k hk => Nat.le_trans H1.out.1.size (hR3 k hk))
    have HR : Hid (RiseK l ∧ allL [[], l, []] = l) := ⟨rise_one hr, all_one (rise_one hr)⟩
    clear hd3 hb3 hR3 hr H1 HF1
    go_upto_if 44 with fail
    go_cut [1] (fun s1 wz => ∃ q : Int, s1 = .int .i64 q ∧ wz = w3)
    case first =>
      by_cases hc : cut < 0
      · go_wp2_with fail
        go_meet
        exact ⟨_, rfl, rfl⟩
      · go_wp2_with fail
        go_meet
        exact ⟨_, rfl, rfl⟩
    case rest =>
      obtain ⟨q, rfl, hwe⟩ := hcut
      rw [hwe]
      clear hwe
      go_wp2_with fail
      obtain ⟨pr, hpr⟩ : ∃ pr : Nat → Bool, ∀ i, pr i = ((wrap64 ((i : Int) + q)).tmod 3 == 0) := ⟨_, fun _ => rfl⟩
      have HPR : Hid (∀ i, pr i = ((wrap64 ((i : Int) + q)).tmod 3 == 0)) := hpr
      clear hpr
      go_loopw [8, 9, 10] (fun s8 s9 s10 wr => ∃ (i n8 n9 : Nat) (a8 a9 : Option Addr) (c8 c9 : Nat), i ≤ n ∧ n8 ≤ i ∧ n9 ≤ i ∧ s10 = .int .i64 (i : Int) ∧ s8 = .slice a8 n8 c8 ∧ s9 = .slice a9 n9 c9 ∧ Hid (OwnK wr w.heap.size a8 n8 c8 (partK l pr i) ∧ OwnK wr w.heap.size a9 n9 c9 (partK l (fun k => !pr k) i) ∧ (∀ k, blkOf a8 = some k → blkOf a9 ≠ some k) ∧ MgS D w w.heap.size wr R3 p [[], l, []] none (fun k => blkOf a8 = some k ∨ blkOf a9 = some k))) (fun _ _ s10 _ => n - (intOf s10).toNat)
      case atStart => exact ⟨0, 0, 0, none, none, 0, 0, Nat.zero_le _, Nat.le_refl _, Nat.le_refl _, rfl, rfl, rfl, OwnK.nil _ _, OwnK.nil _ _, fun k hk => by simp [blkOf] at hk, S3.out.less fun k hk => by simp [blkOf] at hk⟩
      case round =>
        clear S3
        obtain ⟨i, n8, n9, a8, a9, c8, c9, hin, h8, h9, rfl, rfl, rfl, HI⟩ := hrel
        by_cases hi : i < n
        · have hiI : (i : Int) < (n : Int) := by omega
          obtain ⟨b, off, hix, _, hcs⟩ := H0.out.1.spots (by omega)
          have hx0 := hix i hi
          have HIL : Hid (i < l.length) := by have := HSZ.out; unfold Hid; omega
          obtain ⟨d0, d1, d2, d3⟩ := hcs wr HI.out.2.2.2.low i HIL.out
          have HP1 : Hid (partK l pr (i + 1) = partK l pr i ++ (if pr i = true then [l[i]'HIL.out] else [])) := partK_succ l pr HIL.out
          have HP2 : Hid (partK l (fun k => !pr k) (i + 1) = partK l (fun k => !pr k) i ++ (if (!pr i) = true then [l[i]'HIL.out] else [])) := partK_succ l (fun k => !pr k) HIL.out
          clear hix hcs
          generalize l[i]'HIL.out = e at d0 d1 d2 d3 HP1 HP2
          generalize off + i * 4 = oA at d0 d1 d2 d3 hx0
          have HO : Hid (OwnK wr w.heap.size a8 n8 c8 (partK l pr i) ∧ OwnK wr w.heap.size a9 n9 c9 (partK l (fun k => !pr k) i) ∧ (∀ k, blkOf a8 = some k → blkOf a9 ≠ some k) ∧ MgS D w w.heap.size wr R3 p [[], l, []] none (fun k => blkOf a8 = some k ∨ blkOf a9 = some k)) := HI.out
          clear HI
          cases hp : pr i with
          | true =>
            have hpi : ((wrap64 ((i : Int) + q)).tmod 3 == 0) = true := by rw [← HPR.out i, hp]
            rw [hp, if_pos rfl] at HP1
            rw [hp, if_neg (by decide)] at HP2
            clear hp
            go_wp2_with (first
              | (at_builtin; refine wpList_pushL wr rfl (.tmp 59) (.tmp 64) rfl w.heap.size a8 n8 c8 (partK l pr i) rfl HO.out.1 e #[.string e.1.user, .int .u64 (e.1.seq : Int), .int .i64 e.1.kind, .string e.2] rfl wr.heap.size rfl rfl (by omega) HO.out.2.2.2.top ?_
                 intro aD cD wD hoD hgD hlD
                 obtain ⟨hmD, hcD⟩ := HO.out.2.2.2.push F (fun k hk => .inl hk) HO.out.1 hoD hgD hlD
                 have hkD : OwnK wD w.heap.size a9 n9 c9 (partK l (fun k => !pr k) i) := HO.out.2.1.kept fun k hk => hcD.block k (tag_lt (HO.out.2.1.tag hk)) (fun h => HO.out.2.2.1 k h hk)
                 have hdD : ∀ k, blkOf aD = some k → blkOf a9 ≠ some k := fun k hk hk2 => by
                   rcases hlD k hk with h | h
                   · exact HO.out.2.2.1 k h hk2
                   · have := tag_lt (HO.out.2.1.tag hk2)
                     omega
                 have H12 : Hid (OwnK wD w.heap.size aD (n8 + 1) cD ((partK l pr i) ++ [e]) ∧ OwnK wD w.heap.size a9 n9 c9 (partK l (fun k => !pr k) i) ∧ (∀ k, blkOf aD = some k → blkOf a9 ≠ some k) ∧ MgS D w w.heap.size wD R3 p [[], l, []] none (fun k => blkOf aD = some k ∨ blkOf a9 = some k)) := ⟨hoD, hkD, hdD, hmD.less fun k hk => by rcases hk with hk | hk <;> simp [hk]⟩
                 clear hmD hoD hgD hlD hkD hdD hcD d0 d1 d2 d3 HO))
            go_roundw
            case rel => exact ⟨i + 1, n8 + 1, n9, aD, a9, cD, c9, by omega, by omega, by omega, by go_num, rfl, rfl, by rw [HP1.out]; exact H12.out.1, by rw [HP2.out, List.append_nil]; exact H12.out.2.1, H12.out.2.2.1, H12.out.2.2.2⟩
            case measure => simp only [intOf]; omega
          | false =>
            have hpi : ((wrap64 ((i : Int) + q)).tmod 3 == 0) = false := by rw [← HPR.out i, hp]
            rw [hp, if_neg (by decide)] at HP1
            rw [hp, if_pos (by decide)] at HP2
            clear hp
            go_wp2_with (first
              | (at_builtin; refine wpList_pushL wr rfl (.tmp 66) (.tmp 71) rfl w.heap.size a9 n9 c9 (partK l (fun k => !pr k) i) rfl HO.out.2.1 e #[.string e.1.user, .int .u64 (e.1.seq : Int), .int .i64 e.1.kind, .string e.2] rfl wr.heap.size rfl rfl (by omega) HO.out.2.2.2.top ?_
                 intro aD cD wD hoD hgD hlD
                 obtain ⟨hmD, hcD⟩ := HO.out.2.2.2.push F (fun k hk => .inr hk) HO.out.2.1 hoD hgD hlD
                 have hkD : OwnK wD w.heap.size a8 n8 c8 (partK l pr i) := HO.out.1.kept fun k hk => hcD.block k (tag_lt (HO.out.1.tag hk)) (fun h => HO.out.2.2.1 k hk h)
                 have hdD : ∀ k, blkOf aD = some k → blkOf a8 ≠ some k := fun k hk hk2 => by
                   rcases hlD k hk with h | h
                   · exact HO.out.2.2.1 k hk2 h
                   · have := tag_lt (HO.out.1.tag hk2)
                     omega
                 have H12 : Hid (OwnK wD w.heap.size aD (n9 + 1) cD ((partK l (fun k => !pr k) i) ++ [e]) ∧ OwnK wD w.heap.size a8 n8 c8 (partK l pr i) ∧ (∀ k, blkOf aD = some k → blkOf a8 ≠ some k) ∧ MgS D w w.heap.size wD R3 p [[], l, []] none (fun k => blkOf aD = some k ∨ blkOf a8 = some k)) := ⟨hoD, hkD, hdD, hmD.less fun k hk => by rcases hk with hk | hk <;> simp [hk]⟩
                 clear hmD hoD hgD hlD hkD hdD hcD d0 d1 d2 d3 HO))
            go_roundw
            case rel => exact ⟨i + 1, n8, n9 + 1, a8, aD, c8, cD, by omega, by omega, by omega, by go_num, rfl, rfl, by rw [HP1.out, List.append_nil]; exact H12.out.2.1, by rw [HP2.out]; exact H12.out.1, fun k hk hk2 => H12.out.2.2.1 k hk2 hk, H12.out.2.2.2.less fun k hk => hk.symm⟩
            case measure => simp only [intOf]; omega
        · obtain rfl : i = n := by omega
          have hiI : ¬ (i : Int) < (i : Int) := by omega
          have HIL : Hid (i = l.length) := by have := HSZ.out; unfold Hid; omega
          obtain ⟨Ly, hLy⟩ : ∃ Ly, Ly = [partK l (fun k => !pr k) l.length, partK l pr l.length] := ⟨_, rfl⟩
          have HLY : Hid (RiseL Ly ∧ allL Ly = l ∧ FewL Ly) := by
            have hr2 := rise_parts HR.out.1 pr
            have ha2 := all_two HR.out.1 pr
            rw [← hLy] at hr2 ha2
            exact ⟨hr2, ha2, by rw [hLy]; simp, by rw [ha2]; have := HIL.out; omega⟩
          obtain ⟨Lx, hLx⟩ : ∃ Lx, Lx = [[], l, []] := ⟨_, rfl⟩
          have HLX : Hid (allL Lx = l) := by rw [hLx]; exact HR.out.2
          have H8' : Hid (LsAt (wr.alloc (.cells #[.slice a9 n9 c9, .slice a8 n8 c8] TRow)) (some ⟨wr.heap.size, 0, none⟩) 2 2 Ly ∧ MgS D w w.heap.size (wr.alloc (.cells #[.slice a9 n9 c9, .slice a8 n8 c8] TRow)) R3 p Lx none (fun _ => False)) := by
            refine ⟨?_, ?_⟩
            · rw [hLy, ← HIL.out]
              exact ls_two (Box.new _ _ _) (HI.out.2.1.alloc _) (HI.out.1.alloc _)
            · rw [hLx]
              exact (HI.out.2.2.2.alloc F _).less fun _ h => h.elim
          clear hLy hLx HI
          go_wp2_with fail
          generalize wr.alloc (.cells #[.slice a9 n9 c9, .slice a8 n8 c8] TRow) = w4 at H8' ⊢
          generalize wr.heap.size = eb2 at H8' ⊢
          refine (F.new (some ⟨eb2, 0, none⟩) 2 2 Ly w4 H8'.out.1 HLY.out.2.2).mono ?_
          rintro _ w5 ⟨hb5, hcase5⟩
          rcases hcase5 with ⟨_, py, Ry, rfl, hd5, hR5⟩ | ⟨hno, _⟩
          case inr => exact absurd HLY.out.1 hno
          have T5 : Hid (Two D w w.heap.size w5 R3 p Lx none Ry py Ly none (fun _ => False)) := Two.of F H8'.out.2 hb5 hd5 hR5
          clear hb5 hd5 hR5 H8'
          go_wp2_with fail
          refine (F.first T5.out.x.it).mono ?_
          rintro _ w6 ⟨rfl, hp6⟩
          obtain ⟨R6, h6, _, _⟩ := T5.out.step F hp6
          have T6 : Hid (Two D w w.heap.size w6 R6 p Lx (normO l 0) Ry py Ly none (fun _ => False)) := by
            have e : goP (allL Lx) 1 kvZ.1 none = normO l 0 := by rw [HLX.out]; rfl
            rw [← e]
            exact h6
          clear h6 hp6 T5
          go_wp2_with fail
          refine (F.first T6.out.y.it).mono ?_
          rintro _ w7 ⟨rfl, hp7⟩
          obtain ⟨R7, h7, _, _⟩ := T6.out.turn.step F hp7
          have T7 : Hid (Two D w w.heap.size w7 R6 p Lx (normO l 0) R7 py Ly (normO l 0) (fun _ => False)) := by
            rw [HLY.out.2.1] at h7
            exact h7.turn
          clear h7 hp7 T6
          have HAX : Hid (∀ (W : World) (R : Nat → Prop) (o : Option Nat), D W R p Lx o → Calls Try.prog 13 #[at_ p] W fun e w' => e = .returned (.tuple #[kvV (told16 l o).1, .bool (told16 l o).2]) ∧ MgPost D R p Lx o W w') := fun W R o hd => by
            have := F.at' hd
            rw [HLX.out] at this
            exact this
          have HAY : Hid (∀ (W : World) (R : Nat → Prop) (o : Option Nat), D W R py Ly o → Calls Try.prog 13 #[at_ py] W fun e w' => e = .returned (.tuple #[kvV (told16 l o).1, .bool (told16 l o).2]) ∧ MgPost D R py Ly o W w') := fun W R o hd => by
            have := F.at' hd
            rw [HLY.out.2.1] at this
            exact this
          go_wp2_with fail
          go_loopw [13] (fun s13 wr => ∃ (j : Nat), j ≤ i ∧ s13 = .int .i64 (j : Int) ∧ Hid (∃ Rx Ry, Two D w w.heap.size wr Rx p Lx (normO l j) Ry py Ly (normO l j) (fun _ => False))) (fun s13 _ => i - (intOf s13).toNat)
          case atStart => exact ⟨0, Nat.zero_le _, rfl, R6, R7, T7.out⟩
          case round =>
            clear T7
            obtain ⟨j, hji, rfl, HI⟩ := hrel
            obtain ⟨Rx, Ry, h8⟩ := HI.out
            have T8 : Hid (Two D w w.heap.size wr Rx p Lx (normO l j) Ry py Ly (normO l j) (fun _ => False)) := h8
            clear HI h8
            by_cases hj : j < i
            · have hjI : (j : Int) < (i : Int) := by omega
              have HJL : Hid (j < l.length) := by have := HIL.out; unfold Hid; omega
              have hAx := HAX.out wr Rx (normO l j) T8.out.x.it
              rw [told_some HJL.out] at hAx
              obtain ⟨b, off, hix, _, hcs⟩ := H0.out.1.spots (by omega)
              have hx0 := hix j hj
              have HD : Hid (∀ W, Below w.heap.size w W → W.cell? ⟨b, off + j * 4, none⟩ = some (.string (l[j]'HJL.out).1.user) ∧ W.cell? ⟨b, off + j * 4 + 1, none⟩ = some (.int .u64 ((l[j]'HJL.out).1.seq : Int)) ∧ W.cell? ⟨b, off + j * 4 + 2, none⟩ = some (.int .i64 (l[j]'HJL.out).1.kind) ∧ W.cell? ⟨b, off + j * 4 + 3, none⟩ = some (.string (l[j]'HJL.out).2)) := fun W hW => hcs W hW j HJL.out
              have HAYj : Hid (∀ (W : World) (R : Nat → Prop), D W R py Ly (normO l j) → Calls Try.prog 13 #[at_ py] W fun e w' => e = .returned (.tuple #[kvV (l[j]'HJL.out), .bool true]) ∧ MgPost D R py Ly (normO l j) W w') := fun W R hd => by
                have := HAY.out W R (normO l j) hd
                rw [told_some HJL.out] at this
                exact this
              have heq := run_neq_kv16 (l[j]'HJL.out) (l[j]'HJL.out)
              rw [show eqKV (l[j]'HJL.out) (l[j]'HJL.out) = true from eqKV_iff.2 rfl] at heq
              rw [show (!true) = false from rfl] at heq
              clear hix hcs
              dsimp only at hAx
              generalize l[j]'HJL.out = e at hAx HD HAYj heq
              generalize off + j * 4 = oA at HD hx0
              have hAx2 : Calls Try.prog 13 #[at_ p] wr fun r w' => r = .returned (.tuple #[.agg #[.string e.1.user, .int .u64 (e.1.seq : Int), .int .i64 e.1.kind, .string e.2], .bool true]) ∧ MgPost D Rx p Lx (normO l j) wr w' := hAx
              have HAYk : Hid (∀ (W : World) (R : Nat → Prop), D W R py Ly (normO l j) → Calls Try.prog 13 #[at_ py] W fun r w' => r = .returned (.tuple #[.agg #[.string e.1.user, .int .u64 (e.1.seq : Int), .int .i64 e.1.kind, .string e.2], .bool true]) ∧ MgPost D R py Ly (normO l j) W w') := HAYj
              unfold kvV kvc at heq
              clear hAx HAYj
              go_wp2_with fail
              refine hAx2.mono ?_
              rintro _ w9 ⟨rfl, hp9⟩
              obtain ⟨R9, h9, _, _⟩ := T8.out.step F hp9
              have T9 : Hid (Two D w w.heap.size (w9.alloc (.cells #[.string e.1.user, .int .u64 (e.1.seq : Int), .int .i64 e.1.kind, .string e.2] TKV)) R9 p Lx (normO l j) Ry py Ly (normO l j) (fun k => False ∨ k = w9.heap.size) ∧ Box (w9.alloc (.cells #[.string e.1.user, .int .u64 (e.1.seq : Int), .int .i64 e.1.kind, .string e.2] TKV)) w9.heap.size TKV #[.string e.1.user, .int .u64 (e.1.seq : Int), .int .i64 e.1.kind, .string e.2]) := ⟨h9.alloc F _, Box.new _ _ _⟩
              clear h9 hp9 T8 hAx2
              go_upto_region 26 with fail
              generalize w9.alloc (.cells #[.string e.1.user, .int .u64 (e.1.seq : Int), .int .i64 e.1.kind, .string e.2] TKV) = wA at T9 ⊢
              generalize w9.heap.size = e1 at T9 ⊢
              go_wp2_with fail
              refine (HAYk.out _ _ T9.out.1.y.it).mono ?_
              rintro _ wB ⟨rfl, hpB⟩
              obtain ⟨RB, hB, kB, _⟩ := T9.out.1.turn.step F hpB
              have TB : Hid (Two D w w.heap.size (wB.alloc (.cells #[.string e.1.user, .int .u64 (e.1.seq : Int), .int .i64 e.1.kind, .string e.2] TKV)) R9 p Lx (normO l j) RB py Ly (normO l j) (fun _ => False) ∧ Box (wB.alloc (.cells #[.string e.1.user, .int .u64 (e.1.seq : Int), .int .i64 e.1.kind, .string e.2] TKV)) e1 TKV #[.string e.1.user, .int .u64 (e.1.seq : Int), .int .i64 e.1.kind, .string e.2] ∧ Box (wB.alloc (.cells #[.string e.1.user, .int .u64 (e.1.seq : Int), .int .i64 e.1.kind, .string e.2] TKV)) wB.heap.size TKV #[.string e.1.user, .int .u64 (e.1.seq : Int), .int .i64 e.1.kind, .string e.2]) := ⟨(hB.turn.alloc F _).less fun _ h => h.elim, (T9.out.2.kept (kB _ (.inr rfl))).alloc _, Box.new _ _ _⟩
              clear hB kB hpB T9
              go_upto_region 27 with fail
              generalize wB.alloc (.cells #[.string e.1.user, .int .u64 (e.1.seq : Int), .int .i64 e.1.kind, .string e.2] TKV) = wC at TB ⊢
              generalize wB.heap.size = e2 at TB ⊢
              have c0 := TB.out.2.1.cell 0
              have c1 := TB.out.2.1.cell 1
              have c2 := TB.out.2.1.cell 2
              have c3 := TB.out.2.1.cell 3
              have g0 := TB.out.2.2.cell 0
              have g1 := TB.out.2.2.cell 1
              have g2 := TB.out.2.2.cell 2
              have g3 := TB.out.2.2.cell 3
              obtain ⟨d0, d1, d2, d3⟩ := HD.out _ TB.out.1.x.low
              go_wp2_with fail
              go_quiet (fail)
              go_wp2_with fail
              have TC : Hid (Two D w w.heap.size (wC.drewN nq) R9 p Lx (normO l j) RB py Ly (normO l j) (fun _ => False)) := TB.out.1.drewN F nq
              generalize wC.drewN nq = wD at TC ⊢
              clear TB c0 c1 c2 c3 g0 g1 g2 g3 d0 d1 d2 d3 heq
              refine (F.next TC.out.x.it).mono ?_
              rintro _ wE ⟨rfl, hpE⟩
              obtain ⟨RE, hE, _, _⟩ := TC.out.step F hpE
              rw [HLX.out, next_norm HJL.out] at hE
              have TE : Hid (Two D w w.heap.size wE RE p Lx (normO l (j + 1)) RB py Ly (normO l j) (fun _ => False)) := hE
              clear hE hpE TC
              go_wp2_with fail
              refine (F.next TE.out.y.it).mono ?_
              rintro _ wF ⟨rfl, hpF⟩
              obtain ⟨RF, hF, _, _⟩ := TE.out.turn.step F hpF
              rw [HLY.out.2.1, next_norm HJL.out] at hF
              have TF : Hid (Two D w w.heap.size wF RE p Lx (normO l (j + 1)) RF py Ly (normO l (j + 1)) (fun _ => False)) := hF.turn
              clear hF hpF TE
              go_wp2
              go_roundw
              case rel => exact ⟨j + 1, by omega, by go_num, RE, RF, TF.out⟩
              case measure => simp only [intOf]; omega
            · obtain rfl : j = i := by omega
              have hjI : ¬ (j : Int) < (j : Int) := by omega
              have HJL : Hid (¬ j < l.length) := by have := HIL.out; unfold Hid; omega
              have hAx2 : Calls Try.prog 13 #[at_ p] wr fun r w' => r = .returned (.tuple #[.agg #[.string ⟨#[]⟩, .int .u64 0, .int .i64 0, .string ⟨#[]⟩], .bool false]) ∧ MgPost D Rx p Lx (normO l j) wr w' := by
                have := HAX.out wr Rx (normO l j) T8.out.x.it
                rw [told_none HJL.out] at this
                exact this
              have HAYk : Hid (∀ (W : World) (R : Nat → Prop), D W R py Ly (normO l j) → Calls Try.prog 13 #[at_ py] W fun r w' => r = .returned (.tuple #[.agg #[.string ⟨#[]⟩, .int .u64 0, .int .i64 0, .string ⟨#[]⟩], .bool false]) ∧ MgPost D R py Ly (normO l j) W w') := fun W R hd => by
                have := HAY.out W R (normO l j) hd
                rw [told_none HJL.out] at this
                exact this
              go_wp2_with fail
              refine hAx2.mono ?_
              rintro _ w9 ⟨rfl, hp9⟩
              obtain ⟨R9, h9, _, _⟩ := T8.out.step F hp9
              have T9 : Hid (Two D w w.heap.size (w9.alloc (.cells #[.string ⟨#[]⟩, .int .u64 0, .int .i64 0, .string ⟨#[]⟩] TKV)) R9 p Lx (normO l j) Ry py Ly (normO l j) (fun k => False ∨ k = w9.heap.size)) := h9.alloc F _
              clear h9 hp9 T8 hAx2
              go_upto_region 32 with fail
              generalize w9.alloc (.cells #[.string ⟨#[]⟩, .int .u64 0, .int .i64 0, .string ⟨#[]⟩] TKV) = wA at T9 ⊢
              go_wp2_with fail
              refine (HAYk.out _ _ T9.out.y.it).mono ?_
              rintro _ wB ⟨rfl, hpB⟩
              obtain ⟨RB, hB, _, _⟩ := T9.out.turn.step F hpB
              have HX : Hid (Below w.heap.size w wB) := hB.x.low
              clear hB hpB T9
              go_wp2
              go_ret
              exact ⟨ret1 rfl, HX.out.alloc HX.out.size _⟩
  · go_wp2
    go_ret
    exact ⟨rfl, H1.out.1.trans (hb3.mono H1.out.1.size)⟩
end Go.Proofs.Ytfijibengmgegaa
