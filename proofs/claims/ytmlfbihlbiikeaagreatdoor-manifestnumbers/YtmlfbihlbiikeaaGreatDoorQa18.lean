/- The contract of edit.Encode. -/
import Derived.Test.YtmlfbihlbiikeaaGreatDoorQa17
import Derived.Test.YtmlfbihlbiikeaaGreatDoorQa01
import Derived.Test.YtmlfbihlbiikeaaGreatDoorQa42
import Derived.Defers
namespace Go.Proofs.YtmlfbihlbiikeaaGreatDoor
open Go.RowKit
set_option linter.unusedVariables false
set_option linter.unusedSimpArgs false
theorem OwnB.none0 (w : World) (B : Nat) : OwnB w B none 0 0 [] := ⟨rfl, World.ownsRow_nil _ _ _ 1⟩
theorem PG.enc_len (g : PG) : g.enc.length ≤ 20 := by
  have h1 := uvEnc_length g.level.toNat
  have h2 := uvEnc_length g.num
  unfold PG.enc
  rw [List.length_append]
  omega
theorem PF.enc_len {f : PF} (h : f.err = 0) : f.enc.length ≤ 194 := by
  obtain ⟨_, _, _, h7, h8, _⟩ := PF.err_zero h
  have h1 := uvEnc_length f.level.toNat
  have h2 := uvEnc_length f.num
  have h3 := uvEnc_length f.size.toNat
  have h4 := enc_size h7
  have h5 := enc_size h8
  unfold PF.enc
  simp only [List.length_append]
  omega
theorem flat_le {α : Type} {f : α → List UInt8} {m : Nat} : ∀ {l : List α}, (∀ x ∈ l, (f x).length ≤ m) → (l.flatMap f).length ≤ l.length * m
  | [], _ => by simp
  | x :: r, h => by
    have ih := flat_le (l := r) (fun y hy => h y (by simp [hy]))
    have h0 := h x (by simp)
    rw [List.flatMap_cons, List.length_append, List.length_cons, Nat.succ_mul]
    omega
theorem PE.lay_no {x : PE} (h : ¬ x.err = 0) : x.lay = [] := by unfold PE.lay; rw [if_neg h]
theorem PE.lay_yes {x : PE} (h : x.err = 0) : x.lay = x.enc := by unfold PE.lay; rw [if_pos h]
theorem take_flat {α : Type} {f : α → List UInt8} {l : List α} {k : Nat} (hk : k < l.length) : (l.take (k + 1)).flatMap f = (l.take k).flatMap f ++ f l[k] := by
  rw [List.take_succ_eq_append_getElem hk, List.flatMap_append]
  simp
set_option maxRecDepth 100000 in
set_option maxHeartbeats 2000000 in
theorem eenc_any (x : PE) (s : SE) (w : World) (h : EdAt w x s) (hw : WfE x) :
    Calls Tryz.prog 70 #[.agg #[.int .u64 (x.log : Int), .int .u64 (x.next : Int), .int .u64 (x.last : Int), .slice s.a x.dels.length s.c, .slice s.a' x.adds.length s.c']] w fun e w' => ∃ a' c', e = .returned (.tuple #[.slice a' x.lay.length c', .int .i64 ((x.err : Nat) : Int)]) ∧ OwnB w' w.heap.size a' x.lay.length c' x.lay ∧ Below w.heap.size w w' := by
  obtain ⟨W1, e1, HW⟩ : ∃ W1, W1 = w.alloc (.cells (eA x s) TE) ∧ Hid (Below w.heap.size w W1 ∧ Box W1 w.heap.size TE (eA x s) ∧ EdAt W1 x s ∧ w.heap.size ≤ W1.heap.size) := ⟨_, rfl, (Below.refl _ _).alloc (Nat.le_refl _) _, Box.new _ _ _, h.below ((Below.refl _ _).alloc (Nat.le_refl _) _), by simp⟩
  have HC : Hid (∀ W, W = w.alloc (.cells (eA x s) TE) → Calls Tryz.prog 65 #[.agg #[.int .u64 (x.log : Int), .int .u64 (x.next : Int), .int .u64 (x.last : Int), .slice s.a x.dels.length s.c, .slice s.a' x.adds.length s.c']] W fun e w' => e = .returned (.int .i64 ((x.err : Nat) : Int)) ∧ Below W1.heap.size W1 w') := by
    rintro W rfl
    rw [← e1]
    exact echeck_any x s W1 HW.out.2.2.1 hw
  have HWf : Hid (WfE x) := hw
  have HZ : Hid (∀ W, W = w.alloc (.cells (eA x s) TE) → W = W1) := by rintro W rfl; exact e1.symm
  clear h hw e1
  by_cases her : x.err = 0
  · have HL : Hid (x.lay = x.enc ∧ x.err = 0) := ⟨PE.lay_yes her, her⟩
    obtain ⟨hd20, ha100, hlog, hnext, hlast, hde, hae⟩ := PE.err_zero her
    have HD : Hid ((∀ g ∈ x.dels, g.err = 0) ∧ ∀ f ∈ x.adds, f.err = 0) := ⟨hde, hae⟩
    rw [her] at HC
    rw [her]
    clear her hde hae
    have hm := HW.out.2.2.1.gs.row.max
    have hl := HW.out.2.2.1.gs.row.le
    have hm' := HW.out.2.2.1.fs.row.max
    have hl' := HW.out.2.2.1.fs.row.le
    unfold maxLen at hm hm'
    go_enter Tryz.func70, Tryz.ntmps70
    go_wp2_with fail
    refine (HC.out _ rfl).mono ?_
    rintro _ w2 ⟨rfl, hb2⟩
    have H2 : Hid (Below W1.heap.size W1 w2) := hb2
    have h2s : W1.heap.size ≤ w2.heap.size := hb2.size
    obtain ⟨c0, c1, c2, c3, c4⟩ := (HW.out.2.1.kept (hb2.block _ HW.out.2.1.lt)).five
    clear hb2 HC
    go_wp2_with fail
    refine (layNumbers_any W1.heap.size none 0 0 [] [x.log, x.next, x.last, x.dels.length] w2.heap.size 4 _ _ (OwnB.none0 _ _) (by simp; omega) rfl (Box.new _ _ _) rfl (by intro n hn; simp at hn; omega) (by omega) (by omega)).mono ?_
    rintro _ w3 ⟨a3, k3, rfl, ho3, hb3, _⟩
    obtain ⟨hd, hhd⟩ : ∃ hd, hd = ([] ++ [x.log, x.next, x.last, x.dels.length].flatMap uvEnc : List UInt8) := ⟨_, rfl⟩
    have HH : Hid (hd = uvEnc x.log ++ (uvEnc x.next ++ (uvEnc x.last ++ uvEnc x.dels.length))) := by
      show hd = _
      rw [hhd]
      simp
    rw [← hhd] at ho3 ⊢
    have hhl : hd.length ≤ 40 := by
      have e1 := uvEnc_length x.log
      have e2 := uvEnc_length x.next
      have e3 := uvEnc_length x.last
      have e4 := uvEnc_length x.dels.length
      rw [HH.out]
      simp only [List.length_append]
      omega
    have H3 : Hid (OwnB w3 W1.heap.size a3 hd.length k3 hd ∧ Below W1.heap.size W1 w3) := ⟨ho3, (H2.out.alloc h2s _).trans hb3⟩
    obtain ⟨c0, c1, c2, c3, c4⟩ := (HW.out.2.1.kept (H3.out.2.block _ HW.out.2.1.lt)).five
    clear hhd ho3 hb3
    generalize hd.length = L at hhl H3 ⊢
    go_wp2_with fail
    clear c0 c1 c2 c3 c4
    go_loopw [5, 30] (fun o i wr => ∃ (k : Nat) (a' : Option Addr) (n' c' : Nat), k ≤ x.dels.length ∧ i = .int .i64 (k : Int) ∧ o = .slice a' n' c' ∧ n' ≤ 40 + 20 * k ∧ Hid (OwnB wr W1.heap.size a' n' c' (hd ++ (x.dels.take k).flatMap PG.enc) ∧ Below W1.heap.size W1 wr)) (fun _ i _ => x.dels.length - (intOf i).toNat)
    case atStart => exact ⟨0, a3, L, k3, Nat.zero_le _, rfl, rfl, by omega, by simpa using H3.out.1, H3.out.2⟩
    case round =>
      obtain ⟨k, a', n', c', hk, rfl, rfl, hn', HR⟩ := hrel
      by_cases hkn : k < x.dels.length
      · obtain ⟨b, o, hidx, hlt, hcs⟩ := HW.out.2.2.1.gs.at hkn
        obtain ⟨c0, c1⟩ := hcs wr HR.out.2
        have hge := HD.out.1 x.dels[k] (List.getElem_mem hkn)
        have HT : Hid ((x.dels.take (k + 1)).flatMap PG.enc = (x.dels.take k).flatMap PG.enc ++ (x.dels[k]).enc) := take_flat hkn
        clear hcs
        generalize x.dels[k] = g at c0 c1 hge HT
        obtain ⟨g1, g2, g3, g4⟩ := gErr_zero hge
        have hgl := PG.enc_len g
        obtain ⟨lv, hlv⟩ : ∃ lv : Nat, g.level = (lv : Int) := ⟨g.level.toNat, by omega⟩
        have HG : Hid (g.enc = [lv, g.num].flatMap uvEnc) := by
          show g.enc = _
          unfold PG.enc
          rw [hlv]
          simp
        rw [hlv] at c0 g1 g2
        clear hge hlv
        have hrs := HR.out.2.size
        have H4 : Hid (∀ o1 o2 : Obj, OwnB ((wr.alloc o1).alloc o2) W1.heap.size a' n' c' (hd ++ (x.dels.take k).flatMap PG.enc) ∧ Below W1.heap.size W1 ((wr.alloc o1).alloc o2)) := fun o1 o2 => ⟨(HR.out.1.alloc _).alloc _, (HR.out.2.alloc hrs _).alloc (by simp; omega) _⟩
        go_wp2_with fail
        refine (layNumbers_any W1.heap.size a' n' c' _ [lv, g.num] (wr.heap.size + 1) 2 _ _ (H4.out _ _).1 (by simp; omega) rfl (by have := Box.new (wr.alloc (.cells #[.int .i64 (lv : Int), .int .u64 (g.num : Int)] 135)) 23 #[.int .u64 (lv : Int), .int .u64 (g.num : Int)]; simpa using this) rfl (by intro n hn; simp at hn; omega) (by omega) (by omega)).mono ?_
        rintro _ w4 ⟨a4, k4, rfl, ho4, hb4, _⟩
        rw [← HG.out, List.append_assoc, ← HT.out] at ho4 ⊢
        have hln : (hd ++ (x.dels.take (k + 1)).flatMap PG.enc).length ≤ n' + 20 := by
          have := HR.out.1.size
          rw [HT.out]
          simp only [List.length_append] at this ⊢
          omega
        have H5 : Hid (OwnB w4 W1.heap.size a4 (hd ++ (x.dels.take (k + 1)).flatMap PG.enc).length k4 (hd ++ (x.dels.take (k + 1)).flatMap PG.enc) ∧ Below W1.heap.size W1 w4) := ⟨ho4, (H4.out _ _).2.trans hb4⟩
        clear ho4 hb4 H4
        generalize (hd ++ (x.dels.take (k + 1)).flatMap PG.enc).length = L4 at hln H5 ⊢
        go_wp2
        go_roundw
        case rel => exact ⟨k + 1, a4, L4, k4, hkn, by go_num, rfl, by omega, H5.out⟩
        case measure => simp only [intOf]; omega
      · have HF : Hid (OwnB wr W1.heap.size a' n' c' (hd ++ x.dels.flatMap PG.enc) ∧ Below W1.heap.size W1 wr) := by
          have := HR.out.1
          rw [List.take_of_length_le (by omega)] at this
          exact ⟨this, HR.out.2⟩
        obtain ⟨c0, c1, c2, c3, c4⟩ := (HW.out.2.1.kept (HR.out.2.block _ HW.out.2.1.lt)).five
        have hrs := HR.out.2.size
        clear HR
        obtain ⟨hd2, hh2⟩ : ∃ hd2, hd2 = hd ++ x.dels.flatMap PG.enc := ⟨_, rfl⟩
        have HH2 : Hid (hd2 = hd ++ x.dels.flatMap PG.enc) := hh2
        rw [← hh2] at HF
        clear hh2
        go_wp2_with fail
        refine (layNumbers_any W1.heap.size a' n' c' hd2 [x.adds.length] wr.heap.size 1 _ _ (HF.out.1.alloc _) (by simp; omega) rfl (Box.new _ _ _) rfl (by intro n hn; simp at hn; omega) (by omega) (by omega)).mono ?_
        rintro _ w4 ⟨a4, k4, rfl, ho4, hb4, _⟩
        obtain ⟨hd3, hh3⟩ : ∃ hd3, hd3 = hd2 ++ [x.adds.length].flatMap uvEnc := ⟨_, rfl⟩
        have HH3 : Hid (hd3 = hd2 ++ uvEnc x.adds.length) := by
          show hd3 = _
          rw [hh3]
          simp
        rw [← hh3] at ho4 ⊢
        have hl3 : hd3.length ≤ n' + 10 := by
          have := HF.out.1.size
          have := uvEnc_length x.adds.length
          rw [HH3.out, List.length_append]
          omega
        have H4 : Hid (OwnB w4 W1.heap.size a4 hd3.length k4 hd3 ∧ Below W1.heap.size W1 w4) := ⟨ho4, (HF.out.2.alloc hrs _).trans hb4⟩
        obtain ⟨c0, c1, c2, c3, c4⟩ := (HW.out.2.1.kept (H4.out.2.block _ HW.out.2.1.lt)).five
        clear hh3 ho4 hb4 HF
        generalize hd3.length = L3 at hl3 H4 ⊢
        go_wp2_with fail
        clear c0 c1 c2 c3 c4
        go_loopw [5, 53] (fun o i wr => ∃ (k : Nat) (a' : Option Addr) (n' c' : Nat), k ≤ x.adds.length ∧ i = .int .i64 (k : Int) ∧ o = .slice a' n' c' ∧ n' ≤ L3 + 194 * k ∧ Hid (OwnB wr W1.heap.size a' n' c' (hd3 ++ (x.adds.take k).flatMap PF.enc) ∧ Below W1.heap.size W1 wr)) (fun _ i _ => x.adds.length - (intOf i).toNat)
        case atStart => exact ⟨0, a4, L3, k4, Nat.zero_le _, rfl, rfl, by omega, by simpa using H4.out.1, H4.out.2⟩
        case round =>
          obtain ⟨j, a'', n'', c'', hj, rfl, rfl, hn'', HR⟩ := hrel
          by_cases hjn : j < x.adds.length
          · obtain ⟨b, o, hidx, hlt, hcs⟩ := HW.out.2.2.1.fs.at hjn
            obtain ⟨c0, c1, c2, c3, c4, c5, c6, c7, c8⟩ := hcs wr HR.out.2
            have hfe := HD.out.2 x.adds[j] (List.getElem_mem hjn)
            have HT : Hid ((x.adds.take (j + 1)).flatMap PF.enc = (x.adds.take j).flatMap PF.enc ++ (x.adds[j]).enc) := take_flat hjn
            clear hcs
            generalize x.adds[j] = f at c0 c1 c2 c3 c4 c5 c6 c7 c8 hfe HT
            obtain ⟨hg0, hs1, hs2, hks, hkl, _⟩ := PF.err_zero hfe
            obtain ⟨g1, g2, g3, g4⟩ := gErr_zero hg0
            have hfl := PF.enc_len hfe
            obtain ⟨lv, hlv⟩ : ∃ lv : Nat, f.level = (lv : Int) := ⟨f.level.toNat, by omega⟩
            obtain ⟨sz, hsz⟩ : ∃ sz : Nat, f.size = (sz : Int) := ⟨f.size.toNat, by omega⟩
            have HG : Hid (f.enc = [lv, f.num, sz].flatMap uvEnc ++ [f.small, f.large].flatMap fun k => txtPut k.enc) := by
              show f.enc = _
              unfold PF.enc
              rw [hlv, hsz]
              simp
            rw [hlv] at c0 g1 g2
            rw [hsz] at c2 hs1 hs2
            have HK : Hid (f.small.err = 0 ∧ f.large.err = 0) := ⟨hks, hkl⟩
            clear hfe hg0 hlv hsz hks hkl
            have hrs := HR.out.2.size
            have H5 : Hid (∀ o1 o2 : Obj, OwnB ((wr.alloc o1).alloc o2) W1.heap.size a'' n'' c'' (hd3 ++ (x.adds.take j).flatMap PF.enc) ∧ Below W1.heap.size W1 ((wr.alloc o1).alloc o2)) := fun o1 o2 => ⟨(HR.out.1.alloc _).alloc _, (HR.out.2.alloc hrs _).alloc (by simp; omega) _⟩
            have H5b : Hid (Box (wr.alloc (.cells #[.int .i64 (lv : Int), .int .u64 (f.num : Int), .int .i64 (sz : Int), .string f.small.user, .int .u64 (f.small.seq : Int), .int .i64 f.small.kind, .string f.large.user, .int .u64 (f.large.seq : Int), .int .i64 f.large.kind] 59)) wr.heap.size TF #[.int .i64 (lv : Int), .int .u64 (f.num : Int), .int .i64 (sz : Int), .string f.small.user, .int .u64 (f.small.seq : Int), .int .i64 f.small.kind, .string f.large.user, .int .u64 (f.large.seq : Int), .int .i64 f.large.kind]) := Box.new _ _ _
            go_wp2_with fail
            refine (layNumbers_any W1.heap.size a'' n'' c'' _ [lv, f.num, sz] (wr.heap.size + 1) 3 _ _ (H5.out _ _).1 (by simp; omega) rfl (by have := Box.new (wr.alloc (.cells #[.int .i64 (lv : Int), .int .u64 (f.num : Int), .int .i64 (sz : Int), .string f.small.user, .int .u64 (f.small.seq : Int), .int .i64 f.small.kind, .string f.large.user, .int .u64 (f.large.seq : Int), .int .i64 f.large.kind] 59)) 23 #[.int .u64 (lv : Int), .int .u64 (f.num : Int), .int .u64 (sz : Int)]; simpa using this) rfl (by intro n hn; simp at hn; omega) (by omega) (by omega)).mono ?_
            rintro _ w5 ⟨a5, k5, rfl, ho5, hb5, hk5⟩
            have H6 : Hid (Below W1.heap.size W1 w5 ∧ W1.heap.size ≤ w5.heap.size) := ⟨(H5.out _ _).2.trans hb5, ((H5.out _ _).2.trans hb5).size⟩
            have hbx := hk5 _ _ _ (H5b.out.alloc _) (by decide)
            have d3 : w5.cell? ⟨wr.heap.size, 3, none⟩ = some (.string f.small.user) := hbx.cell 3
            have d4 : w5.cell? ⟨wr.heap.size, 4, none⟩ = some (.int .u64 (f.small.seq : Int)) := hbx.cell 4
            have d5 : w5.cell? ⟨wr.heap.size, 5, none⟩ = some (.int .i64 f.small.kind) := hbx.cell 5
            have d6 : w5.cell? ⟨wr.heap.size, 6, none⟩ = some (.string f.large.user) := hbx.cell 6
            have d7 : w5.cell? ⟨wr.heap.size, 7, none⟩ = some (.int .u64 (f.large.seq : Int)) := hbx.cell 7
            have d8 : w5.cell? ⟨wr.heap.size, 8, none⟩ = some (.int .i64 f.large.kind) := hbx.cell 8
            obtain ⟨m, hm0⟩ : ∃ m, m = hd3 ++ (x.adds.take j).flatMap PF.enc ++ [lv, f.num, sz].flatMap uvEnc := ⟨_, rfl⟩
            rw [← hm0] at ho5 ⊢
            have hml : m.length ≤ n'' + 30 := by
              have := HR.out.1.size
              have e1 := uvEnc_length lv
              have e2 := uvEnc_length f.num
              have e3 := uvEnc_length sz
              rw [hm0]
              simp only [List.length_append, List.flatMap_cons, List.flatMap_nil, List.length_nil] at this ⊢
              omega
            have HM : Hid (m ++ ([f.small, f.large].flatMap fun k => txtPut k.enc) = hd3 ++ (x.adds.take (j + 1)).flatMap PF.enc) := by
              show _ = _
              rw [hm0, HT.out, HG.out]
              simp only [List.append_assoc]
            have HO5 : Hid (OwnB w5 W1.heap.size a5 m.length k5 m) := ho5
            clear ho5 hb5 hk5 hbx hm0 H5 H5b
            generalize m.length = ml at hml HO5 ⊢
            go_wp2_with fail
            refine (layKeys_any W1.heap.size a5 ml k5 m [f.small, f.large] w5.heap.size _ _ (HO5.out.alloc _) (by have := H6.out.2; simp; omega) rfl (Box.new _ _ _) rfl (by intro k hk; simp at hk; rcases hk with rfl | rfl; exact HK.out.1; exact HK.out.2) (by omega)).mono ?_
            rintro _ w6 ⟨a6, k6, rfl, ho6, hb6⟩
            rw [HM.out] at ho6 ⊢
            have hln : (hd3 ++ (x.adds.take (j + 1)).flatMap PF.enc).length ≤ n'' + 194 := by
              have := HR.out.1.size
              rw [HT.out]
              simp only [List.length_append] at this ⊢
              omega
            have H7 : Hid (OwnB w6 W1.heap.size a6 (hd3 ++ (x.adds.take (j + 1)).flatMap PF.enc).length k6 (hd3 ++ (x.adds.take (j + 1)).flatMap PF.enc) ∧ Below W1.heap.size W1 w6) := ⟨ho6, (H6.out.1.alloc H6.out.2 _).trans hb6⟩
            clear ho6 hb6
            generalize (hd3 ++ (x.adds.take (j + 1)).flatMap PF.enc).length = L6 at hln H7 ⊢
            go_wp2
            go_roundw
            case rel => exact ⟨j + 1, a6, L6, k6, hjn, by go_num, rfl, by omega, H7.out⟩
            case measure => simp only [intOf]; omega
          · have HF : Hid (OwnB wr W1.heap.size a'' n'' c'' x.lay ∧ Below W1.heap.size W1 wr ∧ Below w.heap.size w wr) := by
              have h1 := HR.out.1
              rw [List.take_of_length_le (by omega)] at h1
              have e : hd3 ++ x.adds.flatMap PF.enc = x.lay := by
                rw [HL.out.1, HH3.out, HH2.out, HH.out]
                unfold PE.enc
                simp
              rw [e] at h1
              exact ⟨h1, HR.out.2, HW.out.1.trans (HR.out.2.mono HW.out.2.2.2)⟩
            have hs := HF.out.1.size
            go_wp2
            go_ret2
            rw [hs]
            exact ⟨a'', c'', ret2 rfl rfl, HF.out.1.mono HW.out.2.2.2, HF.out.2.2⟩
  · have hne : (((x.err : Nat) : Int) != 0) = true := by simp; omega
    have HL : Hid (x.lay = []) := PE.lay_no her
    generalize x.err = er at *
    go_enter Tryz.func70, Tryz.ntmps70
    go_wp2_with fail
    refine (HC.out _ rfl).mono ?_
    rintro _ w2 ⟨rfl, hb2⟩
    have H2 : Hid (Below w.heap.size w w2) := HW.out.1.trans (hb2.mono HW.out.2.2.2)
    clear hb2
    go_wp2
    go_ret2
    rw [HL.out]
    exact ⟨none, 0, ret2 rfl rfl, OwnB.none0 _ _, H2.out⟩
end Go.Proofs.YtmlfbihlbiikeaaGreatDoor
namespace Go.Proofs.YtmlfbihlbiikeaaGreatDoor
open Go.RowKit
theorem strOf_beq (x y : List UInt8) : ((strOf x).toList == (strOf y).toList) = (x == y) := by
  rw [ByteArray.toList_eq, ByteArray.toList_eq]
  simp [strOf]
set_option maxRecDepth 100000 in
set_option maxHeartbeats 1000000 in
theorem equal_any (a1 a2 : Option Addr) (n1 c1 n2 c2 : Nat) (x y : List UInt8) (w : World) (h1 : BsAt w a1 n1 c1 x) (h2 : BsAt w a2 n2 c2 y) :
    Calls Tryz.prog 144 #[.slice a1 n1 c1, .slice a2 n2 c2] w fun e w' => e = .returned (.bool (x == y)) ∧ w' = w := by
  have e1 := conv_of h1
  have e2 := conv_of h2
  have HE : Hid (_ = _) := strOf_beq x y
  clear h1 h2
  generalize strOf x = X at e1 HE
  generalize strOf y = Y at e2 HE
  go_enter Tryz.func144, Tryz.ntmps144
  go_wp2
  all_goals go_ret
  all_goals (rw [← HE.out]; exact ⟨ret1 rfl, rfl⟩)
end Go.Proofs.YtmlfbihlbiikeaaGreatDoor
namespace Go.Proofs.YtmlfbihlbiikeaaGreatDoor
open Go.RowKit
set_option linter.unusedVariables false
set_option linter.unusedSimpArgs false
abbrev TEr : TypeId := 33
set_option maxRecDepth 100000 in
theorem catch_panicking (q1 q2 : Nat) (x : PE) (s : SE) (v2 : Value) (u : TypeId) (pv : Value) (older : List PanicEntry) (w : World) (hne : q1 ≠ q2) (h1 : Box w q1 TE (eA x s)) (h2 : Box w q2 TEr #[v2]) :
    CallsD Tryz.prog 141 #[at_ q1, at_ q2] (.panicking ({ v := .iface u pv, recovered := false } :: older)) w fun e u' w' =>
      e = .returned (.tuple #[]) ∧ u' = .panicking ({ v := .iface u pv, recovered := true } :: older) ∧ w' = (((((w.setCell ⟨q1, 0, none⟩ (.int .u64 0)).setCell ⟨q1, 1, none⟩ (.int .u64 0)).setCell ⟨q1, 2, none⟩ (.int .u64 0)).setCell ⟨q1, 3, none⟩ (.slice none 0 0)).setCell ⟨q1, 4, none⟩ (.slice none 0 0)).setCell ⟨q2, 0, none⟩ (.int .i64 133) := by
  obtain ⟨c0, c1, c2, c3, c4⟩ := h1.five
  have d2 : w.cell? ⟨q2, 0, none⟩ = some v2 := h2.cell 0
  have z0 := h1.soft 0
  have z1 := h1.soft 1
  have z2 := h1.soft 2
  have z3 := h1.soft 3
  have z4 := h1.soft 4
  have y2 := h2.soft 0
  refine callsD_of_wpS Tryz.func141 rfl fun k₀ cs hu => ?_
  apply wpS_seq
  apply wpS_region
  simp [wpOpsS, go_sem, recoverD, hu, Tryz.ntmps141, Exit.thenS]
  refine wpS_cond (t := true) (by simp [Act.eval, Array.replicate]) ?_
  simp only [if_true]
  apply wpS_region
  simp [wpOpsS, go_sem, c0, c1, c2, c3, c4, d2, z0, z1, z2, z3, z4, y2, hne, bodyPostS, results, Tryz.results141]
set_option maxRecDepth 100000 in
theorem catch_idle (q1 q2 : Nat) (w : World) :
    CallsD Tryz.prog 141 #[at_ q1, at_ q2] .returning w fun e u' w' => e = .returned (.tuple #[]) ∧ u' = .returning ∧ w' = w := by
  refine callsD_of_wpS Tryz.func141 rfl fun c₀ cs hu => ?_
  apply wpS_seq
  apply wpS_region
  simp [wpOpsS, go_sem, recoverD, hu, Tryz.ntmps141, Exit.thenS]
  refine wpS_cond (t := false) (by simp [Act.eval, Array.replicate]) ?_
  simp only [Bool.false_eq_true, if_false]
  refine wpS_of_wp (wp_skip ?_)
  cases c₀
  simp_all [bodyPostS, results, Tryz.results141]
theorem readL_all {α : Type} {f : List UInt8 → Option (α × List UInt8)} : ∀ {n : Nat} {b r : List UInt8} {l : List α}, readL f n b = some (l, r) → ∀ x ∈ l, ∃ b' r', f b' = some (x, r')
  | 0, b, r, l, h => by
    simp only [readL, Option.some.injEq, Prod.mk.injEq] at h
    intro x hx
    rw [← h.1] at hx
    cases hx
  | n + 1, b, r, l, h => by
    rw [readL] at h
    simp only [Option.bind_eq_some_iff, Option.map_eq_some_iff, Prod.exists, Prod.mk.injEq] at h
    obtain ⟨y, b1, h1, l1, r1, h2, rfl, rfl⟩ := h
    intro x hx
    rcases List.mem_cons.1 hx with rfl | hx
    · exact ⟨b, b1, h1⟩
    · exact readL_all h2 x hx
theorem takeF_wf {b r : List UInt8} {f : PF} (h : takeF b = some (f, r)) : WfF f := by
  unfold takeF at h
  simp only [Option.bind_eq_some_iff, Option.some.injEq, Prod.mk.injEq, Prod.exists] at h
  obtain ⟨g, b1, h1, n, b2, h2, k, b3, h3, k', b4, h4, rfl, rfl⟩ := h
  have e3 := err_le (keyR_len h3).2
  have e4 := err_le (keyR_len h4).2
  exact ⟨by show k.user.size ≤ _; omega, by show k'.user.size ≤ _; omega⟩
theorem takeE_wf {b : List UInt8} {x : PE} (h : takeE b = some x) : WfE x := by
  unfold takeE at h
  simp only [Option.bind_eq_some_iff, Option.some.injEq, Prod.exists] at h
  obtain ⟨_, _, _, _, _, _, _, _, _, _, _, _, d, _, _, m, _, _, ad, _, h7, rfl⟩ := h
  intro f hf
  obtain ⟨b', r', hb⟩ := readL_all h7 f hf
  exact takeF_wf hb
structure DS (w W : World) (x : PE) (s : SE) : Prop where
  base : Below w.heap.size w W
  var : Box W w.heap.size TE (eA x s)
  er : Box W (w.heap.size + 1) TEr #[.int .i64 0]
  gs : OwnG W (w.heap.size + 2) s.a x.dels.length s.c x.dels
  fs : OwnF W (w.heap.size + 2) s.a' x.adds.length s.c' x.adds
theorem DS.call {w W W' : World} {x : PE} {s : SE} (h : DS w W x s) (hb : Below W.heap.size W W') : DS w W' x s := ⟨h.base.trans (hb.mono h.base.size), h.var.kept (hb.block _ h.var.lt), h.er.kept (hb.block _ h.er.lt), h.gs.below hb, h.fs.below hb⟩
theorem DS.ed {w W : World} {x : PE} {s : SE} (h : DS w W x s) : EdAt W x s := ⟨h.gs.gs, h.fs.fs⟩
def set5 (W : World) (q : Nat) (x : PE) (s : SE) : World := ((((W.setCell ⟨q, 0, none⟩ (.int .u64 (x.log : Int))).setCell ⟨q, 1, none⟩ (.int .u64 (x.next : Int))).setCell ⟨q, 2, none⟩ (.int .u64 (x.last : Int))).setCell ⟨q, 3, none⟩ (.slice s.a x.dels.length s.c)).setCell ⟨q, 4, none⟩ (.slice s.a' x.adds.length s.c')
theorem set5_box {W : World} {q : Nat} {x : PE} {s : SE} {x0 : PE} {s0 : SE} (h : Box W q TE (eA x0 s0)) : Box (set5 W q x s) q TE (eA x s) := by
  have := ((((h.set 0 (.int .u64 (x.log : Int))).set 1 (.int .u64 (x.next : Int))).set 2 (.int .u64 (x.last : Int))).set 3 (.slice s.a x.dels.length s.c)).set 4 (.slice s.a' x.adds.length s.c')
  refine this.eq ?_
  simp [eA]
theorem set5_heap {W : World} {q k : Nat} {x : PE} {s : SE} (h : k ≠ q) : (set5 W q x s).heap[k]? = W.heap[k]? := by
  unfold set5
  rw [Below.heap_setCell _ _ _ _ h, Below.heap_setCell _ _ _ _ h, Below.heap_setCell _ _ _ _ h, Below.heap_setCell _ _ _ _ h, Below.heap_setCell _ _ _ _ h]
theorem set5_below {w W : World} {B q : Nat} {x : PE} {s : SE} (h : Below B w W) (hq : B ≤ q) : Below B w (set5 W q x s) := ((((h.setCell hq _).setCell hq _).setCell hq _).setCell hq _).setCell hq _
theorem decE_no {b : List UInt8} (h : takeE b = none) : decE b = none := by unfold decE; rw [h]; rfl
theorem decE_no2 {b : List UInt8} {x : PE} (h : takeE b = some x) (h2 : ¬ (x.err = 0 ∧ x.enc = b)) : decE b = none := by unfold decE; rw [h, Option.bind_some, if_neg h2]
theorem decE_yes {b : List UInt8} {x : PE} (h : takeE b = some x) (h2 : x.err = 0 ∧ x.enc = b) : decE b = some x := by unfold decE; rw [h, Option.bind_some, if_pos h2]
set_option maxRecDepth 100000 in
set_option maxHeartbeats 4000000 in
theorem edec_any (a : Option Addr) (n c : Nat) (b : List UInt8) (w : World) (h : BsAt w a n c b) (hl : n ≤ 200000000000000) :
    Calls Tryz.prog 90 #[.slice a n c] w fun r w' => Below w.heap.size w w' ∧ ((decE b = none ∧ r = .returned (.tuple #[.agg #[.int .u64 0, .int .u64 0, .int .u64 0, .slice none 0 0, .slice none 0 0], .int .i64 133])) ∨ ∃ (x : PE) (s : SE), decE b = some x ∧ r = .returned (.tuple #[.agg #[.int .u64 (x.log : Int), .int .u64 (x.next : Int), .int .u64 (x.last : Int), .slice s.a x.dels.length s.c, .slice s.a' x.adds.length s.c'], .int .i64 0]) ∧ OwnG w' w.heap.size s.a x.dels.length s.c x.dels ∧ OwnF w' w.heap.size s.a' x.adds.length s.c' x.adds) := by
  have hmf : ∀ (fn : Fn) (first cap : Array Value) (w : World), (Instr.makeFunc fn first cap).run Tryz.prog w = .ok (.func fn first cap) w := fun _ _ _ _ => rfl
  have HB : Hid (BsAt w a n c b) := h
  obtain ⟨W1, e1, HW⟩ : ∃ W1, W1 = (w.alloc (.cells (eA ez sz0) TE)).alloc (.cells #[.int .i64 0] TEr) ∧ Hid (Below w.heap.size w W1 ∧ Box W1 w.heap.size TE (eA ez sz0) ∧ Box W1 (w.heap.size + 1) TEr #[.int .i64 0] ∧ W1.heap.size = w.heap.size + 2) :=
    ⟨_, rfl, ((Below.refl _ _).alloc (Nat.le_refl _) _).alloc (by simp) _, (Box.new _ _ _).alloc _, by have := Box.new (w.alloc (.cells (eA ez sz0) TE)) TEr #[.int .i64 0]; simpa using this, by simp⟩
  have hta : ∀ W, W = (w.alloc (.cells (eA ez sz0) TE)).alloc (.cells #[.int .i64 0] TEr) → Calls Tryz.prog 142 #[.slice a n c] W fun r w' => Below W1.heap.size W1 w' ∧ ((takeE b = none ∧ r = gaveUp) ∨ ∃ (x : PE) (s : SE), takeE b = some x ∧ r = .returned (.agg #[.int .u64 (x.log : Int), .int .u64 (x.next : Int), .int .u64 (x.last : Int), .slice s.a x.dels.length s.c, .slice s.a' x.adds.length s.c']) ∧ OwnG w' W1.heap.size s.a x.dels.length s.c x.dels ∧ OwnF w' W1.heap.size s.a' x.adds.length s.c' x.adds) := by
    rintro W rfl
    rw [← e1]
    exact taken_any a n c b W1 (h.below (Nat.le_refl _) HW.out.1) hl
  clear h e1
  go_enter_defers Tryz.func90, Tryz.ntmps90
  go_wp2_with fail
  refine (hta _ rfl).mono ?_
  rintro _ w2 ⟨hb2, ⟨hno, rfl⟩ | ⟨x, s, hx, rfl, hog, hof⟩⟩
  · have H2 : Hid (Below w.heap.size w w2 ∧ Box w2 w.heap.size TE (eA ez sz0) ∧ Box w2 (w.heap.size + 1) TEr #[.int .i64 0]) := ⟨HW.out.1.trans (hb2.mono HW.out.1.size), HW.out.2.1.kept (hb2.block _ HW.out.2.1.lt), HW.out.2.2.1.kept (hb2.block _ HW.out.2.2.1.lt)⟩
    refine leaves_cons (f := 141) (args := #[at_ w.heap.size, at_ (w.heap.size + 1)]) (by simp) (by simp [go_sem]) ?_
    refine (catch_panicking w.heap.size (w.heap.size + 1) _ _ _ _ _ [] _ (by omega) H2.out.2.1 H2.out.2.2).mono ?_
    rintro e u' w3 ⟨rfl, rfl, rfl⟩
    obtain ⟨c0, c1, c2, c3, c4⟩ := H2.out.2.1.five
    have d0 : w2.cell? ⟨w.heap.size + 1, 0, none⟩ = some (.int .i64 0) := H2.out.2.2.cell 0
    simp [Leaves, settle, results, Tryz.results90, go_sem, c0, c1, c2, c3, c4, d0]
    exact ⟨((((((H2.out.1.setCell (by simp) _).setCell (by simp) _).setCell (by simp) _).setCell (by simp) _).setCell (by simp) _).setCell (by simp) _), decE_no hno⟩
  · have HX : Hid (takeE b = some x ∧ WfE x) := ⟨hx, takeE_wf hx⟩
    have hv2 := HW.out.2.1.kept (hb2.block _ HW.out.2.1.lt)
    have H2 : Hid (DS w (set5 w2 w.heap.size x s) x s) := by
      rw [HW.out.2.2.2] at hog hof
      refine ⟨set5_below (HW.out.1.trans (hb2.mono HW.out.1.size)) (Nat.le_refl _), set5_box hv2, (HW.out.2.2.1.kept (hb2.block _ HW.out.2.2.1.lt)).kept (set5_heap (by omega)), hog.kept fun k e => set5_heap (by have := hog.ge e; omega), hof.kept fun k e => set5_heap (by have := hof.ge e; omega)⟩
    obtain ⟨c0, c1, c2, c3, c4⟩ := hv2.five
    have z0 := hv2.soft 0
    have z1 := hv2.soft 1
    have z2 := hv2.soft 2
    have z3 := hv2.soft 3
    have z4 := hv2.soft 4
    clear hta hb2 hx hog hof hv2
    go_wp2_with fail
    refine (eenc_any x s (set5 w2 w.heap.size x s) H2.out.ed HX.out.2).mono ?_
    rintro _ w3 ⟨a3, k3, rfl, ho3, hb3⟩
    have H3 : Hid (DS w w3 x s) := H2.out.call hb3
    have hbl := HB.out.below (Nat.le_refl _) H3.out.base
    have heq := equal_any a3 a x.lay.length k3 n c x.lay b w3 ho3.bs hbl
    have HLY : Hid (x.err = 0 → x.lay = x.enc) := PE.lay_yes
    clear ho3 hb3 hbl c0 c1 c2 c3 c4 z0 z1 z2 z3 z4 H2
    generalize x.lay.length = L at heq ⊢
    by_cases her : x.err = 0
    · rw [her]
      by_cases hb : x.lay = b
      · have HY : Hid (decE b = some x) := decE_yes HX.out.1 ⟨her, by rw [← HLY.out her]; exact hb⟩
        rw [show (x.lay == b) = true by simp [hb]] at heq
        clear her hb
        go_wp2_with fail
        refine heq.mono ?_
        rintro _ w4 ⟨rfl, hw⟩
        obtain rfl : w3 = w4 := hw.symm
        go_wp2_with fail
        refine (must_yes _).mono ?_
        rintro _ _ ⟨rfl, rfl⟩
        obtain ⟨c0, c1, c2, c3, c4⟩ := H3.out.var.five
        have d0 : w3.cell? ⟨w.heap.size + 1, 0, none⟩ = some (.int .i64 0) := H3.out.er.cell 0
        have z0 := H3.out.var.soft 0
        have z1 := H3.out.var.soft 1
        have z2 := H3.out.var.soft 2
        have z3 := H3.out.var.soft 3
        have z4 := H3.out.var.soft 4
        have y0 := H3.out.er.soft 0
        clear hw heq
        go_wp2
        have H6 : Hid (DS w ((set5 w3 w.heap.size x s).setCell ⟨w.heap.size + 1, 0, none⟩ (.int .i64 0)) x s) := by
          refine ⟨(set5_below H3.out.base (Nat.le_refl _)).setCell (by simp) _, (set5_box H3.out.var).other (by omega) _ _, (((H3.out.er.kept (set5_heap (by omega))).set 0 _).eq (by simp)), H3.out.gs.kept fun k e => ?_, H3.out.fs.kept fun k e => ?_⟩
          · have := H3.out.gs.ge e
            rw [Below.heap_setCell _ _ _ _ (by show k ≠ w.heap.size + 1; omega), set5_heap (by omega)]
          · have := H3.out.fs.ge e
            rw [Below.heap_setCell _ _ _ _ (by show k ≠ w.heap.size + 1; omega), set5_heap (by omega)]
        unfold set5 at H6
        generalize (((((w3.setCell ⟨w.heap.size, 0, none⟩ (.int .u64 (x.log : Int))).setCell ⟨w.heap.size, 1, none⟩ (.int .u64 (x.next : Int))).setCell ⟨w.heap.size, 2, none⟩ (.int .u64 (x.last : Int))).setCell ⟨w.heap.size, 3, none⟩ (.slice s.a x.dels.length s.c)).setCell ⟨w.heap.size, 4, none⟩ (.slice s.a' x.adds.length s.c')).setCell ⟨w.heap.size + 1, 0, none⟩ (.int .i64 0) = w6 at H6 ⊢
        refine leaves_cons (f := 141) (args := #[at_ w.heap.size, at_ (w.heap.size + 1)]) (by simp) (by simp [go_sem]) ?_
        refine (catch_idle w.heap.size (w.heap.size + 1) _).mono ?_
        rintro e u' w7 ⟨rfl, rfl, hw⟩
        obtain rfl : w6 = w7 := hw.symm
        obtain ⟨t0, t1, t2, t3, t4⟩ := H6.out.var.five
        have t5 : w6.cell? ⟨w.heap.size + 1, 0, none⟩ = some (.int .i64 0) := H6.out.er.cell 0
        clear c0 c1 c2 c3 c4 d0 z0 z1 z2 z3 z4 y0
        simp [Leaves, settle, results, Tryz.results90, go_sem, t0, t1, t2, t3, t4, t5]
        refine ⟨H6.out.base, ?_⟩
        exact ⟨x, HY.out, s, ⟨rfl, rfl, rfl, ⟨rfl, rfl, rfl⟩, rfl, rfl, rfl⟩, H6.out.gs.less (by omega), H6.out.fs.less (by omega)⟩
      · have HNO : Hid (decE b = none) := decE_no2 HX.out.1 (fun h => hb (by rw [HLY.out her]; exact h.2))
        rw [show (x.lay == b) = false by simp [hb]] at heq
        clear her hb
        go_wp2_with fail
        refine heq.mono ?_
        rintro _ w4 ⟨rfl, hw⟩
        obtain rfl : w3 = w4 := hw.symm
        go_wp2_with fail
        refine (must_no _).mono ?_
        rintro _ w5 ⟨rfl, hw5⟩
        obtain rfl : w3 = w5 := hw5
        refine leaves_cons (f := 141) (args := #[at_ w.heap.size, at_ (w.heap.size + 1)]) (by simp) (by simp [go_sem]) ?_
        refine (catch_panicking w.heap.size (w.heap.size + 1) _ _ _ _ _ [] _ (by omega) H3.out.var H3.out.er).mono ?_
        rintro e u' w9 ⟨rfl, rfl, rfl⟩
        obtain ⟨c0, c1, c2, c3, c4⟩ := H3.out.var.five
        have d0 : w3.cell? ⟨w.heap.size + 1, 0, none⟩ = some (.int .i64 0) := H3.out.er.cell 0
        simp [Leaves, settle, results, Tryz.results90, go_sem, c0, c1, c2, c3, c4, d0]
        exact ⟨((((((H3.out.base.setCell (by simp) _).setCell (by simp) _).setCell (by simp) _).setCell (by simp) _).setCell (by simp) _).setCell (by simp) _), HNO.out⟩
    · have HNO : Hid (decE b = none) := decE_no2 HX.out.1 (fun h => her h.1)
      have hne : (((x.err : Nat) : Int) == 0) = false := by simp; omega
      generalize x.err = er at hne ⊢
      go_wp2_with fail
      refine (must_no _).mono ?_
      rintro _ w5 ⟨rfl, hw5⟩
      obtain rfl : w3 = w5 := hw5
      refine leaves_cons (f := 141) (args := #[at_ w.heap.size, at_ (w.heap.size + 1)]) (by simp) (by simp [go_sem]) ?_
      refine (catch_panicking w.heap.size (w.heap.size + 1) _ _ _ _ _ [] _ (by omega) H3.out.var H3.out.er).mono ?_
      rintro e u' w9 ⟨rfl, rfl, rfl⟩
      obtain ⟨c0, c1, c2, c3, c4⟩ := H3.out.var.five
      have d0 : w3.cell? ⟨w.heap.size + 1, 0, none⟩ = some (.int .i64 0) := H3.out.er.cell 0
      simp [Leaves, settle, results, Tryz.results90, go_sem, c0, c1, c2, c3, c4, d0]
      exact ⟨((((((H3.out.base.setCell (by simp) _).setCell (by simp) _).setCell (by simp) _).setCell (by simp) _).setCell (by simp) _).setCell (by simp) _), HNO.out⟩
end Go.Proofs.YtmlfbihlbiikeaaGreatDoor
