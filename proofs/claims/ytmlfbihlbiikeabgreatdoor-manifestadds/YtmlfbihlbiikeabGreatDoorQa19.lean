/- The contract of edit.Encode. -/
import Derived.Test.YtmlfbihlbiikeabGreatDoorQa18
import Derived.Test.YtmlfbihlbiikeabGreatDoorQa01
namespace Go.Proofs.YtmlfbihlbiikeabGreatDoor
open Go.RowKit
set_option linter.unusedVariables false
set_option linter.unusedSimpArgs false
theorem OwnB.none0 (w : World) (B : Nat) : OwnB w B none 0 0 [] := ⟨rfl, World.ownsRow_nil _ _ _ 1⟩
theorem PG.enc_len (g : PG) : g.enc.length ≤ 20 := by
  have h1 := uvEnc_length g.level.toNat
  have h2 := uvEnc_length g.num
  unfold PG.enc
  rw [List.length_append]
  omega
theorem PF.enc_len {f : PF} (h : f.err = 0) : f.enc.length ≤ 194 := by
  obtain ⟨_, _, _, h7, h8, _⟩ := PF.err_zero h
  have h1 := uvEnc_length f.level.toNat
  have h2 := uvEnc_length f.num
  have h3 := uvEnc_length f.size.toNat
  have h4 := enc_size h7
  have h5 := enc_size h8
  unfold PF.enc
  simp only [List.length_append]
  omega
theorem flat_le {α : Type} {f : α → List UInt8} {m : Nat} : ∀ {l : List α}, (∀ x ∈ l, (f x).length ≤ m) → (l.flatMap f).length ≤ l.length * m
  | [], _ => by simp
  | x :: r, h => by
    have ih := flat_le (l := r) (fun y hy => h y (by simp [hy]))
    have h0 := h x (by simp)
    rw [List.flatMap_cons, List.length_append, List.length_cons, Nat.succ_mul]
    omega
theorem PE.enc_len {x : PE} (h : x.err = 0) : x.enc.length ≤ 420000 := by
  obtain ⟨h1, h2, _, _, _, h6, h7⟩ := PE.err_zero h
  have e1 := uvEnc_length x.log
  have e2 := uvEnc_length x.next
  have e3 := uvEnc_length x.last
  have e4 := uvEnc_length x.dels.length
  have e5 := uvEnc_length x.adds.length
  have d1 := flat_le (f := PG.enc) (m := 20) (l := x.dels) (fun g _ => PG.enc_len g)
  have d2 := flat_le (f := PF.enc) (m := 194) (l := x.adds) (fun f hf => PF.enc_len (h7 f hf))
  unfold PE.enc
  simp only [List.length_append]
  omega
theorem PE.lay_len (x : PE) : x.lay.length ≤ 420000 := by
  unfold PE.lay
  split
  · exact PE.enc_len (by assumption)
  · simp
theorem PE.lay_no {x : PE} (h : ¬ x.err = 0) : x.lay = [] := by unfold PE.lay; rw [if_neg h]
theorem PE.lay_yes {x : PE} (h : x.err = 0) : x.lay = x.enc := by unfold PE.lay; rw [if_pos h]
theorem take_flat {α : Type} {f : α → List UInt8} {l : List α} {k : Nat} (hk : k < l.length) : (l.take (k + 1)).flatMap f = (l.take k).flatMap f ++ f l[k] := by
  rw [List.take_succ_eq_append_getElem hk, List.flatMap_append]
  simp
set_option maxRecDepth 100000 in
set_option maxHeartbeats 2000000 in
theorem eenc_any (x : PE) (s : SE) (w : World) (h : EdAt w x s) (hw : WfE x) :
    Calls Tryz.prog 12 #[.agg #[.int .u64 (x.log : Int), .int .u64 (x.next : Int), .int .u64 (x.last : Int), .slice s.a x.dels.length s.c, .slice s.a' x.adds.length s.c']] w fun e w' => ∃ a' c', e = .returned (.tuple #[.slice a' x.lay.length c', .int .i64 ((x.err : Nat) : Int)]) ∧ OwnB w' w.heap.size a' x.lay.length c' x.lay ∧ Below w.heap.size w w' := by
  obtain ⟨W1, e1, HW⟩ : ∃ W1, W1 = w.alloc (.cells (eA x s) TE) ∧ Hid (Below w.heap.size w W1 ∧ Box W1 w.heap.size TE (eA x s) ∧ EdAt W1 x s ∧ w.heap.size ≤ W1.heap.size) := ⟨_, rfl, (Below.refl _ _).alloc (Nat.le_refl _) _, Box.new _ _ _, h.below ((Below.refl _ _).alloc (Nat.le_refl _) _), by simp⟩
  have HC : Hid (∀ W, W = w.alloc (.cells (eA x s) TE) → Calls Tryz.prog 16 #[.agg #[.int .u64 (x.log : Int), .int .u64 (x.next : Int), .int .u64 (x.last : Int), .slice s.a x.dels.length s.c, .slice s.a' x.adds.length s.c']] W fun e w' => e = .returned (.int .i64 ((x.err : Nat) : Int)) ∧ Below W1.heap.size W1 w') := by
    rintro W rfl
    rw [← e1]
    exact echeck_any x s W1 HW.out.2.2.1 hw
  have HWf : Hid (WfE x) := hw
  have HZ : Hid (∀ W, W = w.alloc (.cells (eA x s) TE) → W = W1) := by rintro W rfl; exact e1.symm
  clear h hw e1
  by_cases her : x.err = 0
  · have HL : Hid (x.lay = x.enc ∧ x.err = 0) := ⟨PE.lay_yes her, her⟩
    obtain ⟨hd20, ha100, hlog, hnext, hlast, hde, hae⟩ := PE.err_zero her
    have HD : Hid ((∀ g ∈ x.dels, g.err = 0) ∧ ∀ f ∈ x.adds, f.err = 0) := ⟨hde, hae⟩
    rw [her] at HC
    rw [her]
    clear her hde hae
    have hm := HW.out.2.2.1.gs.row.max
    have hl := HW.out.2.2.1.gs.row.le
    have hm' := HW.out.2.2.1.fs.row.max
    have hl' := HW.out.2.2.1.fs.row.le
    unfold maxLen at hm hm'
    go_enter Tryz.func12, Tryz.ntmps12
    go_wp2_with fail
    refine (HC.out _ rfl).mono ?_
    rintro _ w2 ⟨rfl, hb2⟩
    have H2 : Hid (Below W1.heap.size W1 w2) := hb2
    have h2s : W1.heap.size ≤ w2.heap.size := hb2.size
    obtain ⟨c0, c1, c2, c3, c4⟩ := (HW.out.2.1.kept (hb2.block _ HW.out.2.1.lt)).five
    clear hb2 HC
    go_wp2_with fail
    refine (layNumbers_any W1.heap.size none 0 0 [] [x.log, x.next, x.last, x.dels.length] w2.heap.size 4 _ _ (OwnB.none0 _ _) (by simp; omega) rfl (Box.new _ _ _) rfl (by intro n hn; simp at hn; omega) (by omega) (by omega)).mono ?_
    rintro _ w3 ⟨a3, k3, rfl, ho3, hb3, _⟩
    obtain ⟨hd, hhd⟩ : ∃ hd, hd = ([] ++ [x.log, x.next, x.last, x.dels.length].flatMap uvEnc : List UInt8) := ⟨_, rfl⟩
    have HH : Hid (hd = uvEnc x.log ++ (uvEnc x.next ++ (uvEnc x.last ++ uvEnc x.dels.length))) := by
      show hd = _
      rw [hhd]
      simp
    rw [← hhd] at ho3 ⊢
    have hhl : hd.length ≤ 40 := by
      have e1 := uvEnc_length x.log
      have e2 := uvEnc_length x.next
      have e3 := uvEnc_length x.last
      have e4 := uvEnc_length x.dels.length
      rw [HH.out]
      simp only [List.length_append]
      omega
    have H3 : Hid (OwnB w3 W1.heap.size a3 hd.length k3 hd ∧ Below W1.heap.size W1 w3) := ⟨ho3, (H2.out.alloc h2s _).trans hb3⟩
    obtain ⟨c0, c1, c2, c3, c4⟩ := (HW.out.2.1.kept (H3.out.2.block _ HW.out.2.1.lt)).five
    clear hhd ho3 hb3
    generalize hd.length = L at hhl H3 ⊢
    go_wp2_with fail
    clear c0 c1 c2 c3 c4
    go_loopw [5, 30] (fun o i wr => ∃ (k : Nat) (a' : Option Addr) (n' c' : Nat), k ≤ x.dels.length ∧ i = .int .i64 (k : Int) ∧ o = .slice a' n' c' ∧ n' ≤ 40 + 20 * k ∧ Hid (OwnB wr W1.heap.size a' n' c' (hd ++ (x.dels.take k).flatMap PG.enc) ∧ Below W1.heap.size W1 wr)) (fun _ i _ => x.dels.length - (intOf i).toNat)
    case atStart => exact ⟨0, a3, L, k3, Nat.zero_le _, rfl, rfl, by omega, by simpa using H3.out.1, H3.out.2⟩
    case round =>
      obtain ⟨k, a', n', c', hk, rfl, rfl, hn', HR⟩ := hrel
      by_cases hkn : k < x.dels.length
      · obtain ⟨b, o, hidx, hlt, hcs⟩ := HW.out.2.2.1.gs.at hkn
        obtain ⟨c0, c1⟩ := hcs wr HR.out.2
        have hge := HD.out.1 x.dels[k] (List.getElem_mem hkn)
        have HT : Hid ((x.dels.take (k + 1)).flatMap PG.enc = (x.dels.take k).flatMap PG.enc ++ (x.dels[k]).enc) := take_flat hkn
        clear hcs
        generalize x.dels[k] = g at c0 c1 hge HT
        obtain ⟨g1, g2, g3, g4⟩ := gErr_zero hge
        have hgl := PG.enc_len g
        obtain ⟨lv, hlv⟩ : ∃ lv : Nat, g.level = (lv : Int) := ⟨g.level.toNat, by omega⟩
        have HG : Hid (g.enc = [lv, g.num].flatMap uvEnc) := by
          show g.enc = _
          unfold PG.enc
          rw [hlv]
          simp
        rw [hlv] at c0 g1 g2
        clear hge hlv
        have hrs := HR.out.2.size
        have H4 : Hid (∀ o1 o2 : Obj, OwnB ((wr.alloc o1).alloc o2) W1.heap.size a' n' c' (hd ++ (x.dels.take k).flatMap PG.enc) ∧ Below W1.heap.size W1 ((wr.alloc o1).alloc o2)) := fun o1 o2 => ⟨(HR.out.1.alloc _).alloc _, (HR.out.2.alloc hrs _).alloc (by simp; omega) _⟩
        go_wp2_with fail
        refine (layNumbers_any W1.heap.size a' n' c' _ [lv, g.num] (wr.heap.size + 1) 2 _ _ (H4.out _ _).1 (by simp; omega) rfl (by have := Box.new (wr.alloc (.cells #[.int .i64 (lv : Int), .int .u64 (g.num : Int)] 79)) 23 #[.int .u64 (lv : Int), .int .u64 (g.num : Int)]; simpa using this) rfl (by intro n hn; simp at hn; omega) (by omega) (by omega)).mono ?_
        rintro _ w4 ⟨a4, k4, rfl, ho4, hb4, _⟩
        rw [← HG.out, List.append_assoc, ← HT.out] at ho4 ⊢
        have hln : (hd ++ (x.dels.take (k + 1)).flatMap PG.enc).length ≤ n' + 20 := by
          have := HR.out.1.size
          rw [HT.out]
          simp only [List.length_append] at this ⊢
          omega
        have H5 : Hid (OwnB w4 W1.heap.size a4 (hd ++ (x.dels.take (k + 1)).flatMap PG.enc).length k4 (hd ++ (x.dels.take (k + 1)).flatMap PG.enc) ∧ Below W1.heap.size W1 w4) := ⟨ho4, (H4.out _ _).2.trans hb4⟩
        clear ho4 hb4 H4
        generalize (hd ++ (x.dels.take (k + 1)).flatMap PG.enc).length = L4 at hln H5 ⊢
        go_wp2
        go_roundw
        case rel => exact ⟨k + 1, a4, L4, k4, hkn, by go_num, rfl, by omega, H5.out⟩
        case measure => simp only [intOf]; omega
      · have HF : Hid (OwnB wr W1.heap.size a' n' c' (hd ++ x.dels.flatMap PG.enc) ∧ Below W1.heap.size W1 wr) := by
          have := HR.out.1
          rw [List.take_of_length_le (by omega)] at this
          exact ⟨this, HR.out.2⟩
        obtain ⟨c0, c1, c2, c3, c4⟩ := (HW.out.2.1.kept (HR.out.2.block _ HW.out.2.1.lt)).five
        have hrs := HR.out.2.size
        clear HR
        obtain ⟨hd2, hh2⟩ : ∃ hd2, hd2 = hd ++ x.dels.flatMap PG.enc := ⟨_, rfl⟩
        have HH2 : Hid (hd2 = hd ++ x.dels.flatMap PG.enc) := hh2
        rw [← hh2] at HF
        clear hh2
        go_wp2_with fail
        refine (layNumbers_any W1.heap.size a' n' c' hd2 [x.adds.length] wr.heap.size 1 _ _ (HF.out.1.alloc _) (by simp; omega) rfl (Box.new _ _ _) rfl (by intro n hn; simp at hn; omega) (by omega) (by omega)).mono ?_
        rintro _ w4 ⟨a4, k4, rfl, ho4, hb4, _⟩
        obtain ⟨hd3, hh3⟩ : ∃ hd3, hd3 = hd2 ++ [x.adds.length].flatMap uvEnc := ⟨_, rfl⟩
        have HH3 : Hid (hd3 = hd2 ++ uvEnc x.adds.length) := by
          show hd3 = _
          rw [hh3]
          simp
        rw [← hh3] at ho4 ⊢
        have hl3 : hd3.length ≤ n' + 10 := by
          have := HF.out.1.size
          have := uvEnc_length x.adds.length
          rw [HH3.out, List.length_append]
          omega
        have H4 : Hid (OwnB w4 W1.heap.size a4 hd3.length k4 hd3 ∧ Below W1.heap.size W1 w4) := ⟨ho4, (HF.out.2.alloc hrs _).trans hb4⟩
        obtain ⟨c0, c1, c2, c3, c4⟩ := (HW.out.2.1.kept (H4.out.2.block _ HW.out.2.1.lt)).five
        clear hh3 ho4 hb4 HF
        generalize hd3.length = L3 at hl3 H4 ⊢
        go_wp2_with fail
        clear c0 c1 c2 c3 c4
        go_loopw [5, 53] (fun o i wr => ∃ (k : Nat) (a' : Option Addr) (n' c' : Nat), k ≤ x.adds.length ∧ i = .int .i64 (k : Int) ∧ o = .slice a' n' c' ∧ n' ≤ L3 + 194 * k ∧ Hid (OwnB wr W1.heap.size a' n' c' (hd3 ++ (x.adds.take k).flatMap PF.enc) ∧ Below W1.heap.size W1 wr)) (fun _ i _ => x.adds.length - (intOf i).toNat)
        case atStart => exact ⟨0, a4, L3, k4, Nat.zero_le _, rfl, rfl, by omega, by simpa using H4.out.1, H4.out.2⟩
        case round =>
          obtain ⟨j, a'', n'', c'', hj, rfl, rfl, hn'', HR⟩ := hrel
          by_cases hjn : j < x.adds.length
          · obtain ⟨b, o, hidx, hlt, hcs⟩ := HW.out.2.2.1.fs.at hjn
            obtain ⟨c0, c1, c2, c3, c4, c5, c6, c7, c8⟩ := hcs wr HR.out.2
            have hfe := HD.out.2 x.adds[j] (List.getElem_mem hjn)
            have HT : Hid ((x.adds.take (j + 1)).flatMap PF.enc = (x.adds.take j).flatMap PF.enc ++ (x.adds[j]).enc) := take_flat hjn
            clear hcs
            generalize x.adds[j] = f at c0 c1 c2 c3 c4 c5 c6 c7 c8 hfe HT
            obtain ⟨hg0, hs1, hs2, hks, hkl, _⟩ := PF.err_zero hfe
            obtain ⟨g1, g2, g3, g4⟩ := gErr_zero hg0
            have hfl := PF.enc_len hfe
            obtain ⟨lv, hlv⟩ : ∃ lv : Nat, f.level = (lv : Int) := ⟨f.level.toNat, by omega⟩
            obtain ⟨sz, hsz⟩ : ∃ sz : Nat, f.size = (sz : Int) := ⟨f.size.toNat, by omega⟩
            have HG : Hid (f.enc = [lv, f.num, sz].flatMap uvEnc ++ [f.small, f.large].flatMap fun k => txtPut k.enc) := by
              show f.enc = _
              unfold PF.enc
              rw [hlv, hsz]
              simp
            rw [hlv] at c0 g1 g2
            rw [hsz] at c2 hs1 hs2
            have HK : Hid (f.small.err = 0 ∧ f.large.err = 0) := ⟨hks, hkl⟩
            clear hfe hg0 hlv hsz hks hkl
            have hrs := HR.out.2.size
            have H5 : Hid (∀ o1 o2 : Obj, OwnB ((wr.alloc o1).alloc o2) W1.heap.size a'' n'' c'' (hd3 ++ (x.adds.take j).flatMap PF.enc) ∧ Below W1.heap.size W1 ((wr.alloc o1).alloc o2)) := fun o1 o2 => ⟨(HR.out.1.alloc _).alloc _, (HR.out.2.alloc hrs _).alloc (by simp; omega) _⟩
            have H5b : Hid (Box (wr.alloc (.cells #[.int .i64 (lv : Int), .int .u64 (f.num : Int), .int .i64 (sz : Int), .string f.small.user, .int .u64 (f.small.seq : Int), .int .i64 f.small.kind, .string f.large.user, .int .u64 (f.large.seq : Int), .int .i64 f.large.kind] 83)) wr.heap.size TF #[.int .i64 (lv : Int), .int .u64 (f.num : Int), .int .i64 (sz : Int), .string f.small.user, .int .u64 (f.small.seq : Int), .int .i64 f.small.kind, .string f.large.user, .int .u64 (f.large.seq : Int), .int .i64 f.large.kind]) := Box.new _ _ _
            go_wp2_with fail
            refine (layNumbers_any W1.heap.size a'' n'' c'' _ [lv, f.num, sz] (wr.heap.size + 1) 3 _ _ (H5.out _ _).1 (by simp; omega) rfl (by have := Box.new (wr.alloc (.cells #[.int .i64 (lv : Int), .int .u64 (f.num : Int), .int .i64 (sz : Int), .string f.small.user, .int .u64 (f.small.seq : Int), .int .i64 f.small.kind, .string f.large.user, .int .u64 (f.large.seq : Int), .int .i64 f.large.kind] 83)) 23 #[.int .u64 (lv : Int), .int .u64 (f.num : Int), .int .u64 (sz : Int)]; simpa using this) rfl (by intro n hn; simp at hn; omega) (by omega) (by omega)).mono ?_
            rintro _ w5 ⟨a5, k5, rfl, ho5, hb5, hk5⟩
            have H6 : Hid (Below W1.heap.size W1 w5 ∧ W1.heap.size ≤ w5.heap.size) := ⟨(H5.out _ _).2.trans hb5, ((H5.out _ _).2.trans hb5).size⟩
            have hbx := hk5 _ _ _ (H5b.out.alloc _) (by decide)
            have d3 : w5.cell? ⟨wr.heap.size, 3, none⟩ = some (.string f.small.user) := hbx.cell 3
            have d4 : w5.cell? ⟨wr.heap.size, 4, none⟩ = some (.int .u64 (f.small.seq : Int)) := hbx.cell 4
            have d5 : w5.cell? ⟨wr.heap.size, 5, none⟩ = some (.int .i64 f.small.kind) := hbx.cell 5
            have d6 : w5.cell? ⟨wr.heap.size, 6, none⟩ = some (.string f.large.user) := hbx.cell 6
            have d7 : w5.cell? ⟨wr.heap.size, 7, none⟩ = some (.int .u64 (f.large.seq : Int)) := hbx.cell 7
            have d8 : w5.cell? ⟨wr.heap.size, 8, none⟩ = some (.int .i64 f.large.kind) := hbx.cell 8
            obtain ⟨m, hm0⟩ : ∃ m, m = hd3 ++ (x.adds.take j).flatMap PF.enc ++ [lv, f.num, sz].flatMap uvEnc := ⟨_, rfl⟩
            rw [← hm0] at ho5 ⊢
            have hml : m.length ≤ n'' + 30 := by
              have := HR.out.1.size
              have e1 := uvEnc_length lv
              have e2 := uvEnc_length f.num
              have e3 := uvEnc_length sz
              rw [hm0]
              simp only [List.length_append, List.flatMap_cons, List.flatMap_nil, List.length_nil] at this ⊢
              omega
            have HM : Hid (m ++ ([f.small, f.large].flatMap fun k => txtPut k.enc) = hd3 ++ (x.adds.take (j + 1)).flatMap PF.enc) := by
              show _ = _
              rw [hm0, HT.out, HG.out]
              simp only [List.append_assoc]
            have HO5 : Hid (OwnB w5 W1.heap.size a5 m.length k5 m) := ho5
            clear ho5 hb5 hk5 hbx hm0 H5 H5b
            generalize m.length = ml at hml HO5 ⊢
            go_wp2_with fail
            refine (layKeys_any W1.heap.size a5 ml k5 m [f.small, f.large] w5.heap.size _ _ (HO5.out.alloc _) (by have := H6.out.2; simp; omega) rfl (Box.new _ _ _) rfl (by intro k hk; simp at hk; rcases hk with rfl | rfl; exact HK.out.1; exact HK.out.2) (by omega)).mono ?_
            rintro _ w6 ⟨a6, k6, rfl, ho6, hb6⟩
            rw [HM.out] at ho6 ⊢
            have hln : (hd3 ++ (x.adds.take (j + 1)).flatMap PF.enc).length ≤ n'' + 194 := by
              have := HR.out.1.size
              rw [HT.out]
              simp only [List.length_append] at this ⊢
              omega
            have H7 : Hid (OwnB w6 W1.heap.size a6 (hd3 ++ (x.adds.take (j + 1)).flatMap PF.enc).length k6 (hd3 ++ (x.adds.take (j + 1)).flatMap PF.enc) ∧ Below W1.heap.size W1 w6) := ⟨ho6, (H6.out.1.alloc H6.out.2 _).trans hb6⟩
            clear ho6 hb6
            generalize (hd3 ++ (x.adds.take (j + 1)).flatMap PF.enc).length = L6 at hln H7 ⊢
            go_wp2
            go_roundw
            case rel => exact ⟨j + 1, a6, L6, k6, hjn, by go_num, rfl, by omega, H7.out⟩
            case measure => simp only [intOf]; omega
          · have HF : Hid (OwnB wr W1.heap.size a'' n'' c'' x.lay ∧ Below W1.heap.size W1 wr ∧ Below w.heap.size w wr) := by
              have h1 := HR.out.1
              rw [List.take_of_length_le (by omega)] at h1
              have e : hd3 ++ x.adds.flatMap PF.enc = x.lay := by
                rw [HL.out.1, HH3.out, HH2.out, HH.out]
                unfold PE.enc
                simp
              rw [e] at h1
              exact ⟨h1, HR.out.2, HW.out.1.trans (HR.out.2.mono HW.out.2.2.2)⟩
            have hs := HF.out.1.size
            go_wp2
            go_ret2
            rw [hs]
            exact ⟨a'', c'', ret2 rfl rfl, HF.out.1.mono HW.out.2.2.2, HF.out.2.2⟩
  · have hne : (((x.err : Nat) : Int) != 0) = true := by simp; omega
    have HL : Hid (x.lay = []) := PE.lay_no her
    generalize x.err = er at *
    go_enter Tryz.func12, Tryz.ntmps12
    go_wp2_with fail
    refine (HC.out _ rfl).mono ?_
    rintro _ w2 ⟨rfl, hb2⟩
    have H2 : Hid (Below w.heap.size w w2) := HW.out.1.trans (hb2.mono HW.out.2.2.2)
    clear hb2
    go_wp2
    go_ret2
    rw [HL.out]
    exact ⟨none, 0, ret2 rfl rfl, OwnB.none0 _ _, H2.out⟩
end Go.Proofs.YtmlfbihlbiikeabGreatDoor
namespace Go.Proofs.YtmlfbihlbiikeabGreatDoor
open Go.RowKit
theorem strOf_beq (x y : List UInt8) : ((strOf x).toList == (strOf y).toList) = (x == y) := by
  rw [ByteArray.toList_eq, ByteArray.toList_eq]
  simp [strOf]
set_option maxRecDepth 100000 in
set_option maxHeartbeats 1000000 in
theorem equal_any (a1 a2 : Option Addr) (n1 c1 n2 c2 : Nat) (x y : List UInt8) (w : World) (h1 : BsAt w a1 n1 c1 x) (h2 : BsAt w a2 n2 c2 y) :
    Calls Tryz.prog 110 #[.slice a1 n1 c1, .slice a2 n2 c2] w fun e w' => e = .returned (.bool (x == y)) ∧ w' = w := by
  have e1 := conv_of h1
  have e2 := conv_of h2
  have HE : Hid (_ = _) := strOf_beq x y
  clear h1 h2
  generalize strOf x = X at e1 HE
  generalize strOf y = Y at e2 HE
  go_enter Tryz.func110, Tryz.ntmps110
  go_wp2
  all_goals go_ret
  all_goals (rw [← HE.out]; exact ⟨ret1 rfl, rfl⟩)
end Go.Proofs.YtmlfbihlbiikeabGreatDoor
