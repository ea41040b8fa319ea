/- The contract of manifest's Append. -/
import Derived.Test.YtmlfbihlbiikeaaGreatDoorQe47
import Derived.Test.YtmlfbihlbiikeaaGreatDoorQe28
import Derived.Test.YtmlfbihlbiikeaaGreatDoorQe46
import Derived.Test.YtmlfbihlbiikeaaGreatDoorQe13
import Derived.Test.YtmlfbihlbiikeaaGreatDoorQe22
set_option linter.unusedVariables false
set_option linter.unusedSimpArgs false
set_option maxRecDepth 100000
namespace Go.Proofs.YtmlfbihlbiikeaaGreatDoor
open Go.RowKit
theorem asks_A (m b : List UInt8) : ∀ f ∈ stepsA m b, ∀ S, (f S).1.asked ≤ S.asked + 1 := by
 intro f hf S
 simp only [stepsA, List.mem_cons, List.not_mem_nil, or_false] at hf
 rcases hf with rfl | rfl | rfl
 · exact asks_append _ _ S
 · exact asks_sync _ S
 · exact asks_syncDir S
def appendP (num : Nat) (x : PE) (S : PFs) : PFs × Nat :=
 if x.err ≠ 0 then (S, x.err) else if (S.read (nameP 3 num)).2 ≠ 0 then (S, (S.read (nameP 3 num)).2)
 else if 131072 < x.enc.length then (S, 90) else runF (stepsA (nameP 3 num) (putP (S.read (nameP 3 num)).1.length true x.enc)) S
set_option maxHeartbeats 4000000 in
theorem append_any {J : Face} (H : FsOk J) {i p : Nat} (num : Nat) (x : PE) (sx : SE) {w : World} {R : Nat → Prop} {l r : Fss} {S : PFs} (hJ : J w R l r) (hl : l[i]? = some (p, S)) (hS : S.asked < 900000) (hg : Gl w)
 (hx : EdAt w x sx) (hw : WfE x) (hnum : num < 18446744073709551616) :
 Calls Tryz.prog 29 #[at_ p, .int .u64 (num : Int), .agg #[.int .u64 (x.log : Int), .int .u64 (x.next : Int), .int .u64 (x.last : Int), .slice sx.a x.dels.length sx.c, .slice sx.a' x.adds.length sx.c']] w (DoneR J i p R l r w (appendP num x S)) := by
 obtain ⟨W0, eW0, H0⟩ : ∃ W0, Hid (W0 = (w.alloc (.cells #[at_ p] TFsP)).alloc (.cells #[.int .u64 (x.log : Int), .int .u64 (x.next : Int), .int .u64 (x.last : Int), .slice sx.a x.dels.length sx.c, .slice sx.a' x.adds.length sx.c'] TE)) ∧ Hid (Below w.heap.size w W0 ∧ Box W0 w.heap.size TFsP #[at_ p] ∧ Gl W0 ∧ EdAt W0 x sx) := by
  have hb : Below w.heap.size w ((w.alloc (.cells #[at_ p] TFsP)).alloc (.cells #[.int .u64 (x.log : Int), .int .u64 (x.next : Int), .int .u64 (x.last : Int), .slice sx.a x.dels.length sx.c, .slice sx.a' x.adds.length sx.c'] TE)) := ((Below.refl _ _).alloc (Nat.le_refl _) _).alloc (by simp) _
  exact ⟨_, rfl, hb, (Box.new _ _ _).alloc _, hg.later hb, hx.below hb⟩
 have HEN := eenc_any x sx W0 H0.out.2.2.2 hw
 have HLY : Hid ((x.err = 0 → x.lay = x.enc) ∧ x.lay.length ≤ 420000) := ⟨PE.lay_yes, PE.lay_len x⟩
 have HJ : Hid (J w R l r ∧ l.set i (p, S) = l ∧ l[i]? = some (p, S)) := ⟨hJ, set_self_at hl, hl⟩
 have HP : Hid (appendP num x S = if x.err ≠ 0 then (S, x.err) else if (S.read (nameP 3 num)).2 ≠ 0 then (S, (S.read (nameP 3 num)).2)
  else if 131072 < x.enc.length then (S, 90) else runF (stepsA (nameP 3 num) (putP (S.read (nameP 3 num)).1.length true x.enc)) S) := rfl
 have HWN : Hid (num < 18446744073709551616) := hnum
 clear hJ hl hw hg hx hnum
 generalize appendP num x S = o at HP ⊢
 generalize x.err = er at HEN HP HLY
 generalize x.lay = ly at HEN HLY
 go_enter Tryz.func29, Tryz.ntmps29
 go_wp2_with fail
 rw [← eW0.out]
 refine HEN.mono ?_
 rintro _ w1 ⟨a1, c1, rfl, ho1, hb1⟩
 have H1 : Hid (Below w.heap.size w w1 ∧ Box w1 w.heap.size TFsP #[at_ p] ∧ Gl w1 ∧ OwnB w1 w.heap.size a1 ly.length c1 ly) := ⟨H0.out.1.trans (hb1.mono H0.out.1.size), H0.out.2.1.kept (hb1.block _ H0.out.2.1.lt), H0.out.2.2.1.later hb1, ho1.mono H0.out.1.size⟩
 clear hb1 ho1 eW0 H0 HEN
 by_cases h0 : er = 0
 · subst h0
   have hly := HLY.out.1 rfl
   subst hly
   have hlen := HLY.out.2
   have HNM := name_any 3 ⟨by decide, by decide⟩ num HWN.out w1 H1.out.2.2.1
   generalize nameP 3 num = m at HP HNM
   generalize x.enc = xe at H1 HP hlen
   generalize hxl : xe.length = xl at H1 HP hlen ⊢
   have HXL : Hid (xe.length = xl) := hxl
   clear hxl
   go_wp2_with fail
   refine HNM.mono ?_
   rintro _ w2 ⟨rfl, hb2⟩
   obtain ⟨W3, eW3, H3⟩ : ∃ W3, Hid (W3 = w2.alloc (.cells #[.string (strOf m)] TStr)) ∧ Hid (Below w.heap.size w W3 ∧ Box W3 w.heap.size TFsP #[at_ p] ∧ Box W3 w2.heap.size TStr #[.string (strOf m)] ∧ OwnB W3 w.heap.size a1 xl c1 xe ∧ w.heap.size ≤ w2.heap.size) := by
    have hb3 := hb2.alloc hb2.size (.cells #[.string (strOf m)] TStr)
    exact ⟨_, rfl, H1.out.1.trans (hb3.mono H1.out.1.size), H1.out.2.1.kept (hb3.block _ H1.out.2.1.lt), Box.new _ _ _, H1.out.2.2.2.below hb3, Nat.le_trans H1.out.1.size hb2.size⟩
   have HR : Hid (∀ W, W = W3 → Calls Tryz.prog 31 #[at_ p, .string (strOf m)] W fun e w' => ∃ a c, e = .returned (.tuple #[.slice a (S.read m).1.length c, .int .i64 ((S.read m).2 : Nat)]) ∧ OwnB w' W3.heap.size a (S.read m).1.length c (S.read m).1 ∧ J w' (fun k => R k ∨ (w.heap.size ≤ k ∧ k < W3.heap.size)) l r ∧ Kp (fun k => R k ∨ (w.heap.size ≤ k ∧ k < W3.heap.size)) W3 w') := fun W e => by
    subst e
    refine (H.read i (strOf m) (H.turn HJ.out.1 (Chg.of H3.out.1)) HJ.out.2.2).mono ?_
    rintro e w' ⟨a, c, h1, h2, h3, h4⟩
    exact ⟨a, c, h1, h2, H.less h3 fun k hk => .inl hk, h4⟩
   clear H1 hb2 HNM
   generalize S.read m = rd at HR HP
   obtain ⟨ob, re⟩ := rd
   dsimp only at HR HP
   generalize hol : ob.length = ol at HR HP
   have hd8 := H3.out.2.1.cell 0
   have hd9 := H3.out.2.2.1.cell 0
   rw [eW3.out] at hd8 hd9
   go_wp2_with fail
   refine (HR.out _ eW3.out.symm).mono ?_
   rintro _ w4 ⟨a4, c4, rfl, ho4, hj4, hk4⟩
   have H4 : Hid (J w4 (fun k => R k ∨ (w.heap.size ≤ k ∧ k < W3.heap.size)) l r ∧ Kp (fun k => R k ∨ (w.heap.size ≤ k ∧ k < W3.heap.size)) W3 w4 ∧ Box w4 w.heap.size TFsP #[at_ p] ∧ Box w4 w2.heap.size TStr #[.string (strOf m)] ∧ OwnB w4 w.heap.size a1 xl c1 xe ∧ w2.heap.size < W3.heap.size ∧ w.heap.size ≤ w2.heap.size ∧ Kp R w w4) := by
    have hin : ∀ k, w.heap.size ≤ k → k < W3.heap.size → w4.heap[k]? = W3.heap[k]? := fun k a b => hk4.block k (.inr ⟨a, b⟩) b
    have h2w : w.heap.size ≤ w2.heap.size := H3.out.2.2.2.2
    exact ⟨hj4, hk4, H3.out.2.1.kept (hin _ (Nat.le_refl _) H3.out.2.1.lt), H3.out.2.2.1.kept (hin _ h2w H3.out.2.2.1.lt), ⟨H3.out.2.2.2.1.size, row_same H3.out.2.2.2.1.row fun k e => hin k (H3.out.2.2.2.1.lt k e) (tag_lt (row_tag H3.out.2.2.2.1.row e))⟩, H3.out.2.2.1.lt, h2w, (Kp.of H3.out.1).trans (hk4.less fun k hk => .inl hk)⟩
   have hmx := ho4.bs.max
   have hle4 := ho4.bs.le
   unfold maxLen at hmx
   clear hj4 hk4 ho4 eW3 hd8 hd9 HR
   by_cases h1 : re = 0
   · subst h1
     by_cases h2 : 131072 < xl
     · have hpg := put_great (ol : Int) a1 xl c1 w4 (by omega) h2
       have HO : Hid (o = (S, 90)) := by unfold Hid; rw [HP.out, if_neg (by simp), if_neg (by simp), if_pos h2]
       go_wp2_with fail
       refine hpg.mono ?_
       rintro _ w5 ⟨rfl, rfl⟩
       go_wp2
       go_ret
       rw [HO.out]
       have hk9 : Kp R w5 (w5.alloc (.cells #[.slice none 0 0] 29)) := Kp.of ((Below.refl _ _).alloc (Nat.le_refl _) _)
       exact ⟨rfl, by rw [HJ.out.2.1]; exact H.less (H.step H4.out.1 ((Below.refl _ _).alloc (Nat.le_refl _) _)) fun k hk => .inl hk, H4.out.2.2.2.2.2.2.2.trans hk9⟩
     · have HX : Hid (Calls Tryz.prog 71 #[.int .i64 (ol : Int), .slice a1 xl c1] w4 fun e w' => ∃ a' c', e = .returned (.tuple #[.slice a' (putP ol true xe).length c', .int .i64 0]) ∧ OwnB w' w4.heap.size a' (putP ol true xe).length c' (putP ol true xe) ∧ Below w4.heap.size w4 w') := put_at ol a1 xl c1 xe w4 H4.out.2.2.2.2.1.bs (by omega) (by omega)
       have HO : Hid (o = runF (stepsA m (putP ol true xe)) S) := by unfold Hid; rw [HP.out, if_neg (by simp), if_neg (by simp), if_neg h2]
       have HPL : Hid ((putP ol true xe).length ≤ 139000) := by
        have h1 := put_short ol xe
        have h2 := HXL.out
        unfold Hid
        omega
       generalize putP ol true xe = pp at HX HO HPL
       generalize hpl : pp.length = pl at HX HPL
       go_wp2_with fail
       refine Calls.mono HX.out ?_
       rintro _ w5 ⟨a5, c5, rfl, ho5, hb5⟩
       have hmf : ∀ (fn : Fn) (first cap : Array Value) (w : World), (Instr.makeFunc fn first cap).run Tryz.prog w = .ok (.func fn first cap) w := fun _ _ _ _ => rfl
       have hs4 : W3.heap.size ≤ w4.heap.size := H4.out.2.1.size
       have hd8 : (w5.alloc (.cells #[.slice a5 pl c5] 29)).cell? ⟨w.heap.size, 0, none⟩ = some (at_ p) := ((H4.out.2.2.1.kept (hb5.block _ H4.out.2.2.1.lt)).alloc _).cell 0
       obtain ⟨W7, eW7, H7⟩ : ∃ W7, Hid (W7 = (w5.alloc (.cells #[.slice a5 pl c5] 29)).alloc (.cells #[.func (.func 72) #[] #[at_ w.heap.size, at_ w2.heap.size, at_ w5.heap.size], .func (.func 73) #[] #[at_ w.heap.size, at_ w2.heap.size], .func (.func 58) #[at_ p] #[]] TStp)) ∧
        Hid (Below w4.heap.size w4 W7 ∧ Box W7 w.heap.size TFsP #[at_ p] ∧ Box W7 w2.heap.size TStr #[.string (strOf m)] ∧ Box W7 w5.heap.size 29 #[.slice a5 pl c5] ∧ OwnB W7 w4.heap.size a5 pl c5 pp ∧ Box W7 (w5.heap.size + 1) TStp #[.func (.func 72) #[] #[at_ w.heap.size, at_ w2.heap.size, at_ w5.heap.size], .func (.func 73) #[] #[at_ w.heap.size, at_ w2.heap.size], .func (.func 58) #[at_ p] #[]] ∧ w4.heap.size ≤ w5.heap.size) := by
        have hb7 : Below w5.heap.size w5 ((w5.alloc (.cells #[.slice a5 pl c5] 29)).alloc (.cells #[.func (.func 72) #[] #[at_ w.heap.size, at_ w2.heap.size, at_ w5.heap.size], .func (.func 73) #[] #[at_ w.heap.size, at_ w2.heap.size], .func (.func 58) #[at_ p] #[]] TStp)) := ((Below.refl _ _).alloc (Nat.le_refl _) _).alloc (by simp) _
        have hb8 := hb5.trans (hb7.mono hb5.size)
        refine ⟨_, rfl, hb8, H4.out.2.2.1.kept (hb8.block _ H4.out.2.2.1.lt), H4.out.2.2.2.1.kept (hb8.block _ H4.out.2.2.2.1.lt), (Box.new _ _ _).alloc _, ho5.below hb7, ?_, hb5.size⟩
        have h9 := Box.new (w5.alloc (.cells #[.slice a5 pl c5] 29)) TStp #[.func (.func 72) #[] #[at_ w.heap.size, at_ w2.heap.size, at_ w5.heap.size], .func (.func 73) #[] #[at_ w.heap.size, at_ w2.heap.size], .func (.func 58) #[at_ p] #[]]
        rw [World.size_alloc] at h9
        exact h9
       have HDO : Hid (Calls Tryz.prog 57 #[.slice (some ⟨w5.heap.size + 1, 0, none⟩) 3 3] W7 (DoneR J i p R l r w o)) := by
        have hlt2 := H4.out.2.2.2.2.2.1
        have h2w := H4.out.2.2.2.2.2.2.1
        have hpl2 := HPL.out
        have hj7 := H.turn H4.out.1 (Chg.of H7.out.1)
        have hC : ∀ k, (w.heap.size ≤ k ∧ k < W3.heap.size) ∨ (w4.heap.size ≤ k ∧ k < W7.heap.size) → k < W7.heap.size := fun k hk => by
         have := H7.out.1.size
         omega
        have hH : Held (fun k => (w.heap.size ≤ k ∧ k < W3.heap.size) ∨ (w4.heap.size ≤ k ∧ k < W7.heap.size)) W7 (fun k => (R k ∨ (w.heap.size ≤ k ∧ k < W3.heap.size)) ∨ (w4.heap.size ≤ k ∧ k < W7.heap.size)) W7 := ⟨fun k hk => hk.elim (fun a => .inl (.inr a)) .inr, hC, Nat.le_refl _, fun k _ => rfl⟩
        have cf : (w.heap.size ≤ w.heap.size ∧ w.heap.size < W3.heap.size) := ⟨Nat.le_refl _, by omega⟩
        have cn : (w.heap.size ≤ w2.heap.size ∧ w2.heap.size < W3.heap.size) := ⟨h2w, hlt2⟩
        have cb : (w4.heap.size ≤ w5.heap.size ∧ w5.heap.size < W7.heap.size) := ⟨H7.out.2.2.2.2.2.2, H7.out.2.2.2.1.lt⟩
        have hrow := H7.out.2.2.2.2.2.1
        have hsame : l.set i (p, S) = l := HJ.out.2.1
        refine (done_any i p _ W7 (stepsA m pp) [.func (.func 72) #[] #[at_ w.heap.size, at_ w2.heap.size, at_ w5.heap.size], .func (.func 73) #[] #[at_ w.heap.size, at_ w2.heap.size], .func (.func 58) #[at_ p] #[]] (w5.heap.size + 1) 3 3 rfl (by omega) (.inr ⟨by omega, hrow.lt⟩) (fun j hj => ?_) ?_ (asks_A m pp) hH hj7 HJ.out.2.2 hS).mono ?_
        · rw [hrow.cell, ← Array.getElem?_toList]
        · intro j hj hj'
          have hcase : j = 0 ∨ j = 1 ∨ j = 2 := by omega
          rcases hcase with rfl | rfl | rfl
          · exact ⟨_, rfl, append1_does H (name := strOf m) (.inl cf) (.inl cn) (.inr cb) H7.out.2.1 H7.out.2.2.1 H7.out.2.2.2.1 H7.out.2.2.2.2.1.bs (fun hp ad e => .inr ⟨H7.out.2.2.2.2.1.lt _ (by rw [e]; rfl), tag_lt (row_tag H7.out.2.2.2.2.1.row (by rw [e]; rfl))⟩) (by omega)⟩
          · exact ⟨_, rfl, append2_does H (name := strOf m) (.inl cf) (.inl cn) H7.out.2.1 H7.out.2.2.1⟩
          · exact ⟨_, rfl, syncDir_does H⟩
        · rintro e w' ⟨he, hj, hk⟩
          rw [HO.out]
          exact ⟨he, H.less hj fun k hk => .inl (.inl hk), (H4.out.2.2.2.2.2.2.2.trans (Kp.of H7.out.1)).trans (hk.less fun k hk => .inl (.inl hk))⟩
       clear hb5 ho5 HX
       go_wp2_with fail
       rw [← eW7.out]
       refine Calls.mono HDO.out ?_
       rintro _ w8 ⟨rfl, hj8, hk8⟩
       go_wp2
       go_ret
       exact ⟨rfl, hj8, hk8⟩
   · have hb : ((re : Int) != 0) = true := by simp; omega
     have HO : Hid (o = (S, re)) := by unfold Hid; rw [HP.out, if_neg (by simp), if_pos h1]
     go_wp2
     go_ret
     rw [HO.out]
     exact ⟨rfl, by rw [HJ.out.2.1]; exact H.less H4.out.1 fun k hk => .inl hk, H4.out.2.2.2.2.2.2.2⟩
 · have hb : ((er : Int) != 0) = true := by simp; omega
   have HO : Hid (o = (S, er)) := by unfold Hid; rw [HP.out, if_pos h0]
   go_wp2
   go_ret
   rw [HO.out]
   exact ⟨rfl, by rw [HJ.out.2.1]; exact H.step HJ.out.1 H1.out.1, Kp.of H1.out.1⟩
end Go.Proofs.YtmlfbihlbiikeaaGreatDoor
namespace Go.Proofs.YtmlfbihlbiikeaaGreatDoor
theorem chG_len (m : Nat) : ∀ {α : Type} (l : List α), l.length ≤ 100 * m → (chG 100 l).length ≤ m := by
 have key : ∀ {α : Type} (f : Nat) (l : List α) (m : Nat), l.length ≤ 100 * m → (chGF f 100 l).length ≤ m := fun {α} f => by
  induction f with
  | zero => exact fun l m h => Nat.zero_le _
  | succ f ih =>
   intro l m h
   unfold chGF
   by_cases hl : l = []
   · rw [if_pos hl]; exact Nat.zero_le _
   · rw [if_neg hl]
     have hp := List.length_pos_iff.2 hl
     have h2 := ih (l.drop 100) (m - 1) (by rw [List.length_drop]; omega)
     rw [List.length_cons]
     omega
 exact fun {α} l h => key (α := α) _ l m h
theorem eds_len {s : PSt} {m : Nat} (h : s.v.all.length ≤ 100 * m) : s.eds.length ≤ m + 1 := by
 unfold PSt.eds
 rw [List.length_cons, List.length_map]
 have := chG_len m s.v.all h
 omega
theorem bytes_len {s : PSt} (h : s.Ok) {m : Nat} (hm : s.v.all.length ≤ 100 * m) : s.bytes.length ≤ 22000 * (m + 1) := by
 have h1 := man_le s.eds (ed_short h) []
 have h2 := eds_len hm
 unfold PSt.bytes manOf
 rw [List.length_nil] at h1
 omega
theorem man_back {n : Nat} (h1 : 1 ≤ n) (h2 : n ≤ 1099511627776) : parseR (nameP 3 n) = (3, n) := by
 obtain ⟨a, b⟩ := (parseR_names (nameP 3 n)).num 3 n (.inr (.inr rfl)) h1 h2 rfl
 exact Prod.ext a b
theorem line_suffix (m : List UInt8) : Lib.hasSuffix (lineF m) [10] = true ∧ Lib.trimSuffix (lineF m) [10] = m := by
 have h1 : Lib.hasSuffix (lineF m) [10] = true := by
  unfold Lib.hasSuffix lineF
  simp
 refine ⟨h1, ?_⟩
 unfold Lib.trimSuffix
 rw [if_pos h1]
 unfold lineF
 simp
theorem few_cut (num : Nat) (l : List PE) {cut : Nat} (hl : cut ≤ (manOf l).length) (he : ∀ x ∈ l, x.err = 0) (hn : l.length ≤ 500) : Few num ((manOf l).take cut) := fun j s h => by
 obtain ⟨i, e, hi, _, hr, _⟩ := read_log (l.map PE.enc) [] [] cut (Nat.zero_le _) hl
 have h2 : (walRead ((manOf l).take cut)).1 = (l.map PE.enc).take i := by
  have h := congrArg Prod.fst hr
  exact h
 rw [h2, ← List.map_take, ← List.map_take, decS_enc _ _ (fun x hx => he x (List.mem_of_mem_take (List.mem_of_mem_take hx)))] at h
 have h3 := steps_few _ _ _ h
 have h4 : ((l.take i).take j).length ≤ l.length := by simp; omega
 have h5 : (PSt.zero num).v.all.length = 0 := rfl
 omega
theorem holds_reads {c : Cr} {k : Kn} {num : Nat} {B : List UInt8} (hk : k.quiet) (hn : 1 ≤ num ∧ num ≤ 1099511627776) (hh : Holds c (nameP 3 num) B) : (pf c k).read curB = (lineF (nameP 3 num), 0) ∧ (pf c k).read (nameP 3 num) = (B, 0) := by
 obtain ⟨i, j, h1, h2, h3, h4⟩ := hh
 rw [read_pf hk, read_pf hk, h1, h3]
 exact ⟨by rw [← h2], by rw [← h4]⟩
theorem holds_load {c : Cr} {k : Kn} {num : Nat} {B : List UInt8} {t : PSt} (hk : k.quiet) (hn : 1 ≤ num ∧ num ≤ 1099511627776) (hh : Holds c (nameP 3 num) B) (hT : toldP num B = some t) : loadP (pf c k) = (t, 0) := by
 obtain ⟨h1, h2⟩ := holds_reads hk hn hh
 obtain ⟨h3, h4⟩ := line_suffix (nameP 3 num)
 unfold loadP
 simp only [h1, h3, h4, h2, man_back hn.1 hn.2, hT]
 simp
theorem load_holds {J : Face} (H : FsOk J) {i p : Nat} {w : World} {R : Nat → Prop} {l r : Fss} {c : Cr} {k : Kn} {num cut : Nat} {L : List PE} {t : PSt} (hJ : J w R l r) (hl : l[i]? = some (p, pf c k)) (hg : Gl w) (hRw : ∀ k, R k → k < w.heap.size) (hR8 : ∀ g, g < 6 → R g)
 (hk : k.quiet) (hn : 1 ≤ num ∧ num ≤ 1099511627776) (hh : Holds c (nameP 3 num) ((manOf L).take cut)) (hc : cut ≤ (manOf L).length) (hB : (manOf L).length ≤ 100000000) (he : ∀ x ∈ L, x.err = 0) (hL : L.length ≤ 500) (hT : toldP num ((manOf L).take cut) = some t) :
 Calls Tryz.prog 20 #[at_ p] w (LoadR J R l r w (t, 0)) := by
 obtain ⟨h1, h2⟩ := holds_reads hk hn hh
 obtain ⟨h3, h4⟩ := line_suffix (nameP 3 num)
 have hm := (man_mn hn.1 hn.2).2
 rw [← holds_load hk hn hh hT]
 refine load_any H hJ hl hg hRw hR8 ?_ ?_
 · rw [h1]
   dsimp only
   rw [h4, h2]
   refine ⟨by unfold lineF; simp; omega, ?_⟩
   dsimp only
   rw [List.length_take]
   omega
 · rw [h1]
   dsimp only
   rw [h4, h2, man_back hn.1 hn.2]
   exact few_cut num L hc he hL
theorem run_write {q : Nat} {c : Cr} {k : Kn} {m B : List UInt8} (hm : Mn m) (h1 : findN c.names m = none) (h2 : findN c.names tmpB = none) (hi : ∀ n ∈ c.names, n.file < c.files.length) (hq : 2 * B.length + m.length + 1 + bulkF5 c.files c.names ≤ q) (hk : k.quota = q) :
 ∃ j e k', j ≤ 12 ∧ e < 100 ∧ (e = 0 ↔ j = 12) ∧ (k.quiet → e = 0 ∧ k'.quiet) ∧ k'.quota = q ∧ k'.asked ≤ k.asked + 12 ∧ runF (stepsW m B) (pf c k) = (pf ((c :: crsW c m B).getD j c) k', e) := by
 have h := Ch.run _ c (write_ch c B hm h1 h2 hi hq) k hk
 exact h
theorem run_append {c : Cr} {k : Kn} {m B b : List UInt8} {i j0 : Nat} (h : Base c m B i j0) (hq : b.length + bulkF5 c.files c.names ≤ 1048576) (hk : k.quota = 1048576) :
 ∃ j e k', j ≤ 3 ∧ e < 100 ∧ (e = 0 ↔ j = 3) ∧ (k.quiet → e = 0 ∧ k'.quiet) ∧ k'.quota = 1048576 ∧ k'.asked ≤ k.asked + 3 ∧ runF (stepsA m b) (pf c k) = (pf ((c :: crsA c j0 B b).getD j c) k', e) := by
 have h := Ch.run _ c (append_ch h b hq) k hk
 exact h
def cr1 (m B : List UInt8) : Cr := ⟨[file0, fullF B, fullF (lineF m)], [⟨curB, 2⟩, ⟨m, 1⟩], [⟨curB, 2⟩, ⟨m, 1⟩], []⟩
theorem cr1_end {m : List UInt8} (B : List UInt8) (h : nmW cr0 m 5 cr0.names = [⟨curB, 2⟩, ⟨m, 1⟩]) : endW cr0 m B = cr1 m B := by
 unfold endW cr1
 rw [h]
 rfl
theorem cr1_find {m x : List UInt8} (B : List UInt8) (h1 : x ≠ m) (h2 : x ≠ curB) : findN (cr1 m B).names x = none := by
 unfold findN cr1
 have a : (curB == x) = false := beq_false_of_ne (Ne.symm h2)
 have b : (m == x) = false := beq_false_of_ne (Ne.symm h1)
 simp [List.find?, a, b]
theorem cr1_bulk (m B : List UInt8) : bulkF5 (cr1 m B).files (cr1 m B).names = m.length + 1 + B.length := by
 unfold cr1 lineF fullF
 simp [bulkF5]
theorem cr1_base {m : List UInt8} (B : List UInt8) (hm : Mn m) (h : nmW cr0 m 5 cr0.names = [⟨curB, 2⟩, ⟨m, 1⟩]) : Base (cr1 m B) m B 2 1 := by
 have := end_base (c := cr0) B hm (by simp [cr0]) (fun k => by simp [cr0, file0])
 rw [cr1_end B h] at this
 exact this
structure Fine (k : Kn) (n : Nat) : Prop where
 quiet : k.quiet
 quota : k.quota = 1048576
 asked : k.asked ≤ n
theorem write_new {s : PSt} (hs : chkS s = 0) (hm : nmW cr0 (nameP 3 s.num) 5 cr0.names = [⟨curB, 2⟩, ⟨nameP 3 s.num, 1⟩]) (hB : s.bytes.length ≤ 500000) : ∃ k, writeP s (PFs.new 1048576) = (pf (cr1 (nameP 3 s.num) s.bytes) k, 0) ∧ Fine k 12 := by
 obtain ⟨_, h1, h2⟩ := chkS_zero hs
 obtain ⟨hn, hl⟩ := man_mn h1 h2
 obtain ⟨j, e, k', _, _, hj, hq, hqu, hak, he⟩ := run_write (c := cr0) (k := ⟨1048576, false, 0, false, 0, 0⟩) (m := nameP 3 s.num) (B := s.bytes) hn rfl rfl (by simp [cr0]) (by simp [cr0, bulkF5]; omega) rfl
 obtain ⟨h0, hk'⟩ := hq ⟨rfl, rfl⟩
 obtain rfl := hj.1 h0
 subst h0
 refine ⟨k', ?_, hk', hqu, by simpa using hak⟩
 unfold writeP
 rw [if_neg (by omega)]
 rw [← cr1_end _ hm]
 exact he
end Go.Proofs.YtmlfbihlbiikeaaGreatDoor
namespace Go.Proofs.YtmlfbihlbiikeaaGreatDoor
def stA (s : PSt) (x : PE) : PSt := if (applyV s.v x).1 = 0 then ⟨s.num, (applyV s.v x).2, s.log, s.next, s.last⟩ else s
def st0 (num last : Nat) : PSt := ⟨num, noV, 1 + num % 7, num + 1, last % 72057594037927935⟩
def stateP (num last : Nat) (l : List PE) : PSt := (l.take 6).foldl stA (st0 num last)
structure StOk (s0 : PSt) (n : Nat) (s : PSt) : Prop where
 v : VOk s.v
 four : Four s.v
 few : s.v.all.length ≤ n
 num : s.num = s0.num
 log : s.log = s0.log
 next : s.next = s0.next
 last : s.last = s0.last
theorem apply_few {v u : PV} {x : PE} (h : applyV v x = (0, u)) : u.all.length ≤ v.all.length + 100 := by
 obtain ⟨_, he, _⟩ := apply_zero h
 have h1 := all_grow h
 have h2 := (PE.err_zero he).2.1
 omega
theorem stA_ok {s0 s : PSt} {n : Nat} (h : StOk s0 n s) (x : PE) : StOk s0 (n + 100) (stA s x) := by
 unfold stA
 rcases e : applyV s.v x with ⟨er, u⟩
 dsimp only
 by_cases h0 : er = 0
 · subst h0
   rw [if_pos rfl]
   have h1 := apply_few e
   have h2 := h.few
   exact ⟨(apply_ok e).1, four_apply h.four e, by show u.all.length ≤ _; omega, h.num, h.log, h.next, h.last⟩
 · rw [if_neg h0]
   exact ⟨h.v, h.four, Nat.le_trans h.few (by omega), h.num, h.log, h.next, h.last⟩
theorem fold_ok {s0 : PSt} : ∀ (l : List PE) {s : PSt} {n : Nat}, StOk s0 n s → StOk s0 (n + 100 * l.length) (l.foldl stA s)
 | [], s, n, h => h
 | x :: l, s, n, h => by
  have h1 := fold_ok l (stA_ok h x)
  have e : n + 100 + 100 * l.length = n + 100 * (l.length + 1) := by omega
  rw [e] at h1
  exact h1
theorem st0_ok (num last : Nat) : StOk (st0 num last) 0 (st0 num last) := ⟨VOk.none, four_no, Nat.le_refl _, rfl, rfl, rfl, rfl⟩
theorem state_st (num last : Nat) (l : List PE) : StOk (st0 num last) 600 (stateP num last l) := by
 have h := fold_ok (l.take 6) (st0_ok num last)
 have h6 : (l.take 6).length ≤ 6 := by simp; omega
 exact ⟨h.v, h.four, Nat.le_trans h.few (by omega), h.num, h.log, h.next, h.last⟩
theorem StOk.ok {num last n : Nat} {s : PSt} (h : StOk (st0 num last) n s) (hn : num ≤ 1000000) : s.Ok := by
 have h1 := h.log
 have h2 := h.next
 have h3 := h.last
 have h4 : (st0 num last).log = 1 + num % 7 := rfl
 have h5 : (st0 num last).next = num + 1 := rfl
 have h6 : (st0 num last).last = last % 72057594037927935 := rfl
 exact ⟨h.v, by omega, by omega, by omega⟩
theorem StOk.chk {num last n : Nat} {s : PSt} (h : StOk (st0 num last) n s) (h1 : 1 ≤ num) (hn : num ≤ 1000000) : chkS s = 0 := by
 have e : s.num = num := h.num
 exact chkS_yes (h.ok hn) (by omega) (by omega)
theorem told_behind {s t : PSt} (h : s.Ok) (h4 : Four s.v) (l : List PE) (he : ∀ x ∈ l, x.err = 0) (ht : stepsS s l = some t) : toldP s.num (manOf (s.eds ++ l)) = some t := by
 rw [told_whole s.num (s.eds ++ l) (by simp [PSt.eds]) (fun x hx => (List.mem_append.1 hx).elim (h.errs x) (he x)), told_adds h h4, ht]
theorem told_self {s : PSt} (h : s.Ok) (h4 : Four s.v) : toldP s.num (manOf s.eds) = some s := by
 have := told_behind h h4 [] (by simp) (rfl : stepsS s [] = some s)
 rw [List.append_nil] at this
 exact this
structure Std (num : Nat) (s : PSt) : Prop where
 ok : s.Ok
 four : Four s.v
 chk : chkS s = 0
 num : s.num = num
 few : s.v.all.length ≤ 60000
 len : s.bytes.length ≤ 200000
 edl : s.eds.length ≤ 400
 told : toldP s.num (manOf s.eds) = some s
theorem StOk.std {num last n : Nat} {s : PSt} (h : StOk (st0 num last) n s) (hn : n ≤ 800) (h1 : 1 ≤ num) (h2 : num ≤ 1000) : Std num s := by
 have hf := h.few
 have ho := h.ok (by omega)
 have hb := bytes_len ho (m := 8) (by omega)
 have he := eds_len (s := s) (m := 8) (by omega)
 exact ⟨ho, h.four, h.chk h1 (by omega), h.num, by omega, by omega, by omega, told_self ho h.four⟩
theorem state_std (num last : Nat) (l : List PE) (h1 : 1 ≤ num) (h2 : num ≤ 1000) : Std num (stateP num last l) := (state_st num last l).std (by decide) h1 h2
end Go.Proofs.YtmlfbihlbiikeaaGreatDoor
