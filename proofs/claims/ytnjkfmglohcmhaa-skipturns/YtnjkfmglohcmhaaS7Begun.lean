/- The contract of begun. -/
import Derived.Test.YtnjkfmglohcmhaaS7Own
import Derived.Test.YtnjkfmglohcmhaaS7Help
import Derived.Test.YtnjkfmglohcmhaaS7Args
namespace Go.Proofs.Ytnjkfmglohcmhaa
open Go.RowKit
set_option linter.unusedVariables false
/-- One more is begun, unless its key was. -/
def PS.begin1 (S : PS) (o : PutV) : PS := if hasB S.keys o.key then S else S.begin o.key (hgt o.height)
def PS.begins (S : PS) (l : List PutV) : PS := l.foldl PS.begin1 S
theorem PS.begins_snoc (S : PS) (l : List PutV) (o : PutV) : S.begins (l ++ [o]) = (S.begins l).begin1 o := by simp [PS.begins]
/-- What is begun, and has done no step. -/
structure Fresh (S : PS) : Prop where
  room : S.room = 1000
  lev : ∀ l, S.lev l = []
  none : ∀ i, S.done i = true → S.ops.length ≤ i
theorem Fresh.new : Fresh (PS.new 1000) := ⟨rfl, fun _ => rfl, fun i _ => Nat.zero_le _⟩
theorem Fresh.begin1 {S : PS} (h : Fresh S) (o : PutV) : Fresh (S.begin1 o) ∧ (S.begin1 o).ops.length ≤ S.ops.length + 1 := by
  unfold PS.begin1
  split
  · exact ⟨h, Nat.le_succ _⟩
  · refine ⟨⟨h.room, h.lev, fun i hi => ?_⟩, Nat.le_of_eq PS.begin_len⟩
    rw [PS.begin_len]
    by_cases e1 : i < S.ops.length
    · have : S.done i = true := by
        unfold PS.done at hi ⊢
        rw [PS.begin_op e1] at hi
        exact hi
      have := h.none i this
      omega
    · by_cases e2 : i = S.ops.length
      · subst e2
        unfold PS.done at hi
        rw [PS.begin_new] at hi
        simp [PO.new] at hi
      · omega
theorem Fresh.begins (l : List PutV) : ∀ {S : PS}, Fresh S → Fresh (S.begins l) ∧ (S.begins l).ops.length ≤ S.ops.length + l.length := by
  induction l with
  | nil => intro S h; exact ⟨h, Nat.le_refl _⟩
  | cons o r ih =>
    intro S h
    obtain ⟨h1, h2⟩ := h.begin1 o
    obtain ⟨h3, h4⟩ := ih h1
    refine ⟨h3, ?_⟩
    have e : S.begins (o :: r) = (S.begin1 o).begins r := rfl
    rw [e, List.length_cons]
    omega
def hsI (S : PS) : List Int := S.hs.map (fun (n : Nat) => (n : Int))
theorem hsI_begin {S : PS} {k : ByteArray} {h : Nat} : hsI (S.begin k h) = hsI S ++ [(h : Int)] := by simp [hsI, PS.hs, PS.begin, PO.new]
theorem keys_len (S : PS) : S.keys.length = S.ops.length := by simp [PS.keys]
/-- What begun leaves: the list, its keys and its heights. -/
structure Begun (w0 w : World) (p : Nat) (S : PS) (g : SG) (ka : Option Addr) (kc : Nat) (ha : Option Addr) (hc : Nat) : Prop where
  at' : SkAt w p S g
  keys : OwnS w w0.heap.size ka S.ops.length kc S.keys
  hs : OwnN w w0.heap.size ha S.ops.length hc (hsI S)
section
variable {w0 w w' : World} {p : Nat} {S S' : PS} {g g' : SG} {ka ha : Option Addr} {kc hc : Nat}
theorem skTag_str {t : Nat} (h : skTag t) : t ≠ 9 ∧ t ≠ 3 ∧ t ≠ 4 ∧ t ≠ 29 := by
  rcases h with rfl | rfl | rfl | rfl | rfl <;> decide
theorem OwnS.off {B : Nat} {a : Option Addr} {n c : Nat} {l : List ByteArray} (h : OwnS w B a n c l) (hs : SkAt w p S g) {k : Nat} (hk : blkOf a = some k) : ¬ Foot p g k := fun hf => by
  obtain ⟨t, h1, h2⟩ := hs.tags hf
  exact tag_ne (h.tag hk) h1 (skTag_str h2).1.symm rfl
theorem OwnN.off {B : Nat} {a : Option Addr} {n c : Nat} {l : List Int} (h : OwnN w B a n c l) (hs : SkAt w p S g) {k : Nat} (hk : blkOf a = some k) : ¬ Foot p g k := fun hf => by
  obtain ⟨t, h1, h2⟩ := hs.tags hf
  exact tag_ne (h.tag hk) h1 (skTag_str h2).2.1.symm rfl
theorem Begun.below (h : Begun w0 w p S g ka kc ha hc) (hb : Below w.heap.size w w') : Begun w0 w' p S g ka kc ha hc := ⟨h.at'.below hb, h.keys.below hb, h.hs.below hb⟩
theorem Begun.step (h : Begun w0 w p S g ka kc ha hc) (hs : SkAt w' p S' g') (hc' : Chg (Foot p g) w w') (hg : Goes S S') : Begun w0 w' p S' g' ka kc ha hc :=
  ⟨hs, by rw [hg.len, hg.keys]; exact h.keys.chg hc' (fun k hk => h.keys.off h.at' hk), by unfold hsI; rw [hg.len, hg.hs]; exact h.hs.chg hc' (fun k hk => h.hs.off h.at' hk)⟩
theorem SkAt.grown (h : SkAt w p S g) {o : Obj} {a : Option Addr} (hg : (w.alloc o).grownBy w' (blkOf a)) (ho : ∀ k, blkOf a = some k → ¬ Foot p g k) : SkAt w' p S g := h.keep fun k hk => (hg.block k (by have := h.lt hk; simp; omega) (fun e => ho k e.symm hk)).trans (Below.heap_alloc _ _ _ (h.lt hk))
theorem OwnS.grown {B : Nat} {b : Option Addr} {n c : Nat} {l : List ByteArray} (h : OwnS w B b n c l) {o : Obj} {a : Option Addr} (hg : (w.alloc o).grownBy w' (blkOf a)) (ho : ∀ k, blkOf a = some k → blkOf b ≠ some k) : OwnS w' B b n c l := h.kept fun k hk => (hg.block k (by have := tag_lt (h.tag hk); simp; omega) (fun e => ho k e.symm hk)).trans (Below.heap_alloc _ _ _ (tag_lt (h.tag hk)))
theorem OwnN.grown {B : Nat} {b : Option Addr} {n c : Nat} {l : List Int} (h : OwnN w B b n c l) {o : Obj} {a : Option Addr} (hg : (w.alloc o).grownBy w' (blkOf a)) (ho : ∀ k, blkOf a = some k → blkOf b ≠ some k) : OwnN w' B b n c l := h.kept fun k hk => (hg.block k (by have := tag_lt (h.tag hk); simp; omega) (fun e => ho k e.symm hk)).trans (Below.heap_alloc _ _ _ (tag_lt (h.tag hk)))
theorem OwnS.offN {B B' : Nat} {a b : Option Addr} {n c n' c' : Nat} {l : List ByteArray} {m : List Int} (h : OwnS w B a n c l) (k : OwnN w B' b n' c' m) : ∀ x, blkOf a = some x → blkOf b ≠ some x := fun x h1 h2 => tag_ne (h.tag h1) (k.tag h2) (by decide) rfl
theorem OwnN.offS {B B' : Nat} {a b : Option Addr} {n c n' c' : Nat} {l : List Int} {m : List ByteArray} (h : OwnN w B a n c l) (k : OwnS w B' b n' c' m) : ∀ x, blkOf a = some x → blkOf b ≠ some x := fun x h1 h2 => tag_ne (h.tag h1) (k.tag h2) (by decide) rfl
theorem Chg.grows {R : Nat → Prop} {B : Nat} {o : Obj} {a : Option Addr} (h : Chg R w0 w) (hg : (w.alloc o).grownBy w' (blkOf a)) (hB : w0.heap.size ≤ B) (ha : ∀ k, blkOf a = some k → B ≤ k) : Chg R w0 w' := (h.alloc o).andThen (Chg.grown hg) fun k hk e => by
  have := ha k e
  omega
end
/-- The puts' memory. -/
def Off7 (p : Nat) (g : SG) (a : Option Addr) : Prop := ∀ b off, a = some ⟨b, off, none⟩ → ¬ Foot p g b
section
variable {w : World} {p : Nat} {S : PS} {g : SG}
theorem PsAt.chg {w' : World} {R : Nat → Prop} {a : Option Addr} {n c : Nat} {l : List PutV} (h : PsAt w a n c l) (hc : Chg R w w') (ho : ∀ b off, a = some ⟨b, off, none⟩ → ¬ R b) : PsAt w' a n c l :=
  ⟨h.size, h.le, h.max, h.ok, fun hp => by
    obtain ⟨b, off, ha, hcell⟩ := h.here hp
    refine ⟨b, off, ha, fun j hj => ?_⟩
    obtain ⟨h1, h2⟩ := hcell j hj
    have hb := hc.block b (World.block_lt_of_cell? w _ h1) (ho b off ha)
    have e : ∀ o, w'.cell? ⟨b, o, none⟩ = w.cell? ⟨b, o, none⟩ := fun o => by unfold World.cell?; rw [hb]
    rw [e, e]
    exact ⟨h1, h2⟩⟩
set_option maxRecDepth 100000 in
set_option maxHeartbeats 4000000 in
theorem begun_at (h : SkAt w p (PS.new 1000) g) {a : Option Addr} {n c : Nat} {l : List PutV} (hp : PsAt w a n c l) (ho : 0 < n → Off7 p g a) : Calls Try.prog 11 #[at_ p, .slice a n c] w fun e w' => ∃ ka kc ha hc g', e = .returned (.tuple #[.slice ka ((PS.new 1000).begins (l.take 60)).ops.length kc, .slice ha ((PS.new 1000).begins (l.take 60)).ops.length hc, .bool true]) ∧ Begun w w' p ((PS.new 1000).begins (l.take 60)) g' ka kc ha hc ∧ Chg (Foot p g) w w' ∧ (∀ k, Foot p g' k → Foot p g k ∨ w.heap.size ≤ k) := by
  have HS : Hid (SkAt w p (PS.new 1000) g) := h
  have HP : Hid (PsAt w a n c l) := hp
  have HO : Hid (0 < n → Off7 p g a) := ho
  have hle := hp.le
  have hmax := hp.max
  have HZ : Hid (l.length = n) := hp.size
  unfold maxLen at hmax
  clear h hp ho
  go_enter Try.func11, Try.ntmps11
  go_wp2_with fail
  go_loopw [7, 8, 9] (fun x y z wr => ∃ (k : Nat) (ka : Option Addr) (kc : Nat) (ha : Option Addr) (hc : Nat) (g1 : SG), k ≤ n ∧ k ≤ 60 ∧ x = .slice ka ((PS.new 1000).begins (l.take k)).ops.length kc ∧ y = .slice ha ((PS.new 1000).begins (l.take k)).ops.length hc ∧ z = .int .i64 (k : Int) ∧ Hid (Begun w wr p ((PS.new 1000).begins (l.take k)) g1 ka kc ha hc ∧ Chg (Foot p g) w wr ∧ (∀ k, Foot p g1 k → Foot p g k ∨ w.heap.size ≤ k))) (fun _ _ z _ => n - (intOf z).toNat)
  case atStart => exact ⟨0, none, 0, none, 0, g, Nat.zero_le _, by omega, rfl, rfl, rfl, ⟨HS.out, OwnS.nil _ _, OwnN.nil _ _⟩, Chg.refl _ _, fun _ hk => .inl hk⟩
  case round =>
    obtain ⟨k, ka, kc, ha, hc, g1, hkn, hk60, rfl, rfl, rfl, HR⟩ := hrel
    by_cases hlt : k < n ∧ k < 60
    · obtain ⟨hlt1, hlt2⟩ := hlt
      obtain ⟨S, hS⟩ : ∃ S, S = (PS.new 1000).begins (l.take k) := ⟨_, rfl⟩
      have HSE : Hid (S = (PS.new 1000).begins (l.take k)) := hS
      rw [← hS] at HR ⊢
      have hfr := Fresh.begins (l.take k) Fresh.new
      rw [← hS] at hfr
      have hlenS : S.ops.length ≤ 60 := by have := hfr.2; simp [PS.new] at this; omega
      have HROOM : Hid (S.room = 1000) := hfr.1.room
      have hpr := HP.out.chg HR.out.2.1 (HO.out (by omega))
      obtain ⟨b, off, hpa, hcell⟩ := hpr.here (by omega)
      obtain ⟨ck, ch⟩ := hcell k hlt1
      obtain ⟨okh, oks⟩ := hpr.ok k hlt1
      obtain ⟨o, ho⟩ : ∃ o, o = l.getD k put0 := ⟨_, rfl⟩
      have HT : Hid ((PS.new 1000).begins (l.take (k + 1)) = S.begin1 o) := by
        unfold Hid
        have hkl : k < l.length := by rw [HZ.out]; exact hlt1
        rw [List.take_succ_eq_append_getElem hkl, PS.begins_snoc, ← hS, ho]
        simp [List.getD, hkl]
      have HPA : Hid (a = some ⟨b, off, none⟩) := hpa
      have HOK : Hid (o = l.getD k put0) := ho
      rw [← ho] at ck ch okh oks
      rw [hpa]
      obtain ⟨key, ht⟩ := o
      simp only at ck ch okh oks
      have HHT := height_at (w := wr) ht okh
      have HHAS := has_at HR.out.1.keys.st key
      have hh := hgt_in ht
      clear hS hfr hpr hcell hpa ho okh
      cases hb : hasB S.keys key with
      | true =>
        have HBG := begin_same HR.out.1.at' oks (hgt ht : Int) (by omega) (hasB_true.1 hb)
        rw [hb] at HHAS
        have HT2 : Hid (S.begin1 ⟨key, ht⟩ = S) := by unfold Hid PS.begin1; rw [if_pos hb]
        clear hb
        go_wp2_with fail
        refine HHT.mono ?_
        rintro _ _ ⟨rfl, hw⟩
        obtain rfl := hw.symm
        clear hw
        go_wp2_with fail
        refine HHAS.mono ?_
        rintro _ _ ⟨rfl, hw⟩
        obtain rfl := hw.symm
        clear hw
        go_wp2_with fail
        refine HBG.mono ?_
        rintro _ w1 ⟨rfl, h1, b1⟩
        have HN : Hid (Begun w w1 p ((PS.new 1000).begins (l.take (k + 1))) g1 ka kc ha hc ∧ Chg (Foot p g) w w1 ∧ (∀ k, Foot p g1 k → Foot p g k ∨ w.heap.size ≤ k)) := by
          unfold Hid
          rw [HT.out, HT2.out]
          exact ⟨HR.out.1.below b1, HR.out.2.1.andThen (Chg.of (R := fun _ => False) b1) (fun _ _ h => h.elim), HR.out.2.2⟩
        have HL : Hid (((PS.new 1000).begins (l.take (k + 1))).ops.length = S.ops.length) := by unfold Hid; rw [HT.out, HT2.out]
        clear h1 b1
        go_wp2
        go_roundw
        case rel => exact ⟨k + 1, ka, kc, ha, hc, g1, by omega, by omega, by rw [HL.out], by rw [HL.out], by go_num, HN⟩
        case measure => simp only [intOf]; omega
      | false =>
        have HBG := begin_new HR.out.1.at' oks hh (hasB_false.1 hb) (by rw [HROOM.out]; omega)
        rw [hb] at HHAS
        have HT2 : Hid (S.begin1 ⟨key, ht⟩ = S.begin key (hgt ht)) := by unfold Hid PS.begin1; rw [hb]; rfl
        clear hb
        go_wp2_with fail
        refine HHT.mono ?_
        rintro _ _ ⟨rfl, hw⟩
        obtain rfl := hw.symm
        clear hw
        go_wp2_with fail
        refine HHAS.mono ?_
        rintro _ _ ⟨rfl, hw⟩
        obtain rfl := hw.symm
        clear hw
        go_wp2_with fail
        refine HBG.mono ?_
        rintro _ w1 ⟨rfl, g2, h1, c1, f1⟩
        have HW1 : Hid (SkAt w1 p (S.begin key (hgt ht)) g2 ∧ OwnS w1 w.heap.size ka S.ops.length kc S.keys ∧ OwnN w1 w.heap.size ha S.ops.length hc (hsI S) ∧ Chg (Foot p g) w w1 ∧ (∀ k, Foot p g2 k → Foot p g k ∨ w.heap.size ≤ k)) := by
          have hR := HR.out
          refine ⟨h1, hR.1.keys.chg c1 (fun k hk => hR.1.keys.off hR.1.at' hk), hR.1.hs.chg c1 (fun k hk => hR.1.hs.off hR.1.at' hk), hR.2.1.andThen c1 (fun k hk hf => ?_), fun k hk => ?_⟩
          · rcases hR.2.2 k hf with e | e
            · exact e
            · omega
          · rcases f1 k hk with e | e
            · exact hR.2.2 k e
            · exact .inr (Nat.le_trans hR.2.1.size e)
        have ck1 : w1.cell? ⟨b, off + k * 2, none⟩ = some (.string key) := by
          obtain ⟨b', off', e1, e2⟩ := (HP.out.chg HW1.out.2.2.2.1 (HO.out (by omega))).here (by omega)
          rw [HPA.out] at e1
          simp only [Option.some.injEq, Addr.mk.injEq, and_true] at e1
          obtain ⟨rfl, rfl⟩ := e1
          have := (e2 k hlt1).1
          rw [← HOK.out] at this
          exact this
        clear h1 c1 f1 ck ch
        have hw1s : w.heap.size ≤ w1.heap.size := HW1.out.2.2.2.1.size
        go_wp2_with (first
          | (at_builtin; refine wpList_pushS w1 rfl _ _ rfl w.heap.size ka S.ops.length kc _ rfl HW1.out.2.1 key rfl (by omega) hw1s ?_; intro r2 c2 w2 hr2 hg2
             have HW2 : Hid (SkAt w2 p (S.begin key (hgt ht)) g2 ∧ OwnS w2 w.heap.size (some ⟨r2, 0, none⟩) (S.ops.length + 1) c2 (S.keys ++ [key]) ∧ OwnN w2 w.heap.size ha S.ops.length hc (hsI S) ∧ Chg (Foot p g) w w2 ∧ (∀ k, Foot p g2 k → Foot p g k ∨ w.heap.size ≤ k)) := ⟨HW1.out.1.grown hg2 (fun k hk => HW1.out.2.1.off HW1.out.1 hk), hr2, HW1.out.2.2.1.grown hg2 (HW1.out.2.1.offN HW1.out.2.2.1), HW1.out.2.2.2.1.grows hg2 (Nat.le_refl _) (fun k hk => HW1.out.2.1.ge hk), HW1.out.2.2.2.2⟩
             have hw2s : w.heap.size ≤ w2.heap.size := HW2.out.2.2.2.1.size
             clear hr2 hg2)
          | (at_builtin; refine wpList_pushN w2 rfl _ _ rfl w.heap.size ha S.ops.length hc _ rfl HW2.out.2.2.1 (hgt ht : Int) (by unfold in64; omega) rfl (by omega) hw2s ?_; intro r3 c3 w3 hr3 hg3
             have HW3 : Hid (Begun w w3 p ((PS.new 1000).begins (l.take (k + 1))) g2 (some ⟨r2, 0, none⟩) c2 (some ⟨r3, 0, none⟩) c3 ∧ Chg (Foot p g) w w3 ∧ (∀ k, Foot p g2 k → Foot p g k ∨ w.heap.size ≤ k)) := by
               unfold Hid
               rw [HT.out, HT2.out]
               refine ⟨⟨HW2.out.1.grown hg3 (fun k hk => HW2.out.2.2.1.off HW2.out.1 hk), ?_, ?_⟩, HW2.out.2.2.2.1.grows hg3 (Nat.le_refl _) (fun k hk => HW2.out.2.2.1.ge hk), HW2.out.2.2.2.2⟩
               · rw [PS.begin_len, PS.begin_keys]
                 exact HW2.out.2.1.grown hg3 (HW2.out.2.2.1.offS HW2.out.2.1)
               · rw [PS.begin_len, hsI_begin]
                 exact hr3
             clear hr3 hg3))
        have HL : Hid (((PS.new 1000).begins (l.take (k + 1))).ops.length = S.ops.length + 1) := by unfold Hid; rw [HT.out, HT2.out, PS.begin_len]
        go_roundw
        case rel => exact ⟨k + 1, some ⟨r2, 0, none⟩, c2, some ⟨r3, 0, none⟩, c3, g2, by omega, by omega, by rw [HL.out], by rw [HL.out], by go_num, HW3⟩
        case measure => simp only [intOf]; omega
    · have HTK : Hid (l.take k = l.take 60) := by
        unfold Hid
        by_cases e : k = 60
        · rw [e]
        · rw [List.take_of_length_le (by rw [HZ.out]; omega), List.take_of_length_le (by rw [HZ.out]; omega)]
      by_cases hkn' : k < n
      · have h60 : ¬ k < 60 := fun h => hlt ⟨hkn', h⟩
        clear hlt
        go_wp2
        go_returns
        rw [← HTK.out]
        exact ⟨ka, kc, ha, hc, g1, rfl, HR.out⟩
      · clear hlt
        go_wp2
        go_returns
        rw [← HTK.out]
        exact ⟨ka, kc, ha, hc, g1, rfl, HR.out⟩
end
end Go.Proofs.Ytnjkfmglohcmhaa
