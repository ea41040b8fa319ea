/- The contract of manifest's Write. -/
import Derived.Test.YtmlfbihlbiikeaaGreatDoorQa26
import Derived.Test.YtmlfbihlbiikeaaGreatDoorQa27
import Derived.Test.YtmlfbihlbiikeaaGreatDoorQa15
import Derived.Deep.RegionHeld3
namespace Go.Proofs.YtmlfbihlbiikeaaGreatDoor
set_option maxRecDepth 100000
open Go.RowKit
set_option linter.unusedVariables false
set_option linter.unusedSimpArgs false
theorem chkS_zero {s : PSt} (h : chkS s = 0) : s.Ok ∧ 1 ≤ s.num ∧ s.num ≤ 1099511627776 := by
  unfold chkS at h
  by_cases h1 : chkV s.v = 0
  · rw [if_neg (by omega)] at h
    by_cases h2 : s.numE.err = 0
    · rw [if_neg (by omega)] at h
      have h3 : mayN s.num = true := by
        cases e : mayN s.num
        · rw [e] at h; cases h
        · rfl
      have h4 := (numE_err s).1 h2
      refine ⟨⟨?_, h4.1, h4.2.1, h4.2.2⟩, by unfold mayN at h3; simpa using h3⟩
      apply Classical.byContradiction
      intro hv
      rw [chkV_no hv] at h1
      cases h1
    · rw [if_pos h2] at h
      exact absurd h h2
  · rw [if_pos h1] at h
    exact absurd h h1
theorem chkS_yes {s : PSt} (h : s.Ok) (h1 : 1 ≤ s.num) (h2 : s.num ≤ 1099511627776) : chkS s = 0 := by
  unfold chkS
  rw [chkV_yes h.v, (numE_err s).2 ⟨h.log, h.next, h.last⟩, if_neg (by simp), if_neg (by simp), if_pos (by unfold mayN; simp; omega)]
def writeP (s : PSt) (S : PFs) : PFs × Nat := if chkS s ≠ 0 then (S, chkS s) else runF (stepsW (nameP 3 s.num) s.bytes) S
structure Wr (w : World) (p : Nat) (s : PSt) (t : SV) (bn : Nat) (m : List UInt8) (W : World) : Prop where
  base : Below w.heap.size w W
  f : Box W w.heap.size TFsP #[at_ p]
  st : Box W (w.heap.size + 1) TSt (sA s t)
  nm : Box W bn TStr #[.string (strOf m)]
  low : w.heap.size ≤ bn
  gl : Gl W
  v : VnAt W s.v t
section
variable {w : World} {p : Nat} {s : PSt} {t : SV} {bn : Nat} {m : List UInt8} {W W' : World}
theorem Wr.call (h : Wr w p s t bn m W) (hb : Below W.heap.size W W') : Wr w p s t bn m W' :=
  ⟨h.base.trans (hb.mono h.base.size), h.f.kept (hb.block _ h.f.lt), h.st.kept (hb.block _ h.st.lt), h.nm.kept (hb.block _ h.nm.lt), h.low, h.gl.later hb, h.v.below hb⟩
theorem Wr.app (h : Wr w p s t bn m W) (hg : Gl w) (hv : VnAt w s.v t) {a1 : Option Addr} {n1 c1 : Nat} {vs : List Value} (ho : OwnP W w.heap.size a1 n1 c1 vs) (hb : Below w.heap.size W W') (hgr : W.grownBy W' (blkOf a1)) : Wr w p s t bn m W' := by
  have hk : ∀ (k : Nat) (t : TypeId), tag W k = some t → t ≠ TStp → W'.heap[k]? = W.heap[k]? := fun k t hk ht => hgr.block k (tag_lt hk) (fun e => ht (by have := row_tag ho (b := k) (by rw [own_blk]; exact e.symm); rw [hk] at this; exact Option.some.inj this))
  have hb2 := h.base.trans hb
  exact ⟨hb2, h.f.kept (hk _ _ h.f.tag (by decide)), h.st.kept (hk _ _ h.st.tag (by decide)), h.nm.kept (hk _ _ h.nm.tag (by decide)), h.low, hg.later hb2, hv.below hb2⟩
end
theorem app_keeps {W W' : World} {B : Nat} {a1 : Option Addr} {n1 c1 : Nat} {vs : List Value} (ho : OwnP W B a1 n1 c1 vs) (hgr : W.grownBy W' (blkOf a1)) : ∀ (k : Nat) (t : TypeId), tag W k = some t → t ≠ TStp → W'.heap[k]? = W.heap[k]? :=
  fun k t hk ht => hgr.block k (tag_lt hk) (fun e => ht (by have := row_tag ho (b := k) (by rw [own_blk]; exact e.symm); rw [hk] at this; exact Option.some.inj this))
theorem man_mn {n : Nat} (h1 : 1 ≤ n) (h2 : n ≤ 1099511627776) : Mn (nameP 3 n) ∧ (nameP 3 n).length ≤ 100 := by
  obtain ⟨_, a, b⟩ := name_ne (k := 3) (by unfold numK; omega) h1 h2
  have hl := numB_len h2
  have hm : (nameP 3 n).length ≤ 22 := by
    rw [nameP_man h1 h2, List.length_append]
    have : manB.length = 9 := rfl
    omega
  have h0 : 0 < (nameP 3 n).length := by
    rw [nameP_man h1 h2, List.length_append]
    have : manB.length = 9 := rfl
    omega
  exact ⟨⟨a, b, by unfold goodN; simp; omega⟩, by omega⟩
def lineW (sl : ByteArray) (W : World) : World := W.drew.alloc (.cells (bytesRow sl (grownCap W sl.size 0 5)) 5 ((bytesRow sl (grownCap W sl.size 0 5)).size, (bytesRow sl (grownCap W sl.size 0 5)).size + 1))
def lineC (sl : ByteArray) (W : World) : Nat := grownCap W sl.size 0 5
theorem line_run (sl : ByteArray) (W : World) : (convert 9 29 (.string sl)).run Tryz.prog W = .ok (.slice (some ⟨W.heap.size, 0, none⟩) sl.size (lineC sl W)) (lineW sl W) :=
  run_bytes_of_string W 9 29 5 sl Tryz.underlying9 Tryz.underlying29 Tryz.underlying5
theorem line_below (sl : ByteArray) (W : World) : Below W.heap.size W (lineW sl W) := ((Below.refl _ W).drew).alloc (Nat.le_refl _) _
theorem line_at (sl : ByteArray) (W : World) (h : sl.size ≤ 1000) : BsAt (lineW sl W) (some ⟨W.heap.size, 0, none⟩) sl.size (lineC sl W) sl.data.toList := BsAt.ofStr W sl _ _ (grownCap_ge _ _ _ _) (grownCap_le_maxLen _ _ _ _ (by unfold maxLen; omega))
theorem line_tag (sl : ByteArray) (W : World) : tag (lineW sl W) W.heap.size = some 5 := by
  have h : (lineW sl W).heap[W.heap.size]? = _ := heap_alloc_new W.drew _
  unfold tag
  rw [h]
  rfl
theorem tag_kept {W W' : World} {k : Nat} {t : TypeId} (h : tag W k = some t) (e : W'.heap[k]? = W.heap[k]?) : tag W' k = some t := by
  unfold tag at h ⊢
  rw [e]
  exact h
theorem writes_all {J : Face} (H : FsOk J) {i p : Nat} {w W : World} {s : PSt} {t : SV} {bn : Nat} {m : List UInt8} (hW : Wr w p s t bn m W) {a a4 : Option Addr} {c n4 c4 g ln cl : Nat} {B : List UInt8} {qf qn qb qt rf rn rb rt : Nat}
    (hr : OwnP W w.heap.size a 12 c ((([.func (.func 54) #[] #[at_ w.heap.size, at_ bn]] ++ wholeV qf qn qb qt) ++ wholeV rf rn rb rt) ++ [.func (.func 58) #[at_ p] #[]]))
    (hB : BsAt W a4 n4 c4 B) (hB0 : 0 < n4 → ∀ ad, a4 = some ad → w.heap.size ≤ ad.block) (hL : BsAt W (some ⟨g, 0, none⟩) ln cl (lineF m)) (hg : w.heap.size ≤ g) (h4 : n4 ≤ 140737488355328) (hln : ln ≤ 1000)
    (h1 : WholeAt W w.heap.size p (strOf m) a4 n4 c4 qf qn qb qt) (h2 : WholeAt W w.heap.size p (strOf curB) (some ⟨g, 0, none⟩) ln cl rf rn rb rt)
    {R : Nat → Prop} {l r : Fss} {S : PFs} (hJ : J w R l r) (hl : l[i]? = some (p, S)) (hS : S.asked < 900000) :
    ∃ b, a = some ⟨b, 0, none⟩ ∧ Calls Tryz.prog 57 #[.slice (some ⟨b, 0, none⟩) 12 c] W (DoneR J i p R l r w (runF (stepsW m B) S)) := by
  obtain ⟨_, _, _, hz⟩ := row_addr hr
  obtain ⟨b, rfl⟩ := hz (by omega)
  refine ⟨b, rfl, ?_⟩
  have hbw := hr.lt b rfl
  have hJW := H.turn hJ (Chg.of hW.base)
  have hC : ∀ k, w.heap.size ≤ k → k < W.heap.size → (fun k => w.heap.size ≤ k ∧ k < W.heap.size) k := fun k a b => ⟨a, b⟩
  have hH : Held (fun k => w.heap.size ≤ k ∧ k < W.heap.size) W (fun k => R k ∨ (w.heap.size ≤ k ∧ k < W.heap.size)) W := ⟨fun k hk => .inr hk, fun k hk => hk.2, Nat.le_refl _, fun k _ => rfl⟩
  refine (done_any i p (fun k => w.heap.size ≤ k ∧ k < W.heap.size) W (stepsW m B) _ b 12 c rfl (by omega) ⟨hbw.1, tag_lt (row_tag hr rfl)⟩ (fun j hj => hr.cellAt j (by omega)) ?_ (asks_W m B) hH hJW hl hS).mono ?_
  · intro j hj hj'
    have d1 := h1.does H (i := i) hC hB hB0 h4
    have d2 := h2.does H (i := i) hC hL (fun hp ad e => by cases e; exact hg) (by omega)
    have hcase : j = 0 ∨ j = 1 ∨ j = 2 ∨ j = 3 ∨ j = 4 ∨ j = 5 ∨ j = 6 ∨ j = 7 ∨ j = 8 ∨ j = 9 ∨ j = 10 ∨ j = 11 := by omega
    rcases hcase with rfl | rfl | rfl | rfl | rfl | rfl | rfl | rfl | rfl | rfl | rfl | rfl
    · exact ⟨_, rfl, write1_does H (name := strOf m) (hC _ (Nat.le_refl _) hW.f.lt) (hC _ hW.low hW.nm.lt) hW.f hW.nm⟩
    · obtain ⟨v, e, hd⟩ := d1 0 (by omega); cases e; exact ⟨_, rfl, hd⟩
    · obtain ⟨v, e, hd⟩ := d1 1 (by omega); cases e; exact ⟨_, rfl, hd⟩
    · obtain ⟨v, e, hd⟩ := d1 2 (by omega); cases e; exact ⟨_, rfl, hd⟩
    · obtain ⟨v, e, hd⟩ := d1 3 (by omega); cases e; exact ⟨_, rfl, hd⟩
    · obtain ⟨v, e, hd⟩ := d1 4 (by omega); cases e; exact ⟨_, rfl, hd⟩
    · obtain ⟨v, e, hd⟩ := d2 0 (by omega); cases e; exact ⟨_, rfl, hd⟩
    · obtain ⟨v, e, hd⟩ := d2 1 (by omega); cases e; exact ⟨_, rfl, hd⟩
    · obtain ⟨v, e, hd⟩ := d2 2 (by omega); cases e; exact ⟨_, rfl, hd⟩
    · obtain ⟨v, e, hd⟩ := d2 3 (by omega); cases e; exact ⟨_, rfl, hd⟩
    · obtain ⟨v, e, hd⟩ := d2 4 (by omega); cases e; exact ⟨_, rfl, hd⟩
    · exact ⟨_, rfl, syncDir_does H⟩
  · rintro e w' ⟨he, hj, hk⟩
    exact ⟨he, H.less hj fun k hk => .inl hk, (Kp.of hW.base).trans (hk.less fun k hk => .inl hk)⟩
set_option maxHeartbeats 4000000 in
theorem write_any {J : Face} (H : FsOk J) {i p : Nat} (s : PSt) (t : SV) {w : World} {R : Nat → Prop} {l r : Fss} {S : PFs} (hJ : J w R l r) (hl : l[i]? = some (p, S)) (hS : S.asked < 900000) (hg : Gl w)
    (hv : VnAt w s.v t) (hw : WfV s.v) (hn : s.v.all.length ≤ 60000) (hnum : s.num < 18446744073709551616) :
    Calls Tryz.prog 25 #[at_ p, sV s t] w (DoneR J i p R l r w (writeP s S)) := by
  obtain ⟨W0, eW0, H0⟩ : ∃ W0, Hid (W0 = (w.alloc (.cells #[at_ p] TFsP)).alloc (.cells (sA s t) TSt)) ∧ Hid (Below w.heap.size w W0 ∧ Box W0 w.heap.size TFsP #[at_ p] ∧ Box W0 (w.heap.size + 1) TSt (sA s t) ∧ Gl W0 ∧ VnAt W0 s.v t) := by
    have hb : Below w.heap.size w ((w.alloc (.cells #[at_ p] TFsP)).alloc (.cells (sA s t) TSt)) := ((Below.refl _ _).alloc (Nat.le_refl _) _).alloc (by simp) _
    refine ⟨_, rfl, hb, (Box.new _ _ _).alloc _, ?_, hg.later hb, hv.below hb⟩
    have := Box.new (w.alloc (.cells #[at_ p] TFsP)) TSt (sA s t)
    rw [World.size_alloc] at this
    exact this
  have HC : Hid (∀ V, V = (w.alloc (.cells #[at_ p] TFsP)).alloc (.cells (sA s t) TSt) → Calls Tryz.prog 53 #[sV s t] V fun e w' => e = .returned (.int .i64 ((chkS s : Nat) : Int)) ∧ Below W0.heap.size W0 w') := fun V e => by
    rw [e, ← eW0.out]
    exact checkState_any s t W0 H0.out.2.2.2.2 hw (by omega)
  have HJ : Hid (J w R l r ∧ l.set i (p, S) = l ∧ l[i]? = some (p, S)) := ⟨hJ, set_self_at hl, hl⟩
  have HP : Hid (writeP s S = if chkS s ≠ 0 then (S, chkS s) else runF (stepsW (nameP 3 s.num) s.bytes) S) := rfl
  have HZ : Hid (chkS s = 0 → s.Ok ∧ 1 ≤ s.num ∧ s.num ≤ 1099511627776) := chkS_zero
  have HG : Hid (Gl w ∧ VnAt w s.v t) := ⟨hg, hv⟩
  have HWN : Hid (WfV s.v ∧ s.v.all.length ≤ 60000 ∧ s.num < 18446744073709551616) := ⟨hw, hn, hnum⟩
  clear hJ hl hv hw hn hg hnum
  generalize writeP s S = o at HP ⊢
  generalize chkS s = cs at HC HP HZ
  obtain ⟨d0, d1, d2, d3, d4, d5, d6, d7⟩ := H0.out.2.2.1.eight
  have d8 := H0.out.2.1.cell 0
  rw [eW0.out] at d0 d1 d2 d3 d4 d5 d6 d7 d8
  go_enter Tryz.func25, Tryz.ntmps25
  go_wp2_with fail
  refine (HC.out _ rfl).mono ?_
  rintro _ w1 ⟨rfl, hb1⟩
  have H1 : Hid (Below w.heap.size w w1 ∧ Box w1 w.heap.size TFsP #[at_ p] ∧ Box w1 (w.heap.size + 1) TSt (sA s t) ∧ Gl w1 ∧ VnAt w1 s.v t) := ⟨H0.out.1.trans (hb1.mono H0.out.1.size), H0.out.2.1.kept (hb1.block _ H0.out.2.1.lt), H0.out.2.2.1.kept (hb1.block _ H0.out.2.2.1.lt), H0.out.2.2.2.1.later hb1, H0.out.2.2.2.2.below hb1⟩
  clear hb1 eW0 H0 HC d0 d1 d2 d3 d4 d5 d6 d7 d8
  by_cases h0 : cs = 0
  · subst h0
    obtain ⟨hok, hn1, hn2⟩ := HZ.out rfl
    have HO : Hid (o = runF (stepsW (nameP 3 s.num) s.bytes) S) := by unfold Hid; rw [HP.out]; rfl
    have HK : Hid s.Ok := hok
    clear HP HZ hok
    obtain ⟨d0, d1, d2, d3, d4, d5, d6, d7⟩ := H1.out.2.2.1.eight
    have d8 := H1.out.2.1.cell 0
    have HNM := name_any 3 ⟨by decide, by decide⟩ s.num HWN.out.2.2 w1 H1.out.2.2.2.1
    go_wp2_with fail
    refine HNM.mono ?_
    rintro _ w2 ⟨rfl, hb2⟩
    have hmf : ∀ (fn : Fn) (first cap : Array Value) (w : World), (Instr.makeFunc fn first cap).run Tryz.prog w = .ok (.func fn first cap) w := fun _ _ _ _ => rfl
    have HM : Hid (Mn (nameP 3 s.num) ∧ (nameP 3 s.num).length ≤ 100) := man_mn hn1 hn2
    generalize nameP 3 s.num = m at HM HO ⊢
    obtain ⟨bn, hbn⟩ : ∃ bn, bn = w2.heap.size := ⟨_, rfl⟩
    obtain ⟨W3, eW3, H3⟩ : ∃ W3, Hid (W3 = (w2.alloc (.cells #[.string (strOf m)] TStr)).alloc (.cells #[.func (.func 54) #[] #[at_ w.heap.size, at_ bn]] TStp)) ∧ Hid (Wr w p s t bn m W3 ∧ OwnP W3 w.heap.size (some ⟨bn + 1, 0, none⟩) 1 1 [.func (.func 54) #[] #[at_ w.heap.size, at_ bn]]) := by
      subst hbn
      have hs2 : w.heap.size ≤ w2.heap.size := Nat.le_trans H1.out.1.size hb2.size
      have hb3 : Below w2.heap.size w2 ((w2.alloc (.cells #[.string (strOf m)] TStr)).alloc (.cells #[.func (.func 54) #[] #[at_ w.heap.size, at_ w2.heap.size]] TStp)) := ((Below.refl _ _).alloc (Nat.le_refl _) _).alloc (by simp) _
      have hb4 := hb2.trans (hb3.mono hb2.size)
      refine ⟨_, rfl, ⟨H1.out.1.trans (hb4.mono H1.out.1.size), H1.out.2.1.kept (hb4.block _ H1.out.2.1.lt), H1.out.2.2.1.kept (hb4.block _ H1.out.2.2.1.lt), (Box.new _ _ _).alloc _, hs2, H1.out.2.2.2.1.later hb4, H1.out.2.2.2.2.below hb4⟩, ?_⟩
      have h9 := Box.new (w2.alloc (.cells #[.string (strOf m)] TStr)) TStp #[.func (.func 54) #[] #[at_ w.heap.size, at_ w2.heap.size]]
      rw [World.size_alloc] at h9
      exact OwnP.one (vs := [.func (.func 54) #[] #[at_ w.heap.size, at_ w2.heap.size]]) h9 (by omega) (by simp)
    clear d0 d1 d2 d3 d4 d5 d6 d7 d8 H1 hb2
    obtain ⟨d0, d1, d2, d3, d4, d5, d6, d7⟩ := (show Box W3.drew (w.heap.size + 1) TSt (sA s t) from H3.out.1.st).eight
    have d8 : W3.drew.cell? ⟨w.heap.size, 0, none⟩ = some (at_ p) := H3.out.1.f.cell 0
    have d9 : W3.drew.cell? ⟨bn, 0, none⟩ = some (.string (strOf m)) := H3.out.1.nm.cell 0
    go_upto_region 8 with fail
    rw [← hbn, ← eW3.out]
    clear eW3 hbn
    go_region_held3 (fun V => V.cell? ⟨w.heap.size, 0, none⟩ = some (at_ p) ∧ V.cell? ⟨bn, 0, none⟩ = some (.string (strOf m)) ∧ V.cell? ⟨w.heap.size + 1, 0, none⟩ = some (.int .u64 (s.num : Int)) ∧ V.cell? ⟨w.heap.size + 1, 1, none⟩ = some (.slice (t.a 0) (s.v 0).length (t.c 0)) ∧ V.cell? ⟨w.heap.size + 1, 2, none⟩ = some (.slice (t.a 1) (s.v 1).length (t.c 1)) ∧ V.cell? ⟨w.heap.size + 1, 3, none⟩ = some (.slice (t.a 2) (s.v 2).length (t.c 2)) ∧ V.cell? ⟨w.heap.size + 1, 4, none⟩ = some (.slice (t.a 3) (s.v 3).length (t.c 3)) ∧ V.cell? ⟨w.heap.size + 1, 5, none⟩ = some (.int .u64 (s.log : Int)) ∧ V.cell? ⟨w.heap.size + 1, 6, none⟩ = some (.int .u64 (s.next : Int)) ∧ V.cell? ⟨w.heap.size + 1, 7, none⟩ = some (.int .u64 (s.last : Int))) (first | exact ⟨d8, d9, d0, d1, d2, d3, d4, d5, d6, d7⟩ | go_keep)
      (first
        | (go_at_call 56; refine (stateBytes_any s t _ (H3.out.1.v.below (Below.refl _ _).drew) HK.out HWN.out.1 HWN.out.2.1).mono ?_; rintro _ w4 ⟨a4, c4, rfl, ho4, hb4⟩
           have H4 : Hid (Wr w p s t bn m w4 ∧ OwnP w4 w.heap.size (some ⟨bn + 1, 0, none⟩) 1 1 [.func (.func 54) #[] #[at_ w.heap.size, at_ bn]] ∧ OwnB w4 w.heap.size a4 s.bytes.length c4 s.bytes) := ⟨(H3.out.1.call (Below.refl _ _).drew).call hb4, row_below H3.out.2 ((Below.refl _ _).drew.trans hb4), ho4.mono H3.out.1.base.size⟩
           clear ho4 hb4 d0 d1 d2 d3 d4 d5 d6 d7 d8 d9
           obtain ⟨d0, d1, d2, d3, d4, d5, d6, d7⟩ := H4.out.1.st.eight
           have d8 : w4.cell? ⟨w.heap.size, 0, none⟩ = some (at_ p) := H4.out.1.f.cell 0
           have d9 : w4.cell? ⟨bn, 0, none⟩ = some (.string (strOf m)) := H4.out.1.nm.cell 0)
        | (go_at_call 55; refine (laidWhole_any p (strOf m) a4 s.bytes.length c4 w4 H4.out.1.gl).mono ?_; rintro _ w5 ⟨qf, qn, qb, qt, qg, rfl, hb5, hw5, hx5⟩
           have H5 : Hid (Wr w p s t bn m w5 ∧ OwnP w5 w.heap.size (some ⟨bn + 1, 0, none⟩) 1 1 [.func (.func 54) #[] #[at_ w.heap.size, at_ bn]] ∧ OwnB w5 w.heap.size a4 s.bytes.length c4 s.bytes ∧ WholeAt w5 w.heap.size p (strOf m) a4 s.bytes.length c4 qf qn qb qt ∧ Box w5 qg TStp (wholeV qf qn qb qt).toArray) := ⟨H4.out.1.call hb5, row_below H4.out.2.1 hb5, H4.out.2.2.below hb5, hw5.less H4.out.1.base.size, hx5⟩
           clear hb5 hw5 hx5 d0 d1 d2 d3 d4 d5 d6 d7 d8 d9
           obtain ⟨d0, d1, d2, d3, d4, d5, d6, d7⟩ := H5.out.1.st.eight
           have d8 : w5.cell? ⟨w.heap.size, 0, none⟩ = some (at_ p) := H5.out.1.f.cell 0
           have d9 : w5.cell? ⟨bn, 0, none⟩ = some (.string (strOf m)) := H5.out.1.nm.cell 0)
        | (refine step_appP rfl (.tmp 20) (.tmp 25) rfl w.heap.size (some ⟨bn + 1, 0, none⟩) 1 1 _ (by simp [Act.eval]) H5.out.2.1 qg 5 (wholeV qf qn qb qt) (by simp [Act.eval]) H5.out.2.2.2.2 rfl (wholeV_one _ _ _ _) (by omega) (by omega) H5.out.1.base.size ?_; intro a6 c6 w6 ho6 hb6 hg6
           have H6 : Hid (Wr w p s t bn m w6 ∧ OwnP w6 w.heap.size a6 6 c6 ([.func (.func 54) #[] #[at_ w.heap.size, at_ bn]] ++ wholeV qf qn qb qt) ∧ OwnB w6 w.heap.size a4 s.bytes.length c4 s.bytes ∧ WholeAt w6 w.heap.size p (strOf m) a4 s.bytes.length c4 qf qn qb qt) :=
             ⟨H5.out.1.app HG.out.1 HG.out.2 H5.out.2.1 hb6 hg6, ho6, ⟨H5.out.2.2.1.size, row_same H5.out.2.2.1.row (fun k e => app_keeps H5.out.2.1 hg6 k _ (row_tag H5.out.2.2.1.row e) (by decide))⟩, H5.out.2.2.2.1.kept (app_keeps H5.out.2.1 hg6)⟩
           clear ho6 hb6 hg6 d0 d1 d2 d3 d4 d5 d6 d7 d8 d9
           obtain ⟨d0, d1, d2, d3, d4, d5, d6, d7⟩ := H6.out.1.st.eight
           have d8 : w6.cell? ⟨w.heap.size, 0, none⟩ = some (at_ p) := H6.out.1.f.cell 0
           have d9 : w6.cell? ⟨bn, 0, none⟩ = some (.string (strOf m)) := H6.out.1.nm.cell 0))
    have hm100 := HM.out.2
    obtain ⟨sl, hsl⟩ : ∃ sl, Hid (sl = strOf (lineF m)) := ⟨_, rfl⟩
    have s2 : ∀ V : World, (Op.stringOp .add (strOf m) ⟨#[10]⟩).run Tryz.prog V = .ok (.string sl) V := fun V => by
      have := run_string_add_sum (P := Tryz.prog) V (strOf m) (strOf [10]) (by rw [strOf_size, strOf_size]; simp; omega)
      rw [strOf_add] at this
      rw [hsl.out]
      exact this
    have hcv := line_run sl
    have HBL : Hid (s.bytes.length ≤ 140737488355328) := by
      have := man_le s.eds (ed_short HK.out) []
      have h2 := chG_len_le (iv := 100) (by omega) s.v.all
      have h3 := HWN.out.2.1
      have h4 : s.eds.length = (chG 100 s.v.all).length + 1 := by simp [PSt.eds]
      simp only [List.length_nil] at this
      show (manOf s.eds).length ≤ _
      unfold manOf
      omega
    have hss : sl.size ≤ 101 := by rw [hsl.out, strOf_size]; unfold lineF; rw [List.length_append]; simp; omega
    obtain ⟨d0, d1, d2, d3, d4, d5, d6, d7⟩ := H6.out.1.st.eight
    have d8 : w6.drew.cell? ⟨w.heap.size, 0, none⟩ = some (at_ p) := H6.out.1.f.cell 0
    have d9 : w6.drew.cell? ⟨bn, 0, none⟩ = some (.string (strOf m)) := H6.out.1.nm.cell 0
    clear d0 d1 d2 d3 d4 d5 d6 d7
    go_upto_region 9 with fail
    have hmix : Tryz.prog.follows Departure.mixedOrders = true := by kernel_rfl
    have H6d : Hid (Wr w p s t bn m w6.drew) := H6.out.1.call (Below.refl _ _).drew
    refine wp_region_noPanic ?_
    refine wp_region_held_drew (S := fun V => V.cell? ⟨w.heap.size, 0, none⟩ = some (at_ p) ∧ V.cell? ⟨bn, 0, none⟩ = some (.string (strOf m))) hmix ⟨d8, d9⟩ (fun hHeld => ?_)
    refine wpAnyH_take (i := 0) (v := ?_) rfl (by kernel_rfl) (by kernel_rfl) (by kernel_rfl) (fun _ _ _ h => h) (Or.inl ⟨by rfl, ?_⟩) hHeld ?_
    rotate_left
    · intro w hSw
      try dsimp only at hSw
      go_simp
      try with_reducible rfl
    try simp only [Act.put, List.getElem_toArray, List.getElem_cons_succ, List.getElem_cons_zero, Array.getInternal_eq_getElem, List.setIfInBounds_toArray, List.set_cons_zero, List.set_cons_succ]
    refine wpAnyH_take (i := 1) (v := ?_) rfl (by kernel_rfl) (by kernel_rfl) (by kernel_rfl) (fun _ _ _ h => h) (Or.inl ⟨by rfl, ?_⟩) hHeld ?_
    rotate_left
    · intro w hSw
      try dsimp only at hSw
      go_simp
      try with_reducible rfl
    try simp only [Act.put, List.getElem_toArray, List.getElem_cons_succ, List.getElem_cons_zero, Array.getInternal_eq_getElem, List.setIfInBounds_toArray, List.set_cons_zero, List.set_cons_succ]
    refine wpAnyH_take (i := 3) (v := ?_) rfl (by kernel_rfl) (by kernel_rfl) (by kernel_rfl) (fun _ _ _ h => h) (Or.inl ⟨by rfl, ?_⟩) hHeld ?_
    rotate_left
    · intro w hSw
      try dsimp only at hSw
      go_simp
      try with_reducible rfl
    try simp only [Act.put, List.getElem_toArray, List.getElem_cons_succ, List.getElem_cons_zero, Array.getInternal_eq_getElem, List.setIfInBounds_toArray, List.set_cons_zero, List.set_cons_succ]
    refine wpAnyH_take (i := 4) (v := ?_) rfl (by kernel_rfl) (by kernel_rfl) (by kernel_rfl) (fun _ _ _ h => h) (Or.inl ⟨by rfl, ?_⟩) hHeld ?_
    rotate_left
    · intro w hSw
      try dsimp only at hSw
      go_simp
      try with_reducible rfl
    try simp only [Act.put, List.getElem_toArray, List.getElem_cons_succ, List.getElem_cons_zero, Array.getInternal_eq_getElem, List.setIfInBounds_toArray, List.set_cons_zero, List.set_cons_succ]
    refine wpAnyH_ready (rs := [2, 5]) (by kernel_rfl) (by simp) ?_
    refine AllReadyH.cons rfl (fun K hK => ?_) ?_
    · skip
      go_simp
      refine (name_any 4 ⟨by decide, by decide⟩ 0 (by omega) (w6.drew) (H6d.out.gl)).mono ?_
      rintro _ w7 ⟨rfl, hb7⟩
      have H7n : Hid (Wr w p s t bn m w7 ∧ Below w6.heap.size w6 w7) := ⟨H6d.out.call hb7, (Below.refl _ _).drew.trans hb7⟩
      clear hb7 d8 d9
      have d8 : w7.cell? ⟨w.heap.size, 0, none⟩ = some (at_ p) := H7n.out.1.f.cell 0
      have d9 : w7.cell? ⟨bn, 0, none⟩ = some (.string (strOf m)) := H7n.out.1.nm.cell 0
      clear hHeld
      refine hK.out _ _ ⟨d8, d9⟩ (fun hHeld => ?_)
      clear hK K
      try simp only [Act.put, List.getElem_toArray, List.getElem_cons_succ, List.getElem_cons_zero, Array.getInternal_eq_getElem, List.setIfInBounds_toArray, List.set_cons_zero, List.set_cons_succ]
      refine wpAnyH_ready (rs := [5]) (by kernel_rfl) (by simp) ?_
      refine AllReadyH.cons rfl (fun K hK => ?_) (AllReadyH.nil)
      go_simp
      have hlb := line_below sl (w7)
      have H7 : Hid (Wr w p s t bn m (lineW sl (w7)) ∧ OwnP (lineW sl (w7)) w.heap.size a6 6 c6 ([.func (.func 54) #[] #[at_ w.heap.size, at_ bn]] ++ wholeV qf qn qb qt) ∧ OwnB (lineW sl (w7)) w.heap.size a4 s.bytes.length c4 s.bytes ∧ WholeAt (lineW sl (w7)) w.heap.size p (strOf m) a4 s.bytes.length c4 qf qn qb qt ∧ BsAt (lineW sl (w7)) (some ⟨(w7).heap.size, 0, none⟩) sl.size (lineC sl (w7)) sl.data.toList ∧ w.heap.size ≤ (w7).heap.size ∧ tag (lineW sl (w7)) (w7).heap.size = some 5) := ⟨(H7n.out.1).call hlb, row_below H6.out.2.1 ((H7n.out.2).trans (hlb.mono (H7n.out.2).size)), H6.out.2.2.1.below ((H7n.out.2).trans (hlb.mono (H7n.out.2).size)), H6.out.2.2.2.below ((H7n.out.2).trans (hlb.mono (H7n.out.2).size)), line_at sl _ (by omega), (H7n.out.1).base.size, line_tag sl _⟩
      clear hlb
      generalize hgg : w7.heap.size = g at H7 ⊢
      generalize lineC sl w7 = cl at H7 ⊢
      generalize lineW sl w7 = V at H7 ⊢
      clear hgg H7n d8 d9
      have d8 : V.cell? ⟨w.heap.size, 0, none⟩ = some (at_ p) := H7.out.1.f.cell 0
      have d9 : V.cell? ⟨bn, 0, none⟩ = some (.string (strOf m)) := H7.out.1.nm.cell 0
      clear hHeld
      refine hK.out _ _ ⟨d8, d9⟩ (fun hHeld => ?_)
      clear hK K
      try simp only [Act.put, List.getElem_toArray, List.getElem_cons_succ, List.getElem_cons_zero, Array.getInternal_eq_getElem, List.setIfInBounds_toArray, List.set_cons_zero, List.set_cons_succ]
      refine wpAnyH_ready (rs := [6]) (by kernel_rfl) (by simp) ?_
      refine AllReadyH.cons rfl (fun K hK => ?_) (AllReadyH.nil)
      go_simp
      refine (laidWhole_any p (strOf curB) (some ⟨g, 0, none⟩) sl.size cl V H7.out.1.gl).mono ?_
      rintro _ w8 ⟨rf, rn, rb, rt, rg, rfl, hb8, hw8, hx8⟩
      have H8 : Hid (Wr w p s t bn m w8 ∧ OwnP w8 w.heap.size a6 6 c6 ([.func (.func 54) #[] #[at_ w.heap.size, at_ bn]] ++ wholeV qf qn qb qt) ∧ OwnB w8 w.heap.size a4 s.bytes.length c4 s.bytes ∧ WholeAt w8 w.heap.size p (strOf m) a4 s.bytes.length c4 qf qn qb qt ∧ BsAt w8 (some ⟨g, 0, none⟩) sl.size cl sl.data.toList ∧ (w.heap.size ≤ g ∧ tag w8 g = some 5) ∧ WholeAt w8 w.heap.size p (strOf curB) (some ⟨g, 0, none⟩) sl.size cl rf rn rb rt ∧ Box w8 rg TStp (wholeV rf rn rb rt).toArray) := ⟨H7.out.1.call hb8, row_below H7.out.2.1 hb8, H7.out.2.2.1.below hb8, H7.out.2.2.2.1.below hb8, H7.out.2.2.2.2.1.below (Nat.le_refl _) hb8, ⟨H7.out.2.2.2.2.2.1, tag_kept H7.out.2.2.2.2.2.2 (hb8.block _ (tag_lt H7.out.2.2.2.2.2.2))⟩, hw8.less H7.out.1.base.size, hx8⟩
      clear hb8 hw8 hx8 d8 d9
      have d8 : w8.cell? ⟨w.heap.size, 0, none⟩ = some (at_ p) := H8.out.1.f.cell 0
      have d9 : w8.cell? ⟨bn, 0, none⟩ = some (.string (strOf m)) := H8.out.1.nm.cell 0
      clear hHeld
      refine hK.out _ _ ⟨d8, d9⟩ (fun hHeld => ?_)
      clear hK K
      try simp only [Act.put, List.getElem_toArray, List.getElem_cons_succ, List.getElem_cons_zero, Array.getInternal_eq_getElem, List.setIfInBounds_toArray, List.set_cons_zero, List.set_cons_succ]
      refine wpAnyH_ready (rs := [7]) (by kernel_rfl) (by simp) ?_
      refine AllReadyH.cons rfl (fun K hK => ?_) (AllReadyH.nil)
      refine step_appP rfl (.tmp 27) (.tmp 33) rfl w.heap.size a6 6 c6 _ (by simp [Act.eval]) H8.out.2.1 rg 5 (wholeV rf rn rb rt) (by simp [Act.eval]) H8.out.2.2.2.2.2.2.2 rfl (wholeV_one _ _ _ _) (by omega) (by omega) H8.out.1.base.size ?_
      intro a9 c9 w9 ho9 hb9 hg9
      have hkp := app_keeps H8.out.2.1 hg9
      have H9 : Hid (Wr w p s t bn m w9 ∧ OwnP w9 w.heap.size a9 11 c9 (([.func (.func 54) #[] #[at_ w.heap.size, at_ bn]] ++ wholeV qf qn qb qt) ++ wholeV rf rn rb rt) ∧ OwnB w9 w.heap.size a4 s.bytes.length c4 s.bytes ∧ WholeAt w9 w.heap.size p (strOf m) a4 s.bytes.length c4 qf qn qb qt ∧ BsAt w9 (some ⟨g, 0, none⟩) sl.size cl sl.data.toList ∧ (w.heap.size ≤ g ∧ tag w9 g = some 5) ∧ WholeAt w9 w.heap.size p (strOf curB) (some ⟨g, 0, none⟩) sl.size cl rf rn rb rt) :=
        ⟨H8.out.1.app HG.out.1 HG.out.2 H8.out.2.1 hb9 hg9, ho9, ⟨H8.out.2.2.1.size, row_same H8.out.2.2.1.row (fun k e => hkp k _ (row_tag H8.out.2.2.1.row e) (by decide))⟩, H8.out.2.2.2.1.kept hkp, H8.out.2.2.2.2.1.heldAt (fun hp ad e => by cases e; exact hkp _ _ H8.out.2.2.2.2.2.1.2 (by decide)), ⟨H8.out.2.2.2.2.2.1.1, tag_kept H8.out.2.2.2.2.2.1.2 (hkp _ _ H8.out.2.2.2.2.2.1.2 (by decide))⟩, H8.out.2.2.2.2.2.2.1.kept hkp⟩
      clear ho9 hb9 hg9 hkp d8 d9
      have d8 : w9.cell? ⟨w.heap.size, 0, none⟩ = some (at_ p) := H9.out.1.f.cell 0
      have d9 : w9.cell? ⟨bn, 0, none⟩ = some (.string (strOf m)) := H9.out.1.nm.cell 0
      clear hHeld
      refine hK.out _ _ ⟨d8, d9⟩ (fun hHeld => ?_)
      clear hK K
      try simp only [Act.put, List.getElem_toArray, List.getElem_cons_succ, List.getElem_cons_zero, Array.getInternal_eq_getElem, List.setIfInBounds_toArray, List.set_cons_zero, List.set_cons_succ]
      refine wpAnyH_ready (rs := [8]) (by kernel_rfl) (by simp) ?_
      refine AllReadyH.cons rfl (fun K hK => ?_) (AllReadyH.nil)
      go_simp
      refine hK.out _ _ ⟨d8, d9⟩ (fun hHeld => ?_)
      clear hK K
      try simp only [Act.put, List.getElem_toArray, List.getElem_cons_succ, List.getElem_cons_zero, Array.getInternal_eq_getElem, List.setIfInBounds_toArray, List.set_cons_zero, List.set_cons_succ]
      refine wpAnyH_done (by kernel_rfl) (NoPanic.normal ?_) _
      clear hHeld
      have hmf : ∀ (fn : Fn) (first cap : Array Value) (w : World), (Instr.makeFunc fn first cap).run Tryz.prog w = .ok (.func fn first cap) w := fun _ _ _ _ => rfl
      have d8' : w9.cell? ⟨w.heap.size, 0, none⟩ = some (at_ p) := H9.out.1.f.cell 0
      obtain ⟨W5, eW5, HX⟩ : ∃ W5, Hid (W5 = w9.alloc (.cells #[.func (.func 58) #[at_ p] #[]] TStp)) ∧ Hid (Below w9.heap.size w9 W5 ∧ Box W5 w9.heap.size TStp #[.func (.func 58) #[at_ p] #[]]) := ⟨_, rfl, (Below.refl _ _).alloc (Nat.le_refl _) _, Box.new _ _ _⟩
      have HXO : Hid (OwnP W5 w.heap.size a9 11 c9 (([.func (.func 54) #[] #[at_ w.heap.size, at_ bn]] ++ wholeV qf qn qb qt) ++ wholeV rf rn rb rt) ∧ Wr w p s t bn m W5) := ⟨row_below H9.out.2.1 HX.out.1, H9.out.1.call HX.out.1⟩
      go_wp2_with (at_builtin; rw [← eW5.out]; refine wpList_appP W5 rfl _ _ rfl w.heap.size a9 11 c9 _ rfl HXO.out.1 w9.heap.size 1 [.func (.func 58) #[at_ p] #[]] rfl HX.out.2 rfl (by intro u hu; obtain rfl := List.mem_singleton.1 hu; rfl) (by omega) HXO.out.2.base.size ?_)
      intro a10 c10 w10 ho10 hb10 hg10
      have hkp := app_keeps HXO.out.1 hg10
      have hgg : tag W5 g = some 5 := tag_kept H9.out.2.2.2.2.2.1.2 (HX.out.1.block _ (tag_lt H9.out.2.2.2.2.2.1.2))
      have hBo : OwnB W5 w.heap.size a4 s.bytes.length c4 s.bytes := H9.out.2.2.1.below HX.out.1
      have hB6 : OwnB w10 w.heap.size a4 s.bytes.length c4 s.bytes := ⟨hBo.size, row_same hBo.row (fun k e => hkp k _ (row_tag hBo.row e) (by decide))⟩
      have hLo : BsAt w10 (some ⟨g, 0, none⟩) sl.size cl sl.data.toList := (H9.out.2.2.2.2.1.below (Nat.le_refl _) HX.out.1).heldAt (fun hp ad e => by cases e; exact hkp _ _ hgg (by decide))
      rw [show sl.data.toList = lineF m by rw [hsl.out]; rfl] at hLo
      obtain ⟨b, rfl, hdo⟩ := writes_all H (HXO.out.2.app HG.out.1 HG.out.2 HXO.out.1 hb10 hg10) ho10 hB6.bs (fun hp ad e => hB6.lt _ (by rw [e]; rfl)) hLo H9.out.2.2.2.2.2.1.1 (HBL.out) (by omega) ((H9.out.2.2.2.1.below HX.out.1).kept hkp) ((H9.out.2.2.2.2.2.2.below HX.out.1).kept hkp) HJ.out.1 HJ.out.2.2 hS
      rw [← HO.out] at hdo
      have HDO : Hid _ := hdo
      clear hdo ho10 hb10 hg10 hkp hLo hB6 hBo hgg
      go_wp2_with fail
      refine Calls.mono HDO.out ?_
      rintro _ w11 ⟨rfl, hj11, hk11⟩
      go_wp2
      go_ret
      exact ⟨rfl, hj11, hk11⟩
    refine AllReadyH.cons rfl (fun K hK => ?_) (AllReadyH.nil)
    · skip
      go_simp
      have hlb := line_below sl (w6.drew)
      have H7 : Hid (Wr w p s t bn m (lineW sl (w6.drew)) ∧ OwnP (lineW sl (w6.drew)) w.heap.size a6 6 c6 ([.func (.func 54) #[] #[at_ w.heap.size, at_ bn]] ++ wholeV qf qn qb qt) ∧ OwnB (lineW sl (w6.drew)) w.heap.size a4 s.bytes.length c4 s.bytes ∧ WholeAt (lineW sl (w6.drew)) w.heap.size p (strOf m) a4 s.bytes.length c4 qf qn qb qt ∧ BsAt (lineW sl (w6.drew)) (some ⟨(w6.drew).heap.size, 0, none⟩) sl.size (lineC sl (w6.drew)) sl.data.toList ∧ w.heap.size ≤ (w6.drew).heap.size ∧ tag (lineW sl (w6.drew)) (w6.drew).heap.size = some 5) := ⟨(H6d.out).call hlb, row_below H6.out.2.1 (((show Below w6.heap.size w6 w6.drew from (Below.refl _ _).drew)).trans (hlb.mono ((show Below w6.heap.size w6 w6.drew from (Below.refl _ _).drew)).size)), H6.out.2.2.1.below (((show Below w6.heap.size w6 w6.drew from (Below.refl _ _).drew)).trans (hlb.mono ((show Below w6.heap.size w6 w6.drew from (Below.refl _ _).drew)).size)), H6.out.2.2.2.below (((show Below w6.heap.size w6 w6.drew from (Below.refl _ _).drew)).trans (hlb.mono ((show Below w6.heap.size w6 w6.drew from (Below.refl _ _).drew)).size)), line_at sl _ (by omega), (H6d.out).base.size, line_tag sl _⟩
      clear hlb
      generalize hgg : w6.drew.heap.size = g at H7 ⊢
      try rw [show w6.heap.size = g from hgg]
      generalize lineC sl w6.drew = cl at H7 ⊢
      generalize lineW sl w6.drew = V0 at H7 ⊢
      clear hgg d8 d9
      have d8 : V0.cell? ⟨w.heap.size, 0, none⟩ = some (at_ p) := H7.out.1.f.cell 0
      have d9 : V0.cell? ⟨bn, 0, none⟩ = some (.string (strOf m)) := H7.out.1.nm.cell 0
      clear hHeld
      refine hK.out _ _ ⟨d8, d9⟩ (fun hHeld => ?_)
      clear hK K
      try simp only [Act.put, List.getElem_toArray, List.getElem_cons_succ, List.getElem_cons_zero, Array.getInternal_eq_getElem, List.setIfInBounds_toArray, List.set_cons_zero, List.set_cons_succ]
      refine wpAnyH_ready (rs := [2]) (by kernel_rfl) (by simp) ?_
      refine AllReadyH.cons rfl (fun K hK => ?_) (AllReadyH.nil)
      go_simp
      refine (name_any 4 ⟨by decide, by decide⟩ 0 (by omega) (V0) (H7.out.1.gl)).mono ?_
      rintro _ w7 ⟨rfl, hb7⟩
      have H7o := H7
      clear H7
      have H7 : Hid (Wr w p s t bn m w7 ∧ OwnP w7 w.heap.size a6 6 c6 ([.func (.func 54) #[] #[at_ w.heap.size, at_ bn]] ++ wholeV qf qn qb qt) ∧ OwnB w7 w.heap.size a4 s.bytes.length c4 s.bytes ∧ WholeAt w7 w.heap.size p (strOf m) a4 s.bytes.length c4 qf qn qb qt ∧ BsAt w7 (some ⟨g, 0, none⟩) sl.size cl sl.data.toList ∧ w.heap.size ≤ g ∧ tag w7 g = some 5) := ⟨H7o.out.1.call hb7, row_below H7o.out.2.1 hb7, H7o.out.2.2.1.below hb7, H7o.out.2.2.2.1.below hb7, H7o.out.2.2.2.2.1.below (Nat.le_refl _) hb7, H7o.out.2.2.2.2.2.1, tag_kept H7o.out.2.2.2.2.2.2 (hb7.block _ (tag_lt H7o.out.2.2.2.2.2.2))⟩
      clear hb7 H7o d8 d9
      generalize w7 = V at H7 ⊢
      have d8 : V.cell? ⟨w.heap.size, 0, none⟩ = some (at_ p) := H7.out.1.f.cell 0
      have d9 : V.cell? ⟨bn, 0, none⟩ = some (.string (strOf m)) := H7.out.1.nm.cell 0
      clear hHeld
      refine hK.out _ _ ⟨d8, d9⟩ (fun hHeld => ?_)
      clear hK K
      try simp only [Act.put, List.getElem_toArray, List.getElem_cons_succ, List.getElem_cons_zero, Array.getInternal_eq_getElem, List.setIfInBounds_toArray, List.set_cons_zero, List.set_cons_succ]
      refine wpAnyH_ready (rs := [6]) (by kernel_rfl) (by simp) ?_
      refine AllReadyH.cons rfl (fun K hK => ?_) (AllReadyH.nil)
      go_simp
      refine (laidWhole_any p (strOf curB) (some ⟨g, 0, none⟩) sl.size cl V H7.out.1.gl).mono ?_
      rintro _ w8 ⟨rf, rn, rb, rt, rg, rfl, hb8, hw8, hx8⟩
      have H8 : Hid (Wr w p s t bn m w8 ∧ OwnP w8 w.heap.size a6 6 c6 ([.func (.func 54) #[] #[at_ w.heap.size, at_ bn]] ++ wholeV qf qn qb qt) ∧ OwnB w8 w.heap.size a4 s.bytes.length c4 s.bytes ∧ WholeAt w8 w.heap.size p (strOf m) a4 s.bytes.length c4 qf qn qb qt ∧ BsAt w8 (some ⟨g, 0, none⟩) sl.size cl sl.data.toList ∧ (w.heap.size ≤ g ∧ tag w8 g = some 5) ∧ WholeAt w8 w.heap.size p (strOf curB) (some ⟨g, 0, none⟩) sl.size cl rf rn rb rt ∧ Box w8 rg TStp (wholeV rf rn rb rt).toArray) := ⟨H7.out.1.call hb8, row_below H7.out.2.1 hb8, H7.out.2.2.1.below hb8, H7.out.2.2.2.1.below hb8, H7.out.2.2.2.2.1.below (Nat.le_refl _) hb8, ⟨H7.out.2.2.2.2.2.1, tag_kept H7.out.2.2.2.2.2.2 (hb8.block _ (tag_lt H7.out.2.2.2.2.2.2))⟩, hw8.less H7.out.1.base.size, hx8⟩
      clear hb8 hw8 hx8 d8 d9
      have d8 : w8.cell? ⟨w.heap.size, 0, none⟩ = some (at_ p) := H8.out.1.f.cell 0
      have d9 : w8.cell? ⟨bn, 0, none⟩ = some (.string (strOf m)) := H8.out.1.nm.cell 0
      clear hHeld
      refine hK.out _ _ ⟨d8, d9⟩ (fun hHeld => ?_)
      clear hK K
      try simp only [Act.put, List.getElem_toArray, List.getElem_cons_succ, List.getElem_cons_zero, Array.getInternal_eq_getElem, List.setIfInBounds_toArray, List.set_cons_zero, List.set_cons_succ]
      refine wpAnyH_ready (rs := [7]) (by kernel_rfl) (by simp) ?_
      refine AllReadyH.cons rfl (fun K hK => ?_) (AllReadyH.nil)
      refine step_appP rfl (.tmp 27) (.tmp 33) rfl w.heap.size a6 6 c6 _ (by simp [Act.eval]) H8.out.2.1 rg 5 (wholeV rf rn rb rt) (by simp [Act.eval]) H8.out.2.2.2.2.2.2.2 rfl (wholeV_one _ _ _ _) (by omega) (by omega) H8.out.1.base.size ?_
      intro a9 c9 w9 ho9 hb9 hg9
      have hkp := app_keeps H8.out.2.1 hg9
      have H9 : Hid (Wr w p s t bn m w9 ∧ OwnP w9 w.heap.size a9 11 c9 (([.func (.func 54) #[] #[at_ w.heap.size, at_ bn]] ++ wholeV qf qn qb qt) ++ wholeV rf rn rb rt) ∧ OwnB w9 w.heap.size a4 s.bytes.length c4 s.bytes ∧ WholeAt w9 w.heap.size p (strOf m) a4 s.bytes.length c4 qf qn qb qt ∧ BsAt w9 (some ⟨g, 0, none⟩) sl.size cl sl.data.toList ∧ (w.heap.size ≤ g ∧ tag w9 g = some 5) ∧ WholeAt w9 w.heap.size p (strOf curB) (some ⟨g, 0, none⟩) sl.size cl rf rn rb rt) :=
        ⟨H8.out.1.app HG.out.1 HG.out.2 H8.out.2.1 hb9 hg9, ho9, ⟨H8.out.2.2.1.size, row_same H8.out.2.2.1.row (fun k e => hkp k _ (row_tag H8.out.2.2.1.row e) (by decide))⟩, H8.out.2.2.2.1.kept hkp, H8.out.2.2.2.2.1.heldAt (fun hp ad e => by cases e; exact hkp _ _ H8.out.2.2.2.2.2.1.2 (by decide)), ⟨H8.out.2.2.2.2.2.1.1, tag_kept H8.out.2.2.2.2.2.1.2 (hkp _ _ H8.out.2.2.2.2.2.1.2 (by decide))⟩, H8.out.2.2.2.2.2.2.1.kept hkp⟩
      clear ho9 hb9 hg9 hkp d8 d9
      have d8 : w9.cell? ⟨w.heap.size, 0, none⟩ = some (at_ p) := H9.out.1.f.cell 0
      have d9 : w9.cell? ⟨bn, 0, none⟩ = some (.string (strOf m)) := H9.out.1.nm.cell 0
      clear hHeld
      refine hK.out _ _ ⟨d8, d9⟩ (fun hHeld => ?_)
      clear hK K
      try simp only [Act.put, List.getElem_toArray, List.getElem_cons_succ, List.getElem_cons_zero, Array.getInternal_eq_getElem, List.setIfInBounds_toArray, List.set_cons_zero, List.set_cons_succ]
      refine wpAnyH_ready (rs := [8]) (by kernel_rfl) (by simp) ?_
      refine AllReadyH.cons rfl (fun K hK => ?_) (AllReadyH.nil)
      go_simp
      refine hK.out _ _ ⟨d8, d9⟩ (fun hHeld => ?_)
      clear hK K
      try simp only [Act.put, List.getElem_toArray, List.getElem_cons_succ, List.getElem_cons_zero, Array.getInternal_eq_getElem, List.setIfInBounds_toArray, List.set_cons_zero, List.set_cons_succ]
      refine wpAnyH_done (by kernel_rfl) (NoPanic.normal ?_) _
      clear hHeld
      have hmf : ∀ (fn : Fn) (first cap : Array Value) (w : World), (Instr.makeFunc fn first cap).run Tryz.prog w = .ok (.func fn first cap) w := fun _ _ _ _ => rfl
      have d8' : w9.cell? ⟨w.heap.size, 0, none⟩ = some (at_ p) := H9.out.1.f.cell 0
      obtain ⟨W5, eW5, HX⟩ : ∃ W5, Hid (W5 = w9.alloc (.cells #[.func (.func 58) #[at_ p] #[]] TStp)) ∧ Hid (Below w9.heap.size w9 W5 ∧ Box W5 w9.heap.size TStp #[.func (.func 58) #[at_ p] #[]]) := ⟨_, rfl, (Below.refl _ _).alloc (Nat.le_refl _) _, Box.new _ _ _⟩
      have HXO : Hid (OwnP W5 w.heap.size a9 11 c9 (([.func (.func 54) #[] #[at_ w.heap.size, at_ bn]] ++ wholeV qf qn qb qt) ++ wholeV rf rn rb rt) ∧ Wr w p s t bn m W5) := ⟨row_below H9.out.2.1 HX.out.1, H9.out.1.call HX.out.1⟩
      go_wp2_with (at_builtin; rw [← eW5.out]; refine wpList_appP W5 rfl _ _ rfl w.heap.size a9 11 c9 _ rfl HXO.out.1 w9.heap.size 1 [.func (.func 58) #[at_ p] #[]] rfl HX.out.2 rfl (by intro u hu; obtain rfl := List.mem_singleton.1 hu; rfl) (by omega) HXO.out.2.base.size ?_)
      intro a10 c10 w10 ho10 hb10 hg10
      have hkp := app_keeps HXO.out.1 hg10
      have hgg : tag W5 g = some 5 := tag_kept H9.out.2.2.2.2.2.1.2 (HX.out.1.block _ (tag_lt H9.out.2.2.2.2.2.1.2))
      have hBo : OwnB W5 w.heap.size a4 s.bytes.length c4 s.bytes := H9.out.2.2.1.below HX.out.1
      have hB6 : OwnB w10 w.heap.size a4 s.bytes.length c4 s.bytes := ⟨hBo.size, row_same hBo.row (fun k e => hkp k _ (row_tag hBo.row e) (by decide))⟩
      have hLo : BsAt w10 (some ⟨g, 0, none⟩) sl.size cl sl.data.toList := (H9.out.2.2.2.2.1.below (Nat.le_refl _) HX.out.1).heldAt (fun hp ad e => by cases e; exact hkp _ _ hgg (by decide))
      rw [show sl.data.toList = lineF m by rw [hsl.out]; rfl] at hLo
      obtain ⟨b, rfl, hdo⟩ := writes_all H (HXO.out.2.app HG.out.1 HG.out.2 HXO.out.1 hb10 hg10) ho10 hB6.bs (fun hp ad e => hB6.lt _ (by rw [e]; rfl)) hLo H9.out.2.2.2.2.2.1.1 (HBL.out) (by omega) ((H9.out.2.2.2.1.below HX.out.1).kept hkp) ((H9.out.2.2.2.2.2.2.below HX.out.1).kept hkp) HJ.out.1 HJ.out.2.2 hS
      rw [← HO.out] at hdo
      have HDO : Hid _ := hdo
      clear hdo ho10 hb10 hg10 hkp hLo hB6 hBo hgg
      go_wp2_with fail
      refine Calls.mono HDO.out ?_
      rintro _ w11 ⟨rfl, hj11, hk11⟩
      go_wp2
      go_ret
      exact ⟨rfl, hj11, hk11⟩
  · have hb : ((cs : Int) != 0) = true := by simp; omega
    have HO : Hid (o = (S, cs)) := by unfold Hid; rw [HP.out, if_pos h0]
    go_wp2
    go_ret
    rw [HO.out]
    exact ⟨rfl, by rw [HJ.out.2.1]; exact H.step HJ.out.1 H1.out.1, Kp.of H1.out.1⟩
end Go.Proofs.YtmlfbihlbiikeaaGreatDoor
