/- The document's own file systems keep the promises: out of the contracts of Crash and Copy, which are still to come. -/
import Derived.Test.YtkelahekfkhcfaaJoint
import Derived.Test.YtkelahekfkhcfaaPaNames
import Derived.Test.YtkelahekfkhcfaaPaFew
import Derived.Test.YtkelahekfkhcfaaPaChg
import Derived.Test.YtkelahekfkhcfaaPaApp
import Derived.Deep.RegionHeld3
import Derived.Test.YtkelahekfkhcfaaCrashPlain
import Derived.Test.YtkelahekfkhcfaaFsOkD
import Derived.Test.YtkelahekfkhcfaaFsNilD
import Derived.Test.YtkelahekfkhcfaaSimfsPlaysOf
namespace Go.Proofs.Ytkelahekfkhcfaa
open Go.RowKit
theorem rfBase : Base E0 := ⟨rfBase_zero, rfBase_turn, rfBase_less⟩
theorem rg0_in {k : Nat} (h : RIn rg0 k) : False := by
  rcases h with e | e | e | e | ⟨r, hr, _⟩
  · cases e
  · cases e
  · cases e
  · cases e
  · cases hr
theorem rfOk_of
    (hcr : ∀ {w : World} {p : Nat} {S : PFs} {g : RG}, RfAt w p S g → RInv S → ∀ (a : Option Addr) (len cap : Nat) (l : List Int), IsAt w a len cap l → (0 < len → ∀ ad, a = some ad → ¬ RFoot p g ad.block) → Calls Try.prog 40 #[at_ p, .slice a len cap] w fun e w' => e = .returned (.tuple #[]) ∧ RInv (S.crash l) ∧ ∃ g', RfAt w' p (S.crash l) g' ∧ RTurn p g g' w w')
    (hcp : ∀ {w : World} {p : Nat} {S : PFs} {g : RG}, RfAt w p S g → RInv S → Calls Try.prog 15 #[at_ p] w fun e w' => ∃ q gC, e = .returned (at_ q) ∧ RfAt w' q S gC ∧ (∀ b, RFoot q gC b → w.heap.size ≤ b) ∧ Below w.heap.size w w') : RfOk E0 where
  new := fun {w R l r} q hq ⟨gh, h⟩ => by
    refine (rnew_at w q).mono ?_
    rintro e w' (⟨h1, rfl, h2, h3⟩ | ⟨h1, rfl, rfl⟩)
    · exact .inl ⟨h1, _, rfl, h.push (RInv.new (by omega)) h2 (fun b hb => hb.elim (fun e => Nat.le_of_eq e.symm) (fun e => (rg0_in e).elim)) h3⟩
    · exact .inr ⟨h1, rfl, ⟨gh, h⟩, kp_of (Below.refl _ _)⟩
  create := fun i name ⟨gh, h⟩ hi ha => by
    obtain ⟨hI, hf, hR⟩ := h.here i _ _ hi
    refine (rcreate_at hf hI ha name).mono ?_
    rintro e w' ⟨rfl, hI', g', hf', ht⟩
    exact ⟨rfl, h.set hi hI' hf' ht⟩
  append := fun i name a len cap bs ⟨gh, h⟩ hi ha hbs hlen => by
    obtain ⟨hI, hf, hR⟩ := h.here i _ _ hi
    refine (rappend_at hf hI ha name a len cap bs hbs hlen).mono ?_
    rintro e w' ⟨rfl, hI', g', hf', ht⟩
    exact ⟨rfl, h.set hi hI' hf' ht⟩
  sync := fun i name ⟨gh, h⟩ hi ha => by
    obtain ⟨hI, hf, hR⟩ := h.here i _ _ hi
    refine (rsync_at hf hI ha name).mono ?_
    rintro e w' ⟨rfl, hI', g', hf', ht⟩
    exact ⟨rfl, h.set hi hI' hf' ht⟩
  rename := fun i a b ⟨gh, h⟩ hi ha => by
    obtain ⟨hI, hf, hR⟩ := h.here i _ _ hi
    refine (rrename_at hf hI ha a b).mono ?_
    rintro e w' ⟨rfl, hI', g', hf', ht⟩
    exact ⟨rfl, h.set hi hI' hf' ht⟩
  remove := fun i name ⟨gh, h⟩ hi ha => by
    obtain ⟨hI, hf, hR⟩ := h.here i _ _ hi
    refine (rremove_at hf hI ha name).mono ?_
    rintro e w' ⟨rfl, hI', g', hf', ht⟩
    exact ⟨rfl, h.set hi hI' hf' ht⟩
  syncDir := fun i ⟨gh, h⟩ hi ha => by
    obtain ⟨hI, hf, hR⟩ := h.here i _ _ hi
    refine (rsyncDir_at hf hI ha).mono ?_
    rintro e w' ⟨rfl, hI', g', hf', ht⟩
    exact ⟨rfl, h.set hi hI' hf' ht⟩
  read := fun i name ⟨gh, h⟩ hi => by
    obtain ⟨hI, hf, hR⟩ := h.here i _ _ hi
    refine (rread_at hf hI name).mono ?_
    rintro e w' ⟨a, c, rfl, ho, hb⟩
    exact ⟨a, c, rfl, ho, ⟨gh, h.below hb fun k hk => .inl hk⟩, kp_of hb⟩
  list := fun i ⟨gh, h⟩ hi => by
    obtain ⟨hI, hf, hR⟩ := h.here i _ _ hi
    refine (rlist_at hf hI).mono ?_
    rintro e w' ⟨a, c, rfl, hs, hn, hb⟩
    refine ⟨a, c, rfl, hs, hn, ⟨gh, h.below hb fun k hk => hk.imp id ?_⟩, kp_of hb⟩
    rintro ⟨ad, e, rfl⟩
    exact hn ad e
  asked := fun i ⟨gh, h⟩ hi => by
    obtain ⟨hI, hf, hR⟩ := h.here i _ _ hi
    exact hf.fs.cell 9
  fuse := fun i n hn ⟨gh, h⟩ hi => by
    obtain ⟨hI, hf, hR⟩ := h.here i _ _ hi
    refine (rfuse_at hf hI n hn).mono ?_
    rintro e w' ⟨rfl, hI', hf', ht⟩
    exact ⟨rfl, h.set hi hI' hf' ht⟩
  fail := fun i n hn ⟨gh, h⟩ hi => by
    obtain ⟨hI, hf, hR⟩ := h.here i _ _ hi
    refine (rfail_at hf hI n hn).mono ?_
    rintro e w' ⟨rfl, hI', hf', ht⟩
    exact ⟨rfl, h.set hi hI' hf' ht⟩
  damage := fun i name n t hn ⟨gh, h⟩ hi => by
    obtain ⟨hI, hf, hR⟩ := h.here i _ _ hi
    refine (rdamage_at hf hI name n t hn).mono ?_
    rintro e w' ⟨rfl, hI', g', hf', ht⟩
    exact ⟨rfl, h.set hi hI' hf' ht⟩
  crash := fun i a len cap picks ⟨gh, h⟩ hi hp hin => by
    obtain ⟨hI, hf, hR⟩ := h.here i _ _ hi
    refine (hcr hf hI a len cap picks hp (fun h0 ad e hb => hR _ hb (hin h0 ad e))).mono ?_
    rintro e w' ⟨rfl, hI', g', hf', ht⟩
    exact ⟨rfl, h.set hi hI' hf' ht⟩
  copy := fun i ⟨gh, h⟩ hi => by
    obtain ⟨hI, hf, hR⟩ := h.here i _ _ hi
    refine (hcp hf hI).mono ?_
    rintro e w' ⟨q, gC, rfl, hf', hin, hb⟩
    exact ⟨q, rfl, h.push hI hf' hin hb⟩
end Go.Proofs.Ytkelahekfkhcfaa
/- The document's own Copy: what is there while it copies. -/
namespace Go.Proofs.Ytkelahekfkhcfaa
open Go.RowKit
/-- A copy, of which some files are there. -/
structure Cp (w wr : World) (q : Nat) (S : PFs) (g : RG) (k : Nat) (fa : Option Addr) (fc : Nat) (fl : List RF) : Prop where
  base : Below w.heap.size w wr
  fs : RB wr q { rcOf S g with fa := fa, fl := k, fc := fc }
  row : wr.ownsRow w.heap.size 76 2 (.slice fa k fc) k (cellsF fl)
  eq : S.files.take k = fl.map (·.x)
  bytes : ∀ r ∈ fl, OwnB wr w.heap.size r.a r.x.b.length r.cap r.x.b
  hq : w.heap.size ≤ q
theorem OwnB.keptB {w w' : World} {B : Nat} {a : Option Addr} {len cap : Nat} {bs : List UInt8} (h : OwnB w B a len cap bs) (hk : ∀ b, blkOf a = some b → w'.heap[b]? = w.heap[b]?) : OwnB w' B a len cap bs := ⟨h.size, row_same h.row fun b e => hk b (by rw [← own_blk a len cap]; exact e)⟩
theorem Cp.more {w wr w4 w6 : World} {q : Nat} {S : PFs} {g : RG} {k : Nat} {fa : Option Addr} {fc : Nat} {fl : List RF} (h : Cp w wr q S g k fa fc fl) (hk : k < S.files.length) {a4 : Option Addr} {c4 g6 c6 : Nat} {o : Obj}
    (hO : OwnB w4 wr.heap.size a4 (S.fileOf k).b.length c4 (S.fileOf k).b) (hb4 : Below wr.heap.size wr w4)
    (hr6 : w6.ownsRow w.heap.size 76 2 (.slice (some ⟨g6, 0, none⟩) (k + 1) c6) (k + 1) (cellsF fl ++ [.slice a4 (S.fileOf k).b.length c4, .int .i64 (((S.fileOf k).last : Nat) : Int)])) (hg6 : (w4.alloc o).grownBy w6 (Value.slice fa k fc).ownBlock) (hl6 : (Value.slice fa k fc).ownBlock = some g6 ∨ g6 = w4.heap.size + 1) :
    Cp w (w6.setCell ⟨q, 0, none⟩ (.slice (some ⟨g6, 0, none⟩) (k + 1) c6)) q S g (k + 1) (some ⟨g6, 0, none⟩) c6 (fl ++ [⟨a4, c4, S.fileOf k⟩]) := by
  rw [own_blk] at hg6 hl6
  have hqt : tag wr q = some 69 := Box.tag h.fs
  have hql := tag_lt hqt
  have hbs := h.base.size
  have hs4 := hb4.size
  have tagF : ∀ b, blkOf fa = some b → tag wr b = some 76 := fun b e => row_tag h.row (by rw [own_blk]; exact e)
  have kp : ∀ b, b < wr.heap.size → blkOf fa ≠ some b → w6.heap[b]? = wr.heap[b]? := fun b hb hne => by
    rw [hg6.block b (by simp; omega) (Ne.symm hne), Below.heap_alloc w4 o b (by omega), hb4.block b hb]
  have kp4 : ∀ b, b < w4.heap.size → blkOf fa ≠ some b → w6.heap[b]? = w4.heap[b]? := fun b hb hne => by
    rw [hg6.block b (by simp; omega) (Ne.symm hne), Below.heap_alloc w4 o b hb]
  have hqn : blkOf fa ≠ some q := fun e => tag_ne (tagF q e) hqt (by decide) rfl
  have hgq : g6 ≠ q := by
    rcases hl6 with e | e
    · exact tag_ne (tagF _ e) hqt (by decide)
    · omega
  have hr4 : ∀ b, blkOf a4 = some b → wr.heap.size ≤ b ∧ b < w4.heap.size := fun b e => hO.row.lt b (by rw [own_blk]; exact e)
  have hb6 : Below w.heap.size w w6 := by
    have h1 : Below w.heap.size w (w4.alloc o) := (h.base.trans (hb4.mono hbs)).alloc (by omega) o
    exact h1.grown hg6 (by simp; omega) (fun b e => (h.row.lt b (by rw [own_blk]; exact e)).1)
  refine ⟨hb6.setCell h.hq _, ?_, ?_, ?_, ?_, h.hq⟩
  · have hf6 : RB w6 q { rcOf S g with fa := fa, fl := k, fc := fc } := Box.kept h.fs (kp q hql hqn)
    refine Box.eq (Box.set hf6 0 _) ?_
    simp [RC.arr]
  · rw [cellsF_append]
    have e : cellsF [⟨a4, c4, S.fileOf k⟩] = [.slice a4 (S.fileOf k).b.length c4, .int .i64 (((S.fileOf k).last : Nat) : Int)] := rfl
    rw [e]
    exact row_same hr6 fun b e => Below.heap_setCell _ _ _ _ (by cases e; exact hgq)
  · rw [List.take_add_one, h.eq, List.map_append, List.getElem?_eq_getElem hk]
    simp [PFs.fileOf, List.getD, hk]
  · intro r hr
    rcases List.mem_append.1 hr with hm | hm
    · refine (h.bytes r hm).keptB fun b e => ?_
      have ht : tag wr b = some 5 := row_tag (h.bytes r hm).row (by rw [own_blk]; exact e)
      rw [Below.heap_setCell _ _ _ _ (tag_ne ht hqt (by decide)), kp b (tag_lt ht) (fun e' => tag_ne (tagF b e') ht (by decide) rfl)]
    · rw [List.mem_singleton.1 hm]
      refine (hO.mono hbs).keptB fun b e => ?_
      have hb := hr4 b e
      rw [Below.heap_setCell _ _ _ _ (by show b ≠ q; omega), kp4 b hb.2 (fun e' => by have := tag_lt (tagF b e'); omega)]
theorem Cp.below {w wr w' : World} {q : Nat} {S : PFs} {g : RG} {k : Nat} {fa : Option Addr} {fc : Nat} {fl : List RF} (h : Cp w wr q S g k fa fc fl) (hb : Below wr.heap.size wr w') : Cp w w' q S g k fa fc fl :=
  ⟨h.base.trans (hb.mono h.base.size), Box.kept h.fs (hb.block q (Box.lt h.fs)), row_same h.row fun b e => hb.block b (tag_lt (row_tag h.row e)), h.eq, fun r hr => (h.bytes r hr).keptB fun b e => hb.block b (tag_lt (row_tag (h.bytes r hr).row (by rw [own_blk]; exact e))), h.hq⟩
/-- The names, the lasting names and the changes of the copy, one behind the other. -/
theorem Cp.set {w wr : World} {q : Nat} {S : PFs} {g g' : RG} {k : Nat} {fa : Option Addr} {fc : Nat} {fl : List RF} (h : Cp w wr q S g k fa fc fl) {j : Nat} {v : Value} (he : ({ rcOf S g with fa := fa, fl := k, fc := fc } : RC).arr.setIfInBounds j v = ({ rcOf S g' with fa := fa, fl := k, fc := fc } : RC).arr) : Cp w (wr.setCell ⟨q, j, none⟩ v) q S g' k fa fc fl := by
  have hqt : tag wr q = some 69 := Box.tag h.fs
  refine ⟨h.base.setCell h.hq _, Box.eq (Box.set h.fs j v) he, row_same h.row fun b e => Below.heap_setCell _ _ _ _ (tag_ne (row_tag h.row e) hqt (by decide)), h.eq, fun r hr => (h.bytes r hr).keptB fun b e => Below.heap_setCell _ _ _ _ (tag_ne (row_tag (h.bytes r hr).row (by rw [own_blk]; exact e)) hqt (by decide)), h.hq⟩
theorem row_mono {w : World} {B B' : Nat} {e : TypeId} {size n : Nat} {v : Value} {xs : List Value} (h : w.ownsRow B e size v n xs) (hB : B' ≤ B) : w.ownsRow B' e size v n xs := by
  refine ⟨h.1, ?_⟩
  rcases h.2 with hn | ⟨g, c, cur, hv, hb, rest⟩
  · exact .inl hn
  · exact .inr ⟨g, c, cur, hv, Nat.le_trans hB hb, rest⟩
theorem slice_of_row {w : World} {B : Nat} {e : TypeId} {size n : Nat} {v : Value} {xs : List Value} (h : w.ownsRow B e size v n xs) : ∃ a c, v = .slice a n c := by
  rcases h.2 with ⟨rfl, rfl⟩ | ⟨g, c, cur, rfl, _⟩
  · exact ⟨none, 0, rfl⟩
  · exact ⟨_, c, rfl⟩
/-- A row appended onto an empty literal: a copy of the call's own. -/
theorem wpList_app0V (w : World) {ops : Array Oper} {rest : List Oper} {o : Oper} {a : Act} {Q : Exit → Act → World → Prop} (hgd : o.guard = none) (s x : Operand) (t e : TypeId)
    (ho : o.op = .call { callee := .builtin .append, args := #[s, x], argTypes := #[t, t] }) (ht : Try.prog.underlying t = some (.slice e)) (z : Value) (size bytes : Nat) (hinfo : (Try.prog.info? e).map (fun i => (i.zero, i.size, i.bytes)) = some (some z, size, bytes)) (hzs : z.cells.size = size) (hsz : 0 < size)
    (g : Nat) (hg : g = w.heap.size) (hs : a.eval s = .slice (some ⟨g, 0, none⟩) 0 0)
    (a2 : Option Addr) (n2 c2 B : Nat) (news : List Value) (hx : a.eval x = .slice a2 n2 c2) (hrow : w.ownsRow B e size (.slice a2 n2 c2) n2 news) (h1 : ∀ u ∈ news, u.oneCell' = true)
    (h63 : n2 ≤ maxLen) (hbytes : n2 * bytes ≤ 140737488355328)
    (h : ∀ a' c' w', w'.ownsRow w.heap.size e size (.slice a' n2 c') n2 news → Below w.heap.size w w' → wpList Try.prog ops Q rest (a.put o.dst (.slice a' n2 c')) w') :
    wpList Try.prog ops Q (o :: rest) a (w.alloc (.cells #[] e)) := by
  subst hg
  obtain ⟨i, hi, hz0, hz1, hz2⟩ := info_parts hinfo
  have hmade : (w.alloc (.cells #[] e)).ownsRow w.heap.size e size (.slice (some ⟨w.heap.size, 0, none⟩) 0 0) 0 [] := World.ownsRow_made w #[] 0 (Nat.le_refl _) (Nat.zero_le _) (by simp)
  have hA : Below w.heap.size w (w.alloc (.cells #[] e)) := (Below.refl _ _).alloc (Nat.le_refl _) _
  rcases hrow.2 with ⟨hv, hn⟩ | ⟨b, cp, cur, hv, _, hb, hle, hcm, hcs, htk⟩
  · simp only [Value.slice.injEq] at hv
    obtain ⟨rfl, rfl, rfl⟩ := hv
    have hl := hrow.1
    obtain rfl := List.eq_nil_of_length_eq_zero (by rw [hl]; simp : news.length = 0)
    refine wpList_append_own_none hgd s x _ ho w.heap.size e i size ht hi _ 0 _ hs hmade hx ?_
    exact h _ _ _ hmade hA
  · simp only [Value.slice.injEq, true_and] at hv
    obtain ⟨rfl, rfl⟩ := hv
    have hlb : b < w.heap.size := (Array.getElem?_eq_some_iff.1 hb).1
    refine wpList_append_own _ hgd s x _ ho w.heap.size e i z size bytes ht hi hz0 hz1 hz2 hzs hsz _ 0 _ hs hmade ⟨b, 0, none⟩ n2 c2 news hx hrow.1 (fun j u hu => ?_) h1 (by omega) (by rw [Nat.zero_add]; exact hbytes) (by simp) (fun v' w' hr hg _ => ?_)
    · have hj : j < n2 * size := by have := (List.getElem?_eq_some_iff.1 hu).1; rw [hrow.1] at this; exact this
      rw [Addr.add_lit, Nat.zero_add, hA.cell (p := ⟨b, j, none⟩) hlb, hrow.cellAt j hj]
      exact hu
    · rw [Nat.zero_add, List.nil_append] at hr
      obtain ⟨a', c', rfl⟩ := slice_of_row hr
      exact h a' c' w' hr (hA.trans ((Below.refl _ _).grown hg (by simp) (fun k hk => (hmade.lt k hk).1)))
theorem cellsG_one : ∀ (l : List PChange), ∀ u ∈ cellsG l, u.oneCell' = true
  | [], u, h => by cases h
  | c :: l, u, h => by
    rw [cellsG] at h
    rcases List.mem_append.1 h with h | h
    · simp [cellsG1] at h
      rcases h with rfl | rfl | rfl | rfl <;> rfl
    · exact cellsG_one l u h
theorem infoChange : (Try.prog.info? 90).map (fun i => (i.zero, i.size, i.bytes)) = some (some (.agg #[.int .i64 0, .string ByteArray.empty, .string ByteArray.empty, .int .i64 0]), 4, 48) := by kernel_rfl
end Go.Proofs.Ytkelahekfkhcfaa
/- The contract of the document's own Copy. -/
namespace Go.Proofs.Ytkelahekfkhcfaa
open Go.RowKit
set_option linter.unusedSimpArgs false in
set_option maxRecDepth 100000 in
set_option maxHeartbeats 4000000 in
theorem rcopy_at {w : World} {p : Nat} {S : PFs} {g : RG} (h : RfAt w p S g) (hI : RInv S) : Calls Try.prog 15 #[at_ p] w fun e w' => ∃ q gC, e = .returned (at_ q) ∧ RfAt w' q S gC ∧ (∀ b, RFoot q gC b → w.heap.size ≤ b) ∧ Below w.heap.size w w' := by
  obtain ⟨q0, q1, q2, q3, q4, q5, q6, q7, q8, q9⟩ := h.fs.cells
  have HF : Hid (RfAt w p S g) := h
  have hfl : S.files.length ≤ 1000000 := Nat.le_trans hI.some_ hI.inv.asked
  have hplt := tag_lt h.tagP
  have hns : S.names.length ≤ 1000000 := hI.inv.few
  have HC0 : Hid (Cp w (w.alloc (.cells #[.slice none 0 0, .slice g.na S.names.length g.nc, .slice g.la S.lasts.length g.lc, .slice g.sa S.since.length g.sc, .int .i64 ((S.quota : Nat) : Int), .bool S.fused, .int .i64 S.fuse, .bool S.fails, .int .i64 S.fail, .int .i64 ((S.asked : Nat) : Int)] 69)) w.heap.size S g 0 none 0 []) :=
    ⟨(Below.refl _ _).alloc (Nat.le_refl _) _, Box.new w _ _, World.ownsRow_nil _ _ _ 2, by simp, fun r hr => (by cases hr), Nat.le_refl _⟩
  simp only [rcOf] at q0 q1 q2 q3 q4 q5 q6 q7 q8 q9
  clear h
  go_enter Try.func15, Try.ntmps15
  go_wp2_with fail
  generalize hV : w.alloc (.cells #[.slice none 0 0, .slice g.na S.names.length g.nc, .slice g.la S.lasts.length g.lc, .slice g.sa S.since.length g.sc, .int .i64 ((S.quota : Nat) : Int), .bool S.fused, .int .i64 S.fuse, .bool S.fails, .int .i64 S.fail, .int .i64 ((S.asked : Nat) : Int)] 69) = V at HC0 ⊢
  clear hV
  have HP : Hid (∀ W, Below w.heap.size w W → W.cell? ⟨p, 0, none⟩ = some (.slice g.fa S.files.length g.fc) ∧ W.cell? ⟨p, 1, none⟩ = some (.slice g.na S.names.length g.nc) ∧ W.cell? ⟨p, 2, none⟩ = some (.slice g.la S.lasts.length g.lc) ∧ W.cell? ⟨p, 3, none⟩ = some (.slice g.sa S.since.length g.sc)) := fun W hb => ⟨(hb.cell hplt).trans q0, (hb.cell hplt).trans q1, (hb.cell hplt).trans q2, (hb.cell hplt).trans q3⟩
  obtain ⟨Q, HQ⟩ : ∃ Q, Hid (Q = w.heap.size) := ⟨_, rfl⟩
  rw [← HQ.out] at HC0
  rw [← HQ.out]
  clear q0 q1 q2 q3 q4 q5 q6 q7 q8 q9
  go_loopw [4] (fun ix wr => ∃ (k : Nat) (fa : Option Addr) (fc : Nat) (fl : List RF), k ≤ S.files.length ∧ ix = .int .i64 (k : Int) ∧ Hid (Cp w wr Q S g k fa fc fl)) (fun ix _ => S.files.length - (intOf ix).toNat)
  case atStart => exact ⟨0, none, 0, [], Nat.zero_le _, rfl, HC0⟩
  case round =>
    obtain ⟨k, fa, fc, fl, hk, rfl, HC⟩ := hrel
    obtain ⟨r0, r1, r2, r3⟩ := HP.out wr HC.out.base
    by_cases hlt : k < S.files.length
    · have HFr : Hid (RfAt wr p S g) := HF.out.below HC.out.base
      obtain ⟨fr, hfa, c0, c1, fz, hfc, hfm⟩ := HFr.out.cellsAt hlt
      have hfx := HFr.out.fileAt k
      have hbl : (S.fileOf k).b.length ≤ 1048576 := hI.inv.lens k
      have hrv : (g.fl.getD k rf0).v = .slice (g.fl.getD k rf0).a (S.fileOf k).b.length (g.fl.getD k rf0).cap := by rw [← hfx]; rfl
      rw [hrv] at c0
      have c1' : wr.cell? ⟨fr, k * 2 + 1, none⟩ = some (.int .i64 (((S.fileOf k).last : Nat) : Int)) := by
        rw [c1]
        unfold RF.n
        rw [hfx]
      have HM : Hid (g.fl.getD k rf0 ∈ g.fl) := HFr.out.mem hlt
      have HBY : Hid (BsAt wr (g.fl.getD k rf0).a (S.fileOf k).b.length (g.fl.getD k rf0).cap (S.fileOf k).b) := by
        have := HFr.out.bytes _ HM.out
        rw [hfx] at this
        exact this.bs
      have z0 := Box.cell HC.out.fs 0
      have z1 := Box.soft HC.out.fs 0
      simp [RC.arr] at z0
      have hqlt : Q < wr.heap.size := Box.lt HC.out.fs
      have hflt : fr < wr.heap.size := tag_lt (HFr.out.tagF (by rw [hfa]; rfl))
      have hplr : p < wr.heap.size := Nat.lt_of_lt_of_le hplt HC.out.base.size
      have hwl : w.heap.size ≤ wr.heap.size := HC.out.base.size
      have hfold : fr < w.heap.size := tag_lt (HF.out.tagF (by rw [hfa]; rfl))
      have HTQ : Hid (∀ b, (Value.slice fa k fc).ownBlock = some b → Q ≠ b) := fun b e => by
        have h1 : tag wr Q = some 69 := Box.tag HC.out.fs
        exact tag_ne h1 (row_tag HC.out.row e) (by decide)
      obtain ⟨ra, HRA⟩ : ∃ ra, Hid (ra = (g.fl.getD k rf0).a) := ⟨_, rfl⟩
      obtain ⟨rc, HRC⟩ : ∃ rc, Hid (rc = (g.fl.getD k rf0).cap) := ⟨_, rfl⟩
      obtain ⟨FX, HFX⟩ : ∃ FX, Hid (FX = S.fileOf k) := ⟨_, rfl⟩
      obtain ⟨L, HL⟩ : ∃ L, Hid (L = FX.b.length) := ⟨_, rfl⟩
      rw [← HRA.out, ← HRC.out, ← HFX.out] at HBY
      rw [← HRA.out, ← HRC.out, ← HFX.out] at c0
      rw [← HFX.out] at c1' hbl
      rw [← HL.out] at c0 hbl HBY
      rw [hfa] at r0
      unfold maxLen at hfm
      have hk1 : (0 : Int) ≤ (k : Int) := by omega
      have hk2 : (k : Int) < (S.files.length : Int) := by omega
      have HBYD : Hid (BsAt wr.drew ra L rc FX.b) := HBY.out.drew
      have HCELL : Hid (∀ W, Below wr.heap.size wr W → W.cell? ⟨p, 0, none⟩ = some (.slice (some ⟨fr, 0, none⟩) S.files.length g.fc) ∧ W.cell? ⟨fr, k * 2, none⟩ = some (.slice ra L rc) ∧ W.cell? ⟨fr, k * 2 + 1, none⟩ = some (.int .i64 ((FX.last : Nat) : Int)) ∧ W.cell? ⟨Q, 0, none⟩ = some (.slice fa k fc) ∧ W.frozen? ⟨Q, 0, none⟩ = false) := fun W hb => ⟨(hb.cell hplr).trans r0, (hb.cell hflt).trans c0, (hb.cell hflt).trans c1', (hb.cell hqlt).trans z0, (hb.frozen hqlt).trans z1⟩
      have HROW : Hid (∀ w4, Below wr.heap.size wr w4 → ∀ o : Obj, (w4.alloc o).ownsRow w.heap.size 76 2 (.slice fa k fc) k (cellsF fl)) := fun w4 hb o => by
        refine row_same HC.out.row fun b e => ?_
        have hbl := tag_lt (row_tag HC.out.row e)
        rw [Below.heap_alloc w4 o b (Nat.lt_of_lt_of_le hbl hb.size), hb.block b hbl]
      have FIN : Hid (∀ w4 a4 c4 g6 c6 w6 (o : Obj), OwnB w4 wr.heap.size a4 L c4 FX.b → Below wr.heap.size wr w4 → w6.ownsRow w.heap.size 76 2 (.slice (some ⟨g6, 0, none⟩) (k + 1) c6) (k + 1) (cellsF fl ++ [.slice a4 L c4, .int .i64 ((FX.last : Nat) : Int)]) → (w4.alloc o).grownBy w6 (Value.slice fa k fc).ownBlock → ((Value.slice fa k fc).ownBlock = some g6 ∨ g6 = w4.heap.size + 1) → Cp w (w6.setCell ⟨Q, 0, none⟩ (.slice (some ⟨g6, 0, none⟩) (k + 1) c6)) Q S g (k + 1) (some ⟨g6, 0, none⟩) c6 (fl ++ [⟨a4, c4, S.fileOf k⟩])) := by
        intro w4 a4 c4 g6 c6 w6 o h1 h2 h3 h4 h5
        rw [HL.out] at h1 h3
        rw [HFX.out] at h1 h3
        exact HC.out.more hlt h1 h2 h3 h4 h5
      have HONE : Hid (∀ (a4 : Option Addr) (c4 : Nat), ∀ y ∈ [Value.slice a4 L c4, .int .i64 ((FX.last : Nat) : Int)], y.oneCell' = true) := fun a4 c4 y hy => by
        simp at hy
        rcases hy with rfl | rfl <;> rfl
      have HCELL6 : Hid (∀ (w4 : World) (o : Obj) (w6 : World), Below wr.heap.size wr w4 → (w4.alloc o).grownBy w6 (Value.slice fa k fc).ownBlock → w6.cell? ⟨p, 0, none⟩ = some (.slice (some ⟨fr, 0, none⟩) S.files.length g.fc) ∧ w6.cell? ⟨fr, k * 2, none⟩ = some (.slice ra L rc) ∧ w6.cell? ⟨fr, k * 2 + 1, none⟩ = some (.int .i64 ((FX.last : Nat) : Int)) ∧ w6.cell? ⟨Q, 0, none⟩ = some (.slice fa k fc) ∧ w6.frozen? ⟨Q, 0, none⟩ = false) := by
        intro w4 o w6 hb hg
        have hne : ∀ b, b < w.heap.size ∨ b = Q → (Value.slice fa k fc).ownBlock ≠ some b := fun b hb e => by
          rcases hb with hb | rfl
          · have := (HC.out.row.lt b e).1
            omega
          · exact HTQ.out _ e rfl
        have kp : ∀ b, b < wr.heap.size → (b < w.heap.size ∨ b = Q) → w6.heap[b]? = w4.heap[b]? := fun b hb' hor => by
          have := hb.size
          rw [hg.block b (by simp; omega) (Ne.symm (hne b hor)), Below.heap_alloc w4 o b (by omega)]
        obtain ⟨x0, x1, x2, x3, x4⟩ := HCELL.out w4 hb
        refine ⟨(World.cell?_of_block (kp p hplr (.inl hplt))).trans x0, (World.cell?_of_block (kp fr hflt (.inl hfold))).trans x1, (World.cell?_of_block (kp fr hflt (.inl hfold))).trans x2, (World.cell?_of_block (kp Q hqlt (.inr rfl))).trans x3, ?_⟩
        rw [← x4]
        unfold World.frozen?
        rw [show w6.heap[Q]? = w4.heap[Q]? from kp Q hqlt (.inr rfl)]
      obtain ⟨i0, hi0, hz0, hz1, hz2⟩ := info_parts infoFile
      have hpQ : p ≠ Q := by have := HC.out.hq; omega
      have hfQ : fr ≠ Q := by have := HC.out.hq; omega
      have HS0 : Hid (wr.drew.cell? ⟨p, 0, none⟩ = some (.slice (some ⟨fr, 0, none⟩) S.files.length g.fc) ∧ wr.drew.cell? ⟨fr, k * 2, none⟩ = some (.slice ra L rc) ∧ wr.drew.cell? ⟨fr, k * 2 + 1, none⟩ = some (.int .i64 ((FX.last : Nat) : Int))) := ⟨r0, c0, c1'⟩
      have HSB : Hid (∀ W, Below wr.heap.size wr W → W.cell? ⟨p, 0, none⟩ = some (.slice (some ⟨fr, 0, none⟩) S.files.length g.fc) ∧ W.cell? ⟨fr, k * 2, none⟩ = some (.slice ra L rc) ∧ W.cell? ⟨fr, k * 2 + 1, none⟩ = some (.int .i64 ((FX.last : Nat) : Int))) := fun W hb => ⟨(HCELL.out W hb).1, (HCELL.out W hb).2.1, (HCELL.out W hb).2.2.1⟩
      clear c1 fz hfa hfx hrv r1 r2 r3 hI hns
      go_wp2_with fail
      refine wp_region_held_drew (S := (fun w' => w'.cell? ⟨p, 0, none⟩ = some (.slice (some ⟨fr, 0, none⟩) S.files.length g.fc) ∧ w'.cell? ⟨fr, k * 2, none⟩ = some (.slice ra L rc) ∧ w'.cell? ⟨fr, k * 2 + 1, none⟩ = some (.int .i64 ((FX.last : Nat) : Int)))) (by kernel_rfl) HS0.out (fun hHeld => ?_)
      refine wpAnyH_take (i := 0) (v := ?_) rfl (by kernel_rfl) (by kernel_rfl) (by kernel_rfl) (fun _ _ _ h => h) (Or.inl ⟨by rfl, ?_⟩) hHeld ?_
      rotate_left
      · intro w hSw
        try dsimp only at hSw
        go_simp
        try with_reducible rfl
      try simp only [Act.put, List.setIfInBounds_toArray, List.set_cons_zero, List.set_cons_succ]
      refine wpAnyH_take (i := 3) (v := ?_) rfl (by kernel_rfl) (by kernel_rfl) (by kernel_rfl) (fun _ _ _ h => h) (Or.inl ⟨by rfl, ?_⟩) hHeld ?_
      rotate_left
      · intro w hSw
        try dsimp only at hSw
        go_simp
        try with_reducible rfl
      try simp only [Act.put, List.setIfInBounds_toArray, List.set_cons_zero, List.set_cons_succ]
      refine wpAnyH_take (i := 4) (v := ?_) rfl (by kernel_rfl) (by kernel_rfl) (by kernel_rfl) (fun _ _ _ h => h) (Or.inl ⟨by rfl, ?_⟩) hHeld ?_
      rotate_left
      · intro w hSw
        try dsimp only at hSw
        go_simp
        try with_reducible rfl
      try simp only [Act.put, List.setIfInBounds_toArray, List.set_cons_zero, List.set_cons_succ]
      refine wpAnyH_take (i := 5) (v := ?_) rfl (by kernel_rfl) (by kernel_rfl) (by kernel_rfl) (fun _ _ _ h => h) (Or.inl ⟨by rfl, ?_⟩) hHeld ?_
      rotate_left
      · intro w hSw
        try dsimp only at hSw
        go_simp
        try with_reducible rfl
      try simp only [Act.put, List.setIfInBounds_toArray, List.set_cons_zero, List.set_cons_succ]
      refine wpAnyH_take (i := 6) (v := ?_) rfl (by kernel_rfl) (by kernel_rfl) (by kernel_rfl) (fun _ _ _ h => h) (Or.inl ⟨by rfl, ?_⟩) hHeld ?_
      rotate_left
      · intro w hSw
        try dsimp only at hSw
        go_simp
        try with_reducible rfl
      try simp only [Act.put, List.setIfInBounds_toArray, List.set_cons_zero, List.set_cons_succ]
      refine wpAnyH_take (i := 7) (v := ?_) rfl (by kernel_rfl) (by kernel_rfl) (by kernel_rfl) (fun _ _ _ h => h) (Or.inl ⟨by rfl, ?_⟩) hHeld ?_
      rotate_left
      · intro w hSw
        try dsimp only at hSw
        go_simp
        try with_reducible rfl
      try simp only [Act.put, List.setIfInBounds_toArray, List.set_cons_zero, List.set_cons_succ]
      refine wpAnyH_take (i := 8) (v := ?_) rfl (by kernel_rfl) (by kernel_rfl) (by kernel_rfl) (fun _ _ _ h => h) (Or.inl ⟨by rfl, ?_⟩) hHeld ?_
      rotate_left
      · intro w hSw
        try dsimp only at hSw
        go_simp
        try with_reducible rfl
      try simp only [Act.put, List.setIfInBounds_toArray, List.set_cons_zero, List.set_cons_succ]
      refine wpAnyH_take (i := 9) (v := ?_) rfl (by kernel_rfl) (by kernel_rfl) (by kernel_rfl) (fun _ _ _ h => h) (Or.inl ⟨by rfl, ?_⟩) hHeld ?_
      rotate_left
      · intro w hSw
        try dsimp only at hSw
        go_simp
        try with_reducible rfl
      try simp only [Act.put, List.setIfInBounds_toArray, List.set_cons_zero, List.set_cons_succ]
      refine wpAnyH_take (i := 10) (v := ?_) rfl (by kernel_rfl) (by kernel_rfl) (by kernel_rfl) (fun _ _ _ h => h) (Or.inl ⟨by rfl, ?_⟩) hHeld ?_
      rotate_left
      · intro w hSw
        try dsimp only at hSw
        go_simp
        try with_reducible rfl
      try simp only [Act.put, List.setIfInBounds_toArray, List.set_cons_zero, List.set_cons_succ]
      refine wpAnyH_take (i := 12) (v := ?_) rfl (by kernel_rfl) (by kernel_rfl) (by kernel_rfl) (fun _ _ _ h => h) (Or.inl ⟨by rfl, ?_⟩) hHeld ?_
      rotate_left
      · intro w hSw
        try dsimp only at hSw
        go_simp
        try with_reducible rfl
      try simp only [Act.put, List.setIfInBounds_toArray, List.set_cons_zero, List.set_cons_succ]
      refine wpAnyH_take (i := 13) (v := ?_) rfl (by kernel_rfl) (by kernel_rfl) (by kernel_rfl) (fun _ _ _ h => h) (Or.inl ⟨by rfl, ?_⟩) hHeld ?_
      rotate_left
      · intro w hSw
        try dsimp only at hSw
        go_simp
        try with_reducible rfl
      try simp only [Act.put, List.setIfInBounds_toArray, List.set_cons_zero, List.set_cons_succ]
      refine wpAnyH_take (i := 14) (v := ?_) rfl (by kernel_rfl) (by kernel_rfl) (by kernel_rfl) (fun _ _ _ h => h) (Or.inl ⟨by rfl, ?_⟩) hHeld ?_
      rotate_left
      · intro w hSw
        try dsimp only at hSw
        go_simp
        try with_reducible rfl
      try simp only [Act.put, List.setIfInBounds_toArray, List.set_cons_zero, List.set_cons_succ]
      refine wpAnyH_take (i := 15) (v := ?_) rfl (by kernel_rfl) (by kernel_rfl) (by kernel_rfl) (fun _ _ _ h => h) (Or.inl ⟨by rfl, ?_⟩) hHeld ?_
      rotate_left
      · intro w hSw
        try dsimp only at hSw
        go_simp
        try with_reducible rfl
      try simp only [Act.put, List.setIfInBounds_toArray, List.set_cons_zero, List.set_cons_succ]
      refine wpAnyH_take (i := 16) (v := ?_) rfl (by kernel_rfl) (by kernel_rfl) (by kernel_rfl) (fun _ _ _ h => h) (Or.inl ⟨by rfl, ?_⟩) hHeld ?_
      rotate_left
      · intro w hSw
        try dsimp only at hSw
        go_simp
        try with_reducible rfl
      try simp only [Act.put, List.setIfInBounds_toArray, List.set_cons_zero, List.set_cons_succ]
      refine wpAnyH_take (i := 17) (v := ?_) rfl (by kernel_rfl) (by kernel_rfl) (by kernel_rfl) (fun _ _ _ h => h) (Or.inl ⟨by rfl, ?_⟩) hHeld ?_
      rotate_left
      · intro w hSw
        try dsimp only at hSw
        go_simp
        try with_reducible rfl
      try simp only [Act.put, List.setIfInBounds_toArray, List.set_cons_zero, List.set_cons_succ]
      refine wpAnyH_take (i := 18) (v := ?_) rfl (by kernel_rfl) (by kernel_rfl) (by kernel_rfl) (fun _ _ _ h => h) (Or.inl ⟨by rfl, ?_⟩) hHeld ?_
      rotate_left
      · intro w hSw
        try dsimp only at hSw
        go_simp
        try with_reducible rfl
      try simp only [Act.put, List.setIfInBounds_toArray, List.set_cons_zero, List.set_cons_succ]
      refine wpAnyH_take (i := 19) (v := ?_) rfl (by kernel_rfl) (by kernel_rfl) (by kernel_rfl) (fun _ _ _ h => h) (Or.inl ⟨by rfl, ?_⟩) hHeld ?_
      rotate_left
      · intro w hSw
        try dsimp only at hSw
        go_simp
        try with_reducible rfl
      try simp only [Act.put, List.setIfInBounds_toArray, List.set_cons_zero, List.set_cons_succ]
      refine wpAnyH_ready (rs := [1, 2]) (by kernel_rfl) (by simp) ?_
      refine AllReadyH.cons rfl (fun K hK => ?_) ?_
      · skip
        go_simp
        refine hK.out _ _ ?_ (fun hHeld => ?_)
        · exact hHeld
        clear hK K
        try simp only [Act.put, List.setIfInBounds_toArray, List.set_cons_zero, List.set_cons_succ]
        refine wpAnyH_ready (rs := [2]) (by kernel_rfl) (by simp) ?_
        refine AllReadyH.cons rfl (fun K hK => ?_) ?_
        · skip
          go_simp
          refine hK.out _ _ ?_ (fun hHeld => ?_)
          · exact HSB.out _ (((Below.refl _ _).drew).alloc (Nat.le_refl _) _)
          clear hK K
          try simp only [Act.put, List.setIfInBounds_toArray, List.set_cons_zero, List.set_cons_succ]
          refine wpAnyH_ready (rs := [11]) (by kernel_rfl) (by simp) ?_
          refine AllReadyH.cons rfl (fun K hK => ?_) ?_
          · skip
            refine step_app0 wr.drew rfl (.tmp 20) (.tmp 28) rfl wr.heap.size rfl (by simp [Act.eval]) ra L rc FX.b (by simp [Act.eval]) HBYD.out (by omega) ?_
            intro a4 c4 w4 ho4 hb4
            have HO4 : Hid (OwnB w4 wr.heap.size a4 L c4 FX.b) := ho4
            have HB4 : Hid (Below wr.heap.size wr w4) := (Below.refl _ _).drew.trans hb4
            obtain ⟨x0, x1, x2, x3, x4⟩ := HCELL.out w4 HB4.out
            have y1 : p < w4.heap.size := Nat.lt_of_lt_of_le hplr HB4.out.size
            have y2 : fr < w4.heap.size := Nat.lt_of_lt_of_le hflt HB4.out.size
            have y3 : Q < w4.heap.size := Nat.lt_of_lt_of_le hqlt HB4.out.size
            clear ho4 hb4
            refine hK.out _ _ ?_ (fun hHeld => ?_)
            · exact ⟨x0, x1, x2⟩
            clear hK K
            try simp only [Act.put, List.setIfInBounds_toArray, List.set_cons_zero, List.set_cons_succ]
            refine wpAnyH_take (i := 20) (v := ?_) rfl (by kernel_rfl) (by kernel_rfl) (by kernel_rfl) (fun _ _ _ h => h) (Or.inl ⟨by rfl, ?_⟩) hHeld ?_
            rotate_left
            · intro w hSw
              try dsimp only at hSw
              go_simp
              try with_reducible rfl
            try simp only [Act.put, List.setIfInBounds_toArray, List.set_cons_zero, List.set_cons_succ]
            refine wpAnyH_ready (rs := [21]) (by kernel_rfl) (by simp) ?_
            refine AllReadyH.cons rfl (fun K hK => ?_) ?_
            · skip
              go_simp
              refine hK.out _ _ ?_ (fun hHeld => ?_)
              · exact HSB.out _ (HB4.out.alloc HB4.out.size _)
              clear hK K
              try simp only [Act.put, List.setIfInBounds_toArray, List.set_cons_zero, List.set_cons_succ]
              refine wpAnyH_ready (rs := [22]) (by kernel_rfl) (by simp) ?_
              refine AllReadyH.cons rfl (fun K hK => ?_) ?_
              · skip
                refine step_append_lies _ rfl (.tmp 19) (.tmp 39) 65 rfl w.heap.size 76 i0 _ 2 32 Try.underlying65 hi0 hz0 hz1 hz2 rfl (by decide) _ k (cellsF fl) (by simp [Act.eval]) (HROW.out w4 HB4.out _) ⟨w4.heap.size, 0, none⟩ 1 1 [.slice a4 L c4, .int .i64 ((FX.last : Nat) : Int)] (by simp [Act.eval]) rfl (World.news_of_block (heap_alloc_new w4 _)) (HONE.out a4 c4) (by omega) (by unfold maxLen; omega) (by omega) (by have := HB4.out.size; simp; omega) (w4.heap.size + 1) (by simp) ?_
                intro g6 c6 w6 hr6 hg6 hl6 hlt6
                have HFIN : Hid (Cp w (w6.setCell ⟨Q, 0, none⟩ (.slice (some ⟨g6, 0, none⟩) (k + 1) c6)) Q S g (k + 1) (some ⟨g6, 0, none⟩) c6 (fl ++ [⟨a4, c4, S.fileOf k⟩])) := FIN.out w4 a4 c4 g6 c6 w6 _ HO4.out HB4.out hr6 hg6 hl6
                obtain ⟨x0, x1, x2, u0, u1⟩ := HCELL6.out w4 _ w6 HB4.out hg6
                have m0 := (World.cell?_of_block (a := ⟨p, 0, none⟩) (Below.heap_setCell w6 ⟨Q, 0, none⟩ (.slice (some ⟨g6, 0, none⟩) (k + 1) c6) p hpQ)).trans x0
                have m1 := (World.cell?_of_block (a := ⟨fr, k * 2, none⟩) (Below.heap_setCell w6 ⟨Q, 0, none⟩ (.slice (some ⟨g6, 0, none⟩) (k + 1) c6) fr hfQ)).trans x1
                have m2 := (World.cell?_of_block (a := ⟨fr, k * 2 + 1, none⟩) (Below.heap_setCell w6 ⟨Q, 0, none⟩ (.slice (some ⟨g6, 0, none⟩) (k + 1) c6) fr hfQ)).trans x2
                clear hr6 hg6 hl6 hlt6
                refine hK.out _ _ ?_ (fun hHeld => ?_)
                · exact ⟨x0, x1, x2⟩
                clear hK K
                try simp only [Act.put, List.setIfInBounds_toArray, List.set_cons_zero, List.set_cons_succ]
                refine wpAnyH_take (i := 23) (v := ?_) rfl (by kernel_rfl) (by kernel_rfl) (by kernel_rfl) (fun _ _ _ h => h) (Or.inl ⟨by rfl, ?_⟩) hHeld ?_
                rotate_left
                · intro w hSw
                  try dsimp only at hSw
                  go_simp
                  try with_reducible rfl
                try simp only [Act.put, List.setIfInBounds_toArray, List.set_cons_zero, List.set_cons_succ]
                refine wpAnyH_ready (rs := [24]) (by kernel_rfl) (by simp) ?_
                refine AllReadyH.cons rfl (fun K hK => ?_) ?_
                · skip
                  go_simp
                  refine hK.out _ _ ?_ (fun hHeld => ?_)
                  · exact ⟨m0, m1, m2⟩
                  clear hK K
                  try simp only [Act.put, List.setIfInBounds_toArray, List.set_cons_zero, List.set_cons_succ]
                  refine wpAnyH_done (by kernel_rfl) ?_ _
                  go_wp2
                  go_roundw
                  case rel => exact ⟨k + 1, _, _, _, by omega, by go_num, HFIN⟩
                  case measure => simp [intOf]; omega
                exact AllReadyH.nil
              exact AllReadyH.nil
            exact AllReadyH.nil
          exact AllReadyH.nil
        exact AllReadyH.nil
      refine AllReadyH.cons rfl (fun K hK => ?_) ?_
      · skip
        go_simp
        refine hK.out _ _ ?_ (fun hHeld => ?_)
        · exact HSB.out _ (((Below.refl _ _).drew).alloc (Nat.le_refl _) _)
        clear hK K
        try simp only [Act.put, List.setIfInBounds_toArray, List.set_cons_zero, List.set_cons_succ]
        refine wpAnyH_ready (rs := [1, 11]) (by kernel_rfl) (by simp) ?_
        refine AllReadyH.cons rfl (fun K hK => ?_) ?_
        · skip
          go_simp
          refine hK.out _ _ ?_ (fun hHeld => ?_)
          · exact hHeld
          clear hK K
          try simp only [Act.put, List.setIfInBounds_toArray, List.set_cons_zero, List.set_cons_succ]
          refine wpAnyH_ready (rs := [11]) (by kernel_rfl) (by simp) ?_
          refine AllReadyH.cons rfl (fun K hK => ?_) ?_
          · skip
            refine step_app0 wr.drew rfl (.tmp 20) (.tmp 28) rfl wr.heap.size rfl (by simp [Act.eval]) ra L rc FX.b (by simp [Act.eval]) HBYD.out (by omega) ?_
            intro a4 c4 w4 ho4 hb4
            have HO4 : Hid (OwnB w4 wr.heap.size a4 L c4 FX.b) := ho4
            have HB4 : Hid (Below wr.heap.size wr w4) := (Below.refl _ _).drew.trans hb4
            obtain ⟨x0, x1, x2, x3, x4⟩ := HCELL.out w4 HB4.out
            have y1 : p < w4.heap.size := Nat.lt_of_lt_of_le hplr HB4.out.size
            have y2 : fr < w4.heap.size := Nat.lt_of_lt_of_le hflt HB4.out.size
            have y3 : Q < w4.heap.size := Nat.lt_of_lt_of_le hqlt HB4.out.size
            clear ho4 hb4
            refine hK.out _ _ ?_ (fun hHeld => ?_)
            · exact ⟨x0, x1, x2⟩
            clear hK K
            try simp only [Act.put, List.setIfInBounds_toArray, List.set_cons_zero, List.set_cons_succ]
            refine wpAnyH_take (i := 20) (v := ?_) rfl (by kernel_rfl) (by kernel_rfl) (by kernel_rfl) (fun _ _ _ h => h) (Or.inl ⟨by rfl, ?_⟩) hHeld ?_
            rotate_left
            · intro w hSw
              try dsimp only at hSw
              go_simp
              try with_reducible rfl
            try simp only [Act.put, List.setIfInBounds_toArray, List.set_cons_zero, List.set_cons_succ]
            refine wpAnyH_ready (rs := [21]) (by kernel_rfl) (by simp) ?_
            refine AllReadyH.cons rfl (fun K hK => ?_) ?_
            · skip
              go_simp
              refine hK.out _ _ ?_ (fun hHeld => ?_)
              · exact HSB.out _ (HB4.out.alloc HB4.out.size _)
              clear hK K
              try simp only [Act.put, List.setIfInBounds_toArray, List.set_cons_zero, List.set_cons_succ]
              refine wpAnyH_ready (rs := [22]) (by kernel_rfl) (by simp) ?_
              refine AllReadyH.cons rfl (fun K hK => ?_) ?_
              · skip
                refine step_append_lies _ rfl (.tmp 19) (.tmp 39) 65 rfl w.heap.size 76 i0 _ 2 32 Try.underlying65 hi0 hz0 hz1 hz2 rfl (by decide) _ k (cellsF fl) (by simp [Act.eval]) (HROW.out w4 HB4.out _) ⟨w4.heap.size, 0, none⟩ 1 1 [.slice a4 L c4, .int .i64 ((FX.last : Nat) : Int)] (by simp [Act.eval]) rfl (World.news_of_block (heap_alloc_new w4 _)) (HONE.out a4 c4) (by omega) (by unfold maxLen; omega) (by omega) (by have := HB4.out.size; simp; omega) (w4.heap.size + 1) (by simp) ?_
                intro g6 c6 w6 hr6 hg6 hl6 hlt6
                have HFIN : Hid (Cp w (w6.setCell ⟨Q, 0, none⟩ (.slice (some ⟨g6, 0, none⟩) (k + 1) c6)) Q S g (k + 1) (some ⟨g6, 0, none⟩) c6 (fl ++ [⟨a4, c4, S.fileOf k⟩])) := FIN.out w4 a4 c4 g6 c6 w6 _ HO4.out HB4.out hr6 hg6 hl6
                obtain ⟨x0, x1, x2, u0, u1⟩ := HCELL6.out w4 _ w6 HB4.out hg6
                have m0 := (World.cell?_of_block (a := ⟨p, 0, none⟩) (Below.heap_setCell w6 ⟨Q, 0, none⟩ (.slice (some ⟨g6, 0, none⟩) (k + 1) c6) p hpQ)).trans x0
                have m1 := (World.cell?_of_block (a := ⟨fr, k * 2, none⟩) (Below.heap_setCell w6 ⟨Q, 0, none⟩ (.slice (some ⟨g6, 0, none⟩) (k + 1) c6) fr hfQ)).trans x1
                have m2 := (World.cell?_of_block (a := ⟨fr, k * 2 + 1, none⟩) (Below.heap_setCell w6 ⟨Q, 0, none⟩ (.slice (some ⟨g6, 0, none⟩) (k + 1) c6) fr hfQ)).trans x2
                clear hr6 hg6 hl6 hlt6
                refine hK.out _ _ ?_ (fun hHeld => ?_)
                · exact ⟨x0, x1, x2⟩
                clear hK K
                try simp only [Act.put, List.setIfInBounds_toArray, List.set_cons_zero, List.set_cons_succ]
                refine wpAnyH_take (i := 23) (v := ?_) rfl (by kernel_rfl) (by kernel_rfl) (by kernel_rfl) (fun _ _ _ h => h) (Or.inl ⟨by rfl, ?_⟩) hHeld ?_
                rotate_left
                · intro w hSw
                  try dsimp only at hSw
                  go_simp
                  try with_reducible rfl
                try simp only [Act.put, List.setIfInBounds_toArray, List.set_cons_zero, List.set_cons_succ]
                refine wpAnyH_ready (rs := [24]) (by kernel_rfl) (by simp) ?_
                refine AllReadyH.cons rfl (fun K hK => ?_) ?_
                · skip
                  go_simp
                  refine hK.out _ _ ?_ (fun hHeld => ?_)
                  · exact ⟨m0, m1, m2⟩
                  clear hK K
                  try simp only [Act.put, List.setIfInBounds_toArray, List.set_cons_zero, List.set_cons_succ]
                  refine wpAnyH_done (by kernel_rfl) ?_ _
                  go_wp2
                  go_roundw
                  case rel => exact ⟨k + 1, _, _, _, by omega, by go_num, HFIN⟩
                  case measure => simp [intOf]; omega
                exact AllReadyH.nil
              exact AllReadyH.nil
            exact AllReadyH.nil
          exact AllReadyH.nil
        refine AllReadyH.cons rfl (fun K hK => ?_) ?_
        · skip
          refine step_app0 wr.drew rfl (.tmp 20) (.tmp 28) rfl wr.heap.size rfl (by simp [Act.eval]) ra L rc FX.b (by simp [Act.eval]) HBYD.out (by omega) ?_
          intro a4 c4 w4 ho4 hb4
          have HO4 : Hid (OwnB w4 wr.heap.size a4 L c4 FX.b) := ho4
          have HB4 : Hid (Below wr.heap.size wr w4) := (Below.refl _ _).drew.trans hb4
          obtain ⟨x0, x1, x2, x3, x4⟩ := HCELL.out w4 HB4.out
          have y1 : p < w4.heap.size := Nat.lt_of_lt_of_le hplr HB4.out.size
          have y2 : fr < w4.heap.size := Nat.lt_of_lt_of_le hflt HB4.out.size
          have y3 : Q < w4.heap.size := Nat.lt_of_lt_of_le hqlt HB4.out.size
          clear ho4 hb4
          refine hK.out _ _ ?_ (fun hHeld => ?_)
          · exact ⟨x0, x1, x2⟩
          clear hK K
          try simp only [Act.put, List.setIfInBounds_toArray, List.set_cons_zero, List.set_cons_succ]
          refine wpAnyH_take (i := 20) (v := ?_) rfl (by kernel_rfl) (by kernel_rfl) (by kernel_rfl) (fun _ _ _ h => h) (Or.inl ⟨by rfl, ?_⟩) hHeld ?_
          rotate_left
          · intro w hSw
            try dsimp only at hSw
            go_simp
            try with_reducible rfl
          try simp only [Act.put, List.setIfInBounds_toArray, List.set_cons_zero, List.set_cons_succ]
          refine wpAnyH_ready (rs := [1, 21]) (by kernel_rfl) (by simp) ?_
          refine AllReadyH.cons rfl (fun K hK => ?_) ?_
          · skip
            go_simp
            refine hK.out _ _ ?_ (fun hHeld => ?_)
            · exact hHeld
            clear hK K
            try simp only [Act.put, List.setIfInBounds_toArray, List.set_cons_zero, List.set_cons_succ]
            refine wpAnyH_ready (rs := [21]) (by kernel_rfl) (by simp) ?_
            refine AllReadyH.cons rfl (fun K hK => ?_) ?_
            · skip
              go_simp
              refine hK.out _ _ ?_ (fun hHeld => ?_)
              · exact HSB.out _ (HB4.out.alloc HB4.out.size _)
              clear hK K
              try simp only [Act.put, List.setIfInBounds_toArray, List.set_cons_zero, List.set_cons_succ]
              refine wpAnyH_ready (rs := [22]) (by kernel_rfl) (by simp) ?_
              refine AllReadyH.cons rfl (fun K hK => ?_) ?_
              · skip
                refine step_append_lies _ rfl (.tmp 19) (.tmp 39) 65 rfl w.heap.size 76 i0 _ 2 32 Try.underlying65 hi0 hz0 hz1 hz2 rfl (by decide) _ k (cellsF fl) (by simp [Act.eval]) (HROW.out w4 HB4.out _) ⟨w4.heap.size, 0, none⟩ 1 1 [.slice a4 L c4, .int .i64 ((FX.last : Nat) : Int)] (by simp [Act.eval]) rfl (World.news_of_block (heap_alloc_new w4 _)) (HONE.out a4 c4) (by omega) (by unfold maxLen; omega) (by omega) (by have := HB4.out.size; simp; omega) (w4.heap.size + 1) (by simp) ?_
                intro g6 c6 w6 hr6 hg6 hl6 hlt6
                have HFIN : Hid (Cp w (w6.setCell ⟨Q, 0, none⟩ (.slice (some ⟨g6, 0, none⟩) (k + 1) c6)) Q S g (k + 1) (some ⟨g6, 0, none⟩) c6 (fl ++ [⟨a4, c4, S.fileOf k⟩])) := FIN.out w4 a4 c4 g6 c6 w6 _ HO4.out HB4.out hr6 hg6 hl6
                obtain ⟨x0, x1, x2, u0, u1⟩ := HCELL6.out w4 _ w6 HB4.out hg6
                have m0 := (World.cell?_of_block (a := ⟨p, 0, none⟩) (Below.heap_setCell w6 ⟨Q, 0, none⟩ (.slice (some ⟨g6, 0, none⟩) (k + 1) c6) p hpQ)).trans x0
                have m1 := (World.cell?_of_block (a := ⟨fr, k * 2, none⟩) (Below.heap_setCell w6 ⟨Q, 0, none⟩ (.slice (some ⟨g6, 0, none⟩) (k + 1) c6) fr hfQ)).trans x1
                have m2 := (World.cell?_of_block (a := ⟨fr, k * 2 + 1, none⟩) (Below.heap_setCell w6 ⟨Q, 0, none⟩ (.slice (some ⟨g6, 0, none⟩) (k + 1) c6) fr hfQ)).trans x2
                clear hr6 hg6 hl6 hlt6
                refine hK.out _ _ ?_ (fun hHeld => ?_)
                · exact ⟨x0, x1, x2⟩
                clear hK K
                try simp only [Act.put, List.setIfInBounds_toArray, List.set_cons_zero, List.set_cons_succ]
                refine wpAnyH_take (i := 23) (v := ?_) rfl (by kernel_rfl) (by kernel_rfl) (by kernel_rfl) (fun _ _ _ h => h) (Or.inl ⟨by rfl, ?_⟩) hHeld ?_
                rotate_left
                · intro w hSw
                  try dsimp only at hSw
                  go_simp
                  try with_reducible rfl
                try simp only [Act.put, List.setIfInBounds_toArray, List.set_cons_zero, List.set_cons_succ]
                refine wpAnyH_ready (rs := [24]) (by kernel_rfl) (by simp) ?_
                refine AllReadyH.cons rfl (fun K hK => ?_) ?_
                · skip
                  go_simp
                  refine hK.out _ _ ?_ (fun hHeld => ?_)
                  · exact ⟨m0, m1, m2⟩
                  clear hK K
                  try simp only [Act.put, List.setIfInBounds_toArray, List.set_cons_zero, List.set_cons_succ]
                  refine wpAnyH_done (by kernel_rfl) ?_ _
                  go_wp2
                  go_roundw
                  case rel => exact ⟨k + 1, _, _, _, by omega, by go_num, HFIN⟩
                  case measure => simp [intOf]; omega
                exact AllReadyH.nil
              exact AllReadyH.nil
            exact AllReadyH.nil
          refine AllReadyH.cons rfl (fun K hK => ?_) ?_
          · skip
            go_simp
            refine hK.out _ _ ?_ (fun hHeld => ?_)
            · exact HSB.out _ (HB4.out.alloc HB4.out.size _)
            clear hK K
            try simp only [Act.put, List.setIfInBounds_toArray, List.set_cons_zero, List.set_cons_succ]
            refine wpAnyH_ready (rs := [1]) (by kernel_rfl) (by simp) ?_
            refine AllReadyH.cons rfl (fun K hK => ?_) ?_
            · skip
              go_simp
              refine hK.out _ _ ?_ (fun hHeld => ?_)
              · exact hHeld
              clear hK K
              try simp only [Act.put, List.setIfInBounds_toArray, List.set_cons_zero, List.set_cons_succ]
              refine wpAnyH_ready (rs := [22]) (by kernel_rfl) (by simp) ?_
              refine AllReadyH.cons rfl (fun K hK => ?_) ?_
              · skip
                refine step_append_lies _ rfl (.tmp 19) (.tmp 39) 65 rfl w.heap.size 76 i0 _ 2 32 Try.underlying65 hi0 hz0 hz1 hz2 rfl (by decide) _ k (cellsF fl) (by simp [Act.eval]) (HROW.out w4 HB4.out _) ⟨w4.heap.size, 0, none⟩ 1 1 [.slice a4 L c4, .int .i64 ((FX.last : Nat) : Int)] (by simp [Act.eval]) rfl (World.news_of_block (heap_alloc_new w4 _)) (HONE.out a4 c4) (by omega) (by unfold maxLen; omega) (by omega) (by have := HB4.out.size; simp; omega) (w4.heap.size + 1) (by simp) ?_
                intro g6 c6 w6 hr6 hg6 hl6 hlt6
                have HFIN : Hid (Cp w (w6.setCell ⟨Q, 0, none⟩ (.slice (some ⟨g6, 0, none⟩) (k + 1) c6)) Q S g (k + 1) (some ⟨g6, 0, none⟩) c6 (fl ++ [⟨a4, c4, S.fileOf k⟩])) := FIN.out w4 a4 c4 g6 c6 w6 _ HO4.out HB4.out hr6 hg6 hl6
                obtain ⟨x0, x1, x2, u0, u1⟩ := HCELL6.out w4 _ w6 HB4.out hg6
                have m0 := (World.cell?_of_block (a := ⟨p, 0, none⟩) (Below.heap_setCell w6 ⟨Q, 0, none⟩ (.slice (some ⟨g6, 0, none⟩) (k + 1) c6) p hpQ)).trans x0
                have m1 := (World.cell?_of_block (a := ⟨fr, k * 2, none⟩) (Below.heap_setCell w6 ⟨Q, 0, none⟩ (.slice (some ⟨g6, 0, none⟩) (k + 1) c6) fr hfQ)).trans x1
                have m2 := (World.cell?_of_block (a := ⟨fr, k * 2 + 1, none⟩) (Below.heap_setCell w6 ⟨Q, 0, none⟩ (.slice (some ⟨g6, 0, none⟩) (k + 1) c6) fr hfQ)).trans x2
                clear hr6 hg6 hl6 hlt6
                refine hK.out _ _ ?_ (fun hHeld => ?_)
                · exact ⟨x0, x1, x2⟩
                clear hK K
                try simp only [Act.put, List.setIfInBounds_toArray, List.set_cons_zero, List.set_cons_succ]
                refine wpAnyH_take (i := 23) (v := ?_) rfl (by kernel_rfl) (by kernel_rfl) (by kernel_rfl) (fun _ _ _ h => h) (Or.inl ⟨by rfl, ?_⟩) hHeld ?_
                rotate_left
                · intro w hSw
                  try dsimp only at hSw
                  go_simp
                  try with_reducible rfl
                try simp only [Act.put, List.setIfInBounds_toArray, List.set_cons_zero, List.set_cons_succ]
                refine wpAnyH_ready (rs := [24]) (by kernel_rfl) (by simp) ?_
                refine AllReadyH.cons rfl (fun K hK => ?_) ?_
                · skip
                  go_simp
                  refine hK.out _ _ ?_ (fun hHeld => ?_)
                  · exact ⟨m0, m1, m2⟩
                  clear hK K
                  try simp only [Act.put, List.setIfInBounds_toArray, List.set_cons_zero, List.set_cons_succ]
                  refine wpAnyH_done (by kernel_rfl) ?_ _
                  go_wp2
                  go_roundw
                  case rel => exact ⟨k + 1, _, _, _, by omega, by go_num, HFIN⟩
                  case measure => simp [intOf]; omega
                exact AllReadyH.nil
              exact AllReadyH.nil
            exact AllReadyH.nil
          exact AllReadyH.nil
        exact AllReadyH.nil
      exact AllReadyH.nil
    · obtain rfl : k = S.files.length := by omega
      have HFr : Hid (RfAt wr p S g) := HF.out.below HC.out.base
      have hqlt : Q < wr.heap.size := Box.lt HC.out.fs
      have hplr : p < wr.heap.size := Nat.lt_of_lt_of_le hplt HC.out.base.size
      have hla : S.lasts.length ≤ 1000000 := by have := hI.inv.count; have := hI.inv.asked; omega
      have hsi : S.since.length ≤ 1000000 := by have := hI.inv.count; have := hI.inv.asked; omega
      have z1 := Box.soft HC.out.fs 1
      have zc1 := Box.cell HC.out.fs 1
      simp [RC.arr, rcOf] at zc1
      clear hlt
      go_wp2_with (first | (at_builtin; refine wpList_app0V _ rfl _ _ 66 92 rfl Try.underlying66 _ 2 24 infoName rfl (by decide) wr.heap.size rfl rfl g.na S.names.length g.nc 0 (cellsN S.names) rfl HFr.out.names.row (cellsN_one _) (by unfold maxLen; omega) (by omega) ?_))
      intro a1 c1 w1 h1 hb1
      have hpQ : p ≠ Q := by have := HC.out.hq; omega
      have HC1 : Hid (Cp w (w1.setCell ⟨Q, 1, none⟩ (.slice a1 S.names.length c1)) Q S { g with na := a1, nc := c1 } S.files.length fa fc fl) := (HC.out.below hb1).set (by simp [RC.arr, rcOf])
      have HN1 : Hid ((w1.setCell ⟨Q, 1, none⟩ (.slice a1 S.names.length c1)).ownsRow w.heap.size 92 2 (.slice a1 S.names.length c1) S.names.length (cellsN S.names)) := by
        refine row_mono (row_same h1 fun b e => Below.heap_setCell _ _ _ _ ?_) HC.out.base.size
        have := (h1.lt b e).1
        show b ≠ Q
        omega
      have HF1 : Hid (RfAt (w1.setCell ⟨Q, 1, none⟩ (.slice a1 S.names.length c1)) p S g) := HF.out.below HC1.out.base
      have hq1 : Q < w1.heap.size := Nat.lt_of_lt_of_le hqlt hb1.size
      have hp1 : p < w1.heap.size := Nat.lt_of_lt_of_le hplr hb1.size
      obtain ⟨_, _, s2, s3⟩ := HP.out w1 (HC.out.base.trans (hb1.mono HC.out.base.size))
      have v1 := (hb1.frozen (p := ⟨Q, 1, none⟩) hqlt).trans z1
      have v2 := (hb1.cell (p := ⟨Q, 1, none⟩) hqlt).trans zc1
      clear h1 hb1
      go_wp2_with (first | (at_builtin; refine wpList_app0V (w1.setCell ⟨Q, 1, none⟩ (.slice a1 S.names.length c1)) rfl _ _ 66 92 rfl Try.underlying66 _ 2 24 infoName rfl (by decide) w1.heap.size (by simp) rfl g.la S.lasts.length g.lc 0 (cellsN S.lasts) rfl HF1.out.lasts.row (cellsN_one _) (by unfold maxLen; omega) (by omega) ?_))
      intro a2 c2 w2 h2 hb2
      have hsz1 : (w1.setCell ⟨Q, 1, none⟩ (.slice a1 S.names.length c1)).heap.size = w1.heap.size := by simp
      rw [← hsz1] at h2 hb2
      have z2 := Box.soft HC1.out.fs 2
      have zc2 := Box.cell HC1.out.fs 2
      simp only [RC.arr, rcOf] at zc2
      have v3 := (hb2.frozen (p := ⟨Q, 2, none⟩) (by rw [hsz1]; exact hq1)).trans z2
      have v4 := (hb2.cell (p := ⟨Q, 2, none⟩) (by rw [hsz1]; exact hq1)).trans zc2
      have HC2 : Hid (Cp w (w2.setCell ⟨Q, 2, none⟩ (.slice a2 S.lasts.length c2)) Q S { g with na := a1, nc := c1, la := a2, lc := c2 } S.files.length fa fc fl) := (HC1.out.below hb2).set (by simp [RC.arr, rcOf])
      have HN2 : Hid ((w2.setCell ⟨Q, 2, none⟩ (.slice a2 S.lasts.length c2)).ownsRow w.heap.size 92 2 (.slice a1 S.names.length c1) S.names.length (cellsN S.names)) := by
        refine row_same HN1.out fun b e => ?_
        have ht := row_tag HN1.out e
        rw [Below.heap_setCell _ _ _ _ (tag_ne ht (Box.tag HC1.out.fs) (by decide)), hb2.block b (tag_lt ht)]
      have HL2 : Hid ((w2.setCell ⟨Q, 2, none⟩ (.slice a2 S.lasts.length c2)).ownsRow w.heap.size 92 2 (.slice a2 S.lasts.length c2) S.lasts.length (cellsN S.lasts)) := by
        refine row_mono (row_same h2 fun b e => Below.heap_setCell _ _ _ _ ?_) HC1.out.base.size
        have := (h2.lt b e).1
        show b ≠ Q
        omega
      have HF2 : Hid (RfAt (w2.setCell ⟨Q, 2, none⟩ (.slice a2 S.lasts.length c2)) p S g) := HF.out.below HC2.out.base
      have hle2 := hb2.size
      rw [hsz1] at hle2
      have hq2 : Q < w2.heap.size := by omega
      have hp2 : p < w2.heap.size := by omega
      obtain ⟨_, _, _, t3⟩ := HP.out w2 (HC1.out.base.trans (hb2.mono HC1.out.base.size))
      clear h2 hb2
      go_wp2_with (first | (at_builtin; refine wpList_app0V (w2.setCell ⟨Q, 2, none⟩ (.slice a2 S.lasts.length c2)) rfl _ _ 67 90 rfl Try.underlying67 _ 4 48 infoChange rfl (by decide) w2.heap.size (by simp) rfl g.sa S.since.length g.sc 0 (cellsG S.since) rfl HF2.out.since (cellsG_one _) (by unfold maxLen; omega) (by omega) ?_))
      intro a3 c3 w3 h3 hb3
      have hsz2 : (w2.setCell ⟨Q, 2, none⟩ (.slice a2 S.lasts.length c2)).heap.size = w2.heap.size := by simp
      rw [← hsz2] at h3 hb3
      have z3 := Box.soft HC2.out.fs 3
      have zc3 := Box.cell HC2.out.fs 3
      simp only [RC.arr, rcOf] at zc3
      have v5 := (hb3.frozen (p := ⟨Q, 3, none⟩) (by rw [hsz2]; exact hq2)).trans z3
      have v6 := (hb3.cell (p := ⟨Q, 3, none⟩) (by rw [hsz2]; exact hq2)).trans zc3
      have HC3 : Hid (Cp w (w3.setCell ⟨Q, 3, none⟩ (.slice a3 S.since.length c3)) Q S { g with na := a1, nc := c1, la := a2, lc := c2, sa := a3, sc := c3 } S.files.length fa fc fl) := (HC2.out.below hb3).set (by simp [RC.arr, rcOf])
      have HN3 : Hid ((w3.setCell ⟨Q, 3, none⟩ (.slice a3 S.since.length c3)).ownsRow w.heap.size 92 2 (.slice a1 S.names.length c1) S.names.length (cellsN S.names)) := by
        refine row_same HN2.out fun b e => ?_
        have ht := row_tag HN2.out e
        rw [Below.heap_setCell _ _ _ _ (tag_ne ht (Box.tag HC2.out.fs) (by decide)), hb3.block b (tag_lt ht)]
      have HL3 : Hid ((w3.setCell ⟨Q, 3, none⟩ (.slice a3 S.since.length c3)).ownsRow w.heap.size 92 2 (.slice a2 S.lasts.length c2) S.lasts.length (cellsN S.lasts)) := by
        refine row_same HL2.out fun b e => ?_
        have ht := row_tag HL2.out e
        rw [Below.heap_setCell _ _ _ _ (tag_ne ht (Box.tag HC2.out.fs) (by decide)), hb3.block b (tag_lt ht)]
      have HS3 : Hid ((w3.setCell ⟨Q, 3, none⟩ (.slice a3 S.since.length c3)).ownsRow w.heap.size 90 4 (.slice a3 S.since.length c3) S.since.length (cellsG S.since)) := by
        refine row_mono (row_same h3 fun b e => Below.heap_setCell _ _ _ _ ?_) HC2.out.base.size
        have := (h3.lt b e).1
        show b ≠ Q
        omega
      clear h3 hb3
      go_wp2
      go_returns
      refine ⟨Q, ⟨fa, fc, a1, c1, a2, c2, a3, c3, fl⟩, rfl, ⟨HC3.out.fs, ?_, ?_, fun r hr => (HC3.out.bytes r hr).mono (Nat.zero_le _), ⟨rfl, row_mono HN3.out (Nat.zero_le _)⟩, ⟨rfl, row_mono HL3.out (Nat.zero_le _)⟩, row_mono HS3.out (Nat.zero_le _)⟩, ?_, HC3.out.base⟩
      · exact row_mono HC3.out.row (Nat.zero_le _)
      · have := HC3.out.eq
        rwa [List.take_length] at this
      · rintro b (rfl | e | e | e | e | ⟨r, hr, e⟩)
        · exact HC3.out.hq
        · exact (HC3.out.row.lt b (by rw [own_blk]; exact e)).1
        · exact (HN3.out.lt b (by rw [own_blk]; exact e)).1
        · exact (HL3.out.lt b (by rw [own_blk]; exact e)).1
        · exact (HS3.out.lt b (by rw [own_blk]; exact e)).1
        · exact ((HC3.out.bytes r hr).row.lt b (by rw [own_blk]; exact e)).1
end Go.Proofs.Ytkelahekfkhcfaa
/- The contract of the document's own Crash. -/
namespace Go.Proofs.Ytkelahekfkhcfaa
open Go.RowKit
/-- What 'b[:n]' gives, for whatever slice of bytes of an own row, nil too. -/
theorem slice_to {w0 : World} {bs0 : List UInt8} {B : Nat} {a : Option Addr} {len cap : Nat} (h : OwnB w0 B a len cap bs0) (n : Nat) (hn : n ≤ len) :
    ∀ W : World, (Instr.slice 32 (.slice a len cap) none (some (.int .i64 (n : Int))) none).run Try.prog W = .ok (.slice a n cap) W := by
  intro W
  have hle := h.bs.le
  have hmx := h.bs.max
  unfold maxLen at hmx
  rcases h.row.2 with ⟨hv, _⟩ | ⟨g, c, cur, hv, _⟩
  · simp only [Value.slice.injEq] at hv
    obtain ⟨rfl, rfl, rfl⟩ := hv
    obtain rfl : n = 0 := by omega
    simp [Instr.slice, run_underlying Try.underlying32, go_sem]
  · simp only [Value.slice.injEq, true_and] at hv
    obtain ⟨rfl, rfl⟩ := hv
    have h1 : (n : Int) ≤ (cap : Int) := by omega
    by_cases hc : cap = 0
    · subst hc
      obtain rfl : n = 0 := by omega
      simp [Instr.slice, run_underlying Try.underlying32, go_sem]
    · simp [Instr.slice, run_underlying Try.underlying32, go_sem, h1]
theorem BsAt.part {w : World} {a : Option Addr} {len cap : Nat} {bs : List UInt8} (h : BsAt w a len cap bs) {k : Nat} (hk : k ≤ len) : BsAt w a k cap (bs.take k) := by
  have hs := h.size
  have hl := h.le
  refine ⟨by simp; omega, by omega, h.max, h.bare, fun hp => ?_⟩
  obtain ⟨b, off, rfl, hc⟩ := h.here (by omega)
  exact ⟨b, off, rfl, fun j hj => by rw [hc j (by omega)]; simp [List.getD, hj]⟩
def staysTo (S : PFs) (k : Nat) : List PName := (S.since.take k).foldl changedN S.lasts
theorem staysTo_succ {S : PFs} {k : Nat} (h : k < S.since.length) : staysTo S (k + 1) = changedN (staysTo S k) (S.since.getD k chg0) := by
  unfold staysTo
  have e : S.since.take (k + 1) = S.since.take k ++ [S.since.getD k chg0] := by
    rw [List.take_add_one, List.getElem?_eq_getElem h]
    simp [List.getD, h]
  rw [e, List.foldl_append]
  rfl
theorem staysTo_len {S : PFs} : ∀ k, (staysTo S k).length ≤ S.lasts.length + k
  | 0 => by simp [staysTo]
  | k + 1 => by
    have ih := staysTo_len (S := S) k
    by_cases h : k < S.since.length
    · rw [staysTo_succ h]
      have := changed_le (staysTo S k) (S.since.getD k chg0)
      omega
    · have e : staysTo S (k + 1) = staysTo S k := by
        unfold staysTo
        rw [List.take_of_length_le (by omega), List.take_of_length_le (by omega)]
      rw [e]
      omega
def crG (g : RG) (ao : Option Addr) (c : Nat) (fl : List RF) : RG := ⟨g.fa, g.fc, ao, c, ao, c, none, 0, fl⟩
def crS (S : PFs) (l : List Int) (k : Nat) : PFs := { S with names := S.stays l, lasts := S.stays l, since := [], files := PFs.crashFiles l ((S.stays l).take k) 0 S.files }
/-- A crash, of which some files are cut. -/
structure Cr (w1 wr : World) (p : Nat) (S : PFs) (g : RG) (l : List Int) (ao : Option Addr) (c k : Nat) (fl : List RF) : Prop where
  here : RfAt wr p (crS S l k) (crG g ao c fl)
  chg : Chg (RFoot p g) w1 wr
  new : ∀ b, RIn (crG g ao c fl) b → RIn g b ∨ w1.heap.size ≤ b
theorem Cr.begins {w1 wr : World} {p : Nat} {S : PFs} {g : RG} {l : List Int} {ao : Option Addr} {n c : Nat} (h : RfAt wr p S g) (hb : Below w1.heap.size w1 wr) (hn : n = (S.stays l).length) (ho : OwnN wr 0 ao n c (S.stays l)) (ha : ao = g.la ∨ ∀ b, blkOf ao = some b → w1.heap.size ≤ b) :
    Cr w1 (((wr.setCell ⟨p, 1, none⟩ (.slice ao n c)).setCell ⟨p, 2, none⟩ (.slice ao n c)).setCell ⟨p, 3, none⟩ (.slice none 0 0)) p S g l ao c 0 g.fl := by
  have kp : ∀ k, k ≠ p → (((wr.setCell ⟨p, 1, none⟩ (.slice ao n c)).setCell ⟨p, 2, none⟩ (.slice ao n c)).setCell ⟨p, 3, none⟩ (.slice none 0 0)).heap[k]? = wr.heap[k]? := fun k hk => by
    rw [Below.heap_setCell _ _ _ _ hk, Below.heap_setCell _ _ _ _ hk, Below.heap_setCell _ _ _ _ hk]
  have hON : OwnN (((wr.setCell ⟨p, 1, none⟩ (.slice ao n c)).setCell ⟨p, 2, none⟩ (.slice ao n c)).setCell ⟨p, 3, none⟩ (.slice none 0 0)) 0 ao (S.stays l).length c (S.stays l) := by
    rw [← hn]
    refine ho.same fun b e => kp b ?_
    exact tag_ne (row_tag ho.row (by rw [own_blk]; exact e)) h.tagP (by decide)
  have hfl : (crS S l 0).files = S.files := by simp [crS, PFs.crashFiles]
  refine ⟨⟨?_, ?_, ?_, ?_, hON, hON, World.ownsRow_nil _ _ _ 4⟩, ?_, ?_⟩
  · have e : rcOf (crS S l 0) (crG g ao c g.fl) = { rcOf S g with na := ao, nl := n, nc := c, la := ao, ll := n, lc := c, sa := none, sl := 0, sc := 0 } := by
      unfold rcOf
      rw [hfl, hn]
      rfl
    rw [e]
    refine Box.eq (Box.set (Box.set (Box.set h.fs 1 _) 2 _) 3 _) ?_
    simp [RC.arr]
  · rw [hfl]
    exact row_same h.row fun b e => kp b (tag_ne (row_tag h.row e) h.tagP (by decide))
  · rw [hfl]
    exact h.eq
  · exact fun r hr => (h.bytes r hr).same fun b e => kp b (tag_ne (h.tagB hr e) h.tagP (by decide))
  · exact ((((Chg.of hb).set (p := p) (fun _ => .inl rfl) _ _).set (p := p) (fun _ => .inl rfl) _ _).set (p := p) (fun _ => .inl rfl) _ _)
  · rintro b (e | e | e | e | ⟨r, hr, e⟩)
    · exact .inl (.inl e)
    · rcases ha with rfl | ha
      · exact .inl (.inr (.inr (.inl e)))
      · exact .inr (ha b e)
    · rcases ha with rfl | ha
      · exact .inl (.inr (.inr (.inl e)))
      · exact .inr (ha b e)
    · cases e
    · exact .inl (.inr (.inr (.inr (.inr ⟨r, hr, e⟩))))
theorem Cr.next {w1 wr w5 : World} {p : Nat} {S : PFs} {g : RG} {l : List Int} {ao : Option Addr} {c k : Nat} {fl : List RF} (h : Cr w1 wr p S g l ao c k fl) (hk : k < (S.stays l).length) {y : Nat} (hy : ((S.stays l).getD k name0).file = y) {fr : Nat} (hfa : g.fa = some ⟨fr, 0, none⟩) {a5 : Option Addr} {m c5 : Nat}
    (hm : m = ((crS S l k).fileOf y).last + PFs.pick l (k + 1) (((crS S l k).fileOf y).b.length - ((crS S l k).fileOf y).last))
    (hO : OwnB w5 wr.heap.size a5 m c5 (((crS S l k).fileOf y).b.take m)) (hb : Below wr.heap.size wr w5) :
    Cr w1 ((w5.setCell ⟨fr, y * 2, none⟩ (.slice a5 m c5)).setCell ⟨fr, y * 2 + 1, none⟩ (.int .i64 (m : Int))) p S g l ao c (k + 1) (fl.set y ⟨a5, c5, ⟨((crS S l k).fileOf y).b.take m, m⟩⟩) := by
  have h5 := h.here.below hb
  have hlen : (crS S l k).files.length = S.files.length := crash_length l _ 0 S.files
  have hsz := h.chg.size
  have hs5 := hb.size
  have hrow := h5.row
  have hfa' : (crG g ao c fl).fa = some ⟨fr, 0, none⟩ := hfa
  rw [hfa'] at hrow
  have hst := ((hrow.stored (y * 2) (.slice a5 m c5)).1.stored (y * 2 + 1) (.int .i64 (m : Int))).1
  have hrl : (((crS S l k).fileOf y).b.take m).length = m := hO.size
  have hset : cellsF (fl.set y ⟨a5, c5, ⟨((crS S l k).fileOf y).b.take m, m⟩⟩) = ((cellsF fl).set (y * 2) (.slice a5 m c5)).set (y * 2 + 1) (.int .i64 (m : Int)) := by
    rw [cellsF_set]
    unfold RF.v RF.n
    simp only
    rw [hrl]
  have hch : Chg (fun i => blkOf (crG g ao c fl).fa = some i) w5 ((w5.setCell ⟨fr, y * 2, none⟩ (.slice a5 m c5)).setCell ⟨fr, y * 2 + 1, none⟩ (.int .i64 (m : Int))) := ((Chg.refl _ w5).set (p := fr) (fun _ => by rw [hfa']; rfl) _ _).set (p := fr) (fun _ => by rw [hfa']; rfl) _ _
  have hfrt : tag w5 fr = some 76 := h5.tagF (by rw [hfa']; rfl)
  have hnb : ∀ b, blkOf a5 = some b → wr.heap.size ≤ b := fun b e => (hO.row.lt b (by rw [own_blk]; exact e)).1
  have hfl' : (crS S l (k + 1)).files = (crS S l k).files.set y ⟨((crS S l k).fileOf y).b.take m, m⟩ := by
    show PFs.crashFiles l ((S.stays l).take (k + 1)) 0 S.files = _
    rw [take_nm _ k hk, crash_snoc, Nat.zero_add, List.length_take, Nat.min_eq_left (by omega)]
    have e : ((S.stays l).getD k name0').file = y := hy
    rw [e]
    unfold cutAt PFs.cut
    rw [hm]
    rfl
  have hput := h5.put (S' := crS S l (k + 1)) (k := y) (r := ⟨a5, c5, ⟨((crS S l k).fileOf y).b.take m, m⟩⟩) (w' := (w5.setCell ⟨fr, y * 2, none⟩ (.slice a5 m c5)).setCell ⟨fr, y * 2 + 1, none⟩ (.int .i64 (m : Int)))
    (by
      show World.ownsRow _ _ _ _ _ _ (cellsF (fl.set y _))
      rw [hset, hfa']
      exact hst)
    (by
      show OwnB _ 0 a5 (((crS S l k).fileOf y).b.take m).length c5 _
      rw [hrl]
      refine (hO.mono (Nat.zero_le _)).same fun b e => ?_
      have ht : tag w5 b = some 5 := row_tag hO.row (by rw [own_blk]; exact e)
      have hne : b ≠ fr := tag_ne ht hfrt (by decide)
      rw [Below.heap_setCell _ _ _ _ hne, Below.heap_setCell _ _ _ _ hne])
    hch rfl rfl rfl hfl' ⟨rfl, rfl, rfl, rfl, rfl, rfl⟩
  refine ⟨hput, ?_, ?_⟩
  · refine Chg.andThen (h.chg.andThen (Chg.of (R := RFoot p g) hb) (fun _ _ e => e)) hch (fun i _ e => .inr (.inl ?_))
    exact e
  · rintro b (e | e | e | e | ⟨r, hr, e⟩)
    · exact h.new b (.inl e)
    · exact h.new b (.inr (.inl e))
    · exact h.new b (.inr (.inr (.inl e)))
    · cases e
    · rcases List.mem_or_eq_of_mem_set hr with hm' | rfl
      · exact h.new b (.inr (.inr (.inr (.inr ⟨r, hm', e⟩))))
      · have := hnb b e
        exact .inr (by omega)
theorem Box.softR {w : World} {p : Nat} {S : PFs} {g : RG} (h : RfAt w p S g) {fr : Nat} (e : g.fa = some ⟨fr, 0, none⟩) (j : Nat) : w.frozen? ⟨fr, j, none⟩ = false := by
  rcases h.row.2 with ⟨hv, _⟩ | ⟨fr', cp, cur, hv, _, hg, _⟩
  · rw [e] at hv
    simp at hv
  · rw [e] at hv
    simp only [Value.slice.injEq, Option.some.injEq, Addr.mk.injEq, and_true, true_and] at hv
    obtain ⟨rfl, _⟩ := hv
    simp [World.frozen?, hg]
set_option maxRecDepth 100000 in
set_option maxHeartbeats 4000000 in
theorem rcrash_at {w : World} {p : Nat} {S : PFs} {g : RG} (h : RfAt w p S g) (hI : RInv S) (a : Option Addr) (len cap : Nat) (l : List Int) (hl : IsAt w a len cap l) (hap : 0 < len → ∀ ad, a = some ad → ¬ RFoot p g ad.block) : Calls Try.prog 40 #[at_ p, .slice a len cap] w fun e w' => e = .returned (.tuple #[]) ∧ RInv (S.crash l) ∧ ∃ g', RfAt w' p (S.crash l) g' ∧ RTurn p g g' w w' := by
  obtain ⟨_, _, q2, q3, _⟩ := h.fs.cells
  have HF : Hid (RfAt w p S g) := h
  have HL : Hid (IsAt w a len cap l) := hl
  have HI : Hid (RInv S) := hI
  have HAP : Hid (0 < len → ∀ ad, a = some ad → ¬ RFoot p g ad.block) := hap
  have hplt := tag_lt h.tagP
  have hcnt := hI.inv.count
  have hask := hI.inv.asked
  simp only [rcOf] at q2 q3
  clear h hl hI hap
  go_enter Try.func40, Try.ntmps40
  go_wp2_with fail
  refine (rpick_any a len cap l 0 S.since.length w HL.out (by omega) (by omega)).mono ?_
  rintro e w1 ⟨rfl, rfl⟩
  have hpk := pickOf_le l 0 S.since.length
  obtain ⟨PK, HPK⟩ : ∃ PK, Hid (PK = PFs.pick l 0 S.since.length) := ⟨_, rfl⟩
  rw [← HPK.out] at hpk ⊢
  go_wp2_with fail
  go_loopw [4, 6] (fun o ix wr => ∃ (k n c : Nat) (ao : Option Addr), k ≤ PK ∧ ix = .int .i64 (k : Int) ∧ o = .slice ao n c ∧ n ≤ 2000000 ∧ Hid (n = (staysTo S k).length) ∧ Hid (OwnN wr 0 ao n c (staysTo S k)) ∧ Hid (ao = g.la ∨ ∀ b, blkOf ao = some b → w1.heap.size ≤ b) ∧ Hid (Below w1.heap.size w1 wr)) (fun _ ix _ => PK - (intOf ix).toNat)
  case atStart => exact ⟨0, S.lasts.length, g.lc, g.la, Nat.zero_le _, rfl, rfl, by omega, rfl, HF.out.lasts, .inl rfl, Below.refl _ _⟩
  case round =>
    obtain ⟨k, n, c, ao, hk, rfl, rfl, hn, HNL, HO, HA, HB⟩ := hrel
    have r3 := (HB.out.cell (p := ⟨p, 3, none⟩) hplt).trans q3
    by_cases hlt : k < PK
    · have HFr : Hid (RfAt wr p S g) := HF.out.below HB.out
      have hks : k < S.since.length := by omega
      obtain ⟨sb, hsb, hsc, hsm⟩ : ∃ sb, g.sa = some ⟨sb, 0, none⟩ ∧ S.since.length ≤ g.sc ∧ g.sc ≤ maxLen := by
        rcases HFr.out.since.2 with ⟨hv, h0⟩ | ⟨sb, c, cur, hv, _, _, h1, h2, _⟩
        · omega
        · simp only [Value.slice.injEq, true_and] at hv
          obtain ⟨e, rfl⟩ := hv
          exact ⟨sb, e, h1, h2⟩
      have hrow := HFr.out.since
      rw [hsb] at hrow r3
      have hat := fun j hj => (hrow.cellAt (k * 4 + j) (by omega)).trans (cellsG_at S.since k j hks hj)
      obtain ⟨C, HCd⟩ : ∃ C, Hid (C = S.since.getD k chg0) := ⟨_, rfl⟩
      rw [← HCd.out] at hat
      have d0 : wr.cell? ⟨sb, k * 4, none⟩ = some (.int .i64 ((C.kind : Nat) : Int)) := hat 0 (by omega)
      have d1 : wr.cell? ⟨sb, k * 4 + 1, none⟩ = some (.string (strOf C.name)) := hat 1 (by omega)
      have d2 : wr.cell? ⟨sb, k * 4 + 2, none⟩ = some (.string (strOf C.to)) := hat 2 (by omega)
      have d3 : wr.cell? ⟨sb, k * 4 + 3, none⟩ = some (.int .i64 ((C.file : Nat) : Int)) := hat 3 (by omega)
      unfold maxLen at hsm
      have hk1 : (0 : Int) ≤ (k : Int) := by omega
      have hk2 : (k : Int) < (S.since.length : Int) := by omega
      clear hrow hat hsb
      go_wp2_with fail
      refine (rchanged_any ao n c (staysTo S k) C wr HO.out.ns (by omega)).mono ?_
      rintro e w3 ⟨a3, c3, rfl, ho3, hb3⟩
      have HO3 : Hid (OwnN w3 0 a3 (changedN (staysTo S k) C).length c3 (staysTo S (k + 1))) := by
        unfold Hid
        rw [staysTo_succ hks, ← HCd.out]
        exact ⟨ho3.size, row_mono ho3.row (Nat.zero_le _)⟩
      have HA3 : Hid (a3 = g.la ∨ ∀ b, blkOf a3 = some b → w1.heap.size ≤ b) := .inr fun b e => Nat.le_trans HB.out.size (ho3.row.lt b (by rw [own_blk]; exact e)).1
      have HB3 : Hid (Below w1.heap.size w1 w3) := HB.out.trans (hb3.mono HB.out.size)
      have HN3 : Hid ((changedN (staysTo S k) C).length = (staysTo S (k + 1)).length) := by unfold Hid; rw [staysTo_succ hks, ← HCd.out]
      have hn3 : (changedN (staysTo S k) C).length ≤ 2000000 := by
        rw [HN3.out]
        have := staysTo_len (S := S) (k + 1)
        omega
      generalize (changedN (staysTo S k) C).length = n3 at HO3 HN3 hn3 ⊢
      clear ho3 hb3
      go_wp2
      go_roundw
      case rel => exact ⟨k + 1, n3, c3, a3, by omega, by go_num, rfl, hn3, HN3, HO3, HA3, HB3⟩
      case measure => simp [intOf]; omega
    · obtain rfl : k = PK := by omega
      have HST : Hid (staysTo S k = S.stays l) := by unfold Hid staysTo PFs.stays; rw [HPK.out]
      rw [HST.out] at HNL HO
      have HFr : Hid (RfAt wr p S g) := HF.out.below HB.out
      have s1 := Box.soft HFr.out.fs 1
      have s2 := Box.soft HFr.out.fs 2
      have s3 := Box.soft HFr.out.fs 3
      obtain ⟨e0, e1, e2, e3, _⟩ := HFr.out.fs.cells
      simp only [rcOf] at e0 e1 e2 e3
      go_wp2_with fail
      have HCR0 : Hid (Cr w1 (((wr.setCell ⟨p, 1, none⟩ (.slice ao n c)).setCell ⟨p, 2, none⟩ (.slice ao n c)).setCell ⟨p, 3, none⟩ (.slice none 0 0)) p S g l ao c 0 g.fl) := Cr.begins HFr.out HB.out HNL.out HO.out HA.out
      have HNICE : Hid (Nice S.files.length (S.stays l)) := (HI.out.inv.stays l).1
      have HSM : Hid (Small S.files) := HI.out.inv.small
      generalize hV3 : ((wr.setCell ⟨p, 1, none⟩ (.slice ao n c)).setCell ⟨p, 2, none⟩ (.slice ao n c)).setCell ⟨p, 3, none⟩ (.slice none 0 0) = V3 at HCR0 ⊢
      clear hV3 s1 s2 s3 e0 e1 e2 e3 HFr HO HA HB
      go_loopw [7, 8, 9] (fun ix _ _ wz => ∃ (j : Nat) (fl : List RF), j ≤ n ∧ ix = .int .i64 (j : Int) ∧ Hid (Cr w1 wz p S g l ao c j fl)) (fun ix _ _ _ => n - (intOf ix).toNat)
      case atStart => exact ⟨0, g.fl, Nat.zero_le _, rfl, HCR0⟩
      case round =>
        obtain ⟨j, fl, hj, rfl, HC⟩ := hrel
        by_cases hjn : j < n
        · have hjN : j < (S.stays l).length := by rw [← HNL.out]; exact hjn
          have HFj : Hid (RfAt wr p (crS S l j) (crG g ao c fl)) := HC.out.here
          have hlenF : (crS S l j).files.length = S.files.length := crash_length l _ 0 S.files
          obtain ⟨y, HY⟩ : ∃ y, Hid (((S.stays l).getD j name0).file = y) := ⟨_, rfl⟩
          have hyf : y < S.files.length := by
            rw [← HY.out]
            refine (HNICE.out.good _ ?_).2
            simp [List.getD, hjN]
          obtain ⟨nb, noff, hna, n0, n1, hnc, hnm⟩ := HFj.out.nameAt (i := j) hjN
          have n1' : wr.cell? ⟨nb, noff + j * 2 + 1, none⟩ = some (.int .i64 (y : Int)) := by rw [n1, ← HY.out]; rfl
          obtain ⟨fr, hfa, c0, c1, fz, hfc, hfm⟩ := HFj.out.cellsAt (k := y) (by rw [hlenF]; exact hyf)
          rw [hlenF] at hfc
          have hfx := HFj.out.fileAt y
          obtain ⟨FX, HFX⟩ : ∃ FX, Hid (FX = (crS S l j).fileOf y) := ⟨_, rfl⟩
          have hFX : ((crG g ao c fl).fl.getD y rf0).x = FX := by rw [hfx, HFX.out]
          have hsm : FX.b.length ≤ 1048576 ∧ FX.last ≤ FX.b.length := by rw [HFX.out]; exact (Small.crash l _ 0 _ HSM.out) y
          have HM : Hid ((crG g ao c fl).fl.getD y rf0 ∈ (crG g ao c fl).fl) := HFj.out.mem (by rw [hlenF]; exact hyf)
          have HBY : Hid (OwnB wr 0 ((crG g ao c fl).fl.getD y rf0).a FX.b.length ((crG g ao c fl).fl.getD y rf0).cap FX.b) := by
            have := HFj.out.bytes _ HM.out
            rw [hFX] at this
            exact this
          have c0' : wr.cell? ⟨fr, y * 2, none⟩ = some (.slice ((crG g ao c fl).fl.getD y rf0).a FX.b.length ((crG g ao c fl).fl.getD y rf0).cap) := by rw [c0]; unfold RF.v; rw [hFX]
          have c1' : wr.cell? ⟨fr, y * 2 + 1, none⟩ = some (.int .i64 ((FX.last : Nat) : Int)) := by rw [c1]; unfold RF.n; rw [hFX]
          obtain ⟨ra, HRA⟩ : ∃ ra, Hid (ra = ((crG g ao c fl).fl.getD y rf0).a) := ⟨_, rfl⟩
          obtain ⟨rc, HRC⟩ : ∃ rc, Hid (rc = ((crG g ao c fl).fl.getD y rf0).cap) := ⟨_, rfl⟩
          obtain ⟨L, HLn⟩ : ∃ L, Hid (L = FX.b.length) := ⟨_, rfl⟩
          obtain ⟨LS, HLS⟩ : ∃ LS, Hid (LS = FX.last) := ⟨_, rfl⟩
          rw [← HRA.out, ← HRC.out, ← HLn.out] at c0' HBY
          rw [← HLS.out] at c1' hsm
          rw [← HLn.out] at hsm
          obtain ⟨hL, hLS⟩ := hsm
          have b0 := (HFj.out.fs.cells).1
          simp only [rcOf] at b0
          rw [hlenF, hfa] at b0
          have HFA : Hid (g.fa = some ⟨fr, 0, none⟩) := hfa
          have HLr : Hid (IsAt wr a len cap l) := HL.out.chg HC.out.chg HAP.out
          have hplr : p < wr.heap.size := tag_lt HFj.out.tagP
          have hflr : fr < wr.heap.size := tag_lt (HFj.out.tagF (by rw [hfa]; rfl))
          have hnlr : nb < wr.heap.size := World.block_lt_of_cell? wr _ n1'
          have hao : ao = some ⟨nb, noff, none⟩ := hna
          have hnc' : n ≤ c := by rw [HNL.out]; exact hnc
          have hnm' : c ≤ 9223372036854775807 := hnm
          unfold maxLen at hfm
          have hfc' : S.files.length ≤ g.fc := hfc
          have hfm' : g.fc ≤ 9223372036854775807 := hfm
          have hj1 : (0 : Int) ≤ (j : Int) := by omega
          have hj2 : (j : Int) < (n : Int) := by omega
          have hy1 : (0 : Int) ≤ (y : Int) := by omega
          have hy2 : (y : Int) < (S.files.length : Int) := by omega
          subst hao
          clear hna n0 n1 hnc hnm c0 c1 fz hfc hfm hfx hFX hfa
          obtain ⟨M, HMk, hM⟩ : ∃ M : Nat, Hid (M = PFs.pick l (j + 1) (L - LS)) ∧ M ≤ L - LS := ⟨_, rfl, pickOf_le l (j + 1) (L - LS)⟩
          have HPICK : Hid (∀ W : World, IsAt W a len cap l → Calls Try.prog 60 #[.slice a len cap, .int .i64 (IntKind.i64.wrap ((j : Int) + 1)), .int .i64 (IntKind.i64.wrap ((L : Int) - (LS : Int)))] W fun e w' => e = .returned (.int .i64 (M : Int)) ∧ w' = W) := fun W hW => by
            have h9 := rpick_any a len cap l (j + 1) (L - LS) W hW (by omega) (by omega)
            rw [show (((L - LS : Nat) : Nat) : Int) = (L : Int) - (LS : Int) by omega, ← HMk.out] at h9
            rw [IntWalk.i64_in _ (by omega), IntWalk.i64_in _ (by omega)]
            exact h9
          have HWM : Hid (IntKind.i64.wrap ((LS : Int) + (M : Int)) = ((LS + M : Nat) : Int)) := by unfold Hid; rw [IntWalk.i64_in _ (by omega)]; omega
          go_wp2_with fail
          go_region
          generalize hV4 : (wr.alloc (.cells #[.slice ra L rc, .int .i64 ((LS : Nat) : Int)] 76)).drew = V4
          have HB4 : Hid (Below wr.heap.size wr V4) := by unfold Hid; rw [← hV4]; exact ((Below.refl _ _).alloc (Nat.le_refl _) _).drew
          have hx4 : Box V4 wr.heap.size 76 #[.slice ra L rc, .int .i64 ((LS : Nat) : Int)] := by rw [← hV4]; exact Box.new wr _ _
          have x0 := Box.cell hx4 0
          have x1 := Box.cell hx4 1
          simp at x0 x1
          have hxl : wr.heap.size < V4.heap.size := Box.lt hx4
          have HL4 : Hid (IsAt V4 a len cap l) := HLr.out.below (Nat.le_refl _) HB4.out
          have HL4D : Hid (IsAt V4.drew a len cap l) := HL4.out.below (Nat.le_refl _) ((Below.refl _ _).drew)
          obtain ⟨X, HX⟩ : ∃ X, Hid (X = wr.heap.size) := ⟨_, rfl⟩
          have HY4 : Hid (V4.cell? ⟨p, 0, none⟩ = some (.slice (some ⟨fr, 0, none⟩) S.files.length g.fc) ∧ V4.cell? ⟨nb, noff + j * 2 + 1, none⟩ = some (.int .i64 (y : Int)) ∧ V4.cell? ⟨fr, y * 2, none⟩ = some (.slice ra L rc) ∧ V4.cell? ⟨fr, y * 2 + 1, none⟩ = some (.int .i64 ((LS : Nat) : Int)) ∧ V4.frozen? ⟨fr, y * 2, none⟩ = false ∧ V4.frozen? ⟨fr, y * 2 + 1, none⟩ = false) :=
            ⟨(HB4.out.cell (p := ⟨p, 0, none⟩) hplr).trans b0, (HB4.out.cell (p := ⟨nb, noff + j * 2 + 1, none⟩) hnlr).trans n1', (HB4.out.cell (p := ⟨fr, y * 2, none⟩) hflr).trans c0', (HB4.out.cell (p := ⟨fr, y * 2 + 1, none⟩) hflr).trans c1', (HB4.out.frozen (p := ⟨fr, y * 2, none⟩) hflr).trans (Box.softR HFj.out HFA.out (y * 2)), (HB4.out.frozen (p := ⟨fr, y * 2 + 1, none⟩) hflr).trans (Box.softR HFj.out HFA.out (y * 2 + 1))⟩
          rw [← HX.out] at x0 x1 hxl ⊢
          have HBD : Hid (n ≤ c ∧ c ≤ 9223372036854775807 ∧ S.files.length ≤ g.fc ∧ g.fc ≤ 9223372036854775807 ∧ y < S.files.length ∧ p < wr.heap.size ∧ fr < wr.heap.size ∧ nb < wr.heap.size ∧ wr.heap.size < V4.heap.size) := ⟨hnc', hnm', hfc', hfm', hyf, hplr, hflr, hnlr, by rw [← HX.out]; exact hxl⟩
          have hjb : j ≤ 2000000 := by omega
          clear hV4 hx4 b0 n1' c0' c1' hnc' hnm' hfc' hfm' hplr hflr hnlr hxl hlenF hcnt hask hpk hplt q2 q3
          go_wp2_with fail
          go_region_held3 (fun w' => w'.cell? ⟨X, 0, none⟩ = some (.slice ra L rc) ∧ w'.cell? ⟨X, 1, none⟩ = some (.int .i64 ((LS : Nat) : Int))) (first | exact ⟨x0, x1⟩ | go_keep)
            (first | (go_at_call 60; refine (HPICK.out _ ?_).mono ?_; (first | exact HL4D.out | exact HL4.out); rintro e w9 ⟨rfl, rfl⟩))
          rw [HWM.out]
          obtain ⟨m, HMm⟩ : ∃ m, Hid (m = LS + M) := ⟨_, rfl⟩
          have hmL : m ≤ L := by rw [HMm.out]; omega
          rw [← HMm.out]
          generalize hV5 : V4.drew = V5
          have HB5 : Hid (Below wr.heap.size wr V5) := by unfold Hid; rw [← hV5]; exact HB4.out.drew
          have hs5 : V5.heap.size = V4.heap.size := by rw [← hV5]; rfl
          have x0' : V5.cell? ⟨X, 0, none⟩ = some (.slice ra L rc) := by rw [← hV5]; exact x0
          obtain ⟨g1, g2, g3, g4, g5, g6⟩ : V5.cell? ⟨p, 0, none⟩ = some (.slice (some ⟨fr, 0, none⟩) S.files.length g.fc) ∧ V5.cell? ⟨nb, noff + j * 2 + 1, none⟩ = some (.int .i64 (y : Int)) ∧ V5.cell? ⟨fr, y * 2, none⟩ = some (.slice ra L rc) ∧ V5.cell? ⟨fr, y * 2 + 1, none⟩ = some (.int .i64 ((LS : Nat) : Int)) ∧ V5.frozen? ⟨fr, y * 2, none⟩ = false ∧ V5.frozen? ⟨fr, y * 2 + 1, none⟩ = false := by rw [← hV5]; exact HY4.out
          obtain ⟨hnc', hnm', hfc', hfm', _, hplr, hflr, hnlr, hxl⟩ := HBD.out
          have hsl := slice_to HBY.out m hmL
          have HSRC : Hid (BsAt V5.drew ra m rc (FX.b.take m)) := ((HBY.out.bs.part hmL).below (Nat.le_refl _) HB5.out).drew
          have hXe := HX.out
          have hpf : p ≠ fr := by
            have h1 := HFj.out.tagP
            exact tag_ne h1 (HFj.out.tagF (by show blkOf g.fa = some fr; rw [HFA.out]; rfl)) (by decide)
          have hnf : nb ≠ fr := tag_ne (HFj.out.tagN (by rfl)) (HFj.out.tagF (by show blkOf g.fa = some fr; rw [HFA.out]; rfl)) (by decide)
          have hXf : X ≠ fr := by omega
          have hp5 : p < V5.heap.size := by omega
          have hn5 : nb < V5.heap.size := by omega
          have hf5 : fr < V5.heap.size := by omega
          have hX5 : X < V5.heap.size := by omega
          have HCL5 : Hid (∀ W, Below V5.heap.size V5 W → W.cell? ⟨p, 0, none⟩ = some (.slice (some ⟨fr, 0, none⟩) S.files.length g.fc) ∧ W.cell? ⟨nb, noff + j * 2 + 1, none⟩ = some (.int .i64 (y : Int)) ∧ W.cell? ⟨X, 0, none⟩ = some (.slice ra L rc) ∧ W.cell? ⟨fr, y * 2, none⟩ = some (.slice ra L rc) ∧ W.cell? ⟨fr, y * 2 + 1, none⟩ = some (.int .i64 ((LS : Nat) : Int)) ∧ W.frozen? ⟨fr, y * 2, none⟩ = false ∧ W.frozen? ⟨fr, y * 2 + 1, none⟩ = false) := fun W hb => ⟨(hb.cell hp5).trans g1, (hb.cell hn5).trans g2, (hb.cell hX5).trans x0', (hb.cell hf5).trans g3, (hb.cell hf5).trans g4, (hb.frozen hf5).trans g5, (hb.frozen hf5).trans g6⟩
          have HST5 : Hid (∀ (W : World) (v u : Value), W.cell? ⟨p, 0, none⟩ = some (.slice (some ⟨fr, 0, none⟩) S.files.length g.fc) ∧ W.cell? ⟨nb, noff + j * 2 + 1, none⟩ = some (.int .i64 (y : Int)) ∧ W.cell? ⟨X, 0, none⟩ = some (.slice ra L rc) → ((W.setCell ⟨fr, y * 2, none⟩ v).setCell ⟨fr, y * 2 + 1, none⟩ u).cell? ⟨p, 0, none⟩ = some (.slice (some ⟨fr, 0, none⟩) S.files.length g.fc) ∧ ((W.setCell ⟨fr, y * 2, none⟩ v).setCell ⟨fr, y * 2 + 1, none⟩ u).cell? ⟨nb, noff + j * 2 + 1, none⟩ = some (.int .i64 (y : Int)) ∧ ((W.setCell ⟨fr, y * 2, none⟩ v).setCell ⟨fr, y * 2 + 1, none⟩ u).cell? ⟨X, 0, none⟩ = some (.slice ra L rc)) := by
            intro W v u ⟨h1, h2, h3⟩
            have kp : ∀ b, b ≠ fr → ((W.setCell ⟨fr, y * 2, none⟩ v).setCell ⟨fr, y * 2 + 1, none⟩ u).heap[b]? = W.heap[b]? := fun b hb => by rw [Below.heap_setCell _ _ _ _ hb, Below.heap_setCell _ _ _ _ hb]
            exact ⟨(World.cell?_of_block (kp p hpf)).trans h1, (World.cell?_of_block (kp nb hnf)).trans h2, (World.cell?_of_block (kp X hXf)).trans h3⟩
          have FIN : Hid (∀ w6 a6 c6, OwnB w6 V5.heap.size a6 m c6 (FX.b.take m) → Below V5.heap.size V5 w6 → Cr w1 ((w6.setCell ⟨fr, y * 2, none⟩ (.slice a6 m c6)).setCell ⟨fr, y * 2 + 1, none⟩ (.int .i64 (m : Int))) p S g l (some ⟨nb, noff, none⟩) c (j + 1) (fl.set y ⟨a6, c6, ⟨((crS S l j).fileOf y).b.take m, m⟩⟩)) := by
            intro w6 a6 c6 hO hb
            rw [HFX.out] at hO
            refine HC.out.next hjN HY.out HFA.out ?_ (hO.mono (by omega)) (HB5.out.trans (hb.mono (by omega)))
            rw [HMm.out, HMk.out, HLS.out, HLn.out, HFX.out]
          have hm2 : (m : Int) ≤ (L : Int) := by omega
          have HG : Hid (V5.cell? ⟨p, 0, none⟩ = some (.slice (some ⟨fr, 0, none⟩) S.files.length g.fc) ∧ V5.cell? ⟨nb, noff + j * 2 + 1, none⟩ = some (.int .i64 (y : Int)) ∧ V5.cell? ⟨X, 0, none⟩ = some (.slice ra L rc)) := ⟨g1, g2, x0'⟩
          clear hV5 x0 x1 hxl hXe hs5 hplr hflr hnlr g3 g4 g5 g6 hM
          go_wp2_with fail
          go_region_held3 (fun w' => w'.cell? ⟨p, 0, none⟩ = some (.slice (some ⟨fr, 0, none⟩) S.files.length g.fc) ∧ w'.cell? ⟨nb, noff + j * 2 + 1, none⟩ = some (.int .i64 (y : Int)) ∧ w'.cell? ⟨X, 0, none⟩ = some (.slice ra L rc)) (first | exact ⟨g1, g2, x0'⟩ | exact ⟨m0, m1, m2⟩ | go_keep)
            (first
              | (refine step_app0 V5.drew rfl (.tmp 85) (.tmp 89) rfl V5.heap.size rfl (by simp [Act.eval]) ra m rc (FX.b.take m) (by simp [Act.eval]) HSRC.out (by omega) ?_
                 intro a6 c6 w6 ho6 hb6
                 have HB6 : Hid (Below V5.heap.size V5 w6) := (Below.refl _ _).drew.trans hb6
                 have HFIN : Hid (Cr w1 ((w6.setCell ⟨fr, y * 2, none⟩ (.slice a6 m c6)).setCell ⟨fr, y * 2 + 1, none⟩ (.int .i64 (m : Int))) p S g l (some ⟨nb, noff, none⟩) c (j + 1) (fl.set y ⟨a6, c6, ⟨((crS S l j).fileOf y).b.take m, m⟩⟩)) := FIN.out w6 a6 c6 ho6 HB6.out
                 obtain ⟨g1, g2, x0', u0, u1, u2, u3⟩ := HCL5.out w6 HB6.out
                 obtain ⟨m0, m1, m2⟩ := HST5.out w6 (.slice a6 m c6) (.int .i64 (m : Int)) ⟨g1, g2, x0'⟩
                 clear ho6 hb6))
          all_goals
            go_wp2
            go_roundw
            case rel => exact ⟨j + 1, _, by omega, by go_num, HFIN⟩
            case measure => simp [intOf]; omega
        · obtain rfl : j = n := by omega
          have HFj : Hid (RfAt wr p (crS S l j) (crG g ao c fl)) := HC.out.here
          have f5 := Box.soft HFj.out.fs 5
          have f7 := Box.soft HFj.out.fs 7
          obtain ⟨_, _, _, _, _, u5, _, u7, _⟩ := HFj.out.fs.cells
          simp only [rcOf] at u5 u7
          go_wp2
          go_returns
          have hS : (crS S l j).files = (S.crash l).files := by
            show PFs.crashFiles l ((S.stays l).take j) 0 S.files = PFs.crashFiles l (S.stays l) 0 S.files
            rw [HNL.out, List.take_length]
          refine ⟨rfl, ⟨HI.out.inv.crash l, ?_⟩, crG g ao c fl, ?_, ?_, HC.out.new⟩
          · show (PFs.crashFiles l (S.stays l) 0 S.files).length ≤ S.asked
            rw [crash_length]
            exact HI.out.some_
          · refine HFj.out.frame (S' := S.crash l) (fun k hk => ?_) ?_ rfl rfl rfl hS.symm
            · have hkp := HFj.out.in_ne hk
              rw [Below.heap_setCell _ _ _ _ hkp, Below.heap_setCell _ _ _ _ hkp]
            · refine Box.eq (Box.set (Box.set HFj.out.fs 5 _) 7 _) ?_
              unfold rcOf
              rw [hS]
              simp [RC.arr]
              exact ⟨rfl, rfl, rfl, rfl, rfl, rfl, rfl, rfl, rfl⟩
          · exact (HC.out.chg.set (p := p) (fun _ => .inl rfl) _ _).set (p := p) (fun _ => .inl rfl) _ _
end Go.Proofs.Ytkelahekfkhcfaa
/- Both families of file systems keep the promises, in one memory. -/
namespace Go.Proofs.Ytkelahekfkhcfaa
theorem rfOk : RfOk E0 := rfOk_of rcrash_at rcopy_at
theorem fsBoth : FsOk (Both D0 E0) := both_fs fsOk rfBase
theorem rfBoth : RfOk (Both D0 E0) := both_rf fsOk rfOk
end Go.Proofs.Ytkelahekfkhcfaa
/- staddlelaw04.SimfsPlays returns true, for every argument, and leaves memory as it was. -/
namespace Go.Proofs.Ytkelahekfkhcfaa
open Go.RowKit
theorem simfsPlays_walk (a0 : Int) (a1 : Option Addr) (len1 cap1 : Nat) (b1 : List CallV) (a2 : Option Addr) (len2 cap2 : Nat) (b2 : List CallV) (w : World) (w0 : (Lit.int .i64 a0).wf = true) (w1 : CsAt w a1 len1 cap1 b1) (w2 : CsAt w a2 len2 cap2 b2) :
    Calls Try.prog 4 #[.int .i64 a0, .slice a1 len1 cap1, .slice a2 len2 cap2] w fun e w' => e = .returned (.bool true) ∧ Below w.heap.size w w' := simfsPlays_of fsBoth rfBoth a0 a1 len1 cap1 b1 a2 len2 cap2 b2 w (ints64 w0) w1 w2
end Go.Proofs.Ytkelahekfkhcfaa
