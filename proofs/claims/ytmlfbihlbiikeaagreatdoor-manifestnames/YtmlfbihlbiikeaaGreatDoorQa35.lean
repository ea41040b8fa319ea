/- The contracts of settle and SyncDir. -/
import Derived.Test.YtmlfbihlbiikeaaGreatDoorQa34
namespace Go.Proofs.YtmlfbihlbiikeaaGreatDoor
open Go.RowKit Go.Maps
def chg0 : PChange := ⟨0, [], [], 0⟩
theorem cellsC_at (blk : Nat → Nat) : ∀ (l : List PChange) (k j : Nat), k < l.length → j < 3 → (cellsC blk l)[k * 3 + j]? = (cellsC1 blk (l.getD k chg0))[j]?
  | [], k, j, h, _ => by simp at h
  | c :: r, 0, j, _, hj => by
    rw [cellsC, List.getElem?_append_left (by rw [cellsC1_length]; omega)]
    simp [List.getD]
  | c :: r, k + 1, j, h, hj => by
    rw [cellsC, List.getElem?_append_right (by rw [cellsC1_length]; omega), cellsC1_length, show (k + 1) * 3 + j - 3 = k * 3 + j by omega, cellsC_at blk r k j (by simpa using h) hj]
    simp [List.getD]
theorem take_ch (l : List PChange) (k : Nat) (h : k < l.length) : l.take (k + 1) = l.take k ++ [l.getD k chg0] := by
  rw [List.take_add_one]
  simp [List.getD, h]
theorem Chain.at_ {K : Nat} : ∀ {s : List PChange} {l m : List PName} (k : Nat), Chain K l s m → k < s.length → OkC K ((s.take k).foldl changedN l) (s.getD k chg0)
  | [], _, _, _, _, hk => by simp at hk
  | c :: r, l, m, 0, h, _ => h.1
  | c :: r, l, m, k + 1, h, hk => by
    have := Chain.at_ (s := r) (l := changedN l c) k h.2 (by simpa using hk)
    simpa [List.getD] using this
set_option maxRecDepth 100000 in
set_option maxHeartbeats 2000000 in
theorem settle_any {K : Nat} {w : World} {p : Nat} {c : FsC} {blk : Nat → Nat} {l m : List PName} {since : List PChange} (hB : FsB w p c) (hlm : NmAt w c.ml blk l) (hN : Nice K l) (hch : Chain K l since m) (hsum : l.length + since.length ≤ 1000000) (hsl : c.sl = since.length) (hrow : w.ownsRow 0 101 3 (.slice c.sa c.sl c.sc) c.sl (cellsC blk since)) (n : Nat) (hn : n ≤ since.length) :
    Calls Tryz.prog 59 #[at_ p, .int .i64 (n : Int)] w fun e w' => e = .returned (.tuple #[]) ∧ ∃ ml, FsB w' p { c with ml := ml, sa := none, sl := 0, sc := 0 } ∧ NmAt w' ml blk ((since.take n).foldl changedN l) ∧ (ml = c.ml ∨ (c.ml = none ∧ ∃ m, ml = some m ∧ w.heap.size ≤ m)) ∧ Chg (fun i => i = p ∨ c.ml = some i) w w' := by
  obtain ⟨q0, q1, q2, q3, q4, q5, q6, q7, q8, q9⟩ := hB.cells
  have hN3 : n ≤ c.sl := by omega
  have hle : c.sl ≤ c.sc ∧ c.sc ≤ maxLen ∧ (c.sa = none → c.sc = 0) := by
    rcases hrow.2 with ⟨hv, h0⟩ | ⟨g, cp, cur, hv, _, _, h1, h2, _⟩
    · simp only [Value.slice.injEq] at hv
      obtain ⟨h3, h4, h5⟩ := hv
      exact ⟨by omega, by omega, fun _ => h5⟩
    · simp only [Value.slice.injEq, true_and] at hv
      obtain ⟨h3, h5⟩ := hv
      exact ⟨by omega, by omega, fun e => by rw [e] at h3; cases h3⟩
  have HSL : Hid (c.sl = since.length) := hsl
  clear hsl
  have hmax := hle.2.1
  unfold maxLen at hmax
  have hpt := Box.tag hB
  cases hsa : c.sa with
  | none =>
    obtain rfl : n = 0 := by have := hle.2.2 hsa; omega
    rw [hsa] at q9
    have s9 := Box.soft hB 9
    have hz : c.sl = 0 := by have := hle.2.2 hsa; omega
    have hz2 : c.sc = 0 := hle.2.2 hsa
    rw [hz, hz2] at q9
    go_enter Tryz.func59, Tryz.ntmps59
    go_wp2
    refine wp_loop_rounds 1 ?_
    rw [rounds_succ]
    go_wp2
    go_returns
    refine ⟨rfl, c.ml, ?_, ?_, .inl rfl, (Chg.refl (fun i => i = p ∨ c.ml = some i) w).set (p := p) (fun _ => .inl rfl) _ _⟩
    · exact Box.set hB 9 _
    · refine hlm.kept fun m e => Below.heap_setCell _ _ _ _ ?_
      have := hlm
      rw [e] at this
      exact tag_ne this.tag hpt (by decide)
  | some ad =>
    have hrow' := hrow
    rw [hsa] at q9 hrow'
    obtain ⟨gr, rfl⟩ : ∃ gr, ad = ⟨gr, 0, none⟩ := by
      rcases hrow'.2 with ⟨hv, h0⟩ | ⟨g, cp, cur, hv, _⟩
      · simp at hv
      · simp only [Value.slice.injEq, Option.some.injEq] at hv
        exact ⟨g, hv.1⟩
    have hgt := row_tag hrow' (b := gr) rfl
    go_enter Tryz.func59, Tryz.ntmps59
    go_wp2
    go_loopw [13] (fun i wr => ∃ (k : Nat) (mo : Option Nat), k ≤ n ∧ i = .int .i64 (k : Int) ∧ Hid (FsB wr p { c with ml := mo }) ∧ Hid (NmAt wr mo blk ((since.take k).foldl changedN l)) ∧ Hid (mo = c.ml ∨ (c.ml = none ∧ ∃ m, mo = some m ∧ w.heap.size ≤ m)) ∧ Hid (Chg (fun i => i = p ∨ c.ml = some i) w wr)) (fun i _ => n - (intOf i).toNat)
    case atStart => exact ⟨0, c.ml, Nat.zero_le _, rfl, hB, hlm, .inl rfl, Chg.refl _ _⟩
    case round =>
      obtain ⟨k, mo, hk, rfl, HB, HM, HL, HC⟩ := hrel
      have hsz := HC.out.size
      by_cases hlt : k < n
      · have hks : k < since.length := by omega
        have hrk : wr.ownsRow 0 101 3 (.slice (some ⟨gr, 0, none⟩) c.sl c.sc) c.sl (cellsC blk since) := row_same hrow' (fun b e => HC.out.block b (tag_lt (row_tag hrow' e)) (by
          rintro (e1 | e1)
          · exact tag_ne hpt (row_tag hrow' e) (by decide) e1.symm
          · have := hlm
            rw [e1] at this
            exact tag_ne this.tag (row_tag hrow' e) (by decide) rfl))
        obtain ⟨s, u, v, ev⟩ := cellsC1_form blk (since.getD k chg0)
        have p0 := World.ownsRow.cellAt hrk (k * 3 + 0) (by omega)
        have p1 := World.ownsRow.cellAt hrk (k * 3 + 1) (by omega)
        have p2 := World.ownsRow.cellAt hrk (k * 3 + 2) (by omega)
        rw [cellsC_at blk since k _ hks (by omega), ev] at p0 p1 p2
        simp at p0 p1 p2
        have HK : Hid (OkC K ((since.take k).foldl changedN l) (since.getD k chg0)) := Chain.at_ k hch hks
        have HNk : Hid (Nice K ((since.take k).foldl changedN l)) := Chain.nice hN (Chain.take k hch)
        have hlk : ((since.take k).foldl changedN l).length ≤ 1000000 := by
          have := Chain.length (Chain.take k hch)
          have h2 : (since.take k).length ≤ since.length := by simp; omega
          omega
        have hne : ∀ m, mo = some m → m ≠ p := fun m e => by
          have := HM.out
          rw [e] at this
          exact tag_ne this.tag (Box.tag HB.out) (by decide)
        have hdo : ∀ W, Box W p 88 ({ c with ml := mo } : FsC).arr → NmAt W mo blk ((since.take k).foldl changedN l) → Calls Tryz.prog 84 #[.pointer (some ⟨p, 8, none⟩), .agg #[.string s, .string u, .pointer v]] W fun e w' => e = .returned (.tuple #[]) ∧ ∃ m, (mo = some m ∨ (mo = none ∧ W.heap.size ≤ m)) ∧ NmAt w' (some m) blk (changedN ((since.take k).foldl changedN l) (since.getD k chg0)) ∧ Box w' p 88 (({ c with ml := mo } : FsC).arr.setIfInBounds 8 (.map (some m))) ∧ Chg (fun i => mo = some i ∨ (mo = none ∧ i = p)) W w' := by
          intro W h1 h2
          have := do_any W p 8 88 ({ c with ml := mo } : FsC).arr mo blk _ (since.getD k chg0) h1 rfl hne h2 HNk.out HK.out hlk
          rw [ev] at this
          exact this
        have hB0 : Box (wr.alloc (.cells #[.string s, .string u, .pointer v] 101)).drew p 88 ({ c with ml := mo } : FsC).arr := Box.alloc HB.out _
        have hn0 : NmAt (wr.alloc (.cells #[.string s, .string u, .pointer v] 101)).drew mo blk ((since.take k).foldl changedN l) := HM.out.kept (fun m e => Below.heap_alloc _ _ _ (by have := HM.out; rw [e] at this; exact tag_lt this.tag))
        have hk1 : (0 : Int) ≤ (k : Int) := by omega
        have hk2 : (k : Int) < (n : Int) := by omega
        go_wp2
        go_region_with (go_at_call 84; refine (hdo _ hB0 hn0).mono ?_; rintro e w2 ⟨rfl, m2, hm2, hn2, hb2, hc2⟩)
        go_wp2
        go_roundw
        case rel =>
          refine ⟨k + 1, some m2, by omega, by go_num, hb2, ?_, ?_, ?_⟩
          · unfold Hid
            rw [take_ch since k hks, List.foldl_append]
            exact hn2
          · unfold Hid
            rcases hm2 with e | ⟨e, e2⟩
            · rcases HL.out with e1 | ⟨e1, m3, e3, e4⟩
              · exact .inl (by rw [← e, e1])
              · rw [e] at e3
                obtain rfl := Option.some.inj e3
                exact .inr ⟨e1, m2, rfl, e4⟩
            · rcases HL.out with e1 | ⟨e1, m3, e3, e4⟩
              · exact .inr ⟨by rw [← e1, e], m2, rfl, by simp at e2; omega⟩
              · rw [e] at e3
                cases e3
          · refine Chg.andThen (HC.out.alloc _).drew hc2 ?_
            rintro i hi (e | ⟨_, e⟩)
            · rcases HL.out with e1 | ⟨e1, m3, e3, e4⟩
              · exact .inr (by rw [← e1, e])
              · rw [e] at e3
                obtain rfl := Option.some.inj e3
                omega
            · exact .inl e
        case measure => simp [intOf]; omega
      · have HE : Hid (k = n) := by unfold Hid; omega
        obtain ⟨t0, t1, t2, t3, t4, t5, t6, t7, t8, t9⟩ := HB.out.cells
        have s9 := Box.soft HB.out 9
        simp only at t9
        rw [hsa] at t9
        go_wp2
        go_returns
        have e := HE.out
        subst e
        refine ⟨rfl, mo, ?_, ?_, HL.out, HC.out.set (p := p) (fun _ => .inl rfl) _ _⟩
        · exact Box.set HB.out 9 _
        · refine HM.out.kept fun m e => Below.heap_setCell _ _ _ _ ?_
          have := HM.out
          rw [e] at this
          exact tag_ne this.tag (Box.tag HB.out) (by decide)
end Go.Proofs.YtmlfbihlbiikeaaGreatDoor
namespace Go.Proofs.YtmlfbihlbiikeaaGreatDoor
open Go.RowKit Go.Maps
theorem settle_at {w : World} {p : Nat} {S : PFs} {g : Gh} (h : FsAt w p S g) (hI : Inv S) (n : Nat) (hn : n ≤ S.since.length) :
    Calls Tryz.prog 59 #[at_ p, .int .i64 (n : Int)] w fun e w' => e = .returned (.tuple #[]) ∧ ∃ ml, FsAt w' p { S with lasts := (S.since.take n).foldl changedN S.lasts, since := [] } { g with ml := ml, sa := none, sc := 0 } ∧ (ml = g.ml ∨ (g.ml = none ∧ ∃ m, ml = some m ∧ w.heap.size ≤ m)) ∧ Chg (fun i => i = p ∨ g.ml = some i) w w' := by
  refine (settle_any (c := cellsOf S g) h.fs h.lm hI.lasts hI.chain (by have := hI.count; have := hI.asked; omega) rfl h.sn n hn).mono ?_
  rintro e w' ⟨rfl, ml, hb, hm, hl0, hc⟩
  have hl : ml = g.ml ∨ (g.ml = none ∧ ∃ m, ml = some m ∧ w.heap.size ≤ m) := hl0
  refine ⟨rfl, ml, ?_, hl, hc⟩
  have hfo : ∀ k, ({ S with lasts := (S.since.take n).foldl changedN S.lasts, since := [] } : PFs).fileOf k = S.fileOf k := fun k => rfl
  refine ⟨?_, ?_, hm, ?_, World.ownsRow_nil _ _ _ 3, ?_, h.inj, h.liveN, ?_, fun c hc => by cases hc⟩
  · have e : cellsOf ({ S with lasts := (S.since.take n).foldl changedN S.lasts, since := [] } : PFs) { g with ml := ml, sa := none, sc := 0 } = { cellsOf S g with ml := ml, sa := none, sl := 0, sc := 0 } := by
      unfold cellsOf
      have : ({ S with lasts := (S.since.take n).foldl changedN S.lasts, since := [] } : PFs).bulk S.names = S.bulk S.names := by rw [bulk_eq, bulk_eq]; rfl
      rw [this]
      rfl
    rw [e]
    exact hb
  · refine h.nm.kept fun m e => hc.block m (tag_lt (h.tagN e)) ?_
    rintro (e' | e')
    · exact h.inner_ne (.inl e) e'
    · exact h.apart m e e'
  · intro m e1 e2
    have e2 : ml = some m := e2
    rcases hl with e | ⟨_, m3, e3, e4⟩
    · exact h.apart m e1 (by rw [← e, e2])
    · rw [e2] at e3
      obtain rfl := Option.some.inj e3
      exact absurd (tag_lt (h.tagN e1)) (by omega)
  · intro k hk
    rw [hfo]
    refine (h.files k hk).kept (hc.block _ (tag_lt (h.tagF hk)) ?_) fun b e => hc.block b (tag_lt (h.tagR hk e)) ?_
    · rintro (e | e)
      · exact h.inner_ne (.inr (.inr (.inr ⟨k, hk, .inl rfl⟩))) e
      · exact tag_ne (h.tagL e) (h.tagF hk) (by decide) rfl
    · rintro (e' | e')
      · exact h.inner_ne (.inr (.inr (.inr ⟨k, hk, .inr e⟩))) e'
      · exact tag_ne (h.tagL e') (h.tagR hk e) (by decide) rfl
  · exact Chain.live (Chain.take n hI.chain) h.liveL (fun c hc => h.liveS c (List.mem_of_mem_take hc))
theorem Turn.settled {w w' : World} {p : Nat} {g : Gh} {ml : Option Nat} (hl : ml = g.ml ∨ (g.ml = none ∧ ∃ m, ml = some m ∧ w.heap.size ≤ m)) (hc : Chg (fun i => i = p ∨ g.ml = some i) w w') : Turn p g { g with ml := ml, sa := none, sc := 0 } w w' where
  chg := hc.wide fun k _ e => e.elim .inl (fun e => .inr (.inr (.inl e)))
  foot := by
    rintro k (e | e | e | e)
    · exact .inl (.inl e)
    · have e : ml = some k := e
      rcases hl with e1 | ⟨_, m3, e3, e4⟩
      · exact .inl (.inr (.inl (by rw [← e1, e])))
      · rw [e] at e3
        obtain rfl := Option.some.inj e3
        exact .inr e4
    · cases e
    · exact .inl (.inr (.inr (.inr e)))
set_option maxRecDepth 100000 in
set_option maxHeartbeats 1000000 in
theorem syncDir_at {w : World} {p : Nat} {S : PFs} {g : Gh} (h : FsAt w p S g) (hI : Inv S) (ha : S.asked < 1000000) : Calls Tryz.prog 58 #[at_ p] w fun e w' => e = .returned (.int .i64 (S.syncDir.2 : Nat)) ∧ Inv S.syncDir.1 ∧ ∃ g', FsAt w' p S.syncDir.1 g' ∧ Turn p g g' w w' := by
  obtain ⟨q, ql, qs, qf, qq, qa⟩ := ask_same S
  go_enter Tryz.func58, Tryz.ntmps58
  go_wp2_with fail
  refine (begin_at h hI ha).mono ?_
  rintro e w2 ⟨rfl, h2, hI2, hc2⟩
  by_cases h0 : S.ask.2 = 0
  case neg =>
    have hS : S.syncDir = S.ask := by rw [PFs.syncDir, if_pos h0]
    obtain ⟨er, her⟩ : ∃ er : Int, er = ((S.ask.2 : Nat) : Int) := ⟨_, rfl⟩
    have hne : er ≠ 0 := by omega
    have HE : Hid (er = ((S.ask.2 : Nat) : Int)) := her
    rw [← her]
    clear her
    go_wp2
    go_returns
    rw [hS]
    exact ⟨ret1 (congrArg (Value.int .i64) HE.out), hI2, g, h2, Turn.same (hc2.wide fun _ _ e => .inl e)⟩
  case pos =>
    rw [h0]
    have hS : S.syncDir = ({ S.ask.1 with lasts := S.names, since := [] }, 0) := by rw [PFs.syncDir, if_neg (by omega)]
    obtain ⟨q0, q1, q2, q3, q4, q5, q6, q7, q8, q9⟩ := h2.fs.cells
    simp only [cellsOf] at q9
    rw [qs] at q9
    have hle : S.since.length ≤ 1000000 := hI.fewS
    have hcall := settle_at h2 hI2 S.since.length (by rw [qs]; exact Nat.le_refl _)
    have HQ : Hid (S.ask.1.since = S.since) := qs
    clear qs
    go_wp2_with fail
    refine hcall.mono ?_
    rintro e w3 ⟨rfl, ml, h3, hl3, hc3⟩
    have hall : (S.ask.1.since.take S.since.length).foldl changedN S.ask.1.lasts = S.names := by
      have e : S.since.length = S.ask.1.since.length := by rw [HQ.out]
      rw [e, List.take_length, ← Chain.fold hI2.chain, q]
    rw [hall] at h3
    have ht := Turn.settled hl3 hc3
    go_wp2
    go_returns
    rw [hS]
    refine ⟨rfl, ⟨hI2.asked, hI2.quota, hI2.fuse, hI2.fail, ?_, ?_, ?_, hI2.lens, hI2.last, ?_⟩, _, h3, ⟨Chg.andThen (hc2.wide fun _ _ e => .inl e) ht.chg (fun _ _ e => e), fun k hk => (ht.foot k hk).imp id (fun h => Nat.le_trans hc2.size h)⟩⟩
    · show Nice S.ask.1.files.length S.names
      rw [← q]
      exact hI2.nice
    · show S.names = S.ask.1.names
      rw [q]
    · show S.names.length + 0 ≤ S.ask.1.asked
      have := Chain.length hI2.chain
      have := hI2.count
      rw [← q]
      omega
    · show (S.names.map (·.file) ++ news []).Nodup
      rw [show news [] = [] from rfl, List.append_nil]
      exact hI.nice.files
end Go.Proofs.YtmlfbihlbiikeaaGreatDoor
namespace Go.Proofs.YtmlfbihlbiikeaaGreatDoor
open Go.RowKit Go.Maps
def pickN (l : List Int) (i : Nat) : Nat := (if l.getD i 0 < 0 then -1 - l.getD i 0 else l.getD i 0).toNat
theorem pick_eq (l : List Int) (i most : Nat) : PFs.pick l i most = pickN l i % (most + 1) := by
  unfold PFs.pick pickN
  have key : ∀ x : Int, 0 ≤ x → (x % ((most : Int) + 1)).toNat = x.toNat % (most + 1) := fun x hx => by
    obtain ⟨n, rfl⟩ := Int.eq_ofNat_of_zero_le hx
    show ((n : Int) % ((most + 1 : Nat) : Int)).toNat = _
    rw [← Int.natCast_emod]
    rfl
  split
  · exact key _ (by omega)
  · exact key _ (by omega)
set_option maxRecDepth 100000 in
theorem pickAt_any (w : World) (a : Option Addr) (len cap : Nat) (l : List Int) (h : IsAt w a len cap l) (i : Nat) (hi : i ≤ 10000000) : Calls Tryz.prog 60 #[.slice a len cap, .int .i64 (i : Int)] w fun e w' => e = .returned (.int .i64 (pickN l i : Nat)) ∧ w' = w := by
  have hs := h.size
  have hm := h.max
  have hl := h.le
  unfold maxLen at hm
  by_cases hlt : i < len
  · obtain ⟨b, off, rfl, hc⟩ := h.here (by omega)
    have c0 := hc i hlt
    have hw := h.wf i hlt
    unfold pickN
    have h1 : (i : Int) < (len : Int) := by omega
    have h2 : (0 : Int) ≤ (i : Int) := by omega
    clear hc h
    generalize l.getD i 0 = x at c0 hw ⊢
    by_cases hx : x < 0
    · rw [if_pos hx]
      have e : ((-1 - x).toNat : Int) = -1 - x := by omega
      go_enter Tryz.func60, Tryz.ntmps60
      go_wp2
      go_returns
      refine ⟨ret1 ?_, rfl⟩
      show Value.int .i64 _ = _
      rw [e]
    · rw [if_neg hx]
      have e : (x.toNat : Int) = x := by omega
      go_enter Tryz.func60, Tryz.ntmps60
      go_wp2
      go_returns
      exact ⟨rfl, rfl⟩
  · have e : pickN l i = 0 := by
      unfold pickN
      have : l.getD i 0 = 0 := by simp [List.getD, List.getElem?_eq_none (by omega : l.length ≤ i)]
      rw [this]
      rfl
    rw [e]
    have h1 : (len : Int) ≤ (i : Int) := by omega
    clear h
    go_enter Tryz.func60, Tryz.ntmps60
    go_wp2
    go_returns
    exact ⟨rfl, rfl⟩
theorem tmod_nat (a b : Nat) : Int.tmod (a : Int) ((b : Int) + 1) = ((a % (b + 1) : Nat) : Int) := by
  rw [Int.tmod_eq_emod_of_nonneg (by omega), Int.natCast_emod]
  rfl
theorem OwnB.upTo {w : World} {B : Nat} {a : Option Addr} {len cap : Nat} {bs : List UInt8} (h : OwnB w B a len cap bs) (n : Nat) (hn : n ≤ len) : OwnB w B a n cap (bs.take n) := by
  have hs := h.size
  have hl : (bs.take n).length = n := by rw [List.length_take]; omega
  refine ⟨hl, by rw [cellsB_length, hl]; simp, ?_⟩
  rcases h.row.2 with ⟨hv, h0⟩ | ⟨g, c, cur, hv, hB, hg, h1, h2, h3, h4⟩
  · simp only [Value.slice.injEq] at hv
    obtain ⟨rfl, rfl, rfl⟩ := hv
    obtain rfl : n = 0 := by omega
    exact .inl ⟨rfl, rfl⟩
  · simp only [Value.slice.injEq, true_and] at hv
    obtain ⟨rfl, rfl⟩ := hv
    refine .inr ⟨g, cap, cur, rfl, hB, hg, by omega, h2, h3, ?_⟩
    have e : cellsB (bs.take n) = (cellsB bs).take n := by simp [cellsB, List.map_take]
    rw [e, ← h4, List.take_take]
    congr 1
    omega
theorem FileAt.cutTo {w W : World} {f : FG} {x : PFile} (h : FileAt w f x) {n : Nat} (hn : n ≤ x.b.length) (hb : Box W f.blk 99 #[.slice f.a n f.cap, .int .i64 (n : Int)]) (hr : ∀ b, f.row = some b → W.heap[b]? = w.heap[b]?) : FileAt W f (PFs.cut x n) := by
  have hl : (x.b.take n).length = n := by rw [List.length_take]; omega
  refine ⟨?_, ?_⟩
  · show Box W f.blk _ #[.slice f.a (x.b.take n).length f.cap, .int .i64 ((n : Nat) : Int)]
    rw [hl]
    exact hb
  · show OwnB W 0 f.a (x.b.take n).length f.cap (x.b.take n)
    rw [hl]
    have := h.own.upTo n hn
    exact ⟨this.size, row_same this.row fun b e => hr b (by rw [← f.row_eq]; exact e)⟩
set_option maxRecDepth 100000 in
set_option maxHeartbeats 1000000 in
theorem cut_any (w : World) (f : FG) (x : PFile) (P : Nat) (h : FileAt w f x) (hl : x.last ≤ x.b.length) (hb : x.b.length ≤ 1048576) (_hP : P ≤ 9223372036854775807) :
    Calls Tryz.prog 63 #[at_ f.blk, .int .i64 (P : Int)] w fun e w' => e = .returned (.tuple #[]) ∧ FileAt w' f (PFs.cut x (x.last + P % (x.b.length - x.last + 1))) ∧ Chg (fun i => i = f.blk) w w' := by
  have c0 := h.box.cell 0
  have c1 := h.box.cell 1
  have s0 := h.box.soft 0
  have s1 := h.box.soft 1
  simp at c0 c1
  have hcap : x.b.length ≤ f.cap := h.own.bs.le
  have hmax : f.cap ≤ maxLen := h.own.bs.max
  unfold maxLen at hmax
  obtain ⟨L, HL⟩ : ∃ L, Hid (L = x.b.length) := ⟨_, rfl⟩
  obtain ⟨D, HD⟩ : ∃ D, Hid (D = x.b.length - x.last) := ⟨_, rfl⟩
  obtain ⟨T, HT⟩ : ∃ T, Hid (T = x.last) := ⟨_, rfl⟩
  rw [← HL.out] at c0 hcap hb
  rw [← HT.out] at c1
  have hTL : T ≤ L := by rw [HL.out, HT.out]; exact hl
  have hsub : (L : Int) - (T : Int) = (D : Int) := by rw [HL.out, HT.out, HD.out]; omega
  have htm := tmod_nat P D
  obtain ⟨M, HM⟩ : ∃ M, Hid (M = P % (D + 1)) := ⟨_, rfl⟩
  rw [← HM.out] at htm
  have hMD : M ≤ D := by have := HM.out; have := Nat.mod_lt P (show 0 < D + 1 by omega); omega
  have hTM : T + M ≤ L := by have := HL.out; have := HT.out; have := HD.out; omega
  have hD1 : (D : Int) + 1 ≠ 0 := by omega
  have hn : x.last + P % (x.b.length - x.last + 1) = T + M := by rw [HM.out, HD.out, HT.out]
  have hlen : (x.b.take (T + M)).length = T + M := by rw [List.length_take]; have := HL.out; omega
  rw [hn]
  have hrb : ∀ b, f.row = some b → b ≠ f.blk := fun b e => tag_ne (row_tag h.own.row (by rw [FG.row_eq]; exact e)) h.box.tag (by decide)
  have hLb : T + M ≤ x.b.length := by rw [← HL.out]; exact hTM
  cases ha : f.a with
  | none =>
    have hz : f.cap = 0 := h.own.bs.bare ha
    rw [ha] at c0
    obtain rfl : L = 0 := by omega
    obtain rfl : T = 0 := by omega
    obtain rfl : M = 0 := by omega
    rw [hz] at c0
    go_enter Tryz.func63, Tryz.ntmps63
    go_wp2
    go_region
    go_wp2
    go_region
    go_wp2
    go_region
    go_wp2
    go_returns
    refine ⟨rfl, h.cutTo hLb ?_ (fun b e => (Below.heap_setCell _ _ _ _ (hrb b e)).trans (Below.heap_setCell _ _ _ _ (hrb b e))), (((Chg.refl (fun i => i = f.blk) w).set (p := f.blk) (fun _ => rfl) 1 _).set (p := f.blk) (fun _ => rfl) 0 _).drew.drew.drew⟩
    rw [ha, hz]
    exact Box.eq ((h.box.set 1 _).set 0 _) (by simp)
  | some ad =>
    rw [ha] at c0
    obtain ⟨gr, rfl⟩ : ∃ gr, ad = ⟨gr, 0, none⟩ := by
      have hr := h.own.row
      rw [ha] at hr
      rcases hr.2 with ⟨hv, h0⟩ | ⟨g, cp, cur, hv, _⟩
      · simp at hv
      · simp only [Value.slice.injEq, Option.some.injEq] at hv
        exact ⟨g, hv.1⟩
    have hb1 : (0 : Int) ≤ (T : Int) + (M : Int) := by omega
    have hb2 : (T : Int) + (M : Int) ≤ (f.cap : Int) := by omega
    go_enter Tryz.func63, Tryz.ntmps63
    go_wp2
    go_region
    go_wp2
    go_region
    go_wp2
    go_region
    go_wp2
    go_returns
    refine ⟨rfl, h.cutTo hLb ?_ (fun b e => (Below.heap_setCell _ _ _ _ (hrb b e)).trans (Below.heap_setCell _ _ _ _ (hrb b e))), (((Chg.refl (fun i => i = f.blk) w).set (p := f.blk) (fun _ => rfl) 1 _).set (p := f.blk) (fun _ => rfl) 0 _).drew.drew.drew⟩
    rw [ha]
    exact Box.eq ((h.box.set 1 _).set 0 _) (by simp)
end Go.Proofs.YtmlfbihlbiikeaaGreatDoor
namespace Go.Proofs.YtmlfbihlbiikeaaGreatDoor
def name0' : PName := ⟨[], 0⟩
def cutAt (picks : List Int) (i : Nat) (fs : List PFile) (k : Nat) : List PFile := fs.set k (PFs.cut (fs.getD k file0) ((fs.getD k file0).last + PFs.pick picks (i + 1) ((fs.getD k file0).b.length - (fs.getD k file0).last)))
theorem crash_cons (picks : List Int) (n : PName) (r : List PName) (i : Nat) (fs : List PFile) : PFs.crashFiles picks (n :: r) i fs = PFs.crashFiles picks r (i + 1) (cutAt picks i fs n.file) := rfl
theorem crash_snoc (picks : List Int) (x : PName) : ∀ (l : List PName) (i : Nat) (fs : List PFile), PFs.crashFiles picks (l ++ [x]) i fs = cutAt picks (i + l.length) (PFs.crashFiles picks l i fs) x.file
  | [], i, fs => rfl
  | n :: r, i, fs => by
    rw [List.cons_append, crash_cons, crash_cons, crash_snoc picks x r (i + 1), List.length_cons]
    congr 1
    omega
theorem cutAt_length (picks : List Int) (i : Nat) (fs : List PFile) (k : Nat) : (cutAt picks i fs k).length = fs.length := by simp [cutAt]
theorem crash_length (picks : List Int) : ∀ (l : List PName) (i : Nat) (fs : List PFile), (PFs.crashFiles picks l i fs).length = fs.length
  | [], _, _ => rfl
  | n :: r, i, fs => by rw [crash_cons, crash_length picks r, cutAt_length]
def Small (fs : List PFile) : Prop := ∀ k, (fs.getD k file0).b.length ≤ 1048576 ∧ (fs.getD k file0).last ≤ (fs.getD k file0).b.length
theorem cutAt_getD (picks : List Int) (i : Nat) (fs : List PFile) (k j : Nat) (hk : k < fs.length) : (cutAt picks i fs k).getD j file0 = if j = k then PFs.cut (fs.getD k file0) ((fs.getD k file0).last + PFs.pick picks (i + 1) ((fs.getD k file0).b.length - (fs.getD k file0).last)) else fs.getD j file0 := by
  unfold cutAt
  rw [List.getD_eq_getElem?_getD, List.getElem?_set]
  by_cases e : j = k
  · subst e
    simp [hk]
  · rw [if_neg (Ne.symm e), if_neg e, List.getD_eq_getElem?_getD]
theorem pickOf_le (picks : List Int) (i most : Nat) : PFs.pick picks i most ≤ most := by
  rw [pick_eq]
  have := Nat.mod_lt (pickN picks i) (show 0 < most + 1 by omega)
  omega
theorem Small.cut {fs : List PFile} (h : Small fs) (picks : List Int) (i k : Nat) : Small (cutAt picks i fs k) := by
  intro j
  by_cases hk : k < fs.length
  · rw [cutAt_getD picks i fs k j hk]
    split
    · have h1 := h k
      have h2 := pickOf_le picks (i + 1) ((fs.getD k file0).b.length - (fs.getD k file0).last)
      unfold PFs.cut
      simp only [List.length_take]
      omega
    · exact h j
  · have : cutAt picks i fs k = fs := by
      unfold cutAt
      exact List.set_eq_of_length_le (by omega)
    rw [this]
    exact h j
theorem Small.crash (picks : List Int) : ∀ (l : List PName) (i : Nat) (fs : List PFile), Small fs → Small (PFs.crashFiles picks l i fs)
  | [], _, _, h => h
  | n :: r, i, fs, h => by rw [crash_cons]; exact Small.crash picks r _ _ (h.cut picks i n.file)
theorem take_nm (l : List PName) (k : Nat) (h : k < l.length) : l.take (k + 1) = l.take k ++ [l.getD k name0'] := by
  rw [List.take_add_one]
  simp [List.getD, h]
def cutBulk (picks : List Int) (l : List PName) (fs : List PFile) (k : Nat) : Nat := bulkF (fun j => ((PFs.crashFiles picks (l.take k) 0 fs).getD j file0).b.length) (l.take k)
theorem bulkF_append (len : Nat → Nat) : ∀ l m, bulkF len (l ++ m) = bulkF len l + bulkF len m
  | [], m => by simp [bulkF]
  | n :: r, m => by
    rw [List.cons_append, bulkF, bulkF, bulkF_append len r m]
    omega
theorem cutBulk_step {K : Nat} (picks : List Int) (l : List PName) (fs : List PFile) (k : Nat) (hk : k < l.length) (hN : Nice K l) (hf : (l.getD k name0').file < fs.length) :
    cutBulk picks l fs (k + 1) = cutBulk picks l fs k + ((PFs.crashFiles picks (l.take (k + 1)) 0 fs).getD (l.getD k name0').file file0).b.length := by
  unfold cutBulk
  rw [take_nm l k hk, bulkF_append]
  have hl : (l.take k).length = k := by rw [List.length_take]; omega
  have e : bulkF (fun j => ((PFs.crashFiles picks (l.take k ++ [l.getD k name0']) 0 fs).getD j file0).b.length) (l.take k) = bulkF (fun j => ((PFs.crashFiles picks (l.take k) 0 fs).getD j file0).b.length) (l.take k) := by
    refine bulkF_congr fun x hx => ?_
    rw [crash_snoc, cutAt_getD _ _ _ _ _ (by rw [crash_length]; exact hf)]
    rw [if_neg]
    intro e
    have hnd := hN.files
    rw [← List.take_append_drop k l, List.map_append, List.nodup_append] at hnd
    refine hnd.2.2 x.file (List.mem_map.2 ⟨x, hx, rfl⟩) (l.getD k name0').file (List.mem_map.2 ⟨l.getD k name0', ?_, rfl⟩) e
    have e5 : l.getD k name0' = l[k] := by simp [List.getD, hk]
    rw [e5, List.drop_eq_getElem_cons hk]
    exact List.mem_cons_self ..
  rw [e]
  simp [bulkF]
theorem cutBulk_le {picks : List Int} {l : List PName} {fs : List PFile} {k : Nat} (h : Small fs) : cutBulk picks l fs k ≤ (l.take k).length * 1048576 := bulkF_le (fun j => (Small.crash picks _ _ _ h j).1) _
theorem Inv.small {S : PFs} (h : Inv S) : Small S.files := fun k => ⟨h.lens k, h.last k⟩
theorem stays_eq (S : PFs) (l : List Int) : S.stays l = (S.since.take (pickN l 0 % (S.since.length + 1))).foldl changedN S.lasts := by
  unfold PFs.stays
  rw [pick_eq]
theorem Inv.stays {S : PFs} (h : Inv S) (l : List Int) : Nice S.files.length (S.stays l) ∧ (S.stays l).length ≤ S.asked := by
  have hc := Chain.take (PFs.pick l 0 S.since.length) h.chain
  refine ⟨Chain.nice h.lasts hc, ?_⟩
  have := Chain.length hc
  have h2 : (S.since.take (PFs.pick l 0 S.since.length)).length ≤ S.since.length := by simp; omega
  have := h.count
  show ((S.since.take (PFs.pick l 0 S.since.length)).foldl changedN S.lasts).length ≤ _
  omega
theorem Inv.crash {S : PFs} (h : Inv S) (l : List Int) : Inv (S.crash l) := by
  have hl : (S.crash l).files.length = S.files.length := crash_length _ _ _ _
  obtain ⟨h1, h2⟩ := h.stays l
  refine ⟨h.asked, h.quota, (fun e => by cases e), (fun e => by cases e), by rw [hl]; exact h1, rfl, by show (S.stays l).length + 0 ≤ S.asked; omega, fun k => (Small.crash l _ _ _ h.small k).1, fun k => (Small.crash l _ _ _ h.small k).2, by
    show ((S.stays l).map (·.file) ++ news []).Nodup
    rw [show news [] = [] from rfl, List.append_nil]
    exact h1.files⟩
end Go.Proofs.YtmlfbihlbiikeaaGreatDoor
