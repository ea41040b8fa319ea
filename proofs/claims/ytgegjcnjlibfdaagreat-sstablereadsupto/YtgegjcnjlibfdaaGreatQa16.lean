/- The contract of bloom.Build. -/
import Derived.Test.YtgegjcnjlibfdaaGreatQa14
import Derived.Test.YtgegjcnjlibfdaaGreatQa15
import Derived.Test.YtgegjcnjlibfdaaGreatQa02
import Derived.Deep.OwnRows
import Derived.Test.YtgegjcnjlibfdaaGreatT12Table
namespace Go.Proofs.YtgegjcnjlibfdaaGreat
open Go.RowKit Go.Shelf
attribute [local go_sem] Oper.semAt_some
set_option maxRecDepth 100000 in
set_option maxHeartbeats 400000 in
theorem bloom_no (ka : Option Addr) (kn kc b : Nat) (w : World) (h : okB b = false) :
    Calls Tryz.prog 22 #[.slice ka kn kc, .float .f64 b] w fun e w' => e = .returned (.tuple #[.slice none 0 0, .int .i64 100]) ∧ w' = w := by
  unfold okB at h
  cases h1 : (FloatKind.f64.format.order b 0 == some .gt) with
  | false =>
    clear h
    go_enter Tryz.func22, Tryz.ntmps22
    go_wp2
    go_ret2
    exact ⟨rfl, rfl⟩
  | true =>
    rw [h1, Bool.true_and] at h
    go_enter Tryz.func22, Tryz.ntmps22
    go_wp2
    go_ret2
    exact ⟨rfl, rfl⟩
theorem made_bytes (n : Nat) (hn : n ≤ 140737488355328) (W : World) : (Instr.makeSlice 27 (.int .i64 (n : Int)) (.int .i64 (n : Int))).run Tryz.prog W = .ok (.slice (some ⟨W.heap.size, 0, none⟩) n n) (W.alloc (.cells (cellsB (List.replicate n 0)).toArray 5)) := by
  have e : madeCells #[.int .u8 0] n = (cellsB (List.replicate n 0)).toArray := by
    apply Array.ext_getElem?
    intro i
    by_cases hi : i < n
    · simp [madeCells, cellsB, hi, Nat.mod_one]
    · simp [madeCells, cellsB, hi]
  rw [← e]
  exact run_make_row' (P := Tryz.prog) 27 5 (.int .u8 0) 1 Tryz.underlying27 infoU8 rfl .i64 .i64 n (by omega) (by omega) W
theorem cellsB_set (bs : List UInt8) (j : Nat) (c : UInt8) : (cellsB bs).toArray.setIfInBounds j (.int .u8 (c.toNat : Int)) = (cellsB (bs.set j c)).toArray := by
  simp [cellsB, List.map_set]
theorem or_bitF : ∀ c : Fin 256, ∀ k : Fin 8, bits .or .u8 ((c.val : Nat) : Int) (2 ^ k.val % 256) = (((c.val ||| 2 ^ k.val) : Nat) : Int) := by decide +kernel
theorem or_bit (c : UInt8) (k : Nat) (hk : k < 8) : bits .or .u8 (c.toNat : Int) (2 ^ k % 256) = ((orBit c k).toNat : Int) := by
  rw [orBit_toNat c hk]
  exact or_bitF ⟨c.toNat, UInt8.toNat_lt c⟩ ⟨k, hk⟩

/-- What Build keeps in memory: the filter's bytes, and the variable that names them. -/
structure BdI (w W : World) (sz : Nat) (bs : List UInt8) : Prop where
  base : Below w.heap.size w W
  big : w.heap.size + 2 ≤ W.heap.size
  len : bs.length = sz + 1
  row : Box W w.heap.size 5 (cellsB bs).toArray
  box : Boxed W (w.heap.size + 1) 27 (.slice (some ⟨w.heap.size, 0, none⟩) (sz + 1) (sz + 1))
theorem BdI.below {w W W' : World} {sz : Nat} {bs : List UInt8} (h : BdI w W sz bs) (hb : Below W.heap.size W W') : BdI w W' sz bs :=
  ⟨h.base.trans (hb.mono h.base.size), Nat.le_trans h.big hb.size, h.len, h.row.kept (hb.block _ h.row.lt), (hb.block _ h.box.lt).trans h.box⟩
theorem BdI.own {w W W' : World} {sz : Nat} {bs : List UInt8} {row : Option Nat} {B₀ : Nat} (hB : w.heap.size ≤ B₀) (h : BdI w W sz bs) (hg : W.grownBy W' row) (hr : ∀ r, row = some r → B₀ ≤ r ∧ ∃ o : Obj, W.heap[r]? = some o ∧ o.isCells = false) : BdI w W' sz bs := by
  refine ⟨h.base.grown hg h.base.size (fun k e => by have := (hr k e).1; omega), Nat.le_trans h.big hg.size, h.len, h.row.kept (hg.block _ h.row.lt (fun e => ?_)), h.box.kept hg (fun e => ?_)⟩
  · obtain ⟨_, o, ho, hcl⟩ := hr _ e.symm
    rw [show W.heap[w.heap.size]? = _ from h.row] at ho
    cases ho
    cases hcl
  · obtain ⟨_, o, ho, hcl⟩ := hr _ e.symm
    rw [show W.heap[w.heap.size + 1]? = _ from h.box] at ho
    cases ho
    cases hcl
theorem BdI.set {w W : World} {sz : Nat} {bs : List UInt8} (h : BdI w W sz bs) (j : Nat) (c : UInt8) : BdI w (W.setCell ⟨w.heap.size, j, none⟩ (.int .u8 (c.toNat : Int))) sz (bs.set j c) := by
  refine ⟨h.base.setCell (Nat.le_refl _) _, by simpa using h.big, by simpa using h.len, ?_, Below.heap_setCell _ _ _ _ (by simp) |>.trans h.box⟩
  exact (h.row.set j (.int .u8 (c.toNat : Int))).eq (cellsB_set bs j c)
theorem BdI.cell {w W : World} {sz : Nat} {bs : List UInt8} (h : BdI w W sz bs) {j : Nat} (hj : j < sz + 1) : W.cell? ⟨w.heap.size, j, none⟩ = some (.int .u8 ((bs.getD j 0).toNat : Int)) := by
  rw [h.row.cell j, List.getElem?_toArray]
  exact cellsB_get bs j (by rw [h.len]; exact hj)
/-- The blocks that the loops over functions have left, one a loop. -/
def DsOk (lo : Nat) (W : World) : List Deferred → Nat → Prop
  | [], _ => True
  | d :: r, hi => ∃ D, d = { target := .collected D, args := #[] } ∧ lo ≤ D ∧ D < hi ∧ W.heap[D]? = some (.deferred (some [])) ∧ DsOk lo W r D
theorem DsOk.keep {lo : Nat} {W W' : World} : ∀ {ds : List Deferred} {hi : Nat}, DsOk lo W ds hi → (∀ D, lo ≤ D → D < hi → W.heap[D]? = some (.deferred (some [])) → W'.heap[D]? = W.heap[D]?) → DsOk lo W' ds hi
  | [], _, _, _ => trivial
  | _ :: _, _, ⟨D, h1, h2, h3, h4, h5⟩, hk => ⟨D, h1, h2, h3, (hk D h2 h3 h4).trans h4, h5.keep fun D' a b c => hk D' a (by omega) c⟩
theorem DsOk.mono {lo : Nat} {W : World} {ds : List Deferred} {hi hi' : Nat} (h : DsOk lo W ds hi) (hh : hi ≤ hi') : DsOk lo W ds hi' := by
  cases ds with
  | nil => trivial
  | cons d r =>
    obtain ⟨D, h1, h2, h3, h4, h5⟩ := h
    exact ⟨D, h1, h2, by omega, h4, h5⟩
/-- A function's return takes up what its loops have left. -/
theorem leaves_ds {fn : Func} {tmps : Array Value} {R : Ending → World → Prop} {lo : Nat} {v : Value} {I : World → Prop} (hv : ∀ W, I W → (results fn tmps).run Tryz.prog W = .ok v W)
    (hI : ∀ W D, I W → lo ≤ D → W.heap[D]? = some (.deferred (some [])) → I (W.putObj D (.deferred none))) (hR : ∀ W, I W → R (.returned v) W) :
    ∀ (ds : List Deferred) (hi : Nat) (W : World), DsOk lo W ds hi → I W → LeavesInM Fence.wide 6 Tryz.prog fn tmps R ds .returning W
  | [], _, W, _, hW => ⟨v, hv W hW, hR W hW⟩
  | _ :: ds, _, W, ⟨D, h1, h2, h3, h4, h5⟩, hW => by
    subst h1
    refine ⟨by simp, .inl ⟨D, _, rfl, run_takeDeferred h4, ?_⟩⟩
    exact leaves_ds hv hI hR ds D _ (h5.keep fun D' _ hb _ => World.putObj_heap_other (by omega)) (hI W D hW h2 h4)

theorem own_boxed {w : World} {B g n : Nat} {bs : List UInt8} (h : Box w g 5 (cellsB bs).toArray) (hB : B ≤ g) (hn : bs.length = n) (hl : n ≤ 140737488355328) : OwnB w B (some ⟨g, 0, none⟩) n n bs := by
  subst hn
  refine ⟨rfl, by rw [cellsB_length]; simp, .inr ⟨g, bs.length, (cellsB bs).toArray, rfl, hB, h, Nat.le_refl _, by unfold maxLen; omega, by simp [cellsB_length], ?_⟩⟩
  have : (cellsB bs).length = bs.length * 1 := by rw [cellsB_length]; simp
  simp [← this]
theorem fillAll_snoc (ks : List (List UInt8)) (k : List UInt8) (count probes : Nat) (l : List UInt8) : fillAll (ks ++ [k]) count probes l = fill (fillAll ks count probes l) (plc k count probes) := by simp [fillAll]
theorem fill_snoc (l : List UInt8) (ps : List Nat) (p : Nat) : fill l (ps ++ [p]) = setBit (fill l ps) p := by simp [fill]
/-- Build's frame between two keys. -/
def BdAct (ka : Option Addr) (kn kc b pr sz g : Nat) (ds : List Deferred) (k : Int) (u10 u36 u37 u38 u39 u40 u41 u42 u54 : Value) : Act :=
  { tmps := #[.slice ka kn kc, .float .f64 b, undef, undef, .slice none 0 0, .int .i64 0, .int .i64 (pr : Int), .int .i64 (sz : Int), .pointer (some ⟨g + 1, 0, none⟩), undef, u10, undef, .float .f64 b, .bool true, .bool true, .float .f64 b, .bool true, .bool true, .bool false, .float .f64 b, .int .i64 (pr : Int), .float .f64 b,
      .slice ka kn kc, .int .i64 (kn : Int), .int .i64 (sz : Int), .int .i64 (sz : Int), .int .i64 ((sz : Int) + 1), .slice (some ⟨g, 0, none⟩) (sz + 1) (sz + 1), .slice (some ⟨g, 0, none⟩) (sz + 1) (sz + 1), .int .i64 (sz : Int), .int .i64 (pr : Int), .int .u8 (pr : Int), .pointer (some ⟨g, sz, none⟩), .slice ka kn kc, .int .i64 (kn : Int),
      .int .i64 k, u36, u37, u38, u39, u40, u41, u42, undef, undef, undef, undef, undef, undef, undef, undef, undef, undef, undef, u54, undef], defers := ds }
set_option maxRecDepth 100000 in
set_option maxHeartbeats 2000000 in
theorem bloom_yes (ka : Option Addr) (kn kc b : Nat) (keys : List ByteArray) (w : World) (hk : StAt w ka kn kc keys) (hks : ∀ s ∈ keys, s.size ≤ 140737488351232) (hn : kn ≤ 8796093022208) (h : okB b = true) :
    Calls Tryz.prog 22 #[.slice ka kn kc, .float .f64 b] w fun e w' => ∃ a c, e = .returned (.tuple #[.slice a (szN b kn + 1) c, .int .i64 0]) ∧ OwnB w' w.heap.size a (szN b kn + 1) c (buildN (keys.map fun s => s.data.toList) (prN b) (szN b kn)) ∧ Below w.heap.size w w' := by
  have hp100 : fl69 b ≤ 100 := by obtain ⟨_, _, _, _, _, _, hp100, _⟩ := ok_facts h kn (by omega); exact hp100
  have hs100 : flN b kn ≤ 100 * kn := by obtain ⟨_, _, _, _, _, _, _, _, _, _, _, hs100, _⟩ := ok_facts h kn (by omega); exact hs100
  have hpf := probes_any h
  have hsf := size_any h kn (by omega)
  have hpr : 1 ≤ prN b ∧ prN b ≤ 100 := by unfold prN; omega
  have hsz : 8 ≤ szN b kn ∧ szN b kn ≤ 109951162777700 := by unfold szN; omega
  unfold okB at h
  rw [Bool.and_eq_true] at h
  obtain ⟨hg1, hg2⟩ := h
  generalize prN b = pr at *
  generalize szN b kn = sz at *
  obtain ⟨hpr1, hpr2⟩ := hpr
  obtain ⟨hsz1, hsz2⟩ := hsz
  have hmk := fun W => made_bytes (sz + 1) (by omega) W
  rw [show ((sz + 1 : Nat) : Int) = (sz : Int) + 1 by omega] at hmk
  have hc0 : (cellsB (List.replicate (sz + 1) 0))[sz]? = some (.int .u8 0) := by simp [cellsB]
  clear hp100 hs100
  have hmix : Tryz.prog.follows Departure.mixedOrders = true := by kernel_rfl
  refine (callsIn_wide (n := 6)).1 ?_
  refine callsIn_of_wp_marks Tryz.func22 rfl trivial ?_ rfl
  simp only [Tryz.ntmps22, List.size_toArray, List.length_cons, List.length_nil, Nat.reduceAdd, Nat.reduceSub, Array.replicate_succ, Array.replicate_zero, List.push_toArray, List.append_toArray, List.nil_append, List.cons_append]
  gi_wp2_with (first
    | (refine ⟨trivial, ?_⟩; gi_at_call 54; refine (callsIn_wide.2 (hpf _)).mono ?_; rintro e w1 ⟨rfl, rfl⟩)
    | (refine ⟨trivial, ?_⟩; gi_at_call 55; refine (callsIn_wide.2 (hsf _)).mono ?_; rintro e w1 ⟨rfl, rfl⟩))
  have hst : BdI w1 ((w1.alloc (.cells ((cellsB (List.replicate (sz + 1) 0)).set sz (.int .u8 (pr : Int))).toArray 5)).alloc (.cells #[.slice (some ⟨w1.heap.size, 0, none⟩) (sz + 1) (sz + 1)] 27)) sz (List.replicate sz 0 ++ [UInt8.ofNat pr]) := by
    have e1 : ((cellsB (List.replicate (sz + 1) 0)).set sz (.int .u8 (pr : Int))).toArray = (cellsB (List.replicate sz 0 ++ [UInt8.ofNat pr])).toArray := by
      have e2 : (UInt8.ofNat pr).toNat = pr := by
        simp only [UInt8.toNat_ofNat']
        omega
      rw [List.replicate_succ', show cellsB (List.replicate sz (0 : UInt8) ++ [0]) = cellsB (List.replicate sz 0) ++ cellsB [0] from cellsB_append _ _, List.set_append_right _ _ (by simp [cellsB])]
      rw [cellsB_append]
      simp [cellsB, e2]
    rw [e1]
    refine ⟨((Below.refl _ w1).alloc (Nat.le_refl _) _).alloc (by simp) _, by simp, by simp, (Box.new w1 _ _).alloc _, ?_⟩
    have := Boxed.new (w1.alloc (.cells (cellsB (List.replicate sz 0 ++ [UInt8.ofNat pr])).toArray 5)) 27 (.slice (some ⟨w1.heap.size, 0, none⟩) (sz + 1) (sz + 1))
    rwa [World.size_alloc] at this
  generalize ((w1.alloc (.cells ((cellsB (List.replicate (sz + 1) 0)).set sz (.int .u8 (pr : Int))).toArray 5)).alloc (.cells #[.slice (some ⟨w1.heap.size, 0, none⟩) (sz + 1) (sz + 1)] 27)) = W0 at *
  refine wpIn_loop (fun a' W' => ∃ (k : Nat) (ds : List Deferred) (bs : List UInt8) (u10 u36 u37 u38 u39 u40 u41 u42 u54 : Value), a' = BdAct ka kn kc b pr sz w1.heap.size ds (k : Int) u10 u36 u37 u38 u39 u40 u41 u42 u54 ∧ k ≤ kn ∧ BdI w1 W' sz bs ∧ bs = fillAll ((keys.take k).map fun s => s.data.toList) (8 * sz) pr (List.replicate sz 0 ++ [UInt8.ofNat pr]) ∧ DsOk (w1.heap.size + 2) W' ds W'.heap.size)
    (fun a' _ => kn - (intOf (a'.tmps.getD 35 undef)).toNat) ⟨0, [], _, undef, undef, undef, undef, undef, undef, undef, undef, undef, rfl, by omega, hst, rfl, trivial⟩ ?_
  rintro a' W ⟨k, ds, bs, u10, u36, u37, u38, u39, u40, u41, u42, u54, rfl, hkn, hI, hbs, hds⟩
  unfold BdAct
  by_cases hlt : k < kn
  · obtain ⟨kb, ko, rfl, hkc⟩ := hk.here (by omega)
    have hkk : k < keys.length := by rw [hk.size]; exact hlt
    have hkcell : W.cell? ⟨kb, ko + k, none⟩ = some (.string keys[k]) := by
      have := hkc k hlt
      rw [hI.base.cell (World.block_lt_of_cell? w1 _ this), this]
      simp [List.getD, hkk]
    have hksz := hks _ (List.getElem_mem hkk)
    have HTK : Hid ((keys.take (k + 1)).map (fun s => s.data.toList) = (keys.take k).map (fun s => s.data.toList) ++ [keys[k].data.toList]) := by
      unfold Hid
      rw [List.take_succ_eq_append_getElem hkk, List.map_append]
      rfl
    generalize keys[k] = key at *
    have hkle := hk.le
    have hkmx := hk.max
    unfold maxLen at hkmx
    have HI : Hid (BdI w1 W sz bs) := hI
    gi_wp2_with (refine ⟨trivial, ?_⟩; gi_at_call 56; refine (callsIn_wide.2 (places_any _ _ _ (by omega) _)).mono ?_; rintro e W1 ⟨rfl, hb1, hz1, x0, x1, x2⟩)
    have hI1 : BdI w1 W1 sz bs := hI.below hb1
    have hds1 : DsOk (w1.heap.size + 2) W1 ds W.heap.size := hds.keep fun D _ hD _ => hb1.block D hD
    have hbg := hI.big
    refine wpIn_rangeFunc_ownG (F := Fence.wide) rfl (by omega) (gf := 93) (lb := #[.pointer (some ⟨W.heap.size, 0, none⟩), .pointer (some ⟨W.heap.size + 1, 0, none⟩), .pointer (some ⟨W.heap.size + 2, 0, none⟩)]) rfl trivial (enters_of Tryz.func93 (by kernel_rfl) rfl)
      (places_stops 5 (by omega) w1.heap.size key hksz pr (8 * sz) (by omega) (by omega) (by omega) W.heap.size W1 x0 x1 x2) Kp2.trans (Kp2.put (by omega) (by omega)) (Below.refl _ _) (fun _ => rfl)
      (fun pre V => BdI w1 V sz (fill bs (PlX.nums pre)) ∧ DsOk (w1.heap.size + 2) V ds W.heap.size) (fun _ _ _ => False)
      (fun pre V V' row hs hg hr => ⟨hs.1.own (by omega) hg hr, hs.2.keep fun D _ hD hK => hg.block D (Array.getElem?_eq_some_iff.1 hK).1 (fun e => by have := (hr D e.symm).1; omega)⟩) (fun _ _ _ _ _ hs _ _ => hs) ⟨hI1, hds1⟩
      (fun x => { tmps := #[.slice (some ⟨kb, ko, none⟩) kn kc, .float .f64 b, undef, undef, .slice none 0 0, .int .i64 0, .int .i64 (pr : Int), .int .i64 (sz : Int), .pointer (some ⟨w1.heap.size + 1, 0, none⟩), undef, .string key, .int .u64 ((x.1 : Nat) : Int), .float .f64 b, .bool true, .bool true, .float .f64 b, .bool true, .bool true, .bool false, .float .f64 b, .int .i64 (pr : Int), .float .f64 b,
          .slice (some ⟨kb, ko, none⟩) kn kc, .int .i64 (kn : Int), .int .i64 (sz : Int), .int .i64 (sz : Int), .int .i64 ((sz : Int) + 1), .slice (some ⟨w1.heap.size, 0, none⟩) (sz + 1) (sz + 1), .slice (some ⟨w1.heap.size, 0, none⟩) (sz + 1) (sz + 1), .int .i64 (sz : Int), .int .i64 (pr : Int), .int .u8 (pr : Int), .pointer (some ⟨w1.heap.size, sz, none⟩), .slice (some ⟨kb, ko, none⟩) kn kc, .int .i64 (kn : Int),
          .int .i64 (k : Int), .bool true, .pointer (some ⟨kb, ko + k, none⟩), .string key, .string key, .int .i64 (pr : Int), .int .i64 (sz : Int), .func (.func 93) #[] #[.pointer (some ⟨W.heap.size, 0, none⟩), .pointer (some ⟨W.heap.size + 1, 0, none⟩), .pointer (some ⟨W.heap.size + 2, 0, none⟩)], .int .u64 ((x.1 : Nat) : Int), undef, undef, undef, undef, undef, undef, undef, undef, undef, undef, u54, undef], defers := [] }) ?assign ?body ?done ?stop
    case assign =>
      intro l x V K hK
      simp only [PlX.vals]
      gi_wp2
      exact hK
    case body =>
      rintro l pre ⟨p, hp⟩ V ⟨g1, g2⟩ _
      have hq : p / 8 < sz := by omega
      have hcell := g1.cell (j := p / 8) (by omega)
      have hfz := g1.row.soft (p / 8)
      have hor := or_bit ((fill bs (PlX.nums pre)).getD (p / 8) 0) (p % 8) (Nat.mod_lt _ (by omega))
      have hc8 : ((fill bs (PlX.nums pre)).getD (p / 8) 0).toNat < 256 := UInt8.toNat_lt _
      have z2 := g1.box.cell
      have HG : Hid (BdI w1 (V.setCell ⟨w1.heap.size, p / 8, none⟩ (.int .u8 ((orBit ((fill bs (PlX.nums pre)).getD (p / 8) 0) (p % 8)).toNat : Int))) sz (fill bs (PlX.nums (pre ++ [(⟨p, hp⟩ : PlX (8 * sz))])))) := by
        have := g1.set (p / 8) (orBit ((fill bs (PlX.nums pre)).getD (p / 8) 0) (p % 8))
        unfold Hid
        rw [nums_snoc, fill_snoc]
        exact this
      generalize ((fill bs (PlX.nums pre)).getD (p / 8) 0) = c at *
      generalize orBit c (p % 8) = c2 at *
      generalize c.toNat = cn at *
      gi_wp2
      exact ⟨(KeepsOthers.setCell _ _ _).from _, ⟨(Below.refl w1.heap.size V).setCell (p := ⟨w1.heap.size, p / 8, none⟩) (Nat.le_refl _) _, Below.heap_setCell _ _ _ _ (show W.heap.size + 2 ≠ w1.heap.size by omega)⟩, HG.out, g2.keep fun D hlo _ _ => Below.heap_setCell _ _ _ _ (show D ≠ w1.heap.size by omega)⟩
    case done =>
      rintro D xs V hD hS ⟨g1, g2⟩ hK
      have HTL : Hid (fillAll ((keys.take (k + 1)).map fun s => s.data.toList) (8 * sz) pr (List.replicate sz 0 ++ [UInt8.ofNat pr]) = fill bs (PlX.nums xs)) := by
        unfold Hid
        rw [HTK.out, fillAll_snoc, hS, hbs]
      have HDS : Hid (DsOk (w1.heap.size + 2) V ({ target := .collected D, args := #[] } :: ds) V.heap.size) := ⟨D, rfl, by omega, (Array.getElem?_eq_some_iff.1 hK).1, hK, g2.mono (by omega)⟩
      clear g2 hbs
      gi_wp2
      refine ⟨⟨k + 1, _, _, _, _, _, _, _, _, _, _, _, rfl, by omega, g1, HTL.out.symm, HDS.out⟩, ?_⟩
      simp [intOf]
      omega
    case stop =>
      rintro D c pre V _ _ h _
      exact h.elim
  · obtain rfl : k = kn := by omega
    have c1 := hI.box.cell
    gi_wp2
    refine leaves_ds (lo := w1.heap.size + 2) (I := fun V => BdI w1 V sz bs) (v := .tuple #[.slice (some ⟨w1.heap.size, 0, none⟩) (sz + 1) (sz + 1), .int .i64 0]) (fun V _ => ?_) (fun V D hV hD hK => ?_) (fun V hV => ?_) ds _ W hds hI
    · simp [results, Tryz.results22, go_sem]
    · exact hV.own (B₀ := w1.heap.size) (Nat.le_refl _) (grownBy_putObj' V D (.deferred none)) (fun r e => by cases e; exact ⟨by omega, _, hK, rfl⟩)
    · refine ⟨_, _, rfl, ?_, hV.base⟩
      have e : buildN (keys.map fun s => s.data.toList) pr sz = bs := by
        rw [hbs, List.take_of_length_le (by rw [hk.size]; exact Nat.le_refl _)]
        rfl
      rw [e]
      exact own_boxed hV.row (Nat.le_refl _) hV.len (by omega)
end Go.Proofs.YtgegjcnjlibfdaaGreat
/- The contract of sstable's Build where it takes what it is given. -/
namespace Go.Proofs.YtgegjcnjlibfdaaGreat
set_option maxRecDepth 100000
open Go.RowKit
set_option linter.unusedVariables false
set_option linter.unusedSimpArgs false
def fltN (bits : Nat) (l : List KV) : List UInt8 := buildN ((usersL l).map fun s => s.data.toList) (prN bits) (szN bits l.length)
theorem fltN_len (bits : Nat) (l : List KV) : (fltN bits l).length = szN bits l.length + 1 := buildN_length _ _ _
theorem szN_le {bits : Nat} (h : okB bits = true) {n : Nat} (hn : n ≤ 1000) : szN bits n ≤ 12600 := by
  obtain ⟨x, y, _, _, _, _, _, _, _, _, _, h1, _⟩ := ok_facts h n (by omega)
  unfold szN
  omega
def tblB (iv bl bits : Nat) (l : List KV) : List UInt8 := tabB (tdOf iv (grps iv bl l)) (fltN bits l) l.length
set_option maxHeartbeats 4000000 in
theorem build12_yes {a : Option Addr} {n c iv bl bits : Nat} {l : List KV} {w : World} (h : KsAt w a n c l) (hF : FL a n c iv bl l) (hb1 : 1 ≤ bl) (hb2 : bl ≤ 65536) (hok : okB bits = true) (hn0 : 1 ≤ n) (hn : n ≤ 1000) :
    Calls Tryz.prog 10 #[.slice a n c, .agg (opA (bl : Int) (iv : Int) bits)] w fun r w' => ∃ a' c', r = .returned (.tuple #[.slice a' (tblB iv bl bits l).length c', .int .i64 0]) ∧ OwnB w' w.heap.size a' (tblB iv bl bits l).length c' (tblB iv bl bits l) ∧ Below w.heap.size w w' := by
  have HH : Hid (KsAt w a n c l ∧ FL a n c iv bl l ∧ okB bits = true ∧ l.length = n) := ⟨h, hF, hok, h.size⟩
  have hi1 := hF.one
  have hi2 := hF.top
  have hsz := szN_le hok hn
  have hus : ∀ s ∈ usersL l, s.size ≤ 140737488351232 := by
    intro s hs
    obtain ⟨e, he, rfl⟩ := List.mem_map.1 hs
    have := err_le ((chkL_zero.1 hF.ok).1 e he).1
    omega
  have HUS : Hid (∀ s ∈ usersL l, s.size ≤ 140737488351232) := hus
  have d1 : decide (1 ≤ (bl : Int) ∧ (bl : Int) ≤ 65536) = true := decide_eq_true (by omega)
  have d2 : decide (1 ≤ (iv : Int) ∧ (iv : Int) ≤ 16) = true := decide_eq_true (by omega)
  have hw1 := within_any (bl : Int) 65536
  have hw2 := within_any (iv : Int) 16
  rw [d1] at hw1
  rw [d2] at hw2
  have H0 : Hid (Below w.heap.size w (w.alloc (.cells (opA (bl : Int) (iv : Int) bits) TOp)) ∧ Box (w.alloc (.cells (opA (bl : Int) (iv : Int) bits) TOp)) w.heap.size TOp (opA (bl : Int) (iv : Int) bits)) := ⟨(Below.refl _ _).alloc (Nat.le_refl _) _, Box.new _ _ _⟩
  have hnz : ((n : Int) == 0) = false := by rw [beq_eq_false_iff_ne]; omega
  clear h hF hok hus d1 d2
  unfold opA
  unfold opA at H0
  go_enter Tryz.func10, Tryz.ntmps10
  go_wp2_with fail
  refine (hw1 _).mono ?_
  rintro _ w1 ⟨rfl, hw⟩
  subst hw
  go_wp2_with fail
  refine (hw2 _).mono ?_
  rintro _ w1 ⟨rfl, hw⟩
  subst hw
  go_wp2_with fail
  generalize w.alloc (.cells #[.int .i64 (bl : Int), .int .i64 (iv : Int), .float .f64 bits] TOp) = W0 at *
  have x2 : W0.drew.cell? ⟨w.heap.size, 2, none⟩ = some (.float .f64 bits) := H0.out.2.cell 2
  have HUA : Hid (∀ V, Below w.heap.size w V → Calls Tryz.prog 23 #[.slice a n c] V fun e w' => ∃ a' c', e = .returned (.slice a' n c') ∧ StAt w' a' n c' (usersL l) ∧ Below V.heap.size V w') := fun V hV => users_any a n c l V (HH.out.1.below hV) (by omega)
  go_region_held3 (fun V => V.cell? ⟨w.heap.size, 2, none⟩ = some (.float .f64 bits)) (first | with_reducible exact x2 | go_keep)
    (first
     | (go_at_call 23; refine (HUA.out _ H0.out.1.drew).mono ?_; rintro _ w1 ⟨a1, c1, rfl, hst, hb1'⟩
        have H1 : Hid (StAt w1 a1 n c1 (usersL l) ∧ Below w.heap.size w w1 ∧ Box w1 w.heap.size TOp #[.int .i64 (bl : Int), .int .i64 (iv : Int), .float .f64 bits]) := ⟨hst, H0.out.1.drew.trans (hb1'.mono H0.out.1.size), H0.out.2.kept (hb1'.block _ H0.out.2.lt)⟩
        have x2 : w1.cell? ⟨w.heap.size, 2, none⟩ = some (.float .f64 bits) := H1.out.2.2.cell 2
        clear hst hb1')
     | (go_at_call 22; refine (bloom_yes a1 n c1 bits (usersL l) _ H1.out.1 HUS.out (by omega) HH.out.2.2.1).mono ?_; rintro _ w2 ⟨a2, c2, rfl, ho2, hb2'⟩
        have H2 : Hid (BsAt w2 a2 (szN bits n + 1) c2 (fltN bits l) ∧ Below w.heap.size w w2 ∧ Box w2 w.heap.size TOp #[.int .i64 (bl : Int), .int .i64 (iv : Int), .float .f64 bits]) := ⟨by unfold fltN; rw [HH.out.2.2.2]; exact ho2.bs, H1.out.2.1.trans (hb2'.mono H1.out.2.1.size), H1.out.2.2.kept (hb2'.block _ H1.out.2.2.lt)⟩
        have x2 : w2.cell? ⟨w.heap.size, 2, none⟩ = some (.float .f64 bits) := H2.out.2.2.cell 2
        clear ho2 hb2'))
  have x1 : w2.cell? ⟨w.heap.size, 1, none⟩ = some (.int .i64 (iv : Int)) := H2.out.2.2.cell 1
  have hbu := build_yes a n c l iv hi1 hi2 w2 (HH.out.1.below H2.out.2.1) HH.out.2.1.bare HH.out.2.1.spot (by omega) (wfl_ok HH.out.2.1.ok) HH.out.2.1.ok
  go_wp2_with fail
  refine hbu.mono ?_
  rintro _ w3 ⟨a3, c3, rfl, _, hb3⟩
  have H3 : Hid (BsAt w3 a2 (szN bits n + 1) c2 (fltN bits l) ∧ Below w.heap.size w w3 ∧ Box w3 w.heap.size TOp #[.int .i64 (bl : Int), .int .i64 (iv : Int), .float .f64 bits]) := ⟨H2.out.1.below (Nat.le_refl _) hb3, H2.out.2.1.trans (hb3.mono H2.out.2.1.size), H2.out.2.2.kept (hb3.block _ H2.out.2.2.lt)⟩
  clear hb3 hbu x1
  have y0 : w3.cell? ⟨w.heap.size, 0, none⟩ = some (.int .i64 (bl : Int)) := H3.out.2.2.cell 0
  have y1 : w3.cell? ⟨w.heap.size, 1, none⟩ = some (.int .i64 (iv : Int)) := H3.out.2.2.cell 1
  have y2 : w3.cell? ⟨w.heap.size, 2, none⟩ = some (.float .f64 bits) := H3.out.2.2.cell 2
  have hta := table_any (bits := bits) (HH.out.1.below H3.out.2.1) HH.out.2.1 H3.out.1 (by omega) (by omega) hn
  unfold opA at hta
  go_wp2_with fail
  refine hta.mono ?_
  rintro _ w4 ⟨a4, c4, rfl, ho4, hb4⟩
  have H4 : Hid (OwnB w4 w.heap.size a4 (tabB (tdOf iv (grps iv bl l)) (fltN bits l) n).length c4 (tabB (tdOf iv (grps iv bl l)) (fltN bits l) n) ∧ Below w.heap.size w w4) := ⟨ho4.mono H3.out.2.1.size, H3.out.2.1.trans (hb4.mono H3.out.2.1.size)⟩
  clear ho4 hb4 hta
  go_wp2
  go_ret2
  refine ⟨a4, c4, ret2 ?_ rfl, ?_, H4.out.2⟩
  · unfold tblB
    rw [HH.out.2.2.2]
    rfl
  · unfold tblB
    rw [HH.out.2.2.2]
    exact H4.out.1
end Go.Proofs.YtgegjcnjlibfdaaGreat
