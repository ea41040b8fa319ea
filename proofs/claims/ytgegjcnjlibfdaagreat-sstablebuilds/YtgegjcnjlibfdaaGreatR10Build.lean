/- The contract of the document's own Build: for filters whose bits a number of 32 bits counts. -/
import Derived.Test.YtgegjcnjlibfdaaGreatQa25
import Derived.Test.YtgegjcnjlibfdaaGreatQa16
import Derived.Deep.DeepCutAuto
namespace Go.Proofs.YtgegjcnjlibfdaaGreat
open Go.RowKit
set_option maxRecDepth 100000 in
set_option maxHeartbeats 400000 in
theorem rbloom_no (ka : Option Addr) (kn kc b : Nat) (w : World) (h : okB b = false) :
    Calls Tryz.prog 26 #[.slice ka kn kc, .float .f64 b] w fun e w' => e = .returned (.tuple #[.slice none 0 0, .int .i64 100]) ∧ w' = w := by
  unfold okB at h
  cases h1 : (FloatKind.f64.format.order b 0 == some .gt) with
  | false =>
    clear h
    go_enter Tryz.func26, Tryz.ntmps26
    go_wp2
    go_ret2
    exact ⟨rfl, rfl⟩
  | true =>
    rw [h1, Bool.true_and] at h
    go_enter Tryz.func26, Tryz.ntmps26
    go_wp2
    go_ret2
    exact ⟨rfl, rfl⟩
/-- The filter's bytes in memory. -/
structure RdI (w W : World) (sz : Nat) (bs : List UInt8) : Prop where
  base : Below w.heap.size w W
  len : bs.length = sz + 1
  row : Box W w.heap.size 5 (cellsB bs).toArray
theorem RdI.below {w W W' : World} {sz : Nat} {bs : List UInt8} (h : RdI w W sz bs) (hb : Below W.heap.size W W') : RdI w W' sz bs :=
  ⟨h.base.trans (hb.mono h.base.size), h.len, h.row.kept (hb.block _ h.row.lt)⟩
theorem RdI.set {w W : World} {sz : Nat} {bs : List UInt8} (h : RdI w W sz bs) (j : Nat) (c : UInt8) : RdI w (W.setCell ⟨w.heap.size, j, none⟩ (.int .u8 (c.toNat : Int))) sz (bs.set j c) :=
  ⟨h.base.setCell (Nat.le_refl _) _, by simpa using h.len, (h.row.set j (.int .u8 (c.toNat : Int))).eq (cellsB_set bs j c)⟩
theorem RdI.cell {w W : World} {sz : Nat} {bs : List UInt8} (h : RdI w W sz bs) {j : Nat} (hj : j < sz + 1) : W.cell? ⟨w.heap.size, j, none⟩ = some (.int .u8 ((bs.getD j 0).toNat : Int)) := by
  rw [h.row.cell j, List.getElem?_toArray]
  exact cellsB_get bs j (by rw [h.len]; exact hj)
theorem add_bitF : ∀ c : Fin 256, ∀ k : Fin 8, c.val.testBit k.val = false → c.val ||| 2 ^ k.val = c.val + 2 ^ k.val ∧ c.val + 2 ^ k.val < 256 := by decide +kernel
theorem had_bitF : ∀ c : Fin 256, ∀ k : Fin 8, c.val.testBit k.val = true → c.val ||| 2 ^ k.val = c.val := by decide +kernel
theorem setBit_had {l : List UInt8} {p : Nat} (h : bitAt l p = true) : setBit l p = l := by
  unfold setBit
  have e : orBit (l.getD (p / 8) 0) (p % 8) = l.getD (p / 8) 0 := by
    refine UInt8.toNat_inj.1 ?_
    rw [orBit_toNat _ (Nat.mod_lt _ (by omega))]
    exact had_bitF ⟨_, UInt8.toNat_lt _⟩ ⟨p % 8, Nat.mod_lt _ (by omega)⟩ h
  rw [e]
  refine List.ext_getElem (by simp) fun i h1 h2 => ?_
  rw [List.getElem_set]
  by_cases hi : p / 8 = i
  · subst hi
    simp [List.getD, h2]
  · rw [if_neg hi]
theorem orBit_add {l : List UInt8} {p : Nat} (h : bitAt l p = false) : ((orBit (l.getD (p / 8) 0) (p % 8)).toNat : Int) = ((l.getD (p / 8) 0).toNat : Int) + 2 ^ (p % 8) ∧ (l.getD (p / 8) 0).toNat + 2 ^ (p % 8) < 256 := by
  rw [orBit_toNat _ (Nat.mod_lt _ (by omega))]
  obtain ⟨h1, h2⟩ := add_bitF ⟨_, UInt8.toNat_lt _⟩ ⟨p % 8, Nat.mod_lt _ (by omega)⟩ h
  simp only at h1 h2
  rw [h1]
  exact ⟨by simp, h2⟩
/-- The last byte is put behind. -/
theorem build_end (ks : List (List UInt8)) (pr sz : Nat) (h0 : 0 < sz) : (fillAll ks (8 * sz) pr (List.replicate (sz + 1) 0)).set sz (UInt8.ofNat pr) = buildN ks pr sz := by
  have hl : (fillAll ks (8 * sz) pr (List.replicate sz 0)).length = sz := by rw [fillAll_length]; simp
  rw [List.replicate_succ', fillAll_app ks _ _ (by simpa using h0) (by simp), buildN_eq _ _ _ h0, List.set_append_right _ _ (by omega), hl, Nat.sub_self]
  rfl
/-- Other blocks than g are as they were. -/
def Kx (g : Nat) (A B : World) : Prop := ∀ k, k ≠ g → k < A.heap.size → B.heap[k]? = A.heap[k]?
theorem Kx.cell {g : Nat} {A B : World} (h : Kx g A B) {b o : Nat} (hb : b ≠ g) {v : Value} (hv : A.cell? ⟨b, o, none⟩ = some v) : B.cell? ⟨b, o, none⟩ = some v := by
  have := h b hb (World.block_lt_of_cell? A _ hv)
  rw [← hv]
  simp [World.cell?, this]
set_option maxRecDepth 100000 in
set_option maxHeartbeats 2000000 in
theorem rbloom_yes (ka : Option Addr) (kn kc b : Nat) (keys : List ByteArray) (w : World) (hk : StAt w ka kn kc keys) (hks : ∀ s ∈ keys, s.size ≤ 140737488351232) (hn : kn ≤ 1048576) (h : okB b = true) :
    Calls Tryz.prog 26 #[.slice ka kn kc, .float .f64 b] w fun e w' => ∃ a c, e = .returned (.tuple #[.slice a (szN b kn + 1) c, .int .i64 0]) ∧ OwnB w' w.heap.size a (szN b kn + 1) c (buildN (keys.map fun s => s.data.toList) (prN b) (szN b kn)) ∧ Below w.heap.size w w' := by
  obtain ⟨x, y, _, hx1, hx2, _, hp100, _, hy1, hy2, _, hs100, _⟩ := ok_facts h kn (by omega)
  have hmx := fun W => run_float_arith (P := Tryz.prog) W .mul 24 .f64 b 4604390187031047700 x hx1
  have hmy := fun W => run_float_arith (P := Tryz.prog) W .mul 24 .f64 b (floatOfInt .f64 (kn : Int)) y hy1
  have hcx := fun W => run_convert_float_int (P := Tryz.prog) W 24 3 .f64 .i64 x _ (by rw [Tryz.underlying24]; rfl) Tryz.underlying3 hx2
  have hcy := fun W => run_convert_float_int (P := Tryz.prog) W 24 3 .f64 .i64 y _ (by rw [Tryz.underlying24]; rfl) Tryz.underlying3 hy2
  have HPR : Hid (prN b = max 1 (fl69 b)) := rfl
  have HSZ : Hid (szN b kn = (max 64 (flN b kn) + 7) / 8) := rfl
  unfold okB at h
  rw [Bool.and_eq_true] at h
  obtain ⟨hg1, hg2⟩ := h
  generalize prN b = pr at *
  generalize szN b kn = sz at *
  generalize fl69 b = p0 at *
  generalize flN b kn = n0 at *
  clear hx1 hx2 hy1 hy2
  have hmk := fun (W : World) => made_bytes (sz + 1) (by have := HSZ.out; omega) W
  rw [show ((sz + 1 : Nat) : Int) = (sz : Int) + 1 by omega] at hmk
  have hsz : 8 ≤ sz ∧ sz ≤ 13107300 := by have := HSZ.out; omega
  have hpr : 1 ≤ pr ∧ pr ≤ 100 := by have := HPR.out; omega
  obtain ⟨hpr1, hpr2⟩ := hpr
  obtain ⟨hsz1, hsz2⟩ := hsz
  go_enter Tryz.func26, Tryz.ntmps26
  go_upto_if 27 with fail
  go_cut [7] (fun s wc => s = .int .i64 (pr : Int) ∧ wc = w)
  case first =>
    by_cases hq : p0 < 1
    · have HE : Hid (pr = 1) := by have := HPR.out; unfold Hid; omega
      go_wp2_with fail
      go_meet
      exact ⟨by rw [HE.out]; rfl, rfl⟩
    · have HE : Hid (pr = p0) := by have := HPR.out; unfold Hid; omega
      go_wp2_with fail
      go_meet
      exact ⟨by rw [HE.out], rfl⟩
  case rest =>
    obtain ⟨rfl, rfl⟩ := hcut
    go_upto_if 35 with fail
    go_cut [8] (fun s wd => ∃ n1 : Nat, s = .int .i64 (n1 : Int) ∧ (n1 + 7) / 8 = sz ∧ n1 ≤ 104857600 ∧ wd = wc)
    case first =>
      by_cases hq : n0 < 64
      · have HE : Hid ((64 + 7) / 8 = sz) := by have := HSZ.out; unfold Hid; omega
        go_wp2_with fail
        go_meet
        exact ⟨64, rfl, HE.out, by omega, rfl⟩
      · have HE : Hid ((n0 + 7) / 8 = sz) := by have := HSZ.out; unfold Hid; omega
        go_wp2_with fail
        go_meet
        exact ⟨n0, rfl, HE.out, by omega, rfl⟩
    case rest =>
      obtain ⟨n1, rfl, hn1, hn2, rfl⟩ := hcut
      have hdiv : ((n1 : Int) + 7) / 8 = (sz : Int) := by omega
      clear hn1
      go_wp2
      rw [hdiv]
      clear hdiv hmx hmy hcx hcy hmk HPR HSZ
      have HI0 : Hid (RdI wc (wc.alloc (.cells (cellsB (List.replicate (sz + 1) 0)).toArray 5)) sz (List.replicate (sz + 1) 0)) := ⟨(Below.refl _ _).alloc (Nat.le_refl _) _, by simp, Box.new wc _ _⟩
      generalize wc.alloc (.cells (cellsB (List.replicate (sz + 1) 0)).toArray 5) = W0 at *
      go_loopw [11] (fun i wr => ∃ (k : Nat) (bs : List UInt8), k ≤ kn ∧ i = .int .i64 (k : Int) ∧ Hid (RdI wc wr sz bs) ∧ Hid (bs = fillAll ((keys.take k).map fun s => s.data.toList) (8 * sz) pr (List.replicate (sz + 1) 0))) (fun i _ => kn - (intOf i).toNat)
      case atStart => exact ⟨0, _, by omega, rfl, HI0.out, rfl⟩
      case round =>
        obtain ⟨k, bs, hkn, rfl, HI, HBS⟩ := hrel
        by_cases hlt : k < kn
        · obtain ⟨kb, ko, rfl, hkc⟩ := hk.here (by omega)
          have hkk : k < keys.length := by rw [hk.size]; exact hlt
          have hkcell : wr.cell? ⟨kb, ko + k, none⟩ = some (.string keys[k]) := by
            have := hkc k hlt
            rw [HI.out.base.cell (World.block_lt_of_cell? wc _ this), this]
            simp [List.getD, hkk]
          have hksz := hks _ (List.getElem_mem hkk)
          have HTK : Hid ((keys.take (k + 1)).map (fun s => s.data.toList) = (keys.take k).map (fun s => s.data.toList) ++ [keys[k].data.toList]) := by
            unfold Hid
            rw [List.take_succ_eq_append_getElem hkk, List.map_append]
            rfl
          generalize keys[k] = key at *
          have hkle := hk.le
          have hkmx := hk.max
          unfold maxLen at hkmx
          have hrp := rplaces_any key (8 * sz) pr wr hksz (by omega) (by omega) (by omega)
          rw [show ((8 * sz : Nat) : Int) = 8 * (sz : Int) by omega] at hrp
          have HPI : Hid (∀ k, k < pr → (plcI key (8 * sz) pr).getD k 0 = (((plc key.data.toList (8 * sz) pr).getD k 0 : Nat) : Int)) := fun k hk => plcI_get key _ _ k hk
          have HPL : Hid (∀ k, k < pr → (plc key.data.toList (8 * sz) pr).getD k 0 < 8 * sz) := fun k hk => by
            have hl : k < (plc key.data.toList (8 * sz) pr).length := by simp [plc, hk]
            have := plc_lt key.data.toList (count := 8 * sz) (probes := pr) (by omega) _ (List.getElem_mem hl)
            simpa [List.getD, hl] using this
          have HLN : Hid ((plc key.data.toList (8 * sz) pr).length = pr) := by simp [Hid, plc]
          obtain ⟨PL, HPE⟩ : ∃ PL, Hid (plc key.data.toList (8 * sz) pr = PL) := ⟨_, rfl⟩
          rw [HPE.out] at HPI HPL HLN
          clear hkc
          go_wp2_with (go_at_call 67; refine hrp.mono ?_; rintro e w1 ⟨a1, c1, rfl, ho1, hb1⟩)
          obtain ⟨b1, o1, rfl, hc1⟩ := ho1.is.here (by omega)
          have hge := ho1.ge (k := b1) rfl
          have hne : b1 ≠ wc.heap.size := by have := HI.out.row.lt; omega
          have HC1 : Hid (∀ j, j < pr → w1.cell? ⟨b1, o1 + j, none⟩ = some (.int .i64 ((PL.getD j 0 : Nat) : Int))) := fun j hj => by rw [hc1 j hj, HPI.out j hj]
          have HI1 : Hid (RdI wc w1 sz bs) := HI.out.below hb1
          have hle1 := ho1.is.le
          have hmx1 := ho1.is.max
          unfold maxLen at hmx1
          clear hc1 ho1 hb1 hrp hge HI
          go_loopw [13] (fun i wq => ∃ j : Nat, j ≤ pr ∧ i = .int .i64 (j : Int) ∧ Hid (RdI wc wq sz (fill bs (PL.take j))) ∧ Hid (Kx wc.heap.size w1 wq)) (fun i _ => pr - (intOf i).toNat)
          case atStart => exact ⟨0, by omega, rfl, HI1.out, fun _ _ _ => rfl⟩
          case round =>
            obtain ⟨j, hjn, rfl, HJ, HKX⟩ := hrel
            by_cases hjl : j < pr
            · have z1 := HKX.out.cell hne (HC1.out j hjl)
              have hp8 := HPL.out j hjl
              have HTS : Hid (PL.take (j + 1) = PL.take j ++ [PL.getD j 0]) := by
                unfold Hid
                rw [List.take_succ_eq_append_getElem (by rw [HLN.out]; exact hjl)]
                simp [List.getD, HLN.out, hjl]
              generalize PL.getD j 0 = p at *
              have HFS : Hid (fill bs (PL.take (j + 1)) = setBit (fill bs (PL.take j)) p) := by
                unfold Hid
                rw [HTS.out, fill_snoc]
              generalize fill bs (PL.take j) = fb at *
              have hq : p / 8 < sz := by omega
              have z2 := HJ.out.cell (j := p / 8) (by omega)
              have hfz := HJ.out.row.soft (p / 8)
              have hc8 : (fb.getD (p / 8) 0).toNat < 256 := UInt8.toNat_lt _
              have hbit := shr_bit _ (p % 8) hc8 (Nat.mod_lt _ (by omega))
              rw [show (fb.getD (p / 8) 0).toNat.testBit (p % 8) = bitAt fb p from rfl] at hbit
              cases ht : bitAt fb p with
              | true =>
                rw [ht, Bool.not_true] at hbit
                have HH : Hid (setBit fb p = fb) := setBit_had ht
                generalize (fb.getD (p / 8) 0).toNat = c at *
                clear ht
                go_wp2
                go_roundw
                case rel => exact ⟨j + 1, by omega, by go_num, by unfold Hid; rw [HFS.out, HH.out]; exact HJ.out, HKX.out⟩
                case measure => simp [intOf]; omega
              | false =>
                rw [ht, Bool.not_false] at hbit
                obtain ⟨hor, hlt2⟩ := orBit_add ht
                have HS := HJ.out.set (p / 8) (orBit (fb.getD (p / 8) 0) (p % 8))
                rw [hor] at HS
                have HS' : Hid (RdI wc (wr.setCell ⟨wc.heap.size, p / 8, none⟩ (.int .u8 (((fb.getD (p / 8) 0).toNat : Int) + 2 ^ (p % 8)))) sz (setBit fb p)) := HS
                have hpw := pow8 (k := p % 8) (Nat.mod_lt _ (by omega))
                obtain ⟨q2, hq2⟩ : ∃ q2 : Nat, (2 : Int) ^ (p % 8) % 256 = (q2 : Int) ∧ (2 : Int) ^ (p % 8) = (q2 : Int) ∧ 2 ^ (p % 8) = q2 := ⟨2 ^ (p % 8), by
                  have e : (2 : Int) ^ (p % 8) = ((2 ^ (p % 8) : Nat) : Int) := by simp
                  rw [e]
                  generalize 2 ^ (p % 8) = q at hpw ⊢
                  omega, by simp, rfl⟩
                obtain ⟨hq2a, hq2b, hq2c⟩ := hq2
                rw [hq2b] at HS'
                rw [hq2c] at hlt2
                generalize (fb.getD (p / 8) 0).toNat = c at *
                clear ht HS hor hpw hq2b hq2c
                go_wp2
                refine ⟨⟨j + 1, by omega, rfl, by unfold Hid; rw [HFS.out]; exact HS'.out, fun k hkg hkl => (Below.heap_setCell _ _ _ _ hkg).trans (HKX.out k hkg hkl)⟩, ?_⟩
                simp [intOf]
                omega
            · obtain rfl : j = pr := by omega
              have HEND : Hid (fill bs (PL.take j) = fillAll ((keys.take (k + 1)).map fun s => s.data.toList) (8 * sz) j (List.replicate (sz + 1) 0)) := by
                unfold Hid
                rw [HTK.out, fillAll_snoc, ← HBS.out, HPE.out, List.take_of_length_le (by rw [HLN.out]; exact Nat.le_refl _)]
              go_wp2
              refine ⟨⟨k + 1, _, by omega, rfl, HJ.out, HEND.out⟩, ?_⟩
              simp [intOf]
              omega
        · obtain rfl : k = kn := by omega
          have HE : Hid (bs.set sz (UInt8.ofNat pr) = buildN (keys.map fun s => s.data.toList) pr sz) := by
            unfold Hid
            rw [HBS.out, List.take_of_length_le (by rw [hk.size]; exact Nat.le_refl _)]
            exact build_end _ _ _ (by omega)
          have e2 : ((UInt8.ofNat pr).toNat : Int) = (pr : Int) := by
            simp only [UInt8.toNat_ofNat']
            omega
          have HS := HI.out.set sz (UInt8.ofNat pr)
          rw [e2, HE.out] at HS
          have HS' : Hid (RdI wc (wr.setCell ⟨wc.heap.size, sz, none⟩ (.int .u8 (pr : Int))) sz (buildN (keys.map fun s => s.data.toList) pr sz)) := HS
          have hcl := HI.out.cell (j := sz) (by omega)
          have hfz := HI.out.row.soft sz
          clear HS e2 hks hk
          go_wp2
          go_ret2
          exact ⟨_, _, ret2 rfl rfl, own_boxed HS'.out.row (Nat.le_refl _) HS'.out.len (by omega), HS'.out.base⟩
end Go.Proofs.YtgegjcnjlibfdaaGreat
