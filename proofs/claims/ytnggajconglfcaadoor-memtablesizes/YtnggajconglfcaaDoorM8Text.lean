/- The contracts of memtable's textOf and keyOf. -/
import Derived.Test.YtnggajconglfcaaDoorPdPlain
import Derived.Test.YtnggajconglfcaaDoorM8Lay
import Derived.Test.YtnggajconglfcaaDoorPdOwn
import Derived.Laws.Concat
import Derived.BigQuiet
import Derived.Test.YtnggajconglfcaaDoorPdMem
namespace Go.Proofs.YtnggajconglfcaaDoor
open Go.RowKit
set_option linter.unusedVariables false
set_option linter.unusedSimpArgs false
/-- The package variables that are read. -/
structure Glob (w : World) : Prop where
  maxLen : ∃ m : Int, w.cell? ⟨replL_ren.g 1, 0, none⟩ = some (.int .i64 m)
  tab : TabAt (tzL_ren.g 1) Lib.deBruijn64tab w
theorem Glob.below {B : Nat} {w w' : World} (h : Glob w) (hB : w.heap.size ≤ B) (hb : Below B w w') : Glob w' := by
  obtain ⟨⟨m, hm⟩, ht⟩ := h
  refine ⟨⟨m, ?_⟩, fun j hj => ?_⟩
  · rw [hb.cell (Nat.lt_of_lt_of_le (World.block_lt_of_cell? w _ hm) hB)]
    exact hm
  · rw [hb.cell (Nat.lt_of_lt_of_le (World.block_lt_of_cell? w _ (ht j hj)) hB)]
    exact ht j hj
theorem Below.drewM {B : Nat} {w w' : World} (h : Below B w w') (d : Nat) : Below B w (w'.drewN d) := ⟨h.os, h.tape, h.output, h.size, h.block⟩
theorem Glob.alloc {w : World} (h : Glob w) (o : Obj) : Glob (w.alloc o) := h.below (Nat.le_refl _) ((Below.refl _ _).alloc (Nat.le_refl _) o)
theorem Glob.drew {w : World} (h : Glob w) : Glob w.drew := h.below (Nat.le_refl _) (Below.refl _ _).drew
theorem Glob.of_below0 {w0 w : World} (h : Glob w0) (hb : Below w0.heap.size w0 w) : Glob w := h.below (Nat.le_refl _) hb
theorem mark_at {w : World} (s : ByteArray) (hs : s.size ≤ 1048576) (hg : Glob w) : Calls Tryd.prog 38 #[.string s, .string ⟨#[0]⟩, .string ⟨#[0, 1]⟩] w fun e w' => e = .returned (.string ⟨(mark s.data.toList).toArray⟩) ∧ Below w.heap.size w w' := by
  obtain ⟨m, hm⟩ := hg.maxLen
  have hc := Lib.countB_le ⟨#[0]⟩ (by decide) s.size s (Nat.le_refl _)
  have := Any.strings_ReplaceAll replL replX s ⟨#[0]⟩ ⟨#[0, 1]⟩ m w (by omega) hm (by decide) (by show s.size + Lib.countB s ⟨#[0]⟩ * 2 ≤ 140737488355328; omega)
  have e : Lib.replaceAll s.data.toList (⟨#[0]⟩ : ByteArray).data.toList (⟨#[0, 1]⟩ : ByteArray).data.toList = mark s.data.toList := replAll_mark _
  rw [e] at this
  exact this
theorem unmark_at {w : World} (s : ByteArray) (hs : s.size ≤ 1048576) (hg : Glob w) : Calls Tryd.prog 38 #[.string ⟨(mark s.data.toList).toArray⟩, .string ⟨#[0, 1]⟩, .string ⟨#[0]⟩] w fun e w' => e = .returned (.string s) ∧ Below w.heap.size w w' := by
  obtain ⟨m, hm⟩ := hg.maxLen
  have hz : (⟨(mark s.data.toList).toArray⟩ : ByteArray).size ≤ 2097152 := by
    have h1 := mark_len s.data.toList
    have h2 : s.data.toList.length = s.size := by rw [Array.length_toList]; rfl
    show (mark s.data.toList).toArray.size ≤ 2097152
    simp
    omega
  have hc := Lib.countB_le ⟨#[0, 1]⟩ (by decide) _ (⟨(mark s.data.toList).toArray⟩ : ByteArray) (Nat.le_refl _)
  have := Any.strings_ReplaceAll replL replX ⟨(mark s.data.toList).toArray⟩ ⟨#[0, 1]⟩ ⟨#[0]⟩ m w (by omega) hm (by decide) (by show _ + Lib.countB _ ⟨#[0, 1]⟩ * 1 ≤ 140737488355328; omega)
  have e : Lib.replaceAll (⟨(mark s.data.toList).toArray⟩ : ByteArray).data.toList (⟨#[0, 1]⟩ : ByteArray).data.toList (⟨#[0]⟩ : ByteArray).data.toList = s.data.toList := by
    show Lib.replaceAll (mark s.data.toList).toArray.toList [0, 1] [0] = _
    rw [List.toList_toArray, replAll_unmark]
  rw [e] at this
  have e2 : (⟨s.data.toList.toArray⟩ : ByteArray) = s := by cases s; simp
  rw [e2] at this
  exact this
theorem num_or {k : IK} (h : k.Ok) : bits .or .u64 ((k.seq : Int) * 256) (IntKind.u64.wrap k.kind) = ((k.num : Nat) : Int) := by
  obtain ⟨h1, h2⟩ := h
  obtain ⟨j, hj, hj1⟩ : ∃ j : Nat, k.kind = (j : Int) ∧ j ≤ 1 := ⟨k.kind.toNat, by omega, by omega⟩
  unfold IK.num
  rw [hj, show IntKind.u64.wrap (j : Int) = (j : Int) from wrap_nat64 (by omega), show (k.seq : Int) * 256 = ((k.seq * 256 : Nat) : Int) by omega, nbits_or64 _ _ (by omega) (by omega)]
  rw [show k.seq * 256 = k.seq <<< 8 by rw [Nat.shiftLeft_eq], ← Nat.shiftLeft_add_eq_or_of_lt (show j < 2 ^ 8 by omega)]
  rfl
theorem txt_eq {k : IK} (h : k.Ok) : (⟨(mark k.user.data.toList).toArray⟩ : ByteArray) ++ ⟨#[0, 0]⟩ ++ strOf (fxPut (fal k.num) 8) = k.txt := by
  have e : fxPut (fal k.num) 8 = cb 8 k.num := by
    unfold fxPut
    rw [if_neg (by omega)]
    exact fxEnc_fal h.lt
  rw [e]
  apply ba_ext
  unfold IK.txt strOf
  simp [ByteArray.data_append]
set_option maxRecDepth 100000 in
set_option maxHeartbeats 400000 in
theorem textOf_at {w : World} (k : IK) (hk : k.Ok) (hs : k.user.size ≤ 1048576) (hg : Glob w) : Calls Tryd.prog 24 #[k.v] w fun e w' => e = .returned (.string k.txt) ∧ Below w.heap.size w w' := by
  have HT : Hid (_ = k.txt) := txt_eq hk
  have HN : Hid (_ = _) := num_or hk
  have HG : Hid (Glob w) := hg
  have HF := fun W => falling_at k.num hk.lt W
  have HM := fun (W : World) (h : Glob W) => mark_at (w := W) k.user hs h
  have HP := fun W => putFixed_nil (fal k.num) 8 8 W (fal_lt _) (by unfold fxPut; rw [if_neg (by omega)]; exact fxEnc_length _ _)
  have hq := hk.1
  have hb0 : Below w.heap.size w (w.alloc (.cells #[.string k.user, .int .u64 (k.seq : Int), .int .i64 k.kind] 32)) := (Below.refl _ _).alloc (Nat.le_refl _) _
  rw [← HN.out] at HF
  have hz : (⟨(mark k.user.data.toList).toArray⟩ : ByteArray).size ≤ 2097152 := by
    have h1 := mark_len k.user.data.toList
    have h2 : k.user.data.toList.length = k.user.size := by rw [Array.length_toList]; rfl
    show (mark k.user.data.toList).toArray.size ≤ 2097152
    simp
    omega
  have hX : (strOf (fxPut (fal k.num) 8)).size = 8 := by
    have : (fxPut (fal k.num) 8).length = 8 := by unfold fxPut; rw [if_neg (by omega)]; exact fxEnc_length _ _
    show (fxPut (fal k.num) 8).toArray.size = 8
    simpa using this
  generalize hMM : (⟨(mark k.user.data.toList).toArray⟩ : ByteArray) = M at HM HT hz
  generalize hXX : strOf (fxPut (fal k.num) 8) = X at HT hX
  have ha1 : ∀ W : World, (Op.stringOp .add M ⟨#[0, 0]⟩).run Tryd.prog W = .ok (.string (M ++ ⟨#[0, 0]⟩)) W := fun W => run_string_add_sum W _ _ (by show M.size + 2 ≤ _; omega)
  generalize hMM2 : M ++ ⟨#[0, 0]⟩ = M2 at ha1 HT
  have hz2 : M2.size ≤ 2097154 := by
    rw [← hMM2, ByteArray.size_append]
    show M.size + 2 ≤ _
    omega
  have ha2 : ∀ W : World, (Op.stringOp .add M2 X).run Tryd.prog W = .ok (.string (M2 ++ X)) W := fun W => run_string_add_sum W _ _ (by omega)
  rw [HT.out] at ha2
  clear hk hg hz hz2 hMM2 hMM
  unfold IK.v
  go_enter Tryd.func24, Tryd.ntmps24
  go_wp2_with fail
  refine (HF _).mono ?_
  rintro _ w1 ⟨rfl, rfl⟩
  go_wp2_with fail
  refine (HM _ (HG.out.alloc _)).mono ?_
  rintro _ w2 ⟨rfl, hb2⟩
  go_wp2_with fail
  refine (HP _).mono ?_
  rintro _ w3 ⟨a3, c3, rfl, hbs, hb3⟩
  have hcv := conv_of hbs
  rw [hXX] at hcv
  go_wp2
  go_ret
  refine ⟨ret1 rfl, ?_⟩
  have h2 := hb0.trans (hb2.mono hb0.size)
  exact h2.trans (hb3.mono h2.size)
theorem cb_fixed {n : Nat} (hn : n < 18446744073709551616) : fxRead (cb 8 n) 8 = (fal n, 0) := by
  unfold fxRead
  rw [if_neg (by omega), if_neg (by rw [cb_len]; decide)]
  have h := leNat_fxEnc (fal n) 8
  rw [fxEnc_fal hn] at h
  have e : (cb 8 n).take (8 : Int).toNat = cb 8 n := List.take_of_length_le (by rw [cb_len]; decide)
  rw [e, h, Nat.mod_eq_of_lt (by have := fal_lt n; omega)]
theorem txt_size {k : IK} : k.txt.size = (mark k.user.data.toList).length + 10 := by
  show (mark k.user.data.toList ++ 0 :: 0 :: cb 8 k.num).toArray.size = _
  simp [cb_len]
theorem txt_head {k : IK} : k.txt.extract 0 (mark k.user.data.toList).length = ⟨(mark k.user.data.toList).toArray⟩ := by
  apply ba_ext
  unfold IK.txt
  rw [ByteArray.data_extract]
  simp
theorem txt_tail {k : IK} : k.txt.extract ((mark k.user.data.toList).length + 2) ((mark k.user.data.toList).length + 10) = strOf (cb 8 k.num) := by
  apply ba_ext
  unfold IK.txt strOf
  rw [ByteArray.data_extract]
  simp [List.take_append, List.drop_append, cb_len]
  rw [List.drop_eq_nil_of_le (by omega), List.take_of_length_le (l := cb 8 k.num) (by rw [cb_len]; exact Nat.le_refl _)]
  rfl
set_option maxRecDepth 100000 in
set_option maxHeartbeats 400000 in
theorem memKeyOf_at {w : World} (k : IK) (hk : k.Ok) (hs : k.user.size ≤ 64) (hg : Glob w) : Calls Tryd.prog 29 #[.string k.txt] w fun e w' => e = .returned k.v ∧ Below w.heap.size w w' := by
  have HG : Hid (Glob w) := hg
  have hL := mark_len k.user.data.toList
  have h2 : k.user.data.toList.length = k.user.size := by rw [Array.length_toList]; rfl
  have hz := txt_size (k := k)
  have e1 := txt_head (k := k)
  have e2 := txt_tail (k := k)
  have HU := fun (W : World) (h : Glob W) => unmark_at (w := W) k.user (by omega) h
  have HR := fun W => rising_at (fal k.num) (fal_lt _) W
  rw [ris_fal hk.lt] at HR
  generalize k.txt = X at hz e1 e2 ⊢
  generalize (⟨(mark k.user.data.toList).toArray⟩ : ByteArray) = M at e1 HU
  generalize (mark k.user.data.toList).length = L at hL hz e1 e2
  have hcv : ∀ W : World, (convert 9 82 (.string (strOf (cb 8 k.num)))).run Tryd.prog W = .ok (.slice (some ⟨W.heap.size, 0, none⟩) (strOf (cb 8 k.num)).size (grownCap W (strOf (cb 8 k.num)).size 0 5))
        (W.drew.alloc (.cells (bytesRow (strOf (cb 8 k.num)) (grownCap W (strOf (cb 8 k.num)).size 0 5)) 5 ((bytesRow (strOf (cb 8 k.num)) (grownCap W (strOf (cb 8 k.num)).size 0 5)).size, (bytesRow (strOf (cb 8 k.num)) (grownCap W (strOf (cb 8 k.num)).size 0 5)).size + 1))) :=
      fun W => run_bytes_of_string W 9 82 5 _ Tryd.underlying9 Tryd.underlying82 Tryd.underlying5
  have hs8 : (strOf (cb 8 k.num)).size = 8 := by show (cb 8 k.num).toArray.size = 8; simp [cb_len]
  have HB : Hid (∀ (W : World) (cap : Nat) (fz : Nat × Nat), 8 ≤ cap → cap ≤ maxLen → BsAt (W.drew.alloc (.cells (bytesRow (strOf (cb 8 k.num)) cap) 5 fz)) (some ⟨W.heap.size, 0, none⟩) 8 cap (cb 8 k.num)) := fun W cap fz h1 h2 => by
    have := BsAt.ofStr W (strOf (cb 8 k.num)) cap fz (by rw [hs8]; exact h1) h2
    rw [hs8] at this
    simpa [strOf] using this
  have HF : Hid (fxRead (cb 8 k.num) 8 = (fal k.num, 0)) := cb_fixed hk.lt
  have hk0 : 0 ≤ k.kind := by have := hk.2; omega
  have hk1 : k.kind ≤ 1 := by have := hk.2; omega
  have hand : bits .and .u64 ((k.num : Nat) : Int) 255 = k.kind := by
    rw [show (255 : Int) = ((255 : Nat) : Int) by rfl, nbits_and64 _ _ hk.lt (by omega), show (255 : Nat) = 2 ^ 8 - 1 by rfl, Nat.and_two_pow_sub_one_eq_mod]
    unfold IK.num
    omega
  have hdiv : ((k.num : Nat) : Int) / 256 = (k.seq : Int) := by
    unfold IK.num
    omega
  have hb0 : Below w.heap.size w (w.alloc (.cells #[.string ⟨#[]⟩, .int .u64 0, .int .i64 0] 32)) := (Below.refl _ _).alloc (Nat.le_refl _) _
  clear hk hg
  generalize k.num = n at *
  go_enter Tryd.func29, Tryd.ntmps29
  go_wp2_with fail
  go_quiet (fail)
  go_wp2_with fail
  have g1 := grownCap_ge ((w.alloc (.cells #[.string ⟨#[]⟩, .int .u64 0, .int .i64 0] 32)).drewN nq) 8 0 5
  have g2 := grownCap_le_maxLen ((w.alloc (.cells #[.string ⟨#[]⟩, .int .u64 0, .int .i64 0] 32)).drewN nq) 8 0 5 (by unfold maxLen; omega)
  generalize grownCap ((w.alloc (.cells #[.string ⟨#[]⟩, .int .u64 0, .int .i64 0] 32)).drewN nq) 8 0 5 = cap at g1 g2 ⊢
  generalize hfz : ((bytesRow (strOf (cb 8 n)) cap).size, (bytesRow (strOf (cb 8 n)) cap).size + 1) = fz
  have HQ := HB.out ((w.alloc (.cells #[.string ⟨#[]⟩, .int .u64 0, .int .i64 0] 32)).drewN nq) cap fz g1 g2
  have hwq : ((w.alloc (.cells #[.string ⟨#[]⟩, .int .u64 0, .int .i64 0] 32)).drewN nq).drew = (w.alloc (.cells #[.string ⟨#[]⟩, .int .u64 0, .int .i64 0] 32)).drewN (nq + 1) := rfl
  rw [hwq] at HQ
  have hB1 : Below w.heap.size w (((w.alloc (.cells #[.string ⟨#[]⟩, .int .u64 0, .int .i64 0] 32)).drewN (nq + 1)).alloc (.cells (bytesRow (strOf (cb 8 n)) cap) 5 fz)) := ((Below.drewM hb0 _).alloc (by simp [World.drewN]) _)
  have r1 : Box (((w.alloc (.cells #[.string ⟨#[]⟩, .int .u64 0, .int .i64 0] 32)).drewN (nq + 1)).alloc (.cells (bytesRow (strOf (cb 8 n)) cap) 5 fz)) w.heap.size 32 #[.string ⟨#[]⟩, .int .u64 0, .int .i64 0] := ((Box.new w 32 #[.string ⟨#[]⟩, .int .u64 0, .int .i64 0]).kept rfl).alloc _
  have hsz1 : ((w.alloc (.cells #[.string ⟨#[]⟩, .int .u64 0, .int .i64 0] 32)).drewN nq).heap.size = w.heap.size + 1 := by simp [World.drewN]
  rw [hsz1] at HQ
  generalize ((w.alloc (.cells #[.string ⟨#[]⟩, .int .u64 0, .int .i64 0] 32)).drewN (nq + 1)).alloc (.cells (bytesRow (strOf (cb 8 n)) cap) 5 fz) = W1 at HQ hB1 r1 ⊢
  refine (fixed_eq HQ HF.out).mono ?_
  rintro _ w1 ⟨rfl, hw1⟩
  subst hw1
  go_wp2_with fail
  refine (HR _).mono ?_
  rintro _ w2 ⟨rfl, hw2⟩
  subst hw2
  go_wp2_with fail
  refine (HU _ (HG.out.below (Nat.le_refl _) hB1)).mono ?_
  rintro _ w3 ⟨rfl, hb3⟩
  have r3 : Box w3 w.heap.size 32 #[.string ⟨#[]⟩, .int .u64 0, .int .i64 0] := r1.kept (hb3.block _ r1.lt)
  have hB3 : Below w.heap.size w w3 := hB1.trans (hb3.mono hB1.size)
  have c0 : w3.cell? ⟨w.heap.size, 0, none⟩ = some (.string ⟨#[]⟩) := r3.cell 0
  have c1 : w3.cell? ⟨w.heap.size, 1, none⟩ = some (.int .u64 0) := r3.cell 1
  have c2 : w3.cell? ⟨w.heap.size, 2, none⟩ = some (.int .i64 0) := r3.cell 2
  have f0 := r3.soft 0
  have f1 := r3.soft 1
  have f2 := r3.soft 2
  have hl3 := r3.lt
  have HB3 : Hid (Below w.heap.size w w3) := hB3
  clear hB3 hb3 r1 r3 hB1 HQ HB e1 e2 hz
  go_wp2_with fail
  refine bodyPost_ret (v := k.v) (by simp [results, Tryd.results29, go_sem, IK.v, *]) rfl ⟨rfl, ?_⟩
  exact ((HB3.out.setCell (Nat.le_refl _) _).setCell (Nat.le_refl _) _).setCell (Nat.le_refl _) _
end Go.Proofs.YtnggajconglfcaaDoor
