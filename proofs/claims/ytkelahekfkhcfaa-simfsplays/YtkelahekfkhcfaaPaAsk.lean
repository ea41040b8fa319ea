/- staddlelaw04.Asked, a call of kind 1: both file systems answer alike, out of what they promise. -/
import Derived.Test.YtkelahekfkhcfaaRfFace
import Derived.Deep.RegionHeld3
import Derived.Test.YtkelahekfkhcfaaOwnSet
namespace Go.Proofs.Ytkelahekfkhcfaa
open Go.RowKit
set_option maxRecDepth 100000 in
set_option maxHeartbeats 2000000 in
theorem askCreate {J : Face} (h : FsOk J) (g : RfOk J) {w : World} {R : Nat → Prop} {l r : Fss} {p q : Nat} {S : PFs} (i j : Nat) (c : CallV) (hj : J w R l r) (hl : l[i]? = some (p, S)) (hr : r[j]? = some (q, S)) (ha : S.asked < 1000000) (hc : c.Ok w) (hin : c.In R) (hbl : c.bc ≤ 140737488351232) (hk : c.kind = 1) :
    Calls Try.prog 12 #[at_ p, at_ q, .agg c.cells.toArray] w fun e w' => e = .returned (.bool true) ∧ J w' R (l.set i (p, stepC S c)) (r.set j (q, stepC S c)) ∧ Kp R w w' := by
  obtain ⟨kd, nm, to, ba, bl, bc, bs, n, pa, pl, pc, ps⟩ := c
  simp only at hk hbl
  subst hk
  have HE : Hid (stepC S ⟨1, nm, to, ba, bl, bc, bs, n, pa, pl, pc, ps⟩ = (S.create nm.data.toList).1) := rfl
  have HH : Hid (FsOk J) := h
  have HG : Hid (RfOk J) := g
  have HC : Hid (CallV.Ok w ⟨1, nm, to, ba, bl, bc, bs, n, pa, pl, pc, ps⟩) := hc
  have HI : Hid (CallV.In R ⟨1, nm, to, ba, bl, bc, bs, n, pa, pl, pc, ps⟩) := hin
  have HL : Hid (l[i]? = some (p, S)) := hl
  have HR : Hid (r[j]? = some (q, S)) := hr
  have HA : Hid (S.asked < 1000000) := ha
  have HJ0 : Hid (J w R l r) := hj
  rw [HE.out]
  show Calls Try.prog 12 #[at_ p, at_ q, .agg #[.int .i64 1, .string nm, .string to, .slice ba bl bc, .int .i64 n, .slice pa pl pc]] w _
  clear h g hj hl hr ha hc hin
  have HB0 : Hid (∀ t : TypeId, Below w.heap.size w (w.alloc (.cells #[.int .i64 1, .string nm, .string to, .slice ba bl bc, .int .i64 n, .slice pa pl pc] t))) := fun t => (Below.refl _ _).alloc (Nat.le_refl _) _
  have HK0 : Hid (∀ t : TypeId, Blk (w.alloc (.cells #[.int .i64 1, .string nm, .string to, .slice ba bl bc, .int .i64 n, .slice pa pl pc] t)) w.heap.size [.int .i64 1, .string nm, .string to, .slice ba bl bc, .int .i64 n, .slice pa pl pc]) := fun t => Blk.new w _ t
  have HX0 : Hid (∀ t : TypeId, J (w.alloc (.cells #[.int .i64 1, .string nm, .string to, .slice ba bl bc, .int .i64 n, .slice pa pl pc] t)) (fun k => R k ∨ k = w.heap.size) l r) := fun t => HH.out.less (HH.out.turn HJ0.out (Chg.of (HB0.out t))) (fun k hk => hk.elim .inl (fun e => .inr ⟨by omega, by simp; omega⟩))
  go_enter Try.func12, Try.ntmps12
  have HJ : Hid (J (w.alloc (.cells #[.int .i64 1, .string nm, .string to, .slice ba bl bc, .int .i64 n, .slice pa pl pc] 35)).drew (fun k => R k ∨ k = w.heap.size) l r) := (HH.out.step (HX0.out _) (Below.refl _ _).drew)
  have HK : Hid (Blk (w.alloc (.cells #[.int .i64 1, .string nm, .string to, .slice ba bl bc, .int .i64 n, .slice pa pl pc] 35)).drew w.heap.size [.int .i64 1, .string nm, .string to, .slice ba bl bc, .int .i64 n, .slice pa pl pc]) := ((HK0.out _).below (Nat.le_refl _) (Below.refl _ _).drew)
  have HP : Hid (Kp R w (w.alloc (.cells #[.int .i64 1, .string nm, .string to, .slice ba bl bc, .int .i64 n, .slice pa pl pc] 35)).drew) := Kp.of (HB0.out _).drew
  clear HJ0 HB0 HK0 HX0
  have c1 := HK.out.cell 1 _ rfl
  have c2 := HK.out.cell 2 _ rfl
  have c3 := HK.out.cell 3 _ rfl
  have c4 := HK.out.cell 4 _ rfl
  have c5 := HK.out.cell 5 _ rfl
  go_wp2_with fail
  go_region_held3 (fun w' => w'.cell? ⟨w.heap.size, 1, none⟩ = some (.string nm) ∧ w'.cell? ⟨w.heap.size, 2, none⟩ = some (.string to) ∧ w'.cell? ⟨w.heap.size, 4, none⟩ = some (.int .i64 n)) (first | exact ⟨c1, c2, c4⟩ | go_keep)
    (first
     | (go_at_call 16; refine (HH.out.create i nm HJ.out HL.out HA.out).mono ?_; rintro e vx ⟨rfl, hj, hk⟩
        have HJ : Hid (J vx (fun k => R k ∨ k = w.heap.size) (l.set i (p, (S.create nm.data.toList).1)) r) := hj
        have HK : Hid (Blk vx w.heap.size [.int .i64 1, .string nm, .string to, .slice ba bl bc, .int .i64 n, .slice pa pl pc]) := HK.out.kept hk (.inr rfl)
        have HP : Hid (Kp R w vx) := HP.out.trans hk (fun _ h => .inl h)
        clear hj hk
        have c1 := HK.out.cell 1 _ rfl
        have c2 := HK.out.cell 2 _ rfl
        have c3 := HK.out.cell 3 _ rfl
        have c4 := HK.out.cell 4 _ rfl
        have c5 := HK.out.cell 5 _ rfl)
     | (go_at_call 30; refine (HG.out.create j nm HJ.out HR.out HA.out).mono ?_; rintro e vy ⟨rfl, hj, hk⟩
        have HJ : Hid (J vy (fun k => R k ∨ k = w.heap.size) (l.set i (p, (S.create nm.data.toList).1)) (r.set j (q, (S.create nm.data.toList).1))) := hj
        have HK : Hid (Blk vy w.heap.size [.int .i64 1, .string nm, .string to, .slice ba bl bc, .int .i64 n, .slice pa pl pc]) := HK.out.kept hk (.inr rfl)
        have HP : Hid (Kp R w vy) := HP.out.trans hk (fun _ h => .inl h)
        clear hj hk
        have c1 := HK.out.cell 1 _ rfl
        have c2 := HK.out.cell 2 _ rfl
        have c3 := HK.out.cell 3 _ rfl
        have c4 := HK.out.cell 4 _ rfl
        have c5 := HK.out.cell 5 _ rfl))
  all_goals
    go_wp2
    go_ret
    exact ⟨ret1 (by simp), HH.out.less HJ.out (fun _ h => .inl h), HP.out⟩
end Go.Proofs.Ytkelahekfkhcfaa
/- staddlelaw04.Asked, a call of kind 2: both file systems answer alike, out of what they promise. -/
namespace Go.Proofs.Ytkelahekfkhcfaa
open Go.RowKit
set_option maxRecDepth 100000 in
set_option maxHeartbeats 2000000 in
theorem askAppend {J : Face} (h : FsOk J) (g : RfOk J) {w : World} {R : Nat → Prop} {l r : Fss} {p q : Nat} {S : PFs} (i j : Nat) (c : CallV) (hj : J w R l r) (hl : l[i]? = some (p, S)) (hr : r[j]? = some (q, S)) (ha : S.asked < 1000000) (hc : c.Ok w) (hin : c.In R) (hbl : c.bc ≤ 140737488351232) (hk : c.kind = 2) :
    Calls Try.prog 12 #[at_ p, at_ q, .agg c.cells.toArray] w fun e w' => e = .returned (.bool true) ∧ J w' R (l.set i (p, stepC S c)) (r.set j (q, stepC S c)) ∧ Kp R w w' := by
  obtain ⟨kd, nm, to, ba, bl, bc, bs, n, pa, pl, pc, ps⟩ := c
  simp only at hk hbl
  subst hk
  have HE : Hid (stepC S ⟨2, nm, to, ba, bl, bc, bs, n, pa, pl, pc, ps⟩ = (S.append nm.data.toList bs).1) := rfl
  have HH : Hid (FsOk J) := h
  have HG : Hid (RfOk J) := g
  have HC : Hid (CallV.Ok w ⟨2, nm, to, ba, bl, bc, bs, n, pa, pl, pc, ps⟩) := hc
  have HI : Hid (CallV.In R ⟨2, nm, to, ba, bl, bc, bs, n, pa, pl, pc, ps⟩) := hin
  have HL : Hid (l[i]? = some (p, S)) := hl
  have HR : Hid (r[j]? = some (q, S)) := hr
  have HA : Hid (S.asked < 1000000) := ha
  have HJ0 : Hid (J w R l r) := hj
  rw [HE.out]
  show Calls Try.prog 12 #[at_ p, at_ q, .agg #[.int .i64 2, .string nm, .string to, .slice ba bl bc, .int .i64 n, .slice pa pl pc]] w _
  clear h g hj hl hr ha hc hin
  have HB0 : Hid (∀ t : TypeId, Below w.heap.size w (w.alloc (.cells #[.int .i64 2, .string nm, .string to, .slice ba bl bc, .int .i64 n, .slice pa pl pc] t))) := fun t => (Below.refl _ _).alloc (Nat.le_refl _) _
  have HK0 : Hid (∀ t : TypeId, Blk (w.alloc (.cells #[.int .i64 2, .string nm, .string to, .slice ba bl bc, .int .i64 n, .slice pa pl pc] t)) w.heap.size [.int .i64 2, .string nm, .string to, .slice ba bl bc, .int .i64 n, .slice pa pl pc]) := fun t => Blk.new w _ t
  have HX0 : Hid (∀ t : TypeId, J (w.alloc (.cells #[.int .i64 2, .string nm, .string to, .slice ba bl bc, .int .i64 n, .slice pa pl pc] t)) (fun k => R k ∨ k = w.heap.size) l r) := fun t => HH.out.less (HH.out.turn HJ0.out (Chg.of (HB0.out t))) (fun k hk => hk.elim .inl (fun e => .inr ⟨by omega, by simp; omega⟩))
  have HY : Hid (BsAt w ba bl bc bs) := HC.out.bytes
  have HIB : Hid (0 < bl → ∀ ad, ba = some ad → R ad.block) := HI.out.bytes
  have hble : bl ≤ bc := HC.out.bytes.le
  clear HC HI HE
  go_enter Try.func12, Try.ntmps12
  have HJ : Hid (J (w.alloc (.cells #[.int .i64 2, .string nm, .string to, .slice ba bl bc, .int .i64 n, .slice pa pl pc] 35)) (fun k => R k ∨ k = w.heap.size) l r) := (HX0.out _)
  have HK : Hid (Blk (w.alloc (.cells #[.int .i64 2, .string nm, .string to, .slice ba bl bc, .int .i64 n, .slice pa pl pc] 35)) w.heap.size [.int .i64 2, .string nm, .string to, .slice ba bl bc, .int .i64 n, .slice pa pl pc]) := (HK0.out _)
  have HP : Hid (Kp R w (w.alloc (.cells #[.int .i64 2, .string nm, .string to, .slice ba bl bc, .int .i64 n, .slice pa pl pc] 35))) := Kp.of (HB0.out _)
  clear HJ0 HB0 HK0 HX0
  have c1 := HK.out.cell 1 _ rfl
  have c2 := HK.out.cell 2 _ rfl
  have c3 := HK.out.cell 3 _ rfl
  have c4 := HK.out.cell 4 _ rfl
  have c5 := HK.out.cell 5 _ rfl
  go_wp2_with (first
    | (at_builtin; refine wpList_app0At (w.alloc (.cells #[.int .i64 2, .string nm, .string to, .slice ba bl bc, .int .i64 n, .slice pa pl pc] 35)) rfl _ _ rfl _ (by simp) rfl _ _ _ bs rfl (HY.out.alloc _) (by omega) ?_))
  intro a7 c7 v1 ho hb0
  have hz : (w.alloc (.cells #[.int .i64 2, .string nm, .string to, .slice ba bl bc, .int .i64 n, .slice pa pl pc] 35)).heap.size = w.heap.size + 1 := by simp
  have hb : Below (w.alloc (.cells #[.int .i64 2, .string nm, .string to, .slice ba bl bc, .int .i64 n, .slice pa pl pc] 35)).heap.size (w.alloc (.cells #[.int .i64 2, .string nm, .string to, .slice ba bl bc, .int .i64 n, .slice pa pl pc] 35)) v1 := by rw [hz]; exact hb0
  have HO : Hid (OwnB v1 (w.heap.size + 1) a7 bl c7 bs) := ho
  have HJ : Hid (J v1 (fun k => (R k ∨ k = w.heap.size) ∨ (Value.slice a7 bl c7).ownBlock = some k) l r) := HH.out.less (HH.out.turn HJ.out (Chg.of hb)) (fun k hk => hk.elim .inl (fun e => .inr ⟨by rw [hz]; exact (ho.row.lt k e).1, (ho.row.lt k e).2⟩))
  have HK : Hid (Blk v1 w.heap.size [.int .i64 2, .string nm, .string to, .slice ba bl bc, .int .i64 n, .slice pa pl pc]) := HK.out.below (Nat.le_refl _) hb
  have HP : Hid (Kp R w v1) := HP.out.trans (Kp.of (R := R) hb) (fun _ h => h)
  clear ho hb hb0 hz c1 c2 c3 c4 c5
  have c1 := HK.out.cell 1 _ rfl
  have c2 := HK.out.cell 2 _ rfl
  have c3 := HK.out.cell 3 _ rfl
  have c4 := HK.out.cell 4 _ rfl
  have c5 := HK.out.cell 5 _ rfl
  go_wp2_with fail
  refine (HH.out.append i nm a7 bl c7 bs HJ.out HL.out HA.out HO.out.bs (by omega)).mono ?_
  generalize hS1 : S.append nm.data.toList bs = S1
  have HS1 : Hid (S.append nm.data.toList bs = S1) := hS1
  clear hS1
  obtain ⟨S1, er⟩ := S1
  simp only
  rintro e v2 ⟨rfl, hj, hk⟩
  have HO : Hid (OwnB v2 (w.heap.size + 1) a7 bl c7 bs) := HO.out.kept hk (fun _ h => .inr h)
  have HJ : Hid (J v2 (fun k => (R k ∨ k = w.heap.size) ∨ (Value.slice a7 bl c7).ownBlock = some k) (l.set i (p, S1)) r) := hj
  have HK : Hid (Blk v2 w.heap.size [.int .i64 2, .string nm, .string to, .slice ba bl bc, .int .i64 n, .slice pa pl pc]) := HK.out.kept hk (.inl (.inr rfl))
  have HP : Hid (Kp R w v2) := HP.out.trans hk (fun _ h => .inl (.inl h))
  clear hj hk c1 c2 c3 c4 c5
  go_wp2_with fail
  go_loopw [9] (fun si wr => ∃ (k : Nat) (xs : List UInt8), k ≤ bl ∧ si = .int .i64 (k : Int) ∧ Hid (OwnB wr (w.heap.size + 1) a7 bl c7 xs) ∧ Hid (J wr (fun k => (R k ∨ k = w.heap.size) ∨ (Value.slice a7 bl c7).ownBlock = some k) (l.set i (p, S1)) r) ∧ Hid (Blk wr w.heap.size [.int .i64 2, .string nm, .string to, .slice ba bl bc, .int .i64 n, .slice pa pl pc]) ∧ Hid (Kp R w wr)) (fun i _ => bl - (intOf i).toNat)
  case atStart => exact ⟨0, bs, Nat.zero_le _, rfl, HO.out, HJ.out, HK.out, HP.out⟩
  case round =>
    obtain ⟨k, xs, hk, rfl, HO, HJ, HK, HP⟩ := hrel
    by_cases hlt : k < bl
    · obtain ⟨g7, rfl, hg7, _, hcl⟩ := HO.out.cells (by omega)
      have p0 := hcl k hlt
      have f0 := HO.out.unfrozen k
      generalize (xs.getD k 0).toNat = y at p0
      have hx1 : (0 : Int) ≤ (k : Int) := by omega
      have hx2 : (k : Int) < (bl : Int) := by omega
      clear hcl
      go_wp2_with fail
      go_roundw
      case rel => exact ⟨k + 1, xs.set k 99, by omega, by go_num, HO.out.put k 99, HH.out.less (HH.out.turn HJ.out (Chg.cell _ _ k _ (.inr rfl))) (fun _ h => .inl h), HK.out.cellFar k _ (by omega), HP.out.cell k _ (by omega)⟩
      case measure => simp [intOf]; omega
    · have c1 := HK.out.cell 1 _ rfl
      have c3 := HK.out.cell 3 _ rfl
      go_wp2_with fail
      have HQ := HG.out.append j nm ba bl bc bs HJ.out HR.out HA.out (HY.out.kept HP.out HIB.out) (by omega)
      rw [HS1.out] at HQ
      refine HQ.mono ?_
      clear HQ
      rintro e v5 ⟨rfl, hj, hk5⟩
      have HJ : Hid (J v5 (fun k => (R k ∨ k = w.heap.size) ∨ (Value.slice a7 bl c7).ownBlock = some k) (l.set i (p, S1)) (r.set j (q, S1))) := hj
      have HP : Hid (Kp R w v5) := HP.out.trans hk5 (fun _ h => .inl (.inl h))
      clear hj hk5 c1 c3
      go_wp2_with fail
      go_ret
      rw [HS1.out]
      exact ⟨ret1 (by simp), HH.out.less HJ.out (fun _ h => .inl (.inl h)), HP.out⟩
end Go.Proofs.Ytkelahekfkhcfaa
/- staddlelaw04.Asked, a call of kind 3: both file systems answer alike, out of what they promise. -/
namespace Go.Proofs.Ytkelahekfkhcfaa
open Go.RowKit
set_option maxRecDepth 100000 in
set_option maxHeartbeats 2000000 in
theorem askSync {J : Face} (h : FsOk J) (g : RfOk J) {w : World} {R : Nat → Prop} {l r : Fss} {p q : Nat} {S : PFs} (i j : Nat) (c : CallV) (hj : J w R l r) (hl : l[i]? = some (p, S)) (hr : r[j]? = some (q, S)) (ha : S.asked < 1000000) (hc : c.Ok w) (hin : c.In R) (hbl : c.bc ≤ 140737488351232) (hk : c.kind = 3) :
    Calls Try.prog 12 #[at_ p, at_ q, .agg c.cells.toArray] w fun e w' => e = .returned (.bool true) ∧ J w' R (l.set i (p, stepC S c)) (r.set j (q, stepC S c)) ∧ Kp R w w' := by
  obtain ⟨kd, nm, to, ba, bl, bc, bs, n, pa, pl, pc, ps⟩ := c
  simp only at hk hbl
  subst hk
  have HE : Hid (stepC S ⟨3, nm, to, ba, bl, bc, bs, n, pa, pl, pc, ps⟩ = (S.sync nm.data.toList).1) := rfl
  have HH : Hid (FsOk J) := h
  have HG : Hid (RfOk J) := g
  have HC : Hid (CallV.Ok w ⟨3, nm, to, ba, bl, bc, bs, n, pa, pl, pc, ps⟩) := hc
  have HI : Hid (CallV.In R ⟨3, nm, to, ba, bl, bc, bs, n, pa, pl, pc, ps⟩) := hin
  have HL : Hid (l[i]? = some (p, S)) := hl
  have HR : Hid (r[j]? = some (q, S)) := hr
  have HA : Hid (S.asked < 1000000) := ha
  have HJ0 : Hid (J w R l r) := hj
  rw [HE.out]
  show Calls Try.prog 12 #[at_ p, at_ q, .agg #[.int .i64 3, .string nm, .string to, .slice ba bl bc, .int .i64 n, .slice pa pl pc]] w _
  clear h g hj hl hr ha hc hin
  have HB0 : Hid (∀ t : TypeId, Below w.heap.size w (w.alloc (.cells #[.int .i64 3, .string nm, .string to, .slice ba bl bc, .int .i64 n, .slice pa pl pc] t))) := fun t => (Below.refl _ _).alloc (Nat.le_refl _) _
  have HK0 : Hid (∀ t : TypeId, Blk (w.alloc (.cells #[.int .i64 3, .string nm, .string to, .slice ba bl bc, .int .i64 n, .slice pa pl pc] t)) w.heap.size [.int .i64 3, .string nm, .string to, .slice ba bl bc, .int .i64 n, .slice pa pl pc]) := fun t => Blk.new w _ t
  have HX0 : Hid (∀ t : TypeId, J (w.alloc (.cells #[.int .i64 3, .string nm, .string to, .slice ba bl bc, .int .i64 n, .slice pa pl pc] t)) (fun k => R k ∨ k = w.heap.size) l r) := fun t => HH.out.less (HH.out.turn HJ0.out (Chg.of (HB0.out t))) (fun k hk => hk.elim .inl (fun e => .inr ⟨by omega, by simp; omega⟩))
  go_enter Try.func12, Try.ntmps12
  have HJ : Hid (J (w.alloc (.cells #[.int .i64 3, .string nm, .string to, .slice ba bl bc, .int .i64 n, .slice pa pl pc] 35)).drew (fun k => R k ∨ k = w.heap.size) l r) := (HH.out.step (HX0.out _) (Below.refl _ _).drew)
  have HK : Hid (Blk (w.alloc (.cells #[.int .i64 3, .string nm, .string to, .slice ba bl bc, .int .i64 n, .slice pa pl pc] 35)).drew w.heap.size [.int .i64 3, .string nm, .string to, .slice ba bl bc, .int .i64 n, .slice pa pl pc]) := ((HK0.out _).below (Nat.le_refl _) (Below.refl _ _).drew)
  have HP : Hid (Kp R w (w.alloc (.cells #[.int .i64 3, .string nm, .string to, .slice ba bl bc, .int .i64 n, .slice pa pl pc] 35)).drew) := Kp.of (HB0.out _).drew
  clear HJ0 HB0 HK0 HX0
  have c1 := HK.out.cell 1 _ rfl
  have c2 := HK.out.cell 2 _ rfl
  have c3 := HK.out.cell 3 _ rfl
  have c4 := HK.out.cell 4 _ rfl
  have c5 := HK.out.cell 5 _ rfl
  go_wp2_with fail
  go_region_held3 (fun w' => w'.cell? ⟨w.heap.size, 1, none⟩ = some (.string nm) ∧ w'.cell? ⟨w.heap.size, 2, none⟩ = some (.string to) ∧ w'.cell? ⟨w.heap.size, 4, none⟩ = some (.int .i64 n)) (first | exact ⟨c1, c2, c4⟩ | go_keep)
    (first
     | (go_at_call 18; refine (HH.out.sync i nm HJ.out HL.out HA.out).mono ?_; rintro e vx ⟨rfl, hj, hk⟩
        have HJ : Hid (J vx (fun k => R k ∨ k = w.heap.size) (l.set i (p, (S.sync nm.data.toList).1)) r) := hj
        have HK : Hid (Blk vx w.heap.size [.int .i64 3, .string nm, .string to, .slice ba bl bc, .int .i64 n, .slice pa pl pc]) := HK.out.kept hk (.inr rfl)
        have HP : Hid (Kp R w vx) := HP.out.trans hk (fun _ h => .inl h)
        clear hj hk
        have c1 := HK.out.cell 1 _ rfl
        have c2 := HK.out.cell 2 _ rfl
        have c3 := HK.out.cell 3 _ rfl
        have c4 := HK.out.cell 4 _ rfl
        have c5 := HK.out.cell 5 _ rfl)
     | (go_at_call 32; refine (HG.out.sync j nm HJ.out HR.out HA.out).mono ?_; rintro e vy ⟨rfl, hj, hk⟩
        have HJ : Hid (J vy (fun k => R k ∨ k = w.heap.size) (l.set i (p, (S.sync nm.data.toList).1)) (r.set j (q, (S.sync nm.data.toList).1))) := hj
        have HK : Hid (Blk vy w.heap.size [.int .i64 3, .string nm, .string to, .slice ba bl bc, .int .i64 n, .slice pa pl pc]) := HK.out.kept hk (.inr rfl)
        have HP : Hid (Kp R w vy) := HP.out.trans hk (fun _ h => .inl h)
        clear hj hk
        have c1 := HK.out.cell 1 _ rfl
        have c2 := HK.out.cell 2 _ rfl
        have c3 := HK.out.cell 3 _ rfl
        have c4 := HK.out.cell 4 _ rfl
        have c5 := HK.out.cell 5 _ rfl))
  all_goals
    go_wp2
    go_ret
    exact ⟨ret1 (by simp), HH.out.less HJ.out (fun _ h => .inl h), HP.out⟩
end Go.Proofs.Ytkelahekfkhcfaa
/- staddlelaw04.Asked, a call of kind 4: both file systems answer alike, out of what they promise. -/
namespace Go.Proofs.Ytkelahekfkhcfaa
open Go.RowKit
set_option maxRecDepth 100000 in
set_option maxHeartbeats 2000000 in
theorem askRename {J : Face} (h : FsOk J) (g : RfOk J) {w : World} {R : Nat → Prop} {l r : Fss} {p q : Nat} {S : PFs} (i j : Nat) (c : CallV) (hj : J w R l r) (hl : l[i]? = some (p, S)) (hr : r[j]? = some (q, S)) (ha : S.asked < 1000000) (hc : c.Ok w) (hin : c.In R) (hbl : c.bc ≤ 140737488351232) (hk : c.kind = 4) :
    Calls Try.prog 12 #[at_ p, at_ q, .agg c.cells.toArray] w fun e w' => e = .returned (.bool true) ∧ J w' R (l.set i (p, stepC S c)) (r.set j (q, stepC S c)) ∧ Kp R w w' := by
  obtain ⟨kd, nm, to, ba, bl, bc, bs, n, pa, pl, pc, ps⟩ := c
  simp only at hk hbl
  subst hk
  have HE : Hid (stepC S ⟨4, nm, to, ba, bl, bc, bs, n, pa, pl, pc, ps⟩ = (S.rename nm.data.toList to.data.toList).1) := rfl
  have HH : Hid (FsOk J) := h
  have HG : Hid (RfOk J) := g
  have HC : Hid (CallV.Ok w ⟨4, nm, to, ba, bl, bc, bs, n, pa, pl, pc, ps⟩) := hc
  have HI : Hid (CallV.In R ⟨4, nm, to, ba, bl, bc, bs, n, pa, pl, pc, ps⟩) := hin
  have HL : Hid (l[i]? = some (p, S)) := hl
  have HR : Hid (r[j]? = some (q, S)) := hr
  have HA : Hid (S.asked < 1000000) := ha
  have HJ0 : Hid (J w R l r) := hj
  rw [HE.out]
  show Calls Try.prog 12 #[at_ p, at_ q, .agg #[.int .i64 4, .string nm, .string to, .slice ba bl bc, .int .i64 n, .slice pa pl pc]] w _
  clear h g hj hl hr ha hc hin
  have HB0 : Hid (∀ t : TypeId, Below w.heap.size w (w.alloc (.cells #[.int .i64 4, .string nm, .string to, .slice ba bl bc, .int .i64 n, .slice pa pl pc] t))) := fun t => (Below.refl _ _).alloc (Nat.le_refl _) _
  have HK0 : Hid (∀ t : TypeId, Blk (w.alloc (.cells #[.int .i64 4, .string nm, .string to, .slice ba bl bc, .int .i64 n, .slice pa pl pc] t)) w.heap.size [.int .i64 4, .string nm, .string to, .slice ba bl bc, .int .i64 n, .slice pa pl pc]) := fun t => Blk.new w _ t
  have HX0 : Hid (∀ t : TypeId, J (w.alloc (.cells #[.int .i64 4, .string nm, .string to, .slice ba bl bc, .int .i64 n, .slice pa pl pc] t)) (fun k => R k ∨ k = w.heap.size) l r) := fun t => HH.out.less (HH.out.turn HJ0.out (Chg.of (HB0.out t))) (fun k hk => hk.elim .inl (fun e => .inr ⟨by omega, by simp; omega⟩))
  go_enter Try.func12, Try.ntmps12
  have HJ : Hid (J (w.alloc (.cells #[.int .i64 4, .string nm, .string to, .slice ba bl bc, .int .i64 n, .slice pa pl pc] 35)).drew (fun k => R k ∨ k = w.heap.size) l r) := (HH.out.step (HX0.out _) (Below.refl _ _).drew)
  have HK : Hid (Blk (w.alloc (.cells #[.int .i64 4, .string nm, .string to, .slice ba bl bc, .int .i64 n, .slice pa pl pc] 35)).drew w.heap.size [.int .i64 4, .string nm, .string to, .slice ba bl bc, .int .i64 n, .slice pa pl pc]) := ((HK0.out _).below (Nat.le_refl _) (Below.refl _ _).drew)
  have HP : Hid (Kp R w (w.alloc (.cells #[.int .i64 4, .string nm, .string to, .slice ba bl bc, .int .i64 n, .slice pa pl pc] 35)).drew) := Kp.of (HB0.out _).drew
  clear HJ0 HB0 HK0 HX0
  have c1 := HK.out.cell 1 _ rfl
  have c2 := HK.out.cell 2 _ rfl
  have c3 := HK.out.cell 3 _ rfl
  have c4 := HK.out.cell 4 _ rfl
  have c5 := HK.out.cell 5 _ rfl
  go_wp2_with fail
  go_region_held3 (fun w' => w'.cell? ⟨w.heap.size, 1, none⟩ = some (.string nm) ∧ w'.cell? ⟨w.heap.size, 2, none⟩ = some (.string to) ∧ w'.cell? ⟨w.heap.size, 4, none⟩ = some (.int .i64 n)) (first | exact ⟨c1, c2, c4⟩ | go_keep)
    (first
     | (go_at_call 20; refine (HH.out.rename i nm to HJ.out HL.out HA.out).mono ?_; rintro e vx ⟨rfl, hj, hk⟩
        have HJ : Hid (J vx (fun k => R k ∨ k = w.heap.size) (l.set i (p, (S.rename nm.data.toList to.data.toList).1)) r) := hj
        have HK : Hid (Blk vx w.heap.size [.int .i64 4, .string nm, .string to, .slice ba bl bc, .int .i64 n, .slice pa pl pc]) := HK.out.kept hk (.inr rfl)
        have HP : Hid (Kp R w vx) := HP.out.trans hk (fun _ h => .inl h)
        clear hj hk
        have c1 := HK.out.cell 1 _ rfl
        have c2 := HK.out.cell 2 _ rfl
        have c3 := HK.out.cell 3 _ rfl
        have c4 := HK.out.cell 4 _ rfl
        have c5 := HK.out.cell 5 _ rfl)
     | (go_at_call 33; refine (HG.out.rename j nm to HJ.out HR.out HA.out).mono ?_; rintro e vy ⟨rfl, hj, hk⟩
        have HJ : Hid (J vy (fun k => R k ∨ k = w.heap.size) (l.set i (p, (S.rename nm.data.toList to.data.toList).1)) (r.set j (q, (S.rename nm.data.toList to.data.toList).1))) := hj
        have HK : Hid (Blk vy w.heap.size [.int .i64 4, .string nm, .string to, .slice ba bl bc, .int .i64 n, .slice pa pl pc]) := HK.out.kept hk (.inr rfl)
        have HP : Hid (Kp R w vy) := HP.out.trans hk (fun _ h => .inl h)
        clear hj hk
        have c1 := HK.out.cell 1 _ rfl
        have c2 := HK.out.cell 2 _ rfl
        have c3 := HK.out.cell 3 _ rfl
        have c4 := HK.out.cell 4 _ rfl
        have c5 := HK.out.cell 5 _ rfl))
  all_goals
    go_wp2
    go_ret
    exact ⟨ret1 (by simp), HH.out.less HJ.out (fun _ h => .inl h), HP.out⟩
end Go.Proofs.Ytkelahekfkhcfaa
/- staddlelaw04.Asked, a call of kind 5: both file systems answer alike, out of what they promise. -/
namespace Go.Proofs.Ytkelahekfkhcfaa
open Go.RowKit
set_option maxRecDepth 100000 in
set_option maxHeartbeats 2000000 in
theorem askRemove {J : Face} (h : FsOk J) (g : RfOk J) {w : World} {R : Nat → Prop} {l r : Fss} {p q : Nat} {S : PFs} (i j : Nat) (c : CallV) (hj : J w R l r) (hl : l[i]? = some (p, S)) (hr : r[j]? = some (q, S)) (ha : S.asked < 1000000) (hc : c.Ok w) (hin : c.In R) (hbl : c.bc ≤ 140737488351232) (hk : c.kind = 5) :
    Calls Try.prog 12 #[at_ p, at_ q, .agg c.cells.toArray] w fun e w' => e = .returned (.bool true) ∧ J w' R (l.set i (p, stepC S c)) (r.set j (q, stepC S c)) ∧ Kp R w w' := by
  obtain ⟨kd, nm, to, ba, bl, bc, bs, n, pa, pl, pc, ps⟩ := c
  simp only at hk hbl
  subst hk
  have HE : Hid (stepC S ⟨5, nm, to, ba, bl, bc, bs, n, pa, pl, pc, ps⟩ = (S.remove nm.data.toList).1) := rfl
  have HH : Hid (FsOk J) := h
  have HG : Hid (RfOk J) := g
  have HC : Hid (CallV.Ok w ⟨5, nm, to, ba, bl, bc, bs, n, pa, pl, pc, ps⟩) := hc
  have HI : Hid (CallV.In R ⟨5, nm, to, ba, bl, bc, bs, n, pa, pl, pc, ps⟩) := hin
  have HL : Hid (l[i]? = some (p, S)) := hl
  have HR : Hid (r[j]? = some (q, S)) := hr
  have HA : Hid (S.asked < 1000000) := ha
  have HJ0 : Hid (J w R l r) := hj
  rw [HE.out]
  show Calls Try.prog 12 #[at_ p, at_ q, .agg #[.int .i64 5, .string nm, .string to, .slice ba bl bc, .int .i64 n, .slice pa pl pc]] w _
  clear h g hj hl hr ha hc hin
  have HB0 : Hid (∀ t : TypeId, Below w.heap.size w (w.alloc (.cells #[.int .i64 5, .string nm, .string to, .slice ba bl bc, .int .i64 n, .slice pa pl pc] t))) := fun t => (Below.refl _ _).alloc (Nat.le_refl _) _
  have HK0 : Hid (∀ t : TypeId, Blk (w.alloc (.cells #[.int .i64 5, .string nm, .string to, .slice ba bl bc, .int .i64 n, .slice pa pl pc] t)) w.heap.size [.int .i64 5, .string nm, .string to, .slice ba bl bc, .int .i64 n, .slice pa pl pc]) := fun t => Blk.new w _ t
  have HX0 : Hid (∀ t : TypeId, J (w.alloc (.cells #[.int .i64 5, .string nm, .string to, .slice ba bl bc, .int .i64 n, .slice pa pl pc] t)) (fun k => R k ∨ k = w.heap.size) l r) := fun t => HH.out.less (HH.out.turn HJ0.out (Chg.of (HB0.out t))) (fun k hk => hk.elim .inl (fun e => .inr ⟨by omega, by simp; omega⟩))
  go_enter Try.func12, Try.ntmps12
  have HJ : Hid (J (w.alloc (.cells #[.int .i64 5, .string nm, .string to, .slice ba bl bc, .int .i64 n, .slice pa pl pc] 35)).drew (fun k => R k ∨ k = w.heap.size) l r) := (HH.out.step (HX0.out _) (Below.refl _ _).drew)
  have HK : Hid (Blk (w.alloc (.cells #[.int .i64 5, .string nm, .string to, .slice ba bl bc, .int .i64 n, .slice pa pl pc] 35)).drew w.heap.size [.int .i64 5, .string nm, .string to, .slice ba bl bc, .int .i64 n, .slice pa pl pc]) := ((HK0.out _).below (Nat.le_refl _) (Below.refl _ _).drew)
  have HP : Hid (Kp R w (w.alloc (.cells #[.int .i64 5, .string nm, .string to, .slice ba bl bc, .int .i64 n, .slice pa pl pc] 35)).drew) := Kp.of (HB0.out _).drew
  clear HJ0 HB0 HK0 HX0
  have c1 := HK.out.cell 1 _ rfl
  have c2 := HK.out.cell 2 _ rfl
  have c3 := HK.out.cell 3 _ rfl
  have c4 := HK.out.cell 4 _ rfl
  have c5 := HK.out.cell 5 _ rfl
  go_wp2_with fail
  go_region_held3 (fun w' => w'.cell? ⟨w.heap.size, 1, none⟩ = some (.string nm) ∧ w'.cell? ⟨w.heap.size, 2, none⟩ = some (.string to) ∧ w'.cell? ⟨w.heap.size, 4, none⟩ = some (.int .i64 n)) (first | exact ⟨c1, c2, c4⟩ | go_keep)
    (first
     | (go_at_call 27; refine (HH.out.remove i nm HJ.out HL.out HA.out).mono ?_; rintro e vx ⟨rfl, hj, hk⟩
        have HJ : Hid (J vx (fun k => R k ∨ k = w.heap.size) (l.set i (p, (S.remove nm.data.toList).1)) r) := hj
        have HK : Hid (Blk vx w.heap.size [.int .i64 5, .string nm, .string to, .slice ba bl bc, .int .i64 n, .slice pa pl pc]) := HK.out.kept hk (.inr rfl)
        have HP : Hid (Kp R w vx) := HP.out.trans hk (fun _ h => .inl h)
        clear hj hk
        have c1 := HK.out.cell 1 _ rfl
        have c2 := HK.out.cell 2 _ rfl
        have c3 := HK.out.cell 3 _ rfl
        have c4 := HK.out.cell 4 _ rfl
        have c5 := HK.out.cell 5 _ rfl)
     | (go_at_call 34; refine (HG.out.remove j nm HJ.out HR.out HA.out).mono ?_; rintro e vy ⟨rfl, hj, hk⟩
        have HJ : Hid (J vy (fun k => R k ∨ k = w.heap.size) (l.set i (p, (S.remove nm.data.toList).1)) (r.set j (q, (S.remove nm.data.toList).1))) := hj
        have HK : Hid (Blk vy w.heap.size [.int .i64 5, .string nm, .string to, .slice ba bl bc, .int .i64 n, .slice pa pl pc]) := HK.out.kept hk (.inr rfl)
        have HP : Hid (Kp R w vy) := HP.out.trans hk (fun _ h => .inl h)
        clear hj hk
        have c1 := HK.out.cell 1 _ rfl
        have c2 := HK.out.cell 2 _ rfl
        have c3 := HK.out.cell 3 _ rfl
        have c4 := HK.out.cell 4 _ rfl
        have c5 := HK.out.cell 5 _ rfl))
  all_goals
    go_wp2
    go_ret
    exact ⟨ret1 (by simp), HH.out.less HJ.out (fun _ h => .inl h), HP.out⟩
end Go.Proofs.Ytkelahekfkhcfaa
/- staddlelaw04.Asked, a call of kind 6: both file systems answer alike, out of what they promise. -/
namespace Go.Proofs.Ytkelahekfkhcfaa
open Go.RowKit
set_option maxRecDepth 100000 in
set_option maxHeartbeats 2000000 in
theorem askSyncDir {J : Face} (h : FsOk J) (g : RfOk J) {w : World} {R : Nat → Prop} {l r : Fss} {p q : Nat} {S : PFs} (i j : Nat) (c : CallV) (hj : J w R l r) (hl : l[i]? = some (p, S)) (hr : r[j]? = some (q, S)) (ha : S.asked < 1000000) (hc : c.Ok w) (hin : c.In R) (hbl : c.bc ≤ 140737488351232) (hk : c.kind = 6) :
    Calls Try.prog 12 #[at_ p, at_ q, .agg c.cells.toArray] w fun e w' => e = .returned (.bool true) ∧ J w' R (l.set i (p, stepC S c)) (r.set j (q, stepC S c)) ∧ Kp R w w' := by
  obtain ⟨kd, nm, to, ba, bl, bc, bs, n, pa, pl, pc, ps⟩ := c
  simp only at hk hbl
  subst hk
  have HE : Hid (stepC S ⟨6, nm, to, ba, bl, bc, bs, n, pa, pl, pc, ps⟩ = S.syncDir.1) := rfl
  have HH : Hid (FsOk J) := h
  have HG : Hid (RfOk J) := g
  have HC : Hid (CallV.Ok w ⟨6, nm, to, ba, bl, bc, bs, n, pa, pl, pc, ps⟩) := hc
  have HI : Hid (CallV.In R ⟨6, nm, to, ba, bl, bc, bs, n, pa, pl, pc, ps⟩) := hin
  have HL : Hid (l[i]? = some (p, S)) := hl
  have HR : Hid (r[j]? = some (q, S)) := hr
  have HA : Hid (S.asked < 1000000) := ha
  have HJ0 : Hid (J w R l r) := hj
  rw [HE.out]
  show Calls Try.prog 12 #[at_ p, at_ q, .agg #[.int .i64 6, .string nm, .string to, .slice ba bl bc, .int .i64 n, .slice pa pl pc]] w _
  clear h g hj hl hr ha hc hin
  have HB0 : Hid (∀ t : TypeId, Below w.heap.size w (w.alloc (.cells #[.int .i64 6, .string nm, .string to, .slice ba bl bc, .int .i64 n, .slice pa pl pc] t))) := fun t => (Below.refl _ _).alloc (Nat.le_refl _) _
  have HK0 : Hid (∀ t : TypeId, Blk (w.alloc (.cells #[.int .i64 6, .string nm, .string to, .slice ba bl bc, .int .i64 n, .slice pa pl pc] t)) w.heap.size [.int .i64 6, .string nm, .string to, .slice ba bl bc, .int .i64 n, .slice pa pl pc]) := fun t => Blk.new w _ t
  have HX0 : Hid (∀ t : TypeId, J (w.alloc (.cells #[.int .i64 6, .string nm, .string to, .slice ba bl bc, .int .i64 n, .slice pa pl pc] t)) (fun k => R k ∨ k = w.heap.size) l r) := fun t => HH.out.less (HH.out.turn HJ0.out (Chg.of (HB0.out t))) (fun k hk => hk.elim .inl (fun e => .inr ⟨by omega, by simp; omega⟩))
  go_enter Try.func12, Try.ntmps12
  have HJ : Hid (J (w.alloc (.cells #[.int .i64 6, .string nm, .string to, .slice ba bl bc, .int .i64 n, .slice pa pl pc] 35)) (fun k => R k ∨ k = w.heap.size) l r) := (HX0.out _)
  have HK : Hid (Blk (w.alloc (.cells #[.int .i64 6, .string nm, .string to, .slice ba bl bc, .int .i64 n, .slice pa pl pc] 35)) w.heap.size [.int .i64 6, .string nm, .string to, .slice ba bl bc, .int .i64 n, .slice pa pl pc]) := (HK0.out _)
  have HP : Hid (Kp R w (w.alloc (.cells #[.int .i64 6, .string nm, .string to, .slice ba bl bc, .int .i64 n, .slice pa pl pc] 35))) := Kp.of (HB0.out _)
  clear HJ0 HB0 HK0 HX0
  have c1 := HK.out.cell 1 _ rfl
  have c2 := HK.out.cell 2 _ rfl
  have c3 := HK.out.cell 3 _ rfl
  have c4 := HK.out.cell 4 _ rfl
  have c5 := HK.out.cell 5 _ rfl
  go_wp2_with fail
  refine (HH.out.syncDir i HJ.out HL.out HA.out).mono ?_
  rintro e v1 ⟨rfl, hj, hk⟩
  have HJ : Hid (J v1 (fun k => R k ∨ k = w.heap.size) (l.set i (p, S.syncDir.1)) r) := hj
  have HK : Hid (Blk v1 w.heap.size [.int .i64 6, .string nm, .string to, .slice ba bl bc, .int .i64 n, .slice pa pl pc]) := HK.out.kept hk (.inr rfl)
  have HP : Hid (Kp R w v1) := HP.out.trans hk (fun _ h => .inl h)
  clear hj hk
  have c1 := HK.out.cell 1 _ rfl
  have c2 := HK.out.cell 2 _ rfl
  have c3 := HK.out.cell 3 _ rfl
  have c4 := HK.out.cell 4 _ rfl
  have c5 := HK.out.cell 5 _ rfl
  go_wp2_with fail
  refine (HG.out.syncDir j HJ.out HR.out HA.out).mono ?_
  rintro e v2 ⟨rfl, hj, hk⟩
  have HJ : Hid (J v2 (fun k => R k ∨ k = w.heap.size) (l.set i (p, S.syncDir.1)) (r.set j (q, S.syncDir.1))) := hj
  have HK : Hid (Blk v2 w.heap.size [.int .i64 6, .string nm, .string to, .slice ba bl bc, .int .i64 n, .slice pa pl pc]) := HK.out.kept hk (.inr rfl)
  have HP : Hid (Kp R w v2) := HP.out.trans hk (fun _ h => .inl h)
  clear hj hk
  have c1 := HK.out.cell 1 _ rfl
  have c2 := HK.out.cell 2 _ rfl
  have c3 := HK.out.cell 3 _ rfl
  have c4 := HK.out.cell 4 _ rfl
  have c5 := HK.out.cell 5 _ rfl
  go_wp2_with fail
  go_ret
  exact ⟨ret1 (by simp), HH.out.less HJ.out (fun _ h => .inl h), HP.out⟩
end Go.Proofs.Ytkelahekfkhcfaa
/- staddlelaw04.Asked, a call of kind 7: both file systems answer alike, out of what they promise. -/
namespace Go.Proofs.Ytkelahekfkhcfaa
open Go.RowKit
set_option maxRecDepth 100000 in
set_option maxHeartbeats 2000000 in
theorem askRead {J : Face} (h : FsOk J) (g : RfOk J) {w : World} {R : Nat → Prop} {l r : Fss} {p q : Nat} {S : PFs} (i j : Nat) (c : CallV) (hj : J w R l r) (hl : l[i]? = some (p, S)) (hr : r[j]? = some (q, S)) (ha : S.asked < 1000000) (hc : c.Ok w) (hin : c.In R) (hbl : c.bc ≤ 140737488351232) (hk : c.kind = 7) :
    Calls Try.prog 12 #[at_ p, at_ q, .agg c.cells.toArray] w fun e w' => e = .returned (.bool true) ∧ J w' R (l.set i (p, stepC S c)) (r.set j (q, stepC S c)) ∧ Kp R w w' := by
  obtain ⟨kd, nm, to, ba, bl, bc, bs, n, pa, pl, pc, ps⟩ := c
  simp only at hk hbl
  subst hk
  have HE : Hid (stepC S ⟨7, nm, to, ba, bl, bc, bs, n, pa, pl, pc, ps⟩ = S) := rfl
  have HH : Hid (FsOk J) := h
  have HG : Hid (RfOk J) := g
  have HC : Hid (CallV.Ok w ⟨7, nm, to, ba, bl, bc, bs, n, pa, pl, pc, ps⟩) := hc
  have HI : Hid (CallV.In R ⟨7, nm, to, ba, bl, bc, bs, n, pa, pl, pc, ps⟩) := hin
  have HL : Hid (l[i]? = some (p, S)) := hl
  have HR : Hid (r[j]? = some (q, S)) := hr
  have HA : Hid (S.asked < 1000000) := ha
  have HJ0 : Hid (J w R l r) := hj
  rw [HE.out]
  show Calls Try.prog 12 #[at_ p, at_ q, .agg #[.int .i64 7, .string nm, .string to, .slice ba bl bc, .int .i64 n, .slice pa pl pc]] w _
  clear h g hj hl hr ha hc hin
  have HB0 : Hid (∀ t : TypeId, Below w.heap.size w (w.alloc (.cells #[.int .i64 7, .string nm, .string to, .slice ba bl bc, .int .i64 n, .slice pa pl pc] t))) := fun t => (Below.refl _ _).alloc (Nat.le_refl _) _
  have HK0 : Hid (∀ t : TypeId, Blk (w.alloc (.cells #[.int .i64 7, .string nm, .string to, .slice ba bl bc, .int .i64 n, .slice pa pl pc] t)) w.heap.size [.int .i64 7, .string nm, .string to, .slice ba bl bc, .int .i64 n, .slice pa pl pc]) := fun t => Blk.new w _ t
  have HX0 : Hid (∀ t : TypeId, J (w.alloc (.cells #[.int .i64 7, .string nm, .string to, .slice ba bl bc, .int .i64 n, .slice pa pl pc] t)) (fun k => R k ∨ k = w.heap.size) l r) := fun t => HH.out.less (HH.out.turn HJ0.out (Chg.of (HB0.out t))) (fun k hk => hk.elim .inl (fun e => .inr ⟨by omega, by simp; omega⟩))
  rw [set_same HL.out, set_same HR.out]
  clear HC HI HE hbl
  obtain ⟨u, er, hu⟩ : ∃ u er, S.read nm.data.toList = (u, er) := ⟨_, _, rfl⟩
  obtain ⟨lu, hlu⟩ : ∃ lu, u.length = lu := ⟨_, rfl⟩
  have HU : Hid (S.read nm.data.toList = (u, er)) := hu
  have HLU : Hid (u.length = lu) := hlu
  clear hu hlu
  go_enter Try.func12, Try.ntmps12
  have HJ : Hid (J (w.alloc (.cells #[.int .i64 7, .string nm, .string to, .slice ba bl bc, .int .i64 n, .slice pa pl pc] 35)) (fun k => R k ∨ k = w.heap.size) l r) := (HX0.out _)
  have HK : Hid (Blk (w.alloc (.cells #[.int .i64 7, .string nm, .string to, .slice ba bl bc, .int .i64 n, .slice pa pl pc] 35)) w.heap.size [.int .i64 7, .string nm, .string to, .slice ba bl bc, .int .i64 n, .slice pa pl pc]) := (HK0.out _)
  have HP : Hid (Kp R w (w.alloc (.cells #[.int .i64 7, .string nm, .string to, .slice ba bl bc, .int .i64 n, .slice pa pl pc] 35))) := Kp.of (HB0.out _)
  clear HJ0 HB0 HK0 HX0
  have c1 := HK.out.cell 1 _ rfl
  have c2 := HK.out.cell 2 _ rfl
  have c3 := HK.out.cell 3 _ rfl
  have c4 := HK.out.cell 4 _ rfl
  have c5 := HK.out.cell 5 _ rfl
  go_wp2_with fail
  have HQ := HH.out.read i nm HJ.out HL.out
  rw [HU.out] at HQ
  simp only [HLU.out] at HQ
  refine HQ.mono ?_
  clear HQ
  rintro e v1 ⟨a7, c7, rfl, ho, hj, hk⟩
  have HO : Hid (OwnB v1 (w.heap.size + 1) a7 lu c7 u) := by unfold Hid; simpa using ho
  have HJ : Hid (J v1 (fun k => (R k ∨ k = w.heap.size) ∨ (Value.slice a7 lu c7).ownBlock = some k) l r) := hj
  have HK : Hid (Blk v1 w.heap.size [.int .i64 7, .string nm, .string to, .slice ba bl bc, .int .i64 n, .slice pa pl pc]) := HK.out.kept hk (.inr rfl)
  have HP : Hid (Kp R w v1) := HP.out.trans hk (fun _ h => .inl h)
  have hlm := HO.out.bs.max
  have hlc := HO.out.bs.le
  unfold maxLen at hlm
  clear ho hj hk c1 c2 c3 c4 c5
  have c1 := HK.out.cell 1 _ rfl
  have c2 := HK.out.cell 2 _ rfl
  have c3 := HK.out.cell 3 _ rfl
  have c4 := HK.out.cell 4 _ rfl
  have c5 := HK.out.cell 5 _ rfl
  go_wp2_with fail
  have HQ := HG.out.read j nm HJ.out HR.out
  rw [HU.out] at HQ
  simp only [HLU.out] at HQ
  refine HQ.mono ?_
  clear HQ
  rintro e v2 ⟨a8, c8, rfl, hy, hj, hk⟩
  have HO : Hid (OwnB v2 (w.heap.size + 1) a7 lu c7 u) := HO.out.kept hk (fun _ h => .inr h)
  have HJ : Hid (J v2 (fun k => (R k ∨ k = w.heap.size) ∨ (Value.slice a7 lu c7).ownBlock = some k) l r) := hj
  have HP : Hid (Kp R w v2) := HP.out.trans hk (fun _ h => .inl (.inl h))
  have e7 := conv_of HO.out.bs
  have e8 := conv_of hy
  clear hj hk hy HK c1 c2 c3 c4 c5
  go_wp2_with fail
  go_loopw [15] (fun si wr => ∃ (k : Nat) (xs : List UInt8), k ≤ lu ∧ si = .int .i64 (k : Int) ∧ Hid (OwnB wr (w.heap.size + 1) a7 lu c7 xs) ∧ Hid (J wr (fun k => (R k ∨ k = w.heap.size) ∨ (Value.slice a7 lu c7).ownBlock = some k) l r) ∧ Hid (Kp R w wr)) (fun i _ => lu - (intOf i).toNat)
  case atStart => exact ⟨0, u, Nat.zero_le _, rfl, HO.out, HJ.out, HP.out⟩
  case round =>
    obtain ⟨k, xs, hk, rfl, HO, HJ, HP⟩ := hrel
    by_cases hlt : k < lu
    · obtain ⟨g7, rfl, hg7, _, hcl⟩ := HO.out.cells (by omega)
      have p0 := hcl k hlt
      have f0 := HO.out.unfrozen k
      generalize (xs.getD k 0).toNat = y at p0
      have hx1 : (0 : Int) ≤ (k : Int) := by omega
      have hx2 : (k : Int) < (lu : Int) := by omega
      clear hcl
      go_wp2_with fail
      go_roundw
      case rel => exact ⟨k + 1, xs.set k 99, by omega, by go_num, HO.out.put k 99, HH.out.less (HH.out.turn HJ.out (Chg.cell _ _ k _ (.inr rfl))) (fun _ h => .inl h), HP.out.cell k _ (by omega)⟩
      case measure => simp [intOf]; omega
    · go_wp2_with fail
      go_ret
      exact ⟨ret1 (by simp), HH.out.less HJ.out (fun _ h => .inl (.inl h)), HP.out⟩
end Go.Proofs.Ytkelahekfkhcfaa
/- staddlelaw04.Asked, a call of kind 8: both file systems answer alike, out of what they promise. -/
namespace Go.Proofs.Ytkelahekfkhcfaa
open Go.RowKit
set_option maxRecDepth 100000 in
set_option maxHeartbeats 2000000 in
theorem askFuse {J : Face} (h : FsOk J) (g : RfOk J) {w : World} {R : Nat → Prop} {l r : Fss} {p q : Nat} {S : PFs} (i j : Nat) (c : CallV) (hj : J w R l r) (hl : l[i]? = some (p, S)) (hr : r[j]? = some (q, S)) (ha : S.asked < 1000000) (hc : c.Ok w) (hin : c.In R) (hbl : c.bc ≤ 140737488351232) (hk : c.kind = 8) :
    Calls Try.prog 12 #[at_ p, at_ q, .agg c.cells.toArray] w fun e w' => e = .returned (.bool true) ∧ J w' R (l.set i (p, stepC S c)) (r.set j (q, stepC S c)) ∧ Kp R w w' := by
  obtain ⟨kd, nm, to, ba, bl, bc, bs, n, pa, pl, pc, ps⟩ := c
  simp only at hk hbl
  subst hk
  have HE : Hid (stepC S ⟨8, nm, to, ba, bl, bc, bs, n, pa, pl, pc, ps⟩ = S.setFuse n) := rfl
  have HH : Hid (FsOk J) := h
  have HG : Hid (RfOk J) := g
  have HC : Hid (CallV.Ok w ⟨8, nm, to, ba, bl, bc, bs, n, pa, pl, pc, ps⟩) := hc
  have HI : Hid (CallV.In R ⟨8, nm, to, ba, bl, bc, bs, n, pa, pl, pc, ps⟩) := hin
  have HL : Hid (l[i]? = some (p, S)) := hl
  have HR : Hid (r[j]? = some (q, S)) := hr
  have HA : Hid (S.asked < 1000000) := ha
  have HJ0 : Hid (J w R l r) := hj
  rw [HE.out]
  show Calls Try.prog 12 #[at_ p, at_ q, .agg #[.int .i64 8, .string nm, .string to, .slice ba bl bc, .int .i64 n, .slice pa pl pc]] w _
  clear h g hj hl hr ha hc hin
  have HB0 : Hid (∀ t : TypeId, Below w.heap.size w (w.alloc (.cells #[.int .i64 8, .string nm, .string to, .slice ba bl bc, .int .i64 n, .slice pa pl pc] t))) := fun t => (Below.refl _ _).alloc (Nat.le_refl _) _
  have HK0 : Hid (∀ t : TypeId, Blk (w.alloc (.cells #[.int .i64 8, .string nm, .string to, .slice ba bl bc, .int .i64 n, .slice pa pl pc] t)) w.heap.size [.int .i64 8, .string nm, .string to, .slice ba bl bc, .int .i64 n, .slice pa pl pc]) := fun t => Blk.new w _ t
  have HX0 : Hid (∀ t : TypeId, J (w.alloc (.cells #[.int .i64 8, .string nm, .string to, .slice ba bl bc, .int .i64 n, .slice pa pl pc] t)) (fun k => R k ∨ k = w.heap.size) l r) := fun t => HH.out.less (HH.out.turn HJ0.out (Chg.of (HB0.out t))) (fun k hk => hk.elim .inl (fun e => .inr ⟨by omega, by simp; omega⟩))
  go_enter Try.func12, Try.ntmps12
  have HJ : Hid (J (w.alloc (.cells #[.int .i64 8, .string nm, .string to, .slice ba bl bc, .int .i64 n, .slice pa pl pc] 35)) (fun k => R k ∨ k = w.heap.size) l r) := (HX0.out _)
  have HK : Hid (Blk (w.alloc (.cells #[.int .i64 8, .string nm, .string to, .slice ba bl bc, .int .i64 n, .slice pa pl pc] 35)) w.heap.size [.int .i64 8, .string nm, .string to, .slice ba bl bc, .int .i64 n, .slice pa pl pc]) := (HK0.out _)
  have HP : Hid (Kp R w (w.alloc (.cells #[.int .i64 8, .string nm, .string to, .slice ba bl bc, .int .i64 n, .slice pa pl pc] 35))) := Kp.of (HB0.out _)
  clear HJ0 HB0 HK0 HX0
  have c1 := HK.out.cell 1 _ rfl
  have c2 := HK.out.cell 2 _ rfl
  have c3 := HK.out.cell 3 _ rfl
  have c4 := HK.out.cell 4 _ rfl
  have c5 := HK.out.cell 5 _ rfl
  go_wp2_with fail
  refine (HH.out.fuse i n (ints64 HC.out.nWf) HJ.out HL.out).mono ?_
  rintro e v1 ⟨rfl, hj, hk⟩
  have HJ : Hid (J v1 (fun k => R k ∨ k = w.heap.size) (l.set i (p, S.setFuse n)) r) := hj
  have HK : Hid (Blk v1 w.heap.size [.int .i64 8, .string nm, .string to, .slice ba bl bc, .int .i64 n, .slice pa pl pc]) := HK.out.kept hk (.inr rfl)
  have HP : Hid (Kp R w v1) := HP.out.trans hk (fun _ h => .inl h)
  clear hj hk
  have c1 := HK.out.cell 1 _ rfl
  have c2 := HK.out.cell 2 _ rfl
  have c3 := HK.out.cell 3 _ rfl
  have c4 := HK.out.cell 4 _ rfl
  have c5 := HK.out.cell 5 _ rfl
  go_wp2_with fail
  refine (HG.out.fuse j n (ints64 HC.out.nWf) HJ.out HR.out).mono ?_
  rintro e v2 ⟨rfl, hj, hk⟩
  have HJ : Hid (J v2 (fun k => R k ∨ k = w.heap.size) (l.set i (p, S.setFuse n)) (r.set j (q, S.setFuse n))) := hj
  have HK : Hid (Blk v2 w.heap.size [.int .i64 8, .string nm, .string to, .slice ba bl bc, .int .i64 n, .slice pa pl pc]) := HK.out.kept hk (.inr rfl)
  have HP : Hid (Kp R w v2) := HP.out.trans hk (fun _ h => .inl h)
  clear hj hk
  have c1 := HK.out.cell 1 _ rfl
  have c2 := HK.out.cell 2 _ rfl
  have c3 := HK.out.cell 3 _ rfl
  have c4 := HK.out.cell 4 _ rfl
  have c5 := HK.out.cell 5 _ rfl
  go_wp2_with fail
  go_ret
  exact ⟨ret1 (by simp), HH.out.less HJ.out (fun _ h => .inl h), HP.out⟩
end Go.Proofs.Ytkelahekfkhcfaa
/- staddlelaw04.Asked, a call of kind 9: both file systems answer alike, out of what they promise. -/
namespace Go.Proofs.Ytkelahekfkhcfaa
open Go.RowKit
set_option maxRecDepth 100000 in
set_option maxHeartbeats 2000000 in
theorem askFail {J : Face} (h : FsOk J) (g : RfOk J) {w : World} {R : Nat → Prop} {l r : Fss} {p q : Nat} {S : PFs} (i j : Nat) (c : CallV) (hj : J w R l r) (hl : l[i]? = some (p, S)) (hr : r[j]? = some (q, S)) (ha : S.asked < 1000000) (hc : c.Ok w) (hin : c.In R) (hbl : c.bc ≤ 140737488351232) (hk : c.kind = 9) :
    Calls Try.prog 12 #[at_ p, at_ q, .agg c.cells.toArray] w fun e w' => e = .returned (.bool true) ∧ J w' R (l.set i (p, stepC S c)) (r.set j (q, stepC S c)) ∧ Kp R w w' := by
  obtain ⟨kd, nm, to, ba, bl, bc, bs, n, pa, pl, pc, ps⟩ := c
  simp only at hk hbl
  subst hk
  have HE : Hid (stepC S ⟨9, nm, to, ba, bl, bc, bs, n, pa, pl, pc, ps⟩ = S.setFail n) := rfl
  have HH : Hid (FsOk J) := h
  have HG : Hid (RfOk J) := g
  have HC : Hid (CallV.Ok w ⟨9, nm, to, ba, bl, bc, bs, n, pa, pl, pc, ps⟩) := hc
  have HI : Hid (CallV.In R ⟨9, nm, to, ba, bl, bc, bs, n, pa, pl, pc, ps⟩) := hin
  have HL : Hid (l[i]? = some (p, S)) := hl
  have HR : Hid (r[j]? = some (q, S)) := hr
  have HA : Hid (S.asked < 1000000) := ha
  have HJ0 : Hid (J w R l r) := hj
  rw [HE.out]
  show Calls Try.prog 12 #[at_ p, at_ q, .agg #[.int .i64 9, .string nm, .string to, .slice ba bl bc, .int .i64 n, .slice pa pl pc]] w _
  clear h g hj hl hr ha hc hin
  have HB0 : Hid (∀ t : TypeId, Below w.heap.size w (w.alloc (.cells #[.int .i64 9, .string nm, .string to, .slice ba bl bc, .int .i64 n, .slice pa pl pc] t))) := fun t => (Below.refl _ _).alloc (Nat.le_refl _) _
  have HK0 : Hid (∀ t : TypeId, Blk (w.alloc (.cells #[.int .i64 9, .string nm, .string to, .slice ba bl bc, .int .i64 n, .slice pa pl pc] t)) w.heap.size [.int .i64 9, .string nm, .string to, .slice ba bl bc, .int .i64 n, .slice pa pl pc]) := fun t => Blk.new w _ t
  have HX0 : Hid (∀ t : TypeId, J (w.alloc (.cells #[.int .i64 9, .string nm, .string to, .slice ba bl bc, .int .i64 n, .slice pa pl pc] t)) (fun k => R k ∨ k = w.heap.size) l r) := fun t => HH.out.less (HH.out.turn HJ0.out (Chg.of (HB0.out t))) (fun k hk => hk.elim .inl (fun e => .inr ⟨by omega, by simp; omega⟩))
  go_enter Try.func12, Try.ntmps12
  have HJ : Hid (J (w.alloc (.cells #[.int .i64 9, .string nm, .string to, .slice ba bl bc, .int .i64 n, .slice pa pl pc] 35)) (fun k => R k ∨ k = w.heap.size) l r) := (HX0.out _)
  have HK : Hid (Blk (w.alloc (.cells #[.int .i64 9, .string nm, .string to, .slice ba bl bc, .int .i64 n, .slice pa pl pc] 35)) w.heap.size [.int .i64 9, .string nm, .string to, .slice ba bl bc, .int .i64 n, .slice pa pl pc]) := (HK0.out _)
  have HP : Hid (Kp R w (w.alloc (.cells #[.int .i64 9, .string nm, .string to, .slice ba bl bc, .int .i64 n, .slice pa pl pc] 35))) := Kp.of (HB0.out _)
  clear HJ0 HB0 HK0 HX0
  have c1 := HK.out.cell 1 _ rfl
  have c2 := HK.out.cell 2 _ rfl
  have c3 := HK.out.cell 3 _ rfl
  have c4 := HK.out.cell 4 _ rfl
  have c5 := HK.out.cell 5 _ rfl
  go_wp2_with fail
  refine (HH.out.fail i n (ints64 HC.out.nWf) HJ.out HL.out).mono ?_
  rintro e v1 ⟨rfl, hj, hk⟩
  have HJ : Hid (J v1 (fun k => R k ∨ k = w.heap.size) (l.set i (p, S.setFail n)) r) := hj
  have HK : Hid (Blk v1 w.heap.size [.int .i64 9, .string nm, .string to, .slice ba bl bc, .int .i64 n, .slice pa pl pc]) := HK.out.kept hk (.inr rfl)
  have HP : Hid (Kp R w v1) := HP.out.trans hk (fun _ h => .inl h)
  clear hj hk
  have c1 := HK.out.cell 1 _ rfl
  have c2 := HK.out.cell 2 _ rfl
  have c3 := HK.out.cell 3 _ rfl
  have c4 := HK.out.cell 4 _ rfl
  have c5 := HK.out.cell 5 _ rfl
  go_wp2_with fail
  refine (HG.out.fail j n (ints64 HC.out.nWf) HJ.out HR.out).mono ?_
  rintro e v2 ⟨rfl, hj, hk⟩
  have HJ : Hid (J v2 (fun k => R k ∨ k = w.heap.size) (l.set i (p, S.setFail n)) (r.set j (q, S.setFail n))) := hj
  have HK : Hid (Blk v2 w.heap.size [.int .i64 9, .string nm, .string to, .slice ba bl bc, .int .i64 n, .slice pa pl pc]) := HK.out.kept hk (.inr rfl)
  have HP : Hid (Kp R w v2) := HP.out.trans hk (fun _ h => .inl h)
  clear hj hk
  have c1 := HK.out.cell 1 _ rfl
  have c2 := HK.out.cell 2 _ rfl
  have c3 := HK.out.cell 3 _ rfl
  have c4 := HK.out.cell 4 _ rfl
  have c5 := HK.out.cell 5 _ rfl
  go_wp2_with fail
  go_ret
  exact ⟨ret1 (by simp), HH.out.less HJ.out (fun _ h => .inl h), HP.out⟩
end Go.Proofs.Ytkelahekfkhcfaa
/- staddlelaw04.Asked, a call of kind 10: both file systems answer alike, out of what they promise. -/
namespace Go.Proofs.Ytkelahekfkhcfaa
open Go.RowKit
set_option maxRecDepth 100000 in
set_option maxHeartbeats 2000000 in
theorem askDamage {J : Face} (h : FsOk J) (g : RfOk J) {w : World} {R : Nat → Prop} {l r : Fss} {p q : Nat} {S : PFs} (i j : Nat) (c : CallV) (hj : J w R l r) (hl : l[i]? = some (p, S)) (hr : r[j]? = some (q, S)) (ha : S.asked < 1000000) (hc : c.Ok w) (hin : c.In R) (hbl : c.bc ≤ 140737488351232) (hk : c.kind = 10) :
    Calls Try.prog 12 #[at_ p, at_ q, .agg c.cells.toArray] w fun e w' => e = .returned (.bool true) ∧ J w' R (l.set i (p, stepC S c)) (r.set j (q, stepC S c)) ∧ Kp R w w' := by
  obtain ⟨kd, nm, to, ba, bl, bc, bs, n, pa, pl, pc, ps⟩ := c
  simp only at hk hbl
  subst hk
  have HE : Hid (stepC S ⟨10, nm, to, ba, bl, bc, bs, n, pa, pl, pc, ps⟩ = (S.damage nm.data.toList n (bs.getD 0 0)).1) := rfl
  have HH : Hid (FsOk J) := h
  have HG : Hid (RfOk J) := g
  have HC : Hid (CallV.Ok w ⟨10, nm, to, ba, bl, bc, bs, n, pa, pl, pc, ps⟩) := hc
  have HI : Hid (CallV.In R ⟨10, nm, to, ba, bl, bc, bs, n, pa, pl, pc, ps⟩) := hin
  have HL : Hid (l[i]? = some (p, S)) := hl
  have HR : Hid (r[j]? = some (q, S)) := hr
  have HA : Hid (S.asked < 1000000) := ha
  have HJ0 : Hid (J w R l r) := hj
  rw [HE.out]
  show Calls Try.prog 12 #[at_ p, at_ q, .agg #[.int .i64 10, .string nm, .string to, .slice ba bl bc, .int .i64 n, .slice pa pl pc]] w _
  clear h g hj hl hr ha hc hin
  have HB0 : Hid (∀ t : TypeId, Below w.heap.size w (w.alloc (.cells #[.int .i64 10, .string nm, .string to, .slice ba bl bc, .int .i64 n, .slice pa pl pc] t))) := fun t => (Below.refl _ _).alloc (Nat.le_refl _) _
  have HK0 : Hid (∀ t : TypeId, Blk (w.alloc (.cells #[.int .i64 10, .string nm, .string to, .slice ba bl bc, .int .i64 n, .slice pa pl pc] t)) w.heap.size [.int .i64 10, .string nm, .string to, .slice ba bl bc, .int .i64 n, .slice pa pl pc]) := fun t => Blk.new w _ t
  have HX0 : Hid (∀ t : TypeId, J (w.alloc (.cells #[.int .i64 10, .string nm, .string to, .slice ba bl bc, .int .i64 n, .slice pa pl pc] t)) (fun k => R k ∨ k = w.heap.size) l r) := fun t => HH.out.less (HH.out.turn HJ0.out (Chg.of (HB0.out t))) (fun k hk => hk.elim .inl (fun e => .inr ⟨by omega, by simp; omega⟩))
  obtain ⟨t, ht⟩ : ∃ t, bs.getD 0 0 = t := ⟨_, rfl⟩
  rw [ht]
  have HTT : Hid (bs.getD 0 0 = t) := ht
  clear ht HE
  by_cases hb0 : bl = 0
  · have ht0 : t = 0 := by
      have hsz : bs.length = bl := HC.out.bytes.size
      rw [← HTT.out, List.eq_nil_of_length_eq_zero (hsz.trans hb0)]
      rfl
    subst ht0
    subst hb0
    go_enter Try.func12, Try.ntmps12
    have HJ : Hid (J (w.alloc (.cells #[.int .i64 10, .string nm, .string to, .slice ba 0 bc, .int .i64 n, .slice pa pl pc] 35)).drew (fun k => R k ∨ k = w.heap.size) l r) := (HH.out.step (HX0.out _) (Below.refl _ _).drew)
    have HK : Hid (Blk (w.alloc (.cells #[.int .i64 10, .string nm, .string to, .slice ba 0 bc, .int .i64 n, .slice pa pl pc] 35)).drew w.heap.size [.int .i64 10, .string nm, .string to, .slice ba 0 bc, .int .i64 n, .slice pa pl pc]) := ((HK0.out _).below (Nat.le_refl _) (Below.refl _ _).drew)
    have HP : Hid (Kp R w (w.alloc (.cells #[.int .i64 10, .string nm, .string to, .slice ba 0 bc, .int .i64 n, .slice pa pl pc] 35)).drew) := Kp.of (HB0.out _).drew
    clear HJ0 HB0 HK0 HX0
    have c1 := HK.out.cell 1 _ rfl
    have c2 := HK.out.cell 2 _ rfl
    have c3 := HK.out.cell 3 _ rfl
    have c4 := HK.out.cell 4 _ rfl
    have c5 := HK.out.cell 5 _ rfl
    go_wp2_with fail
    go_region_held3 (fun w' => w'.cell? ⟨w.heap.size, 1, none⟩ = some (.string nm) ∧ w'.cell? ⟨w.heap.size, 2, none⟩ = some (.string to) ∧ w'.cell? ⟨w.heap.size, 4, none⟩ = some (.int .i64 n)) (first | exact ⟨c1, c2, c4⟩ | go_keep)
      (first
       | (go_at_call 28; refine (HH.out.damage i nm n 0 (ints64 HC.out.nWf) HJ.out HL.out).mono ?_; rintro e vx ⟨rfl, hj, hk⟩
          have HJ : Hid (J vx (fun k => R k ∨ k = w.heap.size) (l.set i (p, (S.damage nm.data.toList n 0).1)) r) := hj
          have HK : Hid (Blk vx w.heap.size [.int .i64 10, .string nm, .string to, .slice ba 0 bc, .int .i64 n, .slice pa pl pc]) := HK.out.kept hk (.inr rfl)
          have HP : Hid (Kp R w vx) := HP.out.trans hk (fun _ h => .inl h)
          clear hj hk
          have c1 := HK.out.cell 1 _ rfl
          have c2 := HK.out.cell 2 _ rfl
          have c3 := HK.out.cell 3 _ rfl
          have c4 := HK.out.cell 4 _ rfl
          have c5 := HK.out.cell 5 _ rfl)
       | (go_at_call 39; refine (HG.out.damage j nm n 0 (ints64 HC.out.nWf) HJ.out HR.out).mono ?_; rintro e vy ⟨rfl, hj, hk⟩
          have HJ : Hid (J vy (fun k => R k ∨ k = w.heap.size) (l.set i (p, (S.damage nm.data.toList n 0).1)) (r.set j (q, (S.damage nm.data.toList n 0).1))) := hj
          have HK : Hid (Blk vy w.heap.size [.int .i64 10, .string nm, .string to, .slice ba 0 bc, .int .i64 n, .slice pa pl pc]) := HK.out.kept hk (.inr rfl)
          have HP : Hid (Kp R w vy) := HP.out.trans hk (fun _ h => .inl h)
          clear hj hk
          have c1 := HK.out.cell 1 _ rfl
          have c2 := HK.out.cell 2 _ rfl
          have c3 := HK.out.cell 3 _ rfl
          have c4 := HK.out.cell 4 _ rfl
          have c5 := HK.out.cell 5 _ rfl))
    all_goals
      go_wp2
      go_ret
      exact ⟨ret1 (by simp), HH.out.less HJ.out (fun _ h => .inl h), HP.out⟩
  · have hd0 : decide ((0 : Int) < (bl : Int)) = true := by simp; omega
    have hbp : (0 : Int) < (bl : Int) := by omega
    have hby : BsAt w ba bl bc bs := HC.out.bytes
    obtain ⟨b, off, rfl, hcl⟩ := (hby.alloc (.cells #[.int .i64 10, .string nm, .string to, .slice ba bl bc, .int .i64 n, .slice pa pl pc] 35)).here (by omega)
    have d0 := hcl 0 (by omega)
    rw [Nat.add_zero] at d0
    rw [HTT.out] at d0
    clear hcl hb0 hby
    go_enter Try.func12, Try.ntmps12
    have HJ : Hid (J (w.alloc (.cells #[.int .i64 10, .string nm, .string to, .slice (some ⟨b, off, none⟩) bl bc, .int .i64 n, .slice pa pl pc] 35)).drew (fun k => R k ∨ k = w.heap.size) l r) := (HH.out.step (HX0.out _) (Below.refl _ _).drew)
    have HK : Hid (Blk (w.alloc (.cells #[.int .i64 10, .string nm, .string to, .slice (some ⟨b, off, none⟩) bl bc, .int .i64 n, .slice pa pl pc] 35)).drew w.heap.size [.int .i64 10, .string nm, .string to, .slice (some ⟨b, off, none⟩) bl bc, .int .i64 n, .slice pa pl pc]) := ((HK0.out _).below (Nat.le_refl _) (Below.refl _ _).drew)
    have HP : Hid (Kp R w (w.alloc (.cells #[.int .i64 10, .string nm, .string to, .slice (some ⟨b, off, none⟩) bl bc, .int .i64 n, .slice pa pl pc] 35)).drew) := Kp.of (HB0.out _).drew
    clear HJ0 HB0 HK0 HX0
    have c1 := HK.out.cell 1 _ rfl
    have c2 := HK.out.cell 2 _ rfl
    have c3 := HK.out.cell 3 _ rfl
    have c4 := HK.out.cell 4 _ rfl
    have c5 := HK.out.cell 5 _ rfl
    go_wp2_with fail
    go_region_held3 (fun w' => w'.cell? ⟨w.heap.size, 1, none⟩ = some (.string nm) ∧ w'.cell? ⟨w.heap.size, 2, none⟩ = some (.string to) ∧ w'.cell? ⟨w.heap.size, 4, none⟩ = some (.int .i64 n)) (first | exact ⟨c1, c2, c4⟩ | go_keep)
      (first
       | (go_at_call 28; refine (HH.out.damage i nm n t (ints64 HC.out.nWf) HJ.out HL.out).mono ?_; rintro e vx ⟨rfl, hj, hk⟩
          have HJ : Hid (J vx (fun k => R k ∨ k = w.heap.size) (l.set i (p, (S.damage nm.data.toList n t).1)) r) := hj
          have HK : Hid (Blk vx w.heap.size [.int .i64 10, .string nm, .string to, .slice (some ⟨b, off, none⟩) bl bc, .int .i64 n, .slice pa pl pc]) := HK.out.kept hk (.inr rfl)
          have HP : Hid (Kp R w vx) := HP.out.trans hk (fun _ h => .inl h)
          clear hj hk
          have c1 := HK.out.cell 1 _ rfl
          have c2 := HK.out.cell 2 _ rfl
          have c3 := HK.out.cell 3 _ rfl
          have c4 := HK.out.cell 4 _ rfl
          have c5 := HK.out.cell 5 _ rfl)
       | (go_at_call 39; refine (HG.out.damage j nm n t (ints64 HC.out.nWf) HJ.out HR.out).mono ?_; rintro e vy ⟨rfl, hj, hk⟩
          have HJ : Hid (J vy (fun k => R k ∨ k = w.heap.size) (l.set i (p, (S.damage nm.data.toList n t).1)) (r.set j (q, (S.damage nm.data.toList n t).1))) := hj
          have HK : Hid (Blk vy w.heap.size [.int .i64 10, .string nm, .string to, .slice (some ⟨b, off, none⟩) bl bc, .int .i64 n, .slice pa pl pc]) := HK.out.kept hk (.inr rfl)
          have HP : Hid (Kp R w vy) := HP.out.trans hk (fun _ h => .inl h)
          clear hj hk
          have c1 := HK.out.cell 1 _ rfl
          have c2 := HK.out.cell 2 _ rfl
          have c3 := HK.out.cell 3 _ rfl
          have c4 := HK.out.cell 4 _ rfl
          have c5 := HK.out.cell 5 _ rfl))
    all_goals
      go_wp2
      go_ret
      exact ⟨ret1 (by simp), HH.out.less HJ.out (fun _ h => .inl h), HP.out⟩
end Go.Proofs.Ytkelahekfkhcfaa
/- staddlelaw04.Asked, a call of kind 11: both file systems answer alike, out of what they promise. -/
namespace Go.Proofs.Ytkelahekfkhcfaa
open Go.RowKit
set_option maxRecDepth 100000 in
set_option maxHeartbeats 2000000 in
theorem askCrash {J : Face} (h : FsOk J) (g : RfOk J) {w : World} {R : Nat → Prop} {l r : Fss} {p q : Nat} {S : PFs} (i j : Nat) (c : CallV) (hj : J w R l r) (hl : l[i]? = some (p, S)) (hr : r[j]? = some (q, S)) (ha : S.asked < 1000000) (hc : c.Ok w) (hin : c.In R) (hbl : c.bc ≤ 140737488351232) (hk : c.kind = 11) :
    Calls Try.prog 12 #[at_ p, at_ q, .agg c.cells.toArray] w fun e w' => e = .returned (.bool true) ∧ J w' R (l.set i (p, stepC S c)) (r.set j (q, stepC S c)) ∧ Kp R w w' := by
  obtain ⟨kd, nm, to, ba, bl, bc, bs, n, pa, pl, pc, ps⟩ := c
  simp only at hk hbl
  subst hk
  have HE : Hid (stepC S ⟨11, nm, to, ba, bl, bc, bs, n, pa, pl, pc, ps⟩ = S.crash ps) := rfl
  have HH : Hid (FsOk J) := h
  have HG : Hid (RfOk J) := g
  have HC : Hid (CallV.Ok w ⟨11, nm, to, ba, bl, bc, bs, n, pa, pl, pc, ps⟩) := hc
  have HI : Hid (CallV.In R ⟨11, nm, to, ba, bl, bc, bs, n, pa, pl, pc, ps⟩) := hin
  have HL : Hid (l[i]? = some (p, S)) := hl
  have HR : Hid (r[j]? = some (q, S)) := hr
  have HA : Hid (S.asked < 1000000) := ha
  have HJ0 : Hid (J w R l r) := hj
  rw [HE.out]
  show Calls Try.prog 12 #[at_ p, at_ q, .agg #[.int .i64 11, .string nm, .string to, .slice ba bl bc, .int .i64 n, .slice pa pl pc]] w _
  clear h g hj hl hr ha hc hin
  have HB0 : Hid (∀ t : TypeId, Below w.heap.size w (w.alloc (.cells #[.int .i64 11, .string nm, .string to, .slice ba bl bc, .int .i64 n, .slice pa pl pc] t))) := fun t => (Below.refl _ _).alloc (Nat.le_refl _) _
  have HK0 : Hid (∀ t : TypeId, Blk (w.alloc (.cells #[.int .i64 11, .string nm, .string to, .slice ba bl bc, .int .i64 n, .slice pa pl pc] t)) w.heap.size [.int .i64 11, .string nm, .string to, .slice ba bl bc, .int .i64 n, .slice pa pl pc]) := fun t => Blk.new w _ t
  have HX0 : Hid (∀ t : TypeId, J (w.alloc (.cells #[.int .i64 11, .string nm, .string to, .slice ba bl bc, .int .i64 n, .slice pa pl pc] t)) (fun k => R k ∨ k = w.heap.size) l r) := fun t => HH.out.less (HH.out.turn HJ0.out (Chg.of (HB0.out t))) (fun k hk => hk.elim .inl (fun e => .inr ⟨by omega, by simp; omega⟩))
  go_enter Try.func12, Try.ntmps12
  have HJ : Hid (J (w.alloc (.cells #[.int .i64 11, .string nm, .string to, .slice ba bl bc, .int .i64 n, .slice pa pl pc] 35)) (fun k => R k ∨ k = w.heap.size) l r) := (HX0.out _)
  have HK : Hid (Blk (w.alloc (.cells #[.int .i64 11, .string nm, .string to, .slice ba bl bc, .int .i64 n, .slice pa pl pc] 35)) w.heap.size [.int .i64 11, .string nm, .string to, .slice ba bl bc, .int .i64 n, .slice pa pl pc]) := (HK0.out _)
  have HP : Hid (Kp R w (w.alloc (.cells #[.int .i64 11, .string nm, .string to, .slice ba bl bc, .int .i64 n, .slice pa pl pc] 35))) := Kp.of (HB0.out _)
  clear HJ0 HB0 HK0 HX0
  have c1 := HK.out.cell 1 _ rfl
  have c2 := HK.out.cell 2 _ rfl
  have c3 := HK.out.cell 3 _ rfl
  have c4 := HK.out.cell 4 _ rfl
  have c5 := HK.out.cell 5 _ rfl
  go_wp2_with fail
  refine (HH.out.crash i pa pl pc ps HJ.out HL.out (HC.out.picks.kept HP.out HI.out.picks) (fun h ad e => .inl (HI.out.picks h ad e))).mono ?_
  rintro e v1 ⟨rfl, hj, hk⟩
  have HJ : Hid (J v1 (fun k => R k ∨ k = w.heap.size) (l.set i (p, S.crash ps)) r) := hj
  have HK : Hid (Blk v1 w.heap.size [.int .i64 11, .string nm, .string to, .slice ba bl bc, .int .i64 n, .slice pa pl pc]) := HK.out.kept hk (.inr rfl)
  have HP : Hid (Kp R w v1) := HP.out.trans hk (fun _ h => .inl h)
  clear hj hk
  have c1 := HK.out.cell 1 _ rfl
  have c2 := HK.out.cell 2 _ rfl
  have c3 := HK.out.cell 3 _ rfl
  have c4 := HK.out.cell 4 _ rfl
  have c5 := HK.out.cell 5 _ rfl
  go_wp2_with fail
  refine (HG.out.crash j pa pl pc ps HJ.out HR.out (HC.out.picks.kept HP.out HI.out.picks) (fun h ad e => .inl (HI.out.picks h ad e))).mono ?_
  rintro e v2 ⟨rfl, hj, hk⟩
  have HJ : Hid (J v2 (fun k => R k ∨ k = w.heap.size) (l.set i (p, S.crash ps)) (r.set j (q, S.crash ps))) := hj
  have HK : Hid (Blk v2 w.heap.size [.int .i64 11, .string nm, .string to, .slice ba bl bc, .int .i64 n, .slice pa pl pc]) := HK.out.kept hk (.inr rfl)
  have HP : Hid (Kp R w v2) := HP.out.trans hk (fun _ h => .inl h)
  clear hj hk
  have c1 := HK.out.cell 1 _ rfl
  have c2 := HK.out.cell 2 _ rfl
  have c3 := HK.out.cell 3 _ rfl
  have c4 := HK.out.cell 4 _ rfl
  have c5 := HK.out.cell 5 _ rfl
  go_wp2_with fail
  go_ret
  exact ⟨ret1 (by simp), HH.out.less HJ.out (fun _ h => .inl h), HP.out⟩
end Go.Proofs.Ytkelahekfkhcfaa
/- staddlelaw04.Asked, a call of another kind: both file systems answer alike, out of what they promise. -/
namespace Go.Proofs.Ytkelahekfkhcfaa
open Go.RowKit
set_option maxRecDepth 100000 in
set_option maxHeartbeats 2000000 in
theorem askOther {J : Face} (h : FsOk J) (g : RfOk J) {w : World} {R : Nat → Prop} {l r : Fss} {p q : Nat} {S : PFs} (i j : Nat) (c : CallV) (hj : J w R l r) (hl : l[i]? = some (p, S)) (hr : r[j]? = some (q, S)) (ha : S.asked < 1000000) (hc : c.Ok w) (hin : c.In R) (hbl : c.bc ≤ 140737488351232) (hk : c.kind < 1 ∨ 11 < c.kind) :
    Calls Try.prog 12 #[at_ p, at_ q, .agg c.cells.toArray] w fun e w' => e = .returned (.bool true) ∧ J w' R (l.set i (p, stepC S c)) (r.set j (q, stepC S c)) ∧ Kp R w w' := by
  obtain ⟨kd, nm, to, ba, bl, bc, bs, n, pa, pl, pc, ps⟩ := c
  simp only at hk hbl
  have HE : Hid (stepC S ⟨kd, nm, to, ba, bl, bc, bs, n, pa, pl, pc, ps⟩ = S) := by
    unfold stepC Hid
    simp only
    rw [if_neg (by omega), if_neg (by omega), if_neg (by omega), if_neg (by omega), if_neg (by omega), if_neg (by omega), if_neg (by omega), if_neg (by omega), if_neg (by omega), if_neg (by omega)]
  have HH : Hid (FsOk J) := h
  have HG : Hid (RfOk J) := g
  have HC : Hid (CallV.Ok w ⟨kd, nm, to, ba, bl, bc, bs, n, pa, pl, pc, ps⟩) := hc
  have HI : Hid (CallV.In R ⟨kd, nm, to, ba, bl, bc, bs, n, pa, pl, pc, ps⟩) := hin
  have HL : Hid (l[i]? = some (p, S)) := hl
  have HR : Hid (r[j]? = some (q, S)) := hr
  have HA : Hid (S.asked < 1000000) := ha
  have HJ0 : Hid (J w R l r) := hj
  rw [HE.out]
  show Calls Try.prog 12 #[at_ p, at_ q, .agg #[.int .i64 kd, .string nm, .string to, .slice ba bl bc, .int .i64 n, .slice pa pl pc]] w _
  clear h g hj hl hr ha hc hin
  have HB0 : Hid (∀ t : TypeId, Below w.heap.size w (w.alloc (.cells #[.int .i64 kd, .string nm, .string to, .slice ba bl bc, .int .i64 n, .slice pa pl pc] t))) := fun t => (Below.refl _ _).alloc (Nat.le_refl _) _
  have HK0 : Hid (∀ t : TypeId, Blk (w.alloc (.cells #[.int .i64 kd, .string nm, .string to, .slice ba bl bc, .int .i64 n, .slice pa pl pc] t)) w.heap.size [.int .i64 kd, .string nm, .string to, .slice ba bl bc, .int .i64 n, .slice pa pl pc]) := fun t => Blk.new w _ t
  have HX0 : Hid (∀ t : TypeId, J (w.alloc (.cells #[.int .i64 kd, .string nm, .string to, .slice ba bl bc, .int .i64 n, .slice pa pl pc] t)) (fun k => R k ∨ k = w.heap.size) l r) := fun t => HH.out.less (HH.out.turn HJ0.out (Chg.of (HB0.out t))) (fun k hk => hk.elim .inl (fun e => .inr ⟨by omega, by simp; omega⟩))
  have k1 : (kd == 1) = false := by simp; omega
  have k2 : (kd == 2) = false := by simp; omega
  have k3 : (kd == 3) = false := by simp; omega
  have k4 : (kd == 4) = false := by simp; omega
  have k5 : (kd == 5) = false := by simp; omega
  have k6 : (kd == 6) = false := by simp; omega
  have k7 : (kd == 7) = false := by simp; omega
  have k8 : (kd == 8) = false := by simp; omega
  have k9 : (kd == 9) = false := by simp; omega
  have k10 : (kd == 10) = false := by simp; omega
  have k11 : (kd == 11) = false := by simp; omega
  clear hk
  rw [set_same HL.out, set_same HR.out]
  go_enter Try.func12, Try.ntmps12
  have HJ : Hid (J (w.alloc (.cells #[.int .i64 kd, .string nm, .string to, .slice ba bl bc, .int .i64 n, .slice pa pl pc] 35)) (fun k => R k ∨ k = w.heap.size) l r) := (HX0.out _)
  have HK : Hid (Blk (w.alloc (.cells #[.int .i64 kd, .string nm, .string to, .slice ba bl bc, .int .i64 n, .slice pa pl pc] 35)) w.heap.size [.int .i64 kd, .string nm, .string to, .slice ba bl bc, .int .i64 n, .slice pa pl pc]) := (HK0.out _)
  have HP : Hid (Kp R w (w.alloc (.cells #[.int .i64 kd, .string nm, .string to, .slice ba bl bc, .int .i64 n, .slice pa pl pc] 35))) := Kp.of (HB0.out _)
  clear HJ0 HB0 HK0 HX0
  have c0 := HK.out.cell 0 _ rfl
  have c1 := HK.out.cell 1 _ rfl
  have c2 := HK.out.cell 2 _ rfl
  have c3 := HK.out.cell 3 _ rfl
  have c4 := HK.out.cell 4 _ rfl
  have c5 := HK.out.cell 5 _ rfl
  go_wp2_with fail
  go_ret
  exact ⟨ret1 rfl, HH.out.less HJ.out (fun _ h => .inl h), HP.out⟩
end Go.Proofs.Ytkelahekfkhcfaa
/- staddlelaw04.Asked: whatever the call, both file systems answer alike, and are alike behind it. -/
namespace Go.Proofs.Ytkelahekfkhcfaa
open Go.RowKit
theorem asked_any {J : Face} (h : FsOk J) (g : RfOk J) {w : World} {R : Nat → Prop} {l r : Fss} {p q : Nat} {S : PFs} (i j : Nat) (c : CallV) (hj : J w R l r) (hl : l[i]? = some (p, S)) (hr : r[j]? = some (q, S)) (ha : S.asked < 1000000) (hc : c.Ok w) (hin : c.In R) (hbl : c.bc ≤ 140737488351232) :
    Calls Try.prog 12 #[at_ p, at_ q, .agg c.cells.toArray] w fun e w' => e = .returned (.bool true) ∧ J w' R (l.set i (p, stepC S c)) (r.set j (q, stepC S c)) ∧ Kp R w w' := by
  by_cases h0 : c.kind < 1 ∨ 11 < c.kind
  · exact askOther h g i j c hj hl hr ha hc hin hbl h0
  · rcases (by omega : c.kind = 1 ∨ c.kind = 2 ∨ c.kind = 3 ∨ c.kind = 4 ∨ c.kind = 5 ∨ c.kind = 6 ∨ c.kind = 7 ∨ c.kind = 8 ∨ c.kind = 9 ∨ c.kind = 10 ∨ c.kind = 11) with k | k | k | k | k | k | k | k | k | k | k
    · exact askCreate h g i j c hj hl hr ha hc hin hbl k
    · exact askAppend h g i j c hj hl hr ha hc hin hbl k
    · exact askSync h g i j c hj hl hr ha hc hin hbl k
    · exact askRename h g i j c hj hl hr ha hc hin hbl k
    · exact askRemove h g i j c hj hl hr ha hc hin hbl k
    · exact askSyncDir h g i j c hj hl hr ha hc hin hbl k
    · exact askRead h g i j c hj hl hr ha hc hin hbl k
    · exact askFuse h g i j c hj hl hr ha hc hin hbl k
    · exact askFail h g i j c hj hl hr ha hc hin hbl k
    · exact askDamage h g i j c hj hl hr ha hc hin hbl k
    · exact askCrash h g i j c hj hl hr ha hc hin hbl k
end Go.Proofs.Ytkelahekfkhcfaa
