/- staddlelaw04.SimfsNil returns true, for every argument, and leaves memory as it was: out of what simfs promises. -/
import Derived.Test.YtfabgiapekfgcaaAwake4
import Derived.Test.YtfabgiapekfgcaaFsNil
import Derived.Test.YtfabgiapekfgcaaArgs5
namespace Go.Proofs.Ytfabgiapekfgcaa
open Go.RowKit
set_option maxRecDepth 100000 in
set_option maxHeartbeats 2000000 in
theorem simfsNil_of {J : Face} (h : FsOk J) (hn : FsNil) (c : CallV) (w : World) :
    Calls Try.prog 7 #[.agg c.cells.toArray] w fun e w' => e = .returned (.bool true) ∧ Below w.heap.size w w' := by
  obtain ⟨kd, nm, to, ba, bl, bc, bs, n, pa, pl, pc, ps⟩ := c
  have HH : Hid (FsOk J) := h
  have HN : Hid FsNil := hn
  have HB0 : Hid (∀ t : TypeId, Blk (w.alloc (.cells #[.int .i64 kd, .string nm, .string to, .slice ba bl bc, .int .i64 n, .slice pa pl pc] t)) w.heap.size [.int .i64 kd, .string nm, .string to, .slice ba bl bc, .int .i64 n, .slice pa pl pc]) := fun t => Blk.new w _ t
  show Calls Try.prog 7 #[.agg #[.int .i64 kd, .string nm, .string to, .slice ba bl bc, .int .i64 n, .slice pa pl pc]] w _
  clear h hn
  go_enter Try.func7, Try.ntmps7
  go_wp2_with fail
  refine (awake_any HH.out _).mono ?_
  rintro e v1 ⟨rfl, hb⟩
  have HB1 : Hid (Below w.heap.size w v1) := ((Below.refl _ _).alloc (Nat.le_refl _) _).trans (hb.mono (by simp))
  have HK1 : Hid (Blk v1 w.heap.size [.int .i64 kd, .string nm, .string to, .slice ba bl bc, .int .i64 n, .slice pa pl pc]) := (HB0.out _).below (Nat.le_refl _) hb
  clear hb HB0
  have c1 := HK1.out.cell 1 _ rfl
  have c2 := HK1.out.cell 2 _ rfl
  have c3 := HK1.out.cell 3 _ rfl
  have c4 := HK1.out.cell 4 _ rfl
  have c5 := HK1.out.cell 5 _ rfl
  go_wp2_with fail
  refine (HN.out.read _ nm).mono ?_
  rintro e v2 ⟨a2, k2, rfl, hb⟩
  have HB2 : Hid (Below w.heap.size w v2) := HB1.out.trans (hb.mono HB1.out.size)
  have HK2 : Hid (Blk v2 w.heap.size [.int .i64 kd, .string nm, .string to, .slice ba bl bc, .int .i64 n, .slice pa pl pc]) := HK1.out.below (Nat.le_refl _) hb
  clear hb HB1 HK1 c1 c2 c3 c4 c5
  have c1 := HK2.out.cell 1 _ rfl
  have c2 := HK2.out.cell 2 _ rfl
  have c3 := HK2.out.cell 3 _ rfl
  have c4 := HK2.out.cell 4 _ rfl
  have c5 := HK2.out.cell 5 _ rfl
  go_wp2_with fail
  refine (HN.out.list _).mono ?_
  rintro e v3 ⟨a3, k3, rfl, hb⟩
  have HB3 : Hid (Below w.heap.size w v3) := HB2.out.trans (hb.mono HB2.out.size)
  have HK3 : Hid (Blk v3 w.heap.size [.int .i64 kd, .string nm, .string to, .slice ba bl bc, .int .i64 n, .slice pa pl pc]) := HK2.out.below (Nat.le_refl _) hb
  clear hb HB2 HK2 c1 c2 c3 c4 c5
  have c1 := HK3.out.cell 1 _ rfl
  have c2 := HK3.out.cell 2 _ rfl
  have c3 := HK3.out.cell 3 _ rfl
  have c4 := HK3.out.cell 4 _ rfl
  have c5 := HK3.out.cell 5 _ rfl
  go_wp2_with fail
  refine (HN.out.fuse _ n).mono ?_
  rintro e v4 ⟨rfl, hb⟩
  have HB4 : Hid (Below w.heap.size w v4) := HB3.out.trans (hb.mono HB3.out.size)
  have HK4 : Hid (Blk v4 w.heap.size [.int .i64 kd, .string nm, .string to, .slice ba bl bc, .int .i64 n, .slice pa pl pc]) := HK3.out.below (Nat.le_refl _) hb
  clear hb HB3 HK3 c1 c2 c3 c4 c5
  have c1 := HK4.out.cell 1 _ rfl
  have c2 := HK4.out.cell 2 _ rfl
  have c3 := HK4.out.cell 3 _ rfl
  have c4 := HK4.out.cell 4 _ rfl
  have c5 := HK4.out.cell 5 _ rfl
  go_wp2_with fail
  refine (HN.out.fail _ n).mono ?_
  rintro e v5 ⟨rfl, hb⟩
  have HB5 : Hid (Below w.heap.size w v5) := HB4.out.trans (hb.mono HB4.out.size)
  have HK5 : Hid (Blk v5 w.heap.size [.int .i64 kd, .string nm, .string to, .slice ba bl bc, .int .i64 n, .slice pa pl pc]) := HK4.out.below (Nat.le_refl _) hb
  clear hb HB4 HK4 c1 c2 c3 c4 c5
  have c1 := HK5.out.cell 1 _ rfl
  have c2 := HK5.out.cell 2 _ rfl
  have c3 := HK5.out.cell 3 _ rfl
  have c4 := HK5.out.cell 4 _ rfl
  have c5 := HK5.out.cell 5 _ rfl
  go_wp2_with fail
  refine (HN.out.crash _ pa pl pc).mono ?_
  rintro e v6 ⟨rfl, hb⟩
  have HB6 : Hid (Below w.heap.size w v6) := HB5.out.trans (hb.mono HB5.out.size)
  have HK6 : Hid (Blk v6 w.heap.size [.int .i64 kd, .string nm, .string to, .slice ba bl bc, .int .i64 n, .slice pa pl pc]) := HK5.out.below (Nat.le_refl _) hb
  clear hb HB5 HK5 c1 c2 c3 c4 c5
  have c1 := HK6.out.cell 1 _ rfl
  have c2 := HK6.out.cell 2 _ rfl
  have c3 := HK6.out.cell 3 _ rfl
  have c4 := HK6.out.cell 4 _ rfl
  have c5 := HK6.out.cell 5 _ rfl
  go_wp2_with fail
  refine (HN.out.create _ nm).mono ?_
  rintro e v7 ⟨rfl, hb⟩
  have HB7 : Hid (Below w.heap.size w v7) := HB6.out.trans (hb.mono HB6.out.size)
  have HK7 : Hid (Blk v7 w.heap.size [.int .i64 kd, .string nm, .string to, .slice ba bl bc, .int .i64 n, .slice pa pl pc]) := HK6.out.below (Nat.le_refl _) hb
  clear hb HB6 HK6 c1 c2 c3 c4 c5
  have c1 := HK7.out.cell 1 _ rfl
  have c2 := HK7.out.cell 2 _ rfl
  have c3 := HK7.out.cell 3 _ rfl
  have c4 := HK7.out.cell 4 _ rfl
  have c5 := HK7.out.cell 5 _ rfl
  go_wp2_with fail
  refine (HN.out.append _ nm ba bl bc).mono ?_
  rintro e v8 ⟨rfl, hb⟩
  have HB8 : Hid (Below w.heap.size w v8) := HB7.out.trans (hb.mono HB7.out.size)
  have HK8 : Hid (Blk v8 w.heap.size [.int .i64 kd, .string nm, .string to, .slice ba bl bc, .int .i64 n, .slice pa pl pc]) := HK7.out.below (Nat.le_refl _) hb
  clear hb HB7 HK7 c1 c2 c3 c4 c5
  have c1 := HK8.out.cell 1 _ rfl
  have c2 := HK8.out.cell 2 _ rfl
  have c3 := HK8.out.cell 3 _ rfl
  have c4 := HK8.out.cell 4 _ rfl
  have c5 := HK8.out.cell 5 _ rfl
  go_wp2_with fail
  refine (HN.out.sync _ nm).mono ?_
  rintro e v9 ⟨rfl, hb⟩
  have HB9 : Hid (Below w.heap.size w v9) := HB8.out.trans (hb.mono HB8.out.size)
  have HK9 : Hid (Blk v9 w.heap.size [.int .i64 kd, .string nm, .string to, .slice ba bl bc, .int .i64 n, .slice pa pl pc]) := HK8.out.below (Nat.le_refl _) hb
  clear hb HB8 HK8 c1 c2 c3 c4 c5
  have c1 := HK9.out.cell 1 _ rfl
  have c2 := HK9.out.cell 2 _ rfl
  have c3 := HK9.out.cell 3 _ rfl
  have c4 := HK9.out.cell 4 _ rfl
  have c5 := HK9.out.cell 5 _ rfl
  go_wp2_with fail
  refine (HN.out.rename _ nm to).mono ?_
  rintro e v10 ⟨rfl, hb⟩
  have HB10 : Hid (Below w.heap.size w v10) := HB9.out.trans (hb.mono HB9.out.size)
  have HK10 : Hid (Blk v10 w.heap.size [.int .i64 kd, .string nm, .string to, .slice ba bl bc, .int .i64 n, .slice pa pl pc]) := HK9.out.below (Nat.le_refl _) hb
  clear hb HB9 HK9 c1 c2 c3 c4 c5
  have c1 := HK10.out.cell 1 _ rfl
  have c2 := HK10.out.cell 2 _ rfl
  have c3 := HK10.out.cell 3 _ rfl
  have c4 := HK10.out.cell 4 _ rfl
  have c5 := HK10.out.cell 5 _ rfl
  go_wp2_with fail
  refine (HN.out.remove _ nm).mono ?_
  rintro e v11 ⟨rfl, hb⟩
  have HB11 : Hid (Below w.heap.size w v11) := HB10.out.trans (hb.mono HB10.out.size)
  have HK11 : Hid (Blk v11 w.heap.size [.int .i64 kd, .string nm, .string to, .slice ba bl bc, .int .i64 n, .slice pa pl pc]) := HK10.out.below (Nat.le_refl _) hb
  clear hb HB10 HK10 c1 c2 c3 c4 c5
  have c1 := HK11.out.cell 1 _ rfl
  have c2 := HK11.out.cell 2 _ rfl
  have c3 := HK11.out.cell 3 _ rfl
  have c4 := HK11.out.cell 4 _ rfl
  have c5 := HK11.out.cell 5 _ rfl
  go_wp2_with fail
  refine (HN.out.syncDir _).mono ?_
  rintro e v12 ⟨rfl, hb⟩
  have HB12 : Hid (Below w.heap.size w v12) := HB11.out.trans (hb.mono HB11.out.size)
  have HK12 : Hid (Blk v12 w.heap.size [.int .i64 kd, .string nm, .string to, .slice ba bl bc, .int .i64 n, .slice pa pl pc]) := HK11.out.below (Nat.le_refl _) hb
  clear hb HB11 HK11 c1 c2 c3 c4 c5
  have c1 := HK12.out.cell 1 _ rfl
  have c2 := HK12.out.cell 2 _ rfl
  have c3 := HK12.out.cell 3 _ rfl
  have c4 := HK12.out.cell 4 _ rfl
  have c5 := HK12.out.cell 5 _ rfl
  go_wp2_with fail
  refine (HN.out.damage _ nm n 1).mono ?_
  rintro e v13 ⟨rfl, hb⟩
  have HB13 : Hid (Below w.heap.size w v13) := HB12.out.trans (hb.mono HB12.out.size)
  have HK13 : Hid (Blk v13 w.heap.size [.int .i64 kd, .string nm, .string to, .slice ba bl bc, .int .i64 n, .slice pa pl pc]) := HK12.out.below (Nat.le_refl _) hb
  clear hb HB12 HK12 c1 c2 c3 c4 c5
  have c1 := HK13.out.cell 1 _ rfl
  have c2 := HK13.out.cell 2 _ rfl
  have c3 := HK13.out.cell 3 _ rfl
  have c4 := HK13.out.cell 4 _ rfl
  have c5 := HK13.out.cell 5 _ rfl
  go_wp2_with fail
  refine (HN.out.ops _).mono ?_
  rintro e v14 ⟨rfl, hb⟩
  have HB14 : Hid (Below w.heap.size w v14) := HB13.out.trans (hb.mono HB13.out.size)
  have HK14 : Hid (Blk v14 w.heap.size [.int .i64 kd, .string nm, .string to, .slice ba bl bc, .int .i64 n, .slice pa pl pc]) := HK13.out.below (Nat.le_refl _) hb
  clear hb HB13 HK13 c1 c2 c3 c4 c5
  have c1 := HK14.out.cell 1 _ rfl
  have c2 := HK14.out.cell 2 _ rfl
  have c3 := HK14.out.cell 3 _ rfl
  have c4 := HK14.out.cell 4 _ rfl
  have c5 := HK14.out.cell 5 _ rfl
  go_wp2_with fail
  refine (HN.out.copy _).mono ?_
  rintro e v15 ⟨rfl, hb⟩
  have HB15 : Hid (Below w.heap.size w v15) := HB14.out.trans (hb.mono HB14.out.size)
  have HK15 : Hid (Blk v15 w.heap.size [.int .i64 kd, .string nm, .string to, .slice ba bl bc, .int .i64 n, .slice pa pl pc]) := HK14.out.below (Nat.le_refl _) hb
  clear hb HB14 HK14 c1 c2 c3 c4 c5
  go_wp2_with fail
  go_ret
  exact ⟨rfl, HB15.out⟩
end Go.Proofs.Ytfabgiapekfgcaa
