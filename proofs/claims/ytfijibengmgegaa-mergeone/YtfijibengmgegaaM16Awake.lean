/- The statements' awake says yes, by what is asked of merge's iterator. -/
import Derived.Test.YtfijibengmgegaaQa06
namespace Go.Proofs.Ytfijibengmgegaa
open Go.RowKit
set_option linter.unusedVariables false
set_option linter.unusedSimpArgs false
def w16a : KV := (⟨⟨#[97]⟩, 2, 0⟩, ⟨#[]⟩)
def w16b : KV := (⟨⟨#[98]⟩, 1, 0⟩, ⟨#[]⟩)
def w16c : KV := (⟨⟨#[97]⟩, 3, 0⟩, ⟨#[]⟩)
def w16L : List (List KV) := [[w16a, w16b], [w16c]]
theorem cmp16 (s t : Array UInt8) (q r : Nat) (k l : Int) : IK.cmp ⟨⟨s⟩, q, k⟩ ⟨⟨t⟩, r, l⟩ = kcmp s.toList t.toList (q : Int) (r : Int) k l := by
  unfold IK.cmp
  simp only
  rw [ByteArray.toList_eq, ByteArray.toList_eq]
theorem w16ca : w16c.1.cmp w16a.1 < 0 := by show IK.cmp ⟨⟨#[97]⟩, 3, 0⟩ ⟨⟨#[97]⟩, 2, 0⟩ < 0; rw [cmp16]; decide +kernel
theorem w16ab : w16a.1.cmp w16b.1 < 0 := by show IK.cmp ⟨⟨#[97]⟩, 2, 0⟩ ⟨⟨#[98]⟩, 1, 0⟩ < 0; rw [cmp16]; decide +kernel
theorem w16_rise : RiseL w16L := fun l hl => by
  simp only [w16L, List.mem_cons, List.not_mem_nil, or_false] at hl
  rcases hl with rfl | rfl
  · exact List.Pairwise.cons (fun x hx => by simp only [List.mem_cons, List.not_mem_nil, or_false] at hx; subst hx; exact w16ab) (List.Pairwise.cons (fun x hx => absurd hx (by simp)) List.Pairwise.nil)
  · exact List.Pairwise.cons (fun x hx => absurd hx (by simp)) List.Pairwise.nil
theorem w16_all : allL w16L = [w16c, w16a, w16b] := by
  have hlen : (allP w16L).length = 3 := by rw [all_len]; rfl
  have h := run_whole w16_rise (f := 3) (by omega)
  unfold allL
  rw [← h]
  have h1 : cmpL w16L (1, 0) (0, 0) < 0 := w16ca
  simp [runAll, bestP, upV, lenL, w16L, h1] at h1 ⊢
  simp [h1, entL]
def a16one : Array Value := #[.string ⟨#[97]⟩, .int .u64 2, .int .i64 0, .string ⟨#[]⟩, .string ⟨#[98]⟩, .int .u64 1, .int .i64 0, .string ⟨#[]⟩]
def a16two : Array Value := #[.string ⟨#[97]⟩, .int .u64 3, .int .i64 0, .string ⟨#[]⟩]
def a16row (n : Nat) : Array Value := #[.slice (some ⟨n, 0, none⟩) 2 2, .slice (some ⟨n + 1, 0, none⟩) 1 1]
abbrev TRow : TypeId := 26
theorem KsAt.box {W : World} {q : Nat} {arr : Array Value} {l : List KV} {n : Nat} (h : Box W q TKV arr) (e : arr.toList = cellsKV l) (hn : l.length = n) (hm : n ≤ 1000000) : KsAt W (some ⟨q, 0, none⟩) n n l :=
  ⟨hn, Nat.le_refl _, by unfold maxLen; omega, fun _ => ⟨q, 0, rfl, fun j hj => by rw [Nat.zero_add, h.cell, ← Array.getElem?_toList, e]⟩⟩
theorem ls16 {W : World} {n : Nat} (h1 : Box W n TKV a16one) (h2 : Box W (n + 1) TKV a16two) (h3 : Box W (n + 2) TRow (a16row n)) : LsAt W (some ⟨n + 2, 0, none⟩) 2 2 w16L := by
  refine ⟨rfl, Nat.le_refl _, by unfold maxLen; omega, fun e => (by cases e), fun _ => ⟨n + 2, 0, rfl, fun i hi => ?_⟩⟩
  rcases (show i = 0 ∨ i = 1 by omega) with rfl | rfl
  · exact ⟨some ⟨n, 0, none⟩, 2, h3.cell 0, KsAt.box h1 rfl rfl (by decide), fun e => (by cases e)⟩
  · exact ⟨some ⟨n + 1, 0, none⟩, 1, h3.cell 1, KsAt.box h2 rfl rfl (by decide), fun e => (by cases e)⟩
set_option maxRecDepth 100000 in
set_option maxHeartbeats 4000000 in
theorem awake16 {D : MgRel} (F : MgOk D) (w : World) : Calls Try.prog 9 #[] w fun e w' => e = .returned (.bool true) ∧ Below w.heap.size w w' := by
  obtain ⟨W3, eW⟩ : ∃ W3, W3 = ((w.alloc (.cells a16one TKV)).alloc (.cells a16two TKV)).alloc (.cells (a16row w.heap.size) TRow) := ⟨_, rfl⟩
  have H3 : Hid (Below w.heap.size w W3 ∧ Box W3 w.heap.size TKV a16one ∧ Box W3 (w.heap.size + 1) TKV a16two ∧ Box W3 (w.heap.size + 2) TRow (a16row w.heap.size) ∧ W3.heap.size = w.heap.size + 3) := by
    rw [eW]
    refine ⟨(((Below.refl _ _).alloc (Nat.le_refl _) _).alloc (by simp) _).alloc (by simp; omega) _, ((Box.new _ _ _).alloc _).alloc _, ?_, ?_, by simp⟩
    · have := (Box.new (w.alloc (.cells a16one TKV)) TKV a16two).alloc (.cells (a16row w.heap.size) TRow)
      simpa using this
    · have := Box.new ((w.alloc (.cells a16one TKV)).alloc (.cells a16two TKV)) TRow (a16row w.heap.size)
      simpa using this
  have HNEW := F.new (some ⟨w.heap.size + 2, 0, none⟩) 2 2 w16L W3 (ls16 H3.out.2.1 H3.out.2.2.1 H3.out.2.2.2.1) ⟨by decide, by rw [w16_all]; decide⟩
  have HN : Hid (Calls Try.prog 11 #[.slice (some ⟨w.heap.size + 2, 0, none⟩) 2 2] W3 fun e w' => Below W3.heap.size W3 w' ∧ ∃ p R, e = .returned (.tuple #[at_ p, .int .i64 0]) ∧ D w' R p w16L none ∧ ∀ k, R k → W3.heap.size ≤ k) := HNEW.mono fun e w' ⟨h1, h2⟩ => by
    rcases h2 with ⟨_, h2⟩ | ⟨h2, _⟩
    · exact ⟨h1, h2⟩
    · exact absurd w16_rise h2
  clear HNEW
  unfold a16one a16two a16row TRow at eW
  go_enter Try.func9, Try.ntmps9
  go_wp2_with fail
  rw [← eW]
  refine HN.out.mono ?_
  rintro _ V0 ⟨hb0, p, R0, rfl, hd0, hR0⟩
  have S0 : Hid (MgS D W3 W3.heap.size V0 R0 p w16L none (fun _ => False)) := MgS.made hd0 hb0 hb0.size hR0
  clear hb0 hd0 hR0 HN eW
  go_wp2_with fail
  refine (F.first S0.out.it).mono ?_
  rintro _ V1 ⟨rfl, hp1⟩
  obtain ⟨R1, h1, k1, z1⟩ := S0.out.step hp1
  have S1 : Hid (MgS D W3 W3.heap.size V1 R1 p w16L (some 0) (fun _ => False)) := by
    rw [show (some 0 : Option Nat) = goP (allL w16L) 1 kvZ.1 (none) by rw [w16_all]; rfl]
    exact h1
  clear S0 hp1 h1 k1 z1
  have hA : Calls Try.prog 13 #[at_ p] V1 fun e w' => e = .returned (.tuple #[.agg #[.string ⟨#[97]⟩, .int .u64 3, .int .i64 0, .string ⟨#[]⟩], .bool true]) ∧ MgPost D R1 p w16L (some 0) V1 w' := by
    have := F.at' S1.out.it
    rw [w16_all] at this
    exact this
  go_wp2_with fail
  refine hA.mono ?_
  rintro _ U1 ⟨rfl, hp2⟩
  obtain ⟨R2, h2, k2, z2⟩ := S1.out.step hp2
  have HX : Hid (Box (U1.alloc (.cells #[.string ⟨#[97]⟩, .int .u64 3, .int .i64 0, .string ⟨#[]⟩] TKV)) U1.heap.size TKV #[.string ⟨#[97]⟩, .int .u64 3, .int .i64 0, .string ⟨#[]⟩] ∧ MgS D W3 W3.heap.size (U1.alloc (.cells #[.string ⟨#[97]⟩, .int .u64 3, .int .i64 0, .string ⟨#[]⟩] TKV)) R2 p w16L (some 0) (fun k => (fun _ => False) k ∨ k = U1.heap.size)) := ⟨Box.new _ _ _, h2.alloc F _⟩
  clear S1 hp2 h2 k2 z2 hA
  go_wp2_with fail
  obtain ⟨V2, eV⟩ : ∃ V, V = U1.alloc (.cells #[.string ⟨#[97]⟩, .int .u64 3, .int .i64 0, .string ⟨#[]⟩] TKV) := ⟨_, rfl⟩
  obtain ⟨e0, ee⟩ : ∃ e, e = U1.heap.size := ⟨_, rfl⟩
  rw [← eV, ← ee] at HX
  rw [← eV]
  try rw [← ee]
  have S2 : Hid (MgS D W3 W3.heap.size V2 R2 p w16L (some 0) (fun k => (fun _ => False) k ∨ k = e0)) := HX.out.2
  have B20 : Hid (Box V2 e0 TKV #[.string ⟨#[97]⟩, .int .u64 3, .int .i64 0, .string ⟨#[]⟩]) := HX.out.1
  clear eV ee HX
  go_wp2_with fail
  refine (F.next S2.out.it).mono ?_
  rintro _ V3 ⟨rfl, hp3⟩
  obtain ⟨R3, h3, k3, z3⟩ := S2.out.step hp3
  have S3 : Hid (MgS D W3 W3.heap.size V3 R3 p w16L (some 1) (fun k => (fun _ => False) k ∨ k = e0)) := by
    rw [show (some 1 : Option Nat) = goP (allL w16L) 4 kvZ.1 (some 0) by rw [w16_all]; rfl]
    exact h3
  have B30 : Hid (Box V3 e0 TKV #[.string ⟨#[97]⟩, .int .u64 3, .int .i64 0, .string ⟨#[]⟩]) := B20.out.kept (k3 _ (.inr rfl))
  clear S2 hp3 h3 k3 z3 B20
  have hA : Calls Try.prog 13 #[at_ p] V3 fun e w' => e = .returned (.tuple #[.agg #[.string ⟨#[97]⟩, .int .u64 2, .int .i64 0, .string ⟨#[]⟩], .bool true]) ∧ MgPost D R3 p w16L (some 1) V3 w' := by
    have := F.at' S3.out.it
    rw [w16_all] at this
    exact this
  go_wp2_with fail
  refine hA.mono ?_
  rintro _ U3 ⟨rfl, hp4⟩
  obtain ⟨R4, h4, k4, z4⟩ := S3.out.step hp4
  have HX : Hid (Box (U3.alloc (.cells #[.string ⟨#[97]⟩, .int .u64 2, .int .i64 0, .string ⟨#[]⟩] TKV)) U3.heap.size TKV #[.string ⟨#[97]⟩, .int .u64 2, .int .i64 0, .string ⟨#[]⟩] ∧ MgS D W3 W3.heap.size (U3.alloc (.cells #[.string ⟨#[97]⟩, .int .u64 2, .int .i64 0, .string ⟨#[]⟩] TKV)) R4 p w16L (some 1) (fun k => (fun k => (fun _ => False) k ∨ k = e0) k ∨ k = U3.heap.size)) := ⟨Box.new _ _ _, h4.alloc F _⟩
  have C40 : Hid (Box (U3.alloc (.cells #[.string ⟨#[97]⟩, .int .u64 2, .int .i64 0, .string ⟨#[]⟩] TKV)) e0 TKV #[.string ⟨#[97]⟩, .int .u64 3, .int .i64 0, .string ⟨#[]⟩]) := (B30.out.kept (k4 _ (.inr rfl))).alloc _
  clear S3 hp4 h4 k4 z4 hA B30
  go_wp2_with fail
  obtain ⟨V4, eV⟩ : ∃ V, V = U3.alloc (.cells #[.string ⟨#[97]⟩, .int .u64 2, .int .i64 0, .string ⟨#[]⟩] TKV) := ⟨_, rfl⟩
  obtain ⟨e1, ee⟩ : ∃ e, e = U3.heap.size := ⟨_, rfl⟩
  rw [← eV, ← ee] at HX
  rw [← eV]
  try rw [← ee]
  have B40 : Hid (Box V4 e0 TKV #[.string ⟨#[97]⟩, .int .u64 3, .int .i64 0, .string ⟨#[]⟩]) := by rw [eV]; exact C40.out
  clear C40
  have S4 : Hid (MgS D W3 W3.heap.size V4 R4 p w16L (some 1) (fun k => (fun k => (fun _ => False) k ∨ k = e0) k ∨ k = e1)) := HX.out.2
  have B41 : Hid (Box V4 e1 TKV #[.string ⟨#[97]⟩, .int .u64 2, .int .i64 0, .string ⟨#[]⟩]) := HX.out.1
  clear eV ee HX
  go_wp2_with fail
  refine (F.prev S4.out.it).mono ?_
  rintro _ V5 ⟨rfl, hp5⟩
  obtain ⟨R5, h5, k5, z5⟩ := S4.out.step hp5
  have S5 : Hid (MgS D W3 W3.heap.size V5 R5 p w16L (some 0) (fun k => (fun k => (fun _ => False) k ∨ k = e0) k ∨ k = e1)) := by
    rw [show (some 0 : Option Nat) = goP (allL w16L) 5 kvZ.1 (some 1) by rw [w16_all]; rfl]
    exact h5
  have B50 : Hid (Box V5 e0 TKV #[.string ⟨#[97]⟩, .int .u64 3, .int .i64 0, .string ⟨#[]⟩]) := B40.out.kept (k5 _ (.inl (.inr rfl)))
  have B51 : Hid (Box V5 e1 TKV #[.string ⟨#[97]⟩, .int .u64 2, .int .i64 0, .string ⟨#[]⟩]) := B41.out.kept (k5 _ (.inr rfl))
  clear S4 hp5 h5 k5 z5 B40 B41
  have hA : Calls Try.prog 13 #[at_ p] V5 fun e w' => e = .returned (.tuple #[.agg #[.string ⟨#[97]⟩, .int .u64 3, .int .i64 0, .string ⟨#[]⟩], .bool true]) ∧ MgPost D R5 p w16L (some 0) V5 w' := by
    have := F.at' S5.out.it
    rw [w16_all] at this
    exact this
  go_wp2_with fail
  refine hA.mono ?_
  rintro _ U5 ⟨rfl, hp6⟩
  obtain ⟨R6, h6, k6, z6⟩ := S5.out.step hp6
  have HX : Hid (Box (U5.alloc (.cells #[.string ⟨#[97]⟩, .int .u64 3, .int .i64 0, .string ⟨#[]⟩] TKV)) U5.heap.size TKV #[.string ⟨#[97]⟩, .int .u64 3, .int .i64 0, .string ⟨#[]⟩] ∧ MgS D W3 W3.heap.size (U5.alloc (.cells #[.string ⟨#[97]⟩, .int .u64 3, .int .i64 0, .string ⟨#[]⟩] TKV)) R6 p w16L (some 0) (fun k => (fun k => (fun k => (fun _ => False) k ∨ k = e0) k ∨ k = e1) k ∨ k = U5.heap.size)) := ⟨Box.new _ _ _, h6.alloc F _⟩
  have C60 : Hid (Box (U5.alloc (.cells #[.string ⟨#[97]⟩, .int .u64 3, .int .i64 0, .string ⟨#[]⟩] TKV)) e0 TKV #[.string ⟨#[97]⟩, .int .u64 3, .int .i64 0, .string ⟨#[]⟩]) := (B50.out.kept (k6 _ (.inl (.inr rfl)))).alloc _
  have C61 : Hid (Box (U5.alloc (.cells #[.string ⟨#[97]⟩, .int .u64 3, .int .i64 0, .string ⟨#[]⟩] TKV)) e1 TKV #[.string ⟨#[97]⟩, .int .u64 2, .int .i64 0, .string ⟨#[]⟩]) := (B51.out.kept (k6 _ (.inr rfl))).alloc _
  clear S5 hp6 h6 k6 z6 hA B50 B51
  go_wp2_with fail
  obtain ⟨V6, eV⟩ : ∃ V, V = U5.alloc (.cells #[.string ⟨#[97]⟩, .int .u64 3, .int .i64 0, .string ⟨#[]⟩] TKV) := ⟨_, rfl⟩
  obtain ⟨e2, ee⟩ : ∃ e, e = U5.heap.size := ⟨_, rfl⟩
  rw [← eV, ← ee] at HX
  rw [← eV]
  try rw [← ee]
  have B60 : Hid (Box V6 e0 TKV #[.string ⟨#[97]⟩, .int .u64 3, .int .i64 0, .string ⟨#[]⟩]) := by rw [eV]; exact C60.out
  clear C60
  have B61 : Hid (Box V6 e1 TKV #[.string ⟨#[97]⟩, .int .u64 2, .int .i64 0, .string ⟨#[]⟩]) := by rw [eV]; exact C61.out
  clear C61
  have S6 : Hid (MgS D W3 W3.heap.size V6 R6 p w16L (some 0) (fun k => (fun k => (fun k => (fun _ => False) k ∨ k = e0) k ∨ k = e1) k ∨ k = e2)) := HX.out.2
  have B62 : Hid (Box V6 e2 TKV #[.string ⟨#[97]⟩, .int .u64 3, .int .i64 0, .string ⟨#[]⟩]) := HX.out.1
  clear eV ee HX
  go_wp2_with fail
  refine (F.prev S6.out.it).mono ?_
  rintro _ V7 ⟨rfl, hp7⟩
  obtain ⟨R7, h7, k7, z7⟩ := S6.out.step hp7
  have S7 : Hid (MgS D W3 W3.heap.size V7 R7 p w16L (none) (fun k => (fun k => (fun k => (fun _ => False) k ∨ k = e0) k ∨ k = e1) k ∨ k = e2)) := by
    rw [show (none : Option Nat) = goP (allL w16L) 5 kvZ.1 (some 0) by rw [w16_all]; rfl]
    exact h7
  have B70 : Hid (Box V7 e0 TKV #[.string ⟨#[97]⟩, .int .u64 3, .int .i64 0, .string ⟨#[]⟩]) := B60.out.kept (k7 _ (.inl (.inl (.inr rfl))))
  have B71 : Hid (Box V7 e1 TKV #[.string ⟨#[97]⟩, .int .u64 2, .int .i64 0, .string ⟨#[]⟩]) := B61.out.kept (k7 _ (.inl (.inr rfl)))
  have B72 : Hid (Box V7 e2 TKV #[.string ⟨#[97]⟩, .int .u64 3, .int .i64 0, .string ⟨#[]⟩]) := B62.out.kept (k7 _ (.inr rfl))
  clear S6 hp7 h7 k7 z7 B60 B61 B62
  have hA : Calls Try.prog 13 #[at_ p] V7 fun e w' => e = .returned (.tuple #[.agg #[.string ⟨#[]⟩, .int .u64 0, .int .i64 0, .string ⟨#[]⟩], .bool false]) ∧ MgPost D R7 p w16L (none) V7 w' := by
    have := F.at' S7.out.it
    rw [w16_all] at this
    exact this
  go_wp2_with fail
  refine hA.mono ?_
  rintro _ U7 ⟨rfl, hp8⟩
  obtain ⟨R8, h8, k8, z8⟩ := S7.out.step hp8
  have HX : Hid (Box (U7.alloc (.cells #[.string ⟨#[]⟩, .int .u64 0, .int .i64 0, .string ⟨#[]⟩] TKV)) U7.heap.size TKV #[.string ⟨#[]⟩, .int .u64 0, .int .i64 0, .string ⟨#[]⟩] ∧ MgS D W3 W3.heap.size (U7.alloc (.cells #[.string ⟨#[]⟩, .int .u64 0, .int .i64 0, .string ⟨#[]⟩] TKV)) R8 p w16L (none) (fun k => (fun k => (fun k => (fun k => (fun _ => False) k ∨ k = e0) k ∨ k = e1) k ∨ k = e2) k ∨ k = U7.heap.size)) := ⟨Box.new _ _ _, h8.alloc F _⟩
  have C80 : Hid (Box (U7.alloc (.cells #[.string ⟨#[]⟩, .int .u64 0, .int .i64 0, .string ⟨#[]⟩] TKV)) e0 TKV #[.string ⟨#[97]⟩, .int .u64 3, .int .i64 0, .string ⟨#[]⟩]) := (B70.out.kept (k8 _ (.inl (.inl (.inr rfl))))).alloc _
  have C81 : Hid (Box (U7.alloc (.cells #[.string ⟨#[]⟩, .int .u64 0, .int .i64 0, .string ⟨#[]⟩] TKV)) e1 TKV #[.string ⟨#[97]⟩, .int .u64 2, .int .i64 0, .string ⟨#[]⟩]) := (B71.out.kept (k8 _ (.inl (.inr rfl)))).alloc _
  have C82 : Hid (Box (U7.alloc (.cells #[.string ⟨#[]⟩, .int .u64 0, .int .i64 0, .string ⟨#[]⟩] TKV)) e2 TKV #[.string ⟨#[97]⟩, .int .u64 3, .int .i64 0, .string ⟨#[]⟩]) := (B72.out.kept (k8 _ (.inr rfl))).alloc _
  clear S7 hp8 h8 k8 z8 hA B70 B71 B72
  go_wp2_with fail
  obtain ⟨V8, eV⟩ : ∃ V, V = U7.alloc (.cells #[.string ⟨#[]⟩, .int .u64 0, .int .i64 0, .string ⟨#[]⟩] TKV) := ⟨_, rfl⟩
  obtain ⟨e3, ee⟩ : ∃ e, e = U7.heap.size := ⟨_, rfl⟩
  rw [← eV, ← ee] at HX
  rw [← eV]
  try rw [← ee]
  have B80 : Hid (Box V8 e0 TKV #[.string ⟨#[97]⟩, .int .u64 3, .int .i64 0, .string ⟨#[]⟩]) := by rw [eV]; exact C80.out
  clear C80
  have B81 : Hid (Box V8 e1 TKV #[.string ⟨#[97]⟩, .int .u64 2, .int .i64 0, .string ⟨#[]⟩]) := by rw [eV]; exact C81.out
  clear C81
  have B82 : Hid (Box V8 e2 TKV #[.string ⟨#[97]⟩, .int .u64 3, .int .i64 0, .string ⟨#[]⟩]) := by rw [eV]; exact C82.out
  clear C82
  have S8 : Hid (MgS D W3 W3.heap.size V8 R8 p w16L (none) (fun k => (fun k => (fun k => (fun k => (fun _ => False) k ∨ k = e0) k ∨ k = e1) k ∨ k = e2) k ∨ k = e3)) := HX.out.2
  have B83 : Hid (Box V8 e3 TKV #[.string ⟨#[]⟩, .int .u64 0, .int .i64 0, .string ⟨#[]⟩]) := HX.out.1
  clear eV ee HX
  have hq1 : Hid (Box V8 w.heap.size TKV a16one ∧ Box V8 (w.heap.size + 1) TKV a16two) := ⟨H3.out.2.1.kept (S8.out.low.block _ H3.out.2.1.lt), H3.out.2.2.1.kept (S8.out.low.block _ H3.out.2.2.1.lt)⟩
  have a0 := (B80.out).cell 0
  have a1 := (B80.out).cell 1
  have a2 := (B80.out).cell 2
  have a3 := (B80.out).cell 3
  have b0 := (B81.out).cell 0
  have b1 := (B81.out).cell 1
  have b2 := (B81.out).cell 2
  have b3 := (B81.out).cell 3
  have c0 := (B82.out).cell 0
  have c1 := (B82.out).cell 1
  have c2 := (B82.out).cell 2
  have c3 := (B82.out).cell 3
  have d0 := (hq1.out.1).cell 0
  have d1 := (hq1.out.1).cell 1
  have d2 := (hq1.out.1).cell 2
  have d3 := (hq1.out.1).cell 3
  have e0 := (hq1.out.2).cell 0
  have e1 := (hq1.out.2).cell 1
  have e2 := (hq1.out.2).cell 2
  have e3 := (hq1.out.2).cell 3
  have heq1 : ∀ V : World, (binOp .eql TKV (.agg #[.string ⟨#[97]⟩, .int .u64 3, .int .i64 0, .string ⟨#[]⟩]) (.agg #[.string ⟨#[97]⟩, .int .u64 3, .int .i64 0, .string ⟨#[]⟩])).run Try.prog V = .ok (.bool true) V := fun V => by
    simp [go_sem, Try.underlying35, Try.underlying33, Try.underlying9, Try.underlying31, Try.underlying3]
  have heq2 : ∀ V : World, (binOp .eql TKV (.agg #[.string ⟨#[97]⟩, .int .u64 2, .int .i64 0, .string ⟨#[]⟩]) (.agg #[.string ⟨#[97]⟩, .int .u64 2, .int .i64 0, .string ⟨#[]⟩])).run Try.prog V = .ok (.bool true) V := fun V => by
    simp [go_sem, Try.underlying35, Try.underlying33, Try.underlying9, Try.underlying31, Try.underlying3]
  have HB : Hid (Below w.heap.size w V8) := H3.out.1.trans (S8.out.low.mono H3.out.1.size)
  clear B80 B81 B82 B83 S8 hq1
  unfold a16one a16two at *
  go_quiet (fail)
  go_wp2
  go_ret
  exact ⟨ret1 rfl, Below.drewM HB.out _⟩
end Go.Proofs.Ytfijibengmgegaa
