/- The contract of the table's check. -/
import Derived.Test.YtnggajconglfcaaDoorM8Tb
import Derived.Deep.RegionHeld3
namespace Go.Proofs.YtnggajconglfcaaDoor
open Go.RowKit
set_option linter.unusedVariables false
set_option linter.unusedSimpArgs false
theorem bytes_empty {v : ByteArray} (h : v.size = 0) : v.toList.isEmpty = true := by
  rw [ba_empty h, ByteArray.toList_eq]
  rfl
theorem bytes_some {v : ByteArray} (h : v.size ≠ 0) : v.toList.isEmpty = false := by
  rw [ByteArray.toList_eq, List.isEmpty_eq_false_iff]
  intro hc
  apply h
  show v.data.size = 0
  rw [← Array.length_toList, hc]
  rfl
section
variable {w w' : World} {p : Nat} {T : PT} {G : TG}
set_option maxRecDepth 100000 in
set_option maxHeartbeats 1000000 in
theorem check_at (h : TbAt w p T G) (k : IK) (v : ByteArray) (hk : k.user.size ≤ 9223372036854775807) (hv : v.size ≤ 9223372036854775807) : Calls Tryd.prog 22 #[at_ p, k.v, .string v] w fun e w' => e = .returned (.int .i64 ((T.err k v : Nat) : Int)) ∧ Below w.heap.size w w' := by
  have c3 : w.cell? ⟨p, 3, none⟩ = some (.bool T.frozen) := h.box.cell 3
  have hpl := h.box.lt
  have hb1 : Below w.heap.size w (w.alloc (.cells #[.string k.user, .int .u64 (k.seq : Int), .int .i64 k.kind] TK)) := (Below.refl _ _).alloc (Nat.le_refl _) _
  have HK := fun W => check_any k.user k.seq k.kind W hk
  have HA : Hid (TbAt w p T G) := h
  clear h
  unfold IK.v
  cases hf : T.frozen with
  | true =>
    have HE : Hid (T.err k v = 80) := by unfold PT.err Hid; rw [hf]; rfl
    rw [hf] at c3
    clear hf
    go_enter Tryd.func22, Tryd.ntmps22
    go_wp2
    go_ret
    rw [HE.out]
    exact ⟨ret1 rfl, hb1⟩
  | false =>
    rw [hf] at c3
    by_cases hke : k.err = 0
    · have hke' : chk k.user.size k.seq k.kind = 0 := hke
      rw [hke'] at HK
      have hwf := IK.wf_of hke
      by_cases h1 : 1000 < v.size
      · have HE : Hid (T.err k v = 31) := by
          unfold PT.err Hid
          rw [hf, if_neg (by decide), if_neg (by simpa using hke), if_pos (.inl h1)]
        clear hf hke hke' hwf
        go_enter Tryd.func22, Tryd.ntmps22
        go_wp2_with fail
        refine (HK _).mono ?_
        rintro _ w1 ⟨rfl, hb2⟩
        have hB := hb1.trans (hb2.mono hb1.size)
        have HB : Hid (Below w.heap.size w w1) := hB
        clear hb2 HK hB
        go_wp2
        go_ret
        rw [HE.out]
        exact ⟨ret1 rfl, HB.out⟩
      · have h1i : (v.size : Int) ≤ 1000 := by omega
        by_cases h2 : k.kind = 0 ∧ v.size ≠ 0
        · have HE : Hid (T.err k v = 31) := by
            unfold PT.err Hid
            rw [hf, if_neg (by decide), if_neg (by simpa using hke), if_pos (.inr h2)]
          have hkq : (k.kind == 0) = true := by rw [h2.1]; rfl
          have hvq := bytes_some h2.2
          clear hf hke hke' hwf h2
          go_enter Tryd.func22, Tryd.ntmps22
          go_wp2_with fail
          refine (HK _).mono ?_
          rintro _ w1 ⟨rfl, hb2⟩
          have bx : Box w1 w.heap.size TK #[.string k.user, .int .u64 (k.seq : Int), .int .i64 k.kind] := (Box.new w TK #[.string k.user, .int .u64 (k.seq : Int), .int .i64 k.kind]).kept (hb2.block _ (by simp))
          have d2 : w1.cell? ⟨w.heap.size, 2, none⟩ = some (.int .i64 k.kind) := bx.cell 2
          have HB : Hid (Below w.heap.size w w1) := hb1.trans (hb2.mono hb1.size)
          clear hb2 HK bx
          go_wp2
          go_ret
          rw [HE.out]
          exact ⟨ret1 rfl, HB.out⟩
        · have hE : T.err k v = if (T.kvs.any fun e => decide (e.1.user = k.user ∧ e.1.seq = k.seq ∧ e.1.kind = k.kind)) then 81 else 0 := by
            unfold PT.err
            rw [hf, if_neg (by decide), if_neg (by simpa using hke), if_neg (by intro hc; rcases hc with hc | hc; exact h1 hc; exact h2 hc)]
          have hpick : (k.kind == 0) = false ∨ ((k.kind == 0) = true ∧ v.toList.isEmpty = true) := by
            by_cases hz : k.kind = 0
            · exact .inr ⟨by rw [hz]; rfl, bytes_empty (by by_cases he : v.size = 0; exact he; exact absurd ⟨hz, he⟩ h2)⟩
            · exact .inl (by simpa using hz)
          have HW : Hid k.Wf := hwf
          have HE : Hid (_ = _) := hE
          clear hf hke hke' hwf h2 hE
          go_enter Tryd.func22, Tryd.ntmps22
          go_wp2_with fail
          refine (HK _).mono ?_
          rintro _ w1 ⟨rfl, hb2⟩
          have bx : Box w1 w.heap.size TK #[.string k.user, .int .u64 (k.seq : Int), .int .i64 k.kind] := (Box.new w TK #[.string k.user, .int .u64 (k.seq : Int), .int .i64 k.kind]).kept (hb2.block _ (by simp))
          have d0 : w1.cell? ⟨w.heap.size, 0, none⟩ = some (.string k.user) := bx.cell 0
          have d1 : w1.cell? ⟨w.heap.size, 1, none⟩ = some (.int .u64 (k.seq : Int)) := bx.cell 1
          have d2 : w1.cell? ⟨w.heap.size, 2, none⟩ = some (.int .i64 k.kind) := bx.cell 2
          have hB : Below w.heap.size w w1 := hb1.trans (hb2.mono hb1.size)
          have HB : Hid (Below w.heap.size w w1) := hB
          have A1 := HA.out.below hB
          have cm : w1.cell? ⟨p, 1, none⟩ = some (.map G.m) := A1.box.cell 1
          obtain ⟨x, c, hc, hl⟩ := A1.map.lookAll HW.out
          have HC : Hid (T.err k v = if c then 81 else 0) := by
            unfold Hid
            rw [HE.out]
            have e : (T.kvs.any fun e => decide (e.1.user = k.user ∧ e.1.seq = k.seq ∧ e.1.kind = k.kind)) = c := by
              cases c with
              | true => exact any_iff.2 (hc.1 rfl)
              | false =>
                cases ha : (T.kvs.any fun e => decide (e.1.user = k.user ∧ e.1.seq = k.seq ∧ e.1.kind = k.kind)) with
                | false => rfl
                | true => exact absurd (hc.2 (any_iff.1 ha)) (by decide)
            rw [e]
          have HLK : Hid (∀ W : World, Below w1.heap.size w1 W → (Instr.lookup 56 (.map G.m) (.agg #[.string k.user, .int .u64 (k.seq : Int), .int .i64 k.kind]) true).run Tryd.prog W = .ok (.tuple #[.agg #[.string x], .bool c]) W) := fun W hW => hl W fun b e => hW.block b (A1.map.lt e)
          have hlt1 := bx.lt
          have hpl1 : p < w1.heap.size := Nat.lt_of_lt_of_le hpl hB.size
          have e0 : w1.drew.cell? ⟨p, 1, none⟩ = some (.map G.m) := cm
          have e1 : w1.drew.cell? ⟨w.heap.size, 0, none⟩ = some (.string k.user) := d0
          have e2 : w1.drew.cell? ⟨w.heap.size, 1, none⟩ = some (.int .u64 (k.seq : Int)) := d1
          have e3 : w1.drew.cell? ⟨w.heap.size, 2, none⟩ = some (.int .i64 k.kind) := d2
          have e4 : (Instr.lookup 56 (.map G.m) (.agg #[.string k.user, .int .u64 (k.seq : Int), .int .i64 k.kind]) true).run Tryd.prog w1.drew = .ok (.tuple #[.agg #[.string x], .bool c]) w1.drew := HLK.out _ (Below.refl _ _).drew
          have HF : Hid (∀ o : Obj, (w1.alloc o).drew.cell? ⟨p, 1, none⟩ = some (.map G.m) ∧ (w1.alloc o).drew.cell? ⟨w.heap.size, 0, none⟩ = some (.string k.user) ∧ (w1.alloc o).drew.cell? ⟨w.heap.size, 1, none⟩ = some (.int .u64 (k.seq : Int)) ∧ (w1.alloc o).drew.cell? ⟨w.heap.size, 2, none⟩ = some (.int .i64 k.kind) ∧ (Instr.lookup 56 (.map G.m) (.agg #[.string k.user, .int .u64 (k.seq : Int), .int .i64 k.kind]) true).run Tryd.prog (w1.alloc o).drew = .ok (.tuple #[.agg #[.string x], .bool c]) (w1.alloc o).drew) := fun o => by
            have hbo : Below w1.heap.size w1 (w1.alloc o).drew := ((Below.refl _ _).alloc (Nat.le_refl _) _).drew
            exact ⟨by rw [hbo.cell hpl1]; exact cm, by rw [hbo.cell hlt1]; exact d0, by rw [hbo.cell hlt1]; exact d1, by rw [hbo.cell hlt1]; exact d2, HLK.out _ hbo⟩
          clear hb2 HK bx A1 hB HE hc hl
          rcases hpick with hkq | ⟨hkq, hvq⟩
          all_goals go_wp2_with fail
          all_goals clear cm d0 d1 d2
          all_goals go_region_held3 (fun w' => w'.cell? ⟨p, 1, none⟩ = some (.map G.m) ∧ w'.cell? ⟨w.heap.size, 0, none⟩ = some (.string k.user) ∧ w'.cell? ⟨w.heap.size, 1, none⟩ = some (.int .u64 (k.seq : Int)) ∧ w'.cell? ⟨w.heap.size, 2, none⟩ = some (.int .i64 k.kind) ∧ (Instr.lookup 56 (.map G.m) (.agg #[.string k.user, .int .u64 (k.seq : Int), .int .i64 k.kind]) true).run Tryd.prog w' = .ok (.tuple #[.agg #[.string x], .bool c]) w') (first | exact ⟨e0, e1, e2, e3, e4⟩ | exact HF.out _ | go_keep) (first | fail)
          all_goals cases c
          all_goals go_wp2
          all_goals go_ret
          all_goals rw [HC.out]
          all_goals exact ⟨ret1 rfl, (HB.out.alloc HB.out.size _).drew⟩
    · have hne : (((T.err k v : Nat) : Int) != 0) = true ∧ T.err k v = chk k.user.size k.seq k.kind := by
        have : T.err k v = k.err := by
          unfold PT.err
          rw [hf, if_neg (by decide), if_pos hke]
        rw [this]
        refine ⟨?_, rfl⟩
        simp
        omega
      rw [← hne.2] at HK
      have hq := hne.1
      generalize T.err k v = E at HK hq ⊢
      clear hf hne hke
      go_enter Tryd.func22, Tryd.ntmps22
      go_wp2_with fail
      refine (HK _).mono ?_
      rintro _ w1 ⟨rfl, hb2⟩
      have HB : Hid (Below w.heap.size w w1) := hb1.trans (hb2.mono hb1.size)
      clear hb2 HK
      go_wp2
      go_ret
      exact ⟨ret1 rfl, HB.out⟩
end
end Go.Proofs.YtnggajconglfcaaDoor
