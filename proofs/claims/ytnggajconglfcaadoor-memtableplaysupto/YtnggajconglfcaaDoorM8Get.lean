/- The contract of the table's Get. -/
import Derived.Test.YtnggajconglfcaaDoorM8Tb
import Derived.Deep.RegionHeld3
import Derived.BigQuiet
namespace Go.Proofs.YtnggajconglfcaaDoor
open Go.RowKit
set_option linter.unusedVariables false
set_option linter.unusedSimpArgs false
theorem first_find {l : List KV} (ho : ∀ e ∈ l, e.1.Ok) {k : IK} (hk : k.Ok) : firstOf (l.map (·.1.txt)) k.txt = (l.find? (fun e => !kb e.1 k)).map (·.1.txt) := by
  unfold firstOf
  induction l with
  | nil => rfl
  | cons x r ih =>
    rw [List.map_cons, List.find?_cons, List.find?_cons, kl_txt (ho x (by simp)) hk]
    cases kb x.1 k with
    | true => exact ih fun e he => ho e (List.mem_cons_of_mem _ he)
    | false => rfl
set_option maxRecDepth 100000 in
theorem fieldV (w : World) (s : ByteArray) : (Instr.field 60 (.agg #[.string s]) 0).run Tryd.prog w = .ok (.string s) w := by
  kernel_rfl
section
variable {w w' : World} {p : Nat} {T : PT} {G : TG}
/-- What is found from a place on. -/
def foundAt (T : PT) (u : ByteArray) (s : Nat) : Option KV := T.kvs.find? (fun e => !kb e.1 (fromK u s))
theorem PT.Inv.get_eq (h : T.Inv) (u : ByteArray) (s : Nat) : lget T.kvs u s = match foundAt T u s with
      | none => none
      | some e => if e.1.user = u then some e else none := seek_get u s T.kvs (fun e he => h.okk he) h.sorted
theorem TbAt.tseek (h : TbAt w p T G) (u : ByteArray) (s : Nat) (hN : T.kvs.length < 70368744177664) : Calls Tryd.prog 28 #[at_ p, .string (fromK u s).txt] w fun e w' => e = .returned (.tuple #[.string (((foundAt T u s).map (·.1.txt)).getD ⟨#[]⟩), .bool (foundAt T u s).isSome]) ∧ Below w.heap.size w w' := by
  have hf := h.few
  have := shseek_at h.sh (p := p) (fromK u s).txt (h.box.cell 0) (by omega)
  rw [h.texts, first_find (fun e he => h.inv.okk he) (fromK_ok u s)] at this
  simpa [foundAt] using this
set_option maxRecDepth 100000 in
set_option maxHeartbeats 1000000 in
theorem get_at (h : TbAt w p T G) (u : ByteArray) (s : Nat) (hu : u.size ≤ 1048576) (hN : T.kvs.length < 70368744177664) (hg : Glob w) : Calls Tryd.prog 13 #[at_ p, .string u, .int .u64 (s : Int)] w fun e w' => e = .returned (.tuple #[.string (told (lget T.kvs u s)).1, .int .i64 (((told (lget T.kvs u s)).2 : Nat) : Int)]) ∧ Below w.heap.size w w' := by
  have HA : Hid (TbAt w p T G) := h
  have HG : Hid (Glob w) := hg
  have hmin : min (s : Int) 72057594037927935 = ((min s 72057594037927935 : Nat) : Int) := by omega
  have HT : Hid (∀ W : World, Below w.heap.size w W → Calls Tryd.prog 24 #[.agg #[.string u, .int .u64 (min (s : Int) 72057594037927935), .int .i64 1]] W fun e w' => e = .returned (.string (fromK u s).txt) ∧ Below W.heap.size W w') := fun W hW => by
    rw [hmin]
    exact textOf_at (fromK u s) (fromK_ok u s) hu (hg.of_below0 hW)
  have HK : Hid (∀ W : World, Below w.heap.size w W → Calls Tryd.prog 28 #[at_ p, .string (fromK u s).txt] W fun e w' => e = .returned (.tuple #[.string (((foundAt T u s).map (·.1.txt)).getD ⟨#[]⟩), .bool (foundAt T u s).isSome]) ∧ Below W.heap.size W w') := fun W hW => (h.below hW).tseek u s hN
  have HE : Hid (_ = _) := h.inv.get_eq u s
  have HF : Hid (∀ e, foundAt T u s = some e → e ∈ T.kvs) := fun e he => List.mem_of_find?_eq_some he
  generalize (fromK u s).txt = X at HT HK
  generalize hF : foundAt T u s = F at HK HE HF
  clear hmin hg hF
  generalize hM : min (s : Int) 72057594037927935 = M at HT
  have hw0 : Below w.heap.size w (w.alloc (.cells #[.string u, .int .u64 M, .int .i64 1] 32)).drew := ((Below.refl _ _).alloc (Nat.le_refl _) _).drew
  have HB : Hid (Below w.heap.size w (w.alloc (.cells #[.string u, .int .u64 M, .int .i64 1] 32)).drew) := hw0
  have HX : Hid (Box (w.alloc (.cells #[.string u, .int .u64 M, .int .i64 1] 32)).drew w.heap.size 32 #[.string u, .int .u64 M, .int .i64 1]) := Box.new w 32 #[.string u, .int .u64 M, .int .i64 1]
  have c0 : (w.alloc (.cells #[.string u, .int .u64 M, .int .i64 1] 32)).drew.cell? ⟨w.heap.size, 0, none⟩ = some (.string u) := HX.out.cell 0
  have c1 : (w.alloc (.cells #[.string u, .int .u64 M, .int .i64 1] 32)).drew.cell? ⟨w.heap.size, 1, none⟩ = some (.int .u64 M) := HX.out.cell 1
  have c2 : (w.alloc (.cells #[.string u, .int .u64 M, .int .i64 1] 32)).drew.cell? ⟨w.heap.size, 2, none⟩ = some (.int .i64 1) := HX.out.cell 2
  clear h hw0
  go_enter Tryd.func13, Tryd.ntmps13
  go_wp2_with fail
  go_region_held3 (fun w' => w'.cell? ⟨w.heap.size, 0, none⟩ = some (.string u) ∧ w'.cell? ⟨w.heap.size, 1, none⟩ = some (.int .u64 M) ∧ w'.cell? ⟨w.heap.size, 2, none⟩ = some (.int .i64 1)) (first | exact ⟨c0, c1, c2⟩ | go_keep)
    (first
     | (go_at_call 24; refine (HT.out _ HB.out).mono ?_; rintro _ vx ⟨rfl, hbx⟩
        have HX : Hid (Box vx w.heap.size 32 #[.string u, .int .u64 M, .int .i64 1]) := HX.out.kept (hbx.block _ HX.out.lt)
        have HB : Hid (Below w.heap.size w vx) := HB.out.trans (hbx.mono HB.out.size)
        have c0 : vx.cell? ⟨w.heap.size, 0, none⟩ = some (.string u) := HX.out.cell 0
        have c1 : vx.cell? ⟨w.heap.size, 1, none⟩ = some (.int .u64 M) := HX.out.cell 1
        have c2 : vx.cell? ⟨w.heap.size, 2, none⟩ = some (.int .i64 1) := HX.out.cell 2
        clear hbx)
     | (go_at_call 28; refine (HK.out _ HB.out).mono ?_; rintro _ vx ⟨rfl, hbx⟩
        have HX : Hid (Box vx w.heap.size 32 #[.string u, .int .u64 M, .int .i64 1]) := HX.out.kept (hbx.block _ HX.out.lt)
        have HB : Hid (Below w.heap.size w vx) := HB.out.trans (hbx.mono HB.out.size)
        have c0 : vx.cell? ⟨w.heap.size, 0, none⟩ = some (.string u) := HX.out.cell 0
        have c1 : vx.cell? ⟨w.heap.size, 1, none⟩ = some (.int .u64 M) := HX.out.cell 1
        have c2 : vx.cell? ⟨w.heap.size, 2, none⟩ = some (.int .i64 1) := HX.out.cell 2
        clear hbx))
  cases F with
  | none =>
    have HE2 : Hid (lget T.kvs u s = none) := HE.out
    clear HE HF HT HK HX c0 c1 c2
    simp only [Option.map_none, Option.getD_none, Option.isSome_none]
    go_wp2
    go_ret2
    rw [HE2.out]
    exact ⟨ret2 rfl rfl, HB.out⟩
  | some e =>
    have hem := HF.out e rfl
    have hok := (HA.out.inv.ok e hem)
    obtain ⟨hk1, hk2⟩ := IK.ok_of hok.key
    have HE2 : Hid (lget T.kvs u s = if e.1.user = u then some e else none) := HE.out
    have HKO := memKeyOf_at e.1 hk1 hk2 (HG.out.of_below0 HB.out)
    clear HE HF HT HK HX c0 c1 c2
    simp only [Option.map_some, Option.getD_some, Option.isSome_some]
    generalize e.1.txt = Y at HKO
    unfold IK.v at HKO
    have hkk := hk1.2
    go_wp2_with fail
    refine HKO.mono ?_
    rintro _ w2 ⟨rfl, hb2⟩
    have HB2 : Hid (Below w.heap.size w w2) := HB.out.trans (hb2.mono HB.out.size)
    clear hb2 HKO
    by_cases hus : e.1.user = u
    · have hbq : (e.1.user.toList == u.toList) = true := by rw [hus]; simp
      by_cases hkd : e.1.kind = 0
      · have HE3 : Hid (lget T.kvs u s = some e) := by unfold Hid; rw [HE2.out, if_pos hus]
        have hkq : (e.1.kind == 0) = true := by rw [hkd]; rfl
        have HKD : Hid (e.1.kind = 0) := hkd
        clear hkd hus
        go_wp2
        go_ret2
        rw [HE3.out]
        unfold told
        simp only [HKD.out, if_pos]
        exact ⟨ret2 rfl rfl, HB2.out.alloc HB2.out.size _⟩
      · have HE3 : Hid (lget T.kvs u s = some e) := by unfold Hid; rw [HE2.out, if_pos hus]
        have hkq : (e.1.kind == 0) = false := by simpa using hkd
        have HKD : Hid (¬ e.1.kind = 0) := hkd
        clear hkd hus
        have HA2 := HA.out.below ((HB2.out.alloc HB2.out.size (.cells #[.string e.1.user, .int .u64 (e.1.seq : Int), .int .i64 e.1.kind] 32)))
        have cm : (w2.alloc (.cells #[.string e.1.user, .int .u64 (e.1.seq : Int), .int .i64 e.1.kind] 32)).cell? ⟨p, 1, none⟩ = some (.map G.m) := HA2.box.cell 1
        have hlook : ∀ d, (Instr.lookup 56 (.map G.m) (.agg #[.string e.1.user, .int .u64 (e.1.seq : Int), .int .i64 e.1.kind]) false).run Tryd.prog ((w2.alloc (.cells #[.string e.1.user, .int .u64 (e.1.seq : Int), .int .i64 e.1.kind] 32)).drewN d) = .ok (.agg #[.string e.2]) ((w2.alloc (.cells #[.string e.1.user, .int .u64 (e.1.seq : Int), .int .i64 e.1.kind] 32)).drewN d) := fun d => (HA2.map.kept (w' := (w2.alloc (.cells #[.string e.1.user, .int .u64 (e.1.seq : Int), .int .i64 e.1.kind] 32)).drewN d) (fun _ _ => rfl)).get hem (IK.wf_of hok.key)
        have bx := Box.new w2 32 #[.string e.1.user, .int .u64 (e.1.seq : Int), .int .i64 e.1.kind]
        have d0 : (w2.alloc (.cells #[.string e.1.user, .int .u64 (e.1.seq : Int), .int .i64 e.1.kind] 32)).cell? ⟨w2.heap.size, 0, none⟩ = some (.string e.1.user) := bx.cell 0
        have d1 : (w2.alloc (.cells #[.string e.1.user, .int .u64 (e.1.seq : Int), .int .i64 e.1.kind] 32)).cell? ⟨w2.heap.size, 1, none⟩ = some (.int .u64 (e.1.seq : Int)) := bx.cell 1
        have d2 : (w2.alloc (.cells #[.string e.1.user, .int .u64 (e.1.seq : Int), .int .i64 e.1.kind] 32)).cell? ⟨w2.heap.size, 2, none⟩ = some (.int .i64 e.1.kind) := bx.cell 2
        have HB3 : Hid (Below w.heap.size w (w2.alloc (.cells #[.string e.1.user, .int .u64 (e.1.seq : Int), .int .i64 e.1.kind] 32))) := HB2.out.alloc HB2.out.size _
        clear HA2 bx
        go_wp2_with fail
        generalize w2.alloc (.cells #[.string e.1.user, .int .u64 (e.1.seq : Int), .int .i64 e.1.kind] 32) = W3 at cm hlook d0 d1 d2 HB3 ⊢
        have e0 : W3.drew.cell? ⟨p, 1, none⟩ = some (.map G.m) := cm
        have e1 : W3.drew.cell? ⟨w2.heap.size, 0, none⟩ = some (.string e.1.user) := d0
        have e2 : W3.drew.cell? ⟨w2.heap.size, 1, none⟩ = some (.int .u64 (e.1.seq : Int)) := d1
        have e3 : W3.drew.cell? ⟨w2.heap.size, 2, none⟩ = some (.int .i64 e.1.kind) := d2
        have e4 : (Instr.lookup 56 (.map G.m) (.agg #[.string e.1.user, .int .u64 (e.1.seq : Int), .int .i64 e.1.kind]) false).run Tryd.prog W3.drew = .ok (.agg #[.string e.2]) W3.drew := hlook 1
        have hfield := fun W => fieldV W e.2
        clear cm d0 d1 d2 hlook
        go_region_held3 (fun w' => w'.cell? ⟨p, 1, none⟩ = some (.map G.m) ∧ w'.cell? ⟨w2.heap.size, 0, none⟩ = some (.string e.1.user) ∧ w'.cell? ⟨w2.heap.size, 1, none⟩ = some (.int .u64 (e.1.seq : Int)) ∧ w'.cell? ⟨w2.heap.size, 2, none⟩ = some (.int .i64 e.1.kind) ∧ (Instr.lookup 56 (.map G.m) (.agg #[.string e.1.user, .int .u64 (e.1.seq : Int), .int .i64 e.1.kind]) false).run Tryd.prog w' = .ok (.agg #[.string e.2]) w') (first | exact ⟨e0, e1, e2, e3, e4⟩ | go_keep) (first | fail)
        all_goals go_wp2
        all_goals go_ret2
        all_goals rw [HE3.out]
        all_goals unfold told
        all_goals simp only [if_neg HKD.out]
        all_goals exact ⟨ret2 rfl rfl, HB3.out.drew⟩
    · have hbq : (e.1.user.toList == u.toList) = false := by
        rw [beq_eq_false_iff_ne]
        intro hc
        rw [ByteArray.toList_eq, ByteArray.toList_eq] at hc
        exact hus (ba_ext hc)
      have HE3 : Hid (lget T.kvs u s = none) := by unfold Hid; rw [HE2.out, if_neg hus]
      clear hus
      go_wp2
      go_ret2
      rw [HE3.out]
      exact ⟨ret2 rfl rfl, HB2.out.alloc HB2.out.size _⟩
end
end Go.Proofs.YtnggajconglfcaaDoor
