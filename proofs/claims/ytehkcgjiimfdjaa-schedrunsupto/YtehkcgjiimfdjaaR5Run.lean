/- The contract of the document's own run: what is told at the end. -/
import Derived.Test.YtehkcgjiimfdjaaPbBeg
import Derived.Deep.RegionHeld3
namespace Go.Proofs.Ytehkcgjiimfdjaa
open Go.RowKit
/-- What is told, with some of the cells there. -/
structure Rl (w wr : World) (G : RW) (ob : Nat) (ac : Option Addr) (cc k : Nat) : Prop where
  base : Below w.heap.size w wr
  box : Box wr ob 27 #[.slice ac k cc, .slice G.ea G.em.length G.ec, .slice none 0 0, .int .i64 (G.steps : Int)]
  row : wr.ownsRow w.heap.size 3 1 (.slice ac k cc) k (cellsN (G.cells.take k))
  ho : w.heap.size ≤ ob
  res : Box wr w.heap.size 27 #[.slice none 0 0, .slice none 0 0, .slice none 0 0, .int .i64 0]
  no : w.heap.size ≠ ob
theorem Rl.next {w wr w6 : World} {G : RW} {ob : Nat} {ac : Option Addr} {cc k : Nat} (h : Rl w wr G ob ac cc k) (hk : k < G.cells.length) {v : Int} (hv : v = G.cells.getD k 0) {o : Obj} {g6 c6 : Nat} (hr6 : w6.ownsRow w.heap.size 3 1 (.slice (some ⟨g6, 0, none⟩) (k + 1) c6) (k + 1) (cellsN (G.cells.take k) ++ [.int .i64 v])) (hg6 : (wr.drew.alloc o).grownBy w6 (Value.slice ac k cc).ownBlock) (hl6 : (Value.slice ac k cc).ownBlock = some g6 ∨ g6 = wr.heap.size + 1) :
    Rl w (w6.setCell ⟨ob, 0, none⟩ (.slice (some ⟨g6, 0, none⟩) (k + 1) c6)) G ob (some ⟨g6, 0, none⟩) c6 (k + 1) := by
  have hot : tag wr ob = some 27 := h.box.tag
  have hol := tag_lt hot
  have hA : Below wr.heap.size wr (wr.drew.alloc o) := ((Below.refl _ _).drew).alloc (Nat.le_refl _) _
  have hne : ∀ b, (Value.slice ac k cc).ownBlock = some b → ob ≠ b := fun b e => tag_ne hot (row_tag h.row e) (by decide)
  have ho6 : w6.heap[ob]? = wr.heap[ob]? := by rw [hg6.block ob (by simp; omega) (fun e => hne ob e.symm rfl), hA.block ob hol]
  have hgo : g6 ≠ ob := by
    rcases hl6 with e | e
    · exact (hne g6 e).symm
    · omega
  have hb6 : Below w.heap.size w w6 := (h.base.trans (hA.mono h.base.size)).grown hg6 (by have := h.base.size; simp; omega) (fun b e => (h.row.lt b e).1)
  have hrt : tag wr w.heap.size = some 27 := h.res.tag
  have hr6' : w6.heap[w.heap.size]? = wr.heap[w.heap.size]? := by rw [hg6.block _ (by have := h.res.lt; simp; omega) (fun e => tag_ne hrt (row_tag h.row e.symm) (by decide) rfl), hA.block _ h.res.lt]
  refine ⟨hb6.setCell h.ho _, ?_, ?_, h.ho, (h.res.kept hr6').other h.no _ _, h.no⟩
  · refine Box.eq ((h.box.kept ho6).set 0 _) ?_
    simp
  · have e : G.cells.take (k + 1) = G.cells.take k ++ [v] := by
      rw [List.take_add_one, List.getElem?_eq_getElem hk, hv]
      simp [List.getD, hk]
    rw [e]
    have e2 : cellsN (G.cells.take k ++ [v]) = cellsN (G.cells.take k) ++ [.int .i64 v] := by simp [cellsN]
    rw [e2]
    exact row_same hr6 fun b e => Below.heap_setCell _ _ _ _ (by cases e; exact hgo)
set_option linter.unusedSimpArgs false in
set_option maxRecDepth 100000 in
set_option maxHeartbeats 4000000 in
theorem rrun_at {w0 w : World} {p q : Nat} {a : Option Addr} {len cap : Nat} {code : List (List Ins)} {G : RW} {B : PB} (h : Wd w0 w p q (.slice a len cap) G) (hC : CdAt w0 a len cap code) (hS : Sim code B G) (hE : Ends B G) (hkk : B.Ok) :
    Calls Try.prog 22 #[at_ p] w fun e w' => ∃ ac cc sa sc, e = .returned (.agg #[.slice ac 16 cc, .slice G.ea G.em.length G.ec, .slice sa B.ts.length sc, .int .i64 (G.steps : Int)]) ∧ (∃ b, w'.ownsRow b 3 1 (.slice ac 16 cc) 16 (cellsN B.cells)) ∧ (∃ b, w'.ownsRow b 3 1 (.slice sa B.ts.length sc) B.ts.length (cellsN B.states)) ∧ (∃ b, w'.ownsRow b 34 2 (.slice G.ea G.em.length G.ec) G.em.length (cellsE B.em)) ∧ Below w.heap.size w w' := by
  have HWd : Hid (Wd w0 w p q (.slice a len cap) G) := h
  have HCd : Hid (CdAt w0 a len cap code) := hC
  have HSim : Hid (Sim code B G) := hS
  have HEn : Hid (Ends B G) := hE
  have HOk : Hid B.Ok := hkk
  obtain ⟨_, _, _, _, d34, d35⟩ := h.cell
  have hplt := tag_lt h.tagP
  have hpl1 : p < w.heap.size + 1 := by omega
  have hlc : G.cells.length = 16 := h.lc
  obtain ⟨i0, hi0, hz0, hz1, hz2⟩ := info_parts infoI64
  clear h hC hS hE hkk
  go_enter Try.func22, Try.ntmps22
  go_wp2
  go_region
  generalize hV : ((w.alloc (.cells #[.slice none 0 0, .slice none 0 0, .slice none 0 0, .int .i64 0] 27)).alloc (.cells #[.slice none 0 0, .slice G.ea G.em.length G.ec, .slice none 0 0, .int .i64 (G.steps : Int)] 27)).drew = V
  have hR0 : Rl w V G (w.heap.size + 1) none 0 0 := by
    rw [← hV]
    refine ⟨(((Below.refl _ _).alloc (Nat.le_refl _) _).alloc (by simp) _).drew, ?_, World.ownsRow_nil _ _ _ 1, by omega, (Box.new w _ _).alloc _, by omega⟩
    have := Box.new (w.alloc (.cells #[.slice none 0 0, .slice none 0 0, .slice none 0 0, .int .i64 0] 27)) 27 #[.slice none 0 0, .slice G.ea G.em.length G.ec, .slice none 0 0, .int .i64 (G.steps : Int)]
    rw [show (w.alloc (.cells #[.slice none 0 0, .slice none 0 0, .slice none 0 0, .int .i64 0] 27)).heap.size = w.heap.size + 1 by simp] at this
    exact this
  have HR0 : Hid (Rl w V G (w.heap.size + 1) none 0 0) := hR0
  clear hV hR0 d34 d35
  obtain ⟨ob, HOB⟩ : ∃ ob, Hid (ob = w.heap.size + 1) := ⟨_, rfl⟩
  rw [← HOB.out] at HR0
  rw [← HOB.out]
  go_wp2_with fail
  go_loopw [4] (fun ix wr => ∃ (k : Nat) (ac : Option Addr) (cc : Nat), k ≤ 16 ∧ ix = .int .i64 (k : Int) ∧ Hid (Rl w wr G ob ac cc k)) (fun ix _ => 16 - (intOf ix).toNat)
  case atStart => exact ⟨0, none, 0, Nat.zero_le _, rfl, HR0⟩
  case round =>
    obtain ⟨k, ac, cc, hk, rfl, HL⟩ := hrel
    by_cases hlt : k < 16
    · have HW : Hid (Below w.heap.size w wr) := HL.out.base
      have hwr : Wd w0 wr p q (.slice a len cap) G := HWd.out.below HW.out
      obtain ⟨v, HV⟩ : ∃ v, Hid (v = G.cells.getD k 0) := ⟨_, rfl⟩
      have z1 := hwr.cell.2.2.1 k hlt
      rw [← HV.out] at z1
      have hk16 : k < G.cells.length := by rw [hlc]; exact hlt
      have hplr : p < wr.heap.size := tag_lt hwr.tagP
      have hobl : ob < wr.heap.size := HL.out.box.lt
      have b0 := HL.out.box.cell 0
      have f0 := HL.out.box.soft 0
      simp at b0
      have hpo : p ≠ ob := by have := HL.out.ho; omega
      have hk1 : (0 : Int) ≤ (k : Int) := by omega
      have hk2 : (k : Int) < 16 := by omega
      have HS0 : Hid (wr.drew.cell? ⟨p, 2 + k, none⟩ = some (.int .i64 v)) := z1
      have HB1 : Hid (∀ o : Obj, Below wr.heap.size wr (wr.drew.alloc o)) := fun o => ((Below.refl _ _).drew).alloc (Nat.le_refl _) _
      have HS1 : Hid ((wr.drew.alloc (.cells #[.int .i64 v] 3)).cell? ⟨p, 2 + k, none⟩ = some (.int .i64 v)) := ((HB1.out _).cell hplr).trans z1
      have HROW : Hid ((wr.drew.alloc (.cells #[.int .i64 v] 3)).ownsRow w.heap.size 3 1 (.slice ac k cc) k (cellsN (G.cells.take k))) := row_same HL.out.row fun b e => (HB1.out _).block b (tag_lt (row_tag HL.out.row e))
      have HNEW : Hid (∀ j u, ([.int .i64 v] : List Value)[j]? = some u → (wr.drew.alloc (.cells #[.int .i64 v] 3)).cell? ((⟨wr.heap.size, 0, none⟩ : Addr).add j) = some u) := World.news_of_block (heap_alloc_new wr.drew _)
      have HONE2 : Hid (∀ y ∈ ([.int .i64 v] : List Value), y.oneCell' = true) := fun y hy => by
        rw [List.mem_singleton.1 hy]
        rfl
      have HKEEP : Hid (∀ w6, (wr.drew.alloc (.cells #[.int .i64 v] 3)).grownBy w6 (Value.slice ac k cc).ownBlock → w6.cell? ⟨p, 2 + k, none⟩ = some (.int .i64 v) ∧ w6.cell? ⟨ob, 0, none⟩ = some (.slice ac k cc) ∧ w6.frozen? ⟨ob, 0, none⟩ = false) := by
        intro w6 hg
        have kp : ∀ b t, tag wr b = some t → t ≠ 3 → w6.heap[b]? = wr.heap[b]? := fun b t ht hne => by
          rw [hg.block b (by have := tag_lt ht; simp; omega) (fun e => tag_ne ht (row_tag HL.out.row e.symm) hne rfl), (HB1.out _).block b (tag_lt ht)]
        have h1 := kp p _ hwr.tagP (by decide)
        have h2 := kp ob _ HL.out.box.tag (by decide)
        refine ⟨(World.cell?_of_block h1).trans z1, (World.cell?_of_block h2).trans b0, ?_⟩
        rw [← f0]
        unfold World.frozen?
        rw [show w6.heap[ob]? = wr.heap[ob]? from h2]
      clear hwr
      go_wp2
      refine wp_region_held_drew (S := fun w' => w'.cell? ⟨p, 2 + k, none⟩ = some (.int .i64 v)) (by kernel_rfl) HS0.out (fun hHeld => ?_)
      refine wpAnyH_take (i := 0) (v := ?_) rfl (by kernel_rfl) (by kernel_rfl) (by kernel_rfl) (fun _ _ _ h => h) (Or.inl ⟨by rfl, ?_⟩) hHeld ?_
      rotate_left
      · intro w hSw
        try dsimp only at hSw
        go_simp
        try with_reducible rfl
      try simp only [Act.put, List.setIfInBounds_toArray, List.set_cons_zero, List.set_cons_succ]
      refine wpAnyH_take (i := 2) (v := ?_) rfl (by kernel_rfl) (by kernel_rfl) (by kernel_rfl) (fun _ _ _ h => h) (Or.inl ⟨by rfl, ?_⟩) hHeld ?_
      rotate_left
      · intro w hSw
        try dsimp only at hSw
        go_simp
        try with_reducible rfl
      try simp only [Act.put, List.setIfInBounds_toArray, List.set_cons_zero, List.set_cons_succ]
      refine wpAnyH_take (i := 3) (v := ?_) rfl (by kernel_rfl) (by kernel_rfl) (by kernel_rfl) (fun _ _ _ h => h) (Or.inl ⟨by rfl, ?_⟩) hHeld ?_
      rotate_left
      · intro w hSw
        try dsimp only at hSw
        go_simp
        try with_reducible rfl
      try simp only [Act.put, List.setIfInBounds_toArray, List.set_cons_zero, List.set_cons_succ]
      refine wpAnyH_take (i := 4) (v := ?_) rfl (by kernel_rfl) (by kernel_rfl) (by kernel_rfl) (fun _ _ _ h => h) (Or.inl ⟨by rfl, ?_⟩) hHeld ?_
      rotate_left
      · intro w hSw
        try dsimp only at hSw
        go_simp
        try with_reducible rfl
      try simp only [Act.put, List.setIfInBounds_toArray, List.set_cons_zero, List.set_cons_succ]
      refine wpAnyH_take (i := 5) (v := ?_) rfl (by kernel_rfl) (by kernel_rfl) (by kernel_rfl) (fun _ _ _ h => h) (Or.inl ⟨by rfl, ?_⟩) hHeld ?_
      rotate_left
      · intro w hSw
        try dsimp only at hSw
        go_simp
        try with_reducible rfl
      try simp only [Act.put, List.setIfInBounds_toArray, List.set_cons_zero, List.set_cons_succ]
      refine wpAnyH_take (i := 6) (v := ?_) rfl (by kernel_rfl) (by kernel_rfl) (by kernel_rfl) (fun _ _ _ h => h) (Or.inl ⟨by rfl, ?_⟩) hHeld ?_
      rotate_left
      · intro w hSw
        try dsimp only at hSw
        go_simp
        try with_reducible rfl
      try simp only [Act.put, List.setIfInBounds_toArray, List.set_cons_zero, List.set_cons_succ]
      refine wpAnyH_take (i := 7) (v := ?_) rfl (by kernel_rfl) (by kernel_rfl) (by kernel_rfl) (fun _ _ _ h => h) (Or.inl ⟨by rfl, ?_⟩) hHeld ?_
      rotate_left
      · intro w hSw
        try dsimp only at hSw
        go_simp
        try with_reducible rfl
      try simp only [Act.put, List.setIfInBounds_toArray, List.set_cons_zero, List.set_cons_succ]
      refine wpAnyH_ready (rs := [1, 8]) (by kernel_rfl) (by simp) ?_
      refine AllReadyH.cons rfl (fun K hK => ?_) ?_
      · skip
        go_simp
        refine hK.out _ _ ?_ (fun hHeld => ?_)
        · exact hHeld
        clear hK K
        try simp only [Act.put, List.setIfInBounds_toArray, List.set_cons_zero, List.set_cons_succ]
        refine wpAnyH_ready (rs := [8]) (by kernel_rfl) (by simp) ?_
        refine AllReadyH.cons rfl (fun K hK => ?_) ?_
        · skip
          go_simp
          refine hK.out _ _ ?_ (fun hHeld => ?_)
          · exact HS1.out
          clear hK K
          try simp only [Act.put, List.setIfInBounds_toArray, List.set_cons_zero, List.set_cons_succ]
          refine wpAnyH_ready (rs := [9]) (by kernel_rfl) (by simp) ?_
          refine AllReadyH.cons rfl (fun K hK => ?_) ?_
          · skip
            refine step_append_lies _ rfl (.tmp 22) (.tmp 29) 24 rfl w.heap.size 3 i0 _ 1 8 Try.underlying24 hi0 hz0 hz1 hz2 rfl (by decide) _ k (cellsN (G.cells.take k)) (by simp [Act.eval]) HROW.out ⟨wr.heap.size, 0, none⟩ 1 1 [.int .i64 v] (by simp [Act.eval]) rfl HNEW.out HONE2.out (by omega) (by unfold maxLen; omega) (by omega) (by have := HW.out.size; simp; omega) (wr.heap.size + 1) (by simp) ?_
            intro g6 c6 w6 hr6 hg6 hl6 hlt6
            have HFIN : Hid (Rl w (w6.setCell ⟨ob, 0, none⟩ (.slice (some ⟨g6, 0, none⟩) (k + 1) c6)) G ob (some ⟨g6, 0, none⟩) c6 (k + 1)) := HL.out.next hk16 HV.out hr6 hg6 hl6
            obtain ⟨x1, u0, u1⟩ := HKEEP.out w6 hg6
            have m1 := (World.cell?_of_block (a := ⟨p, 2 + k, none⟩) (Below.heap_setCell w6 ⟨ob, 0, none⟩ (.slice (some ⟨g6, 0, none⟩) (k + 1) c6) p hpo)).trans x1
            clear hr6 hg6 hl6 hlt6
            refine hK.out _ _ ?_ (fun hHeld => ?_)
            · exact x1
            clear hK K
            try simp only [Act.put, List.setIfInBounds_toArray, List.set_cons_zero, List.set_cons_succ]
            refine wpAnyH_take (i := 10) (v := ?_) rfl (by kernel_rfl) (by kernel_rfl) (by kernel_rfl) (fun _ _ _ h => h) (Or.inl ⟨by rfl, ?_⟩) hHeld ?_
            rotate_left
            · intro w hSw
              try dsimp only at hSw
              go_simp
              try with_reducible rfl
            try simp only [Act.put, List.setIfInBounds_toArray, List.set_cons_zero, List.set_cons_succ]
            refine wpAnyH_ready (rs := [11]) (by kernel_rfl) (by simp) ?_
            refine AllReadyH.cons rfl (fun K hK => ?_) ?_
            · skip
              go_simp
              refine hK.out _ _ ?_ (fun hHeld => ?_)
              · exact m1
              clear hK K
              try simp only [Act.put, List.setIfInBounds_toArray, List.set_cons_zero, List.set_cons_succ]
              refine wpAnyH_done (by kernel_rfl) ?_ _
              go_wp2
              go_roundw
              case rel => exact ⟨k + 1, _, _, by omega, by go_num, HFIN⟩
              case measure => simp [intOf]; omega
            exact AllReadyH.nil
          exact AllReadyH.nil
        exact AllReadyH.nil
      refine AllReadyH.cons rfl (fun K hK => ?_) ?_
      · skip
        go_simp
        refine hK.out _ _ ?_ (fun hHeld => ?_)
        · exact HS1.out
        clear hK K
        try simp only [Act.put, List.setIfInBounds_toArray, List.set_cons_zero, List.set_cons_succ]
        refine wpAnyH_ready (rs := [1]) (by kernel_rfl) (by simp) ?_
        refine AllReadyH.cons rfl (fun K hK => ?_) ?_
        · skip
          go_simp
          refine hK.out _ _ ?_ (fun hHeld => ?_)
          · exact hHeld
          clear hK K
          try simp only [Act.put, List.setIfInBounds_toArray, List.set_cons_zero, List.set_cons_succ]
          refine wpAnyH_ready (rs := [9]) (by kernel_rfl) (by simp) ?_
          refine AllReadyH.cons rfl (fun K hK => ?_) ?_
          · skip
            refine step_append_lies _ rfl (.tmp 22) (.tmp 29) 24 rfl w.heap.size 3 i0 _ 1 8 Try.underlying24 hi0 hz0 hz1 hz2 rfl (by decide) _ k (cellsN (G.cells.take k)) (by simp [Act.eval]) HROW.out ⟨wr.heap.size, 0, none⟩ 1 1 [.int .i64 v] (by simp [Act.eval]) rfl HNEW.out HONE2.out (by omega) (by unfold maxLen; omega) (by omega) (by have := HW.out.size; simp; omega) (wr.heap.size + 1) (by simp) ?_
            intro g6 c6 w6 hr6 hg6 hl6 hlt6
            have HFIN : Hid (Rl w (w6.setCell ⟨ob, 0, none⟩ (.slice (some ⟨g6, 0, none⟩) (k + 1) c6)) G ob (some ⟨g6, 0, none⟩) c6 (k + 1)) := HL.out.next hk16 HV.out hr6 hg6 hl6
            obtain ⟨x1, u0, u1⟩ := HKEEP.out w6 hg6
            have m1 := (World.cell?_of_block (a := ⟨p, 2 + k, none⟩) (Below.heap_setCell w6 ⟨ob, 0, none⟩ (.slice (some ⟨g6, 0, none⟩) (k + 1) c6) p hpo)).trans x1
            clear hr6 hg6 hl6 hlt6
            refine hK.out _ _ ?_ (fun hHeld => ?_)
            · exact x1
            clear hK K
            try simp only [Act.put, List.setIfInBounds_toArray, List.set_cons_zero, List.set_cons_succ]
            refine wpAnyH_take (i := 10) (v := ?_) rfl (by kernel_rfl) (by kernel_rfl) (by kernel_rfl) (fun _ _ _ h => h) (Or.inl ⟨by rfl, ?_⟩) hHeld ?_
            rotate_left
            · intro w hSw
              try dsimp only at hSw
              go_simp
              try with_reducible rfl
            try simp only [Act.put, List.setIfInBounds_toArray, List.set_cons_zero, List.set_cons_succ]
            refine wpAnyH_ready (rs := [11]) (by kernel_rfl) (by simp) ?_
            refine AllReadyH.cons rfl (fun K hK => ?_) ?_
            · skip
              go_simp
              refine hK.out _ _ ?_ (fun hHeld => ?_)
              · exact m1
              clear hK K
              try simp only [Act.put, List.setIfInBounds_toArray, List.set_cons_zero, List.set_cons_succ]
              refine wpAnyH_done (by kernel_rfl) ?_ _
              go_wp2
              go_roundw
              case rel => exact ⟨k + 1, _, _, by omega, by go_num, HFIN⟩
              case measure => simp [intOf]; omega
            exact AllReadyH.nil
          exact AllReadyH.nil
        exact AllReadyH.nil
      exact AllReadyH.nil
    · obtain rfl : k = 16 := by omega
      have HBW : Hid (Below w.heap.size w wr) := HL.out.base
      have HX : Hid (Wd w0 wr p q (.slice a len cap) G) := HWd.out.below HBW.out
      have HROW : Hid (wr.ownsRow w.heap.size 3 1 (.slice ac 16 cc) 16 (cellsN G.cells)) := by
        have := HL.out.row
        rw [List.take_of_length_le (by omega)] at this
        exact this
      have HRES : Hid (Box wr w.heap.size 27 #[.slice none 0 0, .slice none 0 0, .slice none 0 0, .int .i64 0]) := HL.out.res
      have HNO : Hid (w.heap.size ≠ ob) := HL.out.no
      have HOGE : Hid (w.heap.size ≤ ob) := HL.out.ho
      have HM0 : Hid (Rm wr wr ob (.slice ac 16 cc) (.slice G.ea G.em.length G.ec) (.int .i64 (G.steps : Int)) none 0 0 B.states) := ⟨Chg.refl _ _, HL.out.box, World.ownsRow_nil _ _ _ 1⟩
      have HOT : Hid (tag wr ob = some 27) := HL.out.box.tag
      obtain ⟨n, HN⟩ : ∃ n, Hid (n = B.ts.length) := ⟨_, rfl⟩
      have HNG : Hid (G.ts.length = n) := by unfold Hid; rw [HN.out]; exact HSim.out.len
      have HSS : Hid (B.states.length = n) := by unfold Hid; rw [HN.out]; simp [PB.states]
      have hn8 : n ≤ 8 := by rw [← HNG.out]; exact HWd.out.many
      have HGK : Hid (Gok code G) := HSim.out.gok HEn.out HOk.out
      have HB0 : Hid (w0.heap.size ≤ w.heap.size) := HWd.out.base.size
      have b1 := HX.out.cell.2.1
      rw [HNG.out] at b1
      clear HL hlt hk hlc HR0 HOB hi0 hz0 hz1 hz2 hplt hpl1
      rename World => x2
      rw [show ((16 : Nat) : Int) = 16 from rfl]
      go_wp2_with fail
      go_loopw [5] (fun ix wz => ∃ (m : Nat) (sa : Option Addr) (sc : Nat), m ≤ n ∧ ix = .int .i64 (m : Int) ∧ Hid (Rm x2 wz ob (.slice ac 16 cc) (.slice G.ea G.em.length G.ec) (.int .i64 (G.steps : Int)) sa sc m B.states)) (fun ix _ => n - (intOf ix).toNat)
      case atStart => exact ⟨0, none, 0, Nat.zero_le _, rfl, HM0⟩
      case round =>
        obtain ⟨m, sa, sc, hm, rfl, HM⟩ := hrel
        clear b1 HM0
        have HBx : Hid (Below w.heap.size x2 wr) := HM.out.chg.below (fun b e => by rw [e]; exact HOGE.out) HBW.out.size
        have HWr : Hid (Wd w0 wr p q (.slice a len cap) G) := by
          refine HX.out.kept (fun b hb => HM.out.chg.block b (HX.out.lt hb) (fun e => ?_)) (HX.out.base.trans (HBx.out.mono HB0.out))
          subst e
          rcases hb with e | e | e
          · exact tag_ne HOT.out HX.out.tagP (by decide) e
          · exact tag_ne HOT.out HX.out.tagQ (by decide) e
          · exact tag_ne HOT.out (HX.out.tagE e) (by decide) rfl
        have b1 := HWr.out.cell.2.1
        rw [HNG.out] at b1
        by_cases hlt : m < n
        · have HMG : Hid (m < G.ts.length) := by unfold Hid; rw [HNG.out]; exact hlt
          have HMB : Hid (m < B.ts.length) := by unfold Hid; rw [← HN.out]; exact hlt
          have HVS : Hid (B.states.getD m 0 = rstate (G.can code m) (G.t m).en (G.t m).bd) := by
            unfold Hid
            rw [sim_state HSim.out HEn.out HOk.out HMB.out]
            simp [PB.states, PB.t, List.getD, HMB.out]
          have HMS : Hid (m < B.states.length) := by unfold Hid; rw [HSS.out]; exact hlt
          go_wp2_with fail
          refine (rcan_at HWr.out HCd.out HGK.out (i := m) HMG.out).mono ?_
          rintro e w1 ⟨rfl, hb1⟩
          have HW1 : Hid (Wd w0 w1 p q (.slice a len cap) G) := HWr.out.below hb1
          have HM1 : Hid (Rm x2 w1 ob (.slice ac 16 cc) (.slice G.ea G.em.length G.ec) (.int .i64 (G.steps : Int)) sa sc m B.states) := HM.out.below hb1
          have b1 := HW1.out.cell.2.1
          rw [HNG.out] at b1
          obtain ⟨_, _, _, _, _, t5, t6, _, _⟩ := HW1.out.tcell HMG.out
          obtain ⟨cn, HCN⟩ : ∃ cn, Hid (cn = G.can code m) := ⟨_, rfl⟩
          obtain ⟨en, HEN⟩ : ∃ en, Hid (en = (G.t m).en) := ⟨_, rfl⟩
          obtain ⟨bd, HBD⟩ : ∃ bd, Hid (bd = (G.t m).bd) := ⟨_, rfl⟩
          rw [← HEN.out] at t5
          rw [← HBD.out] at t6
          rw [← HCN.out]
          rw [← HCN.out, ← HEN.out, ← HBD.out] at HVS
          clear HCN HEN HBD hb1 HM HWr HBx HX
          have HZ1 : Hid (x2.heap.size ≤ w1.heap.size) := HM1.out.chg.size
          have o2 := HM1.out.box.cell 2
          have f2 := HM1.out.box.soft 2
          simp at o2
          have hx1 : (0 : Int) ≤ (m : Int) := by omega
          have hx2 : (m : Int) < (n : Int) := by omega
          have hobl := HM1.out.box.lt
          cases cn <;> cases en <;> cases bd
          all_goals
            go_wp2_with (first | (at_builtin; refine wpList_app1 _ _ rfl _ _ rfl x2.heap.size _ _ _ _ rfl HM1.out.st rfl (by omega) HZ1.out ?_))
            intro a4 c4 w4 hr4 hb4 hg4
            have HM5 : Hid (Rm x2 (w4.setCell ⟨ob, 2, none⟩ (.slice a4 (m + 1) c4)) ob (.slice ac 16 cc) (.slice G.ea G.em.length G.ec) (.int .i64 (G.steps : Int)) a4 c4 (m + 1) B.states) := HM1.out.next HMS.out HVS.out hr4 hg4
            have HG4 := (HM1.out.grown hg4).2
            have o2 := HG4.cell 2
            have f2 := HG4.soft 2
            simp at o2
            clear hr4 hb4 hg4 HG4
            go_wp2
            go_roundw
            case rel => exact ⟨m + 1, a4, c4, by omega, by go_num, HM5⟩
            case measure => simp [intOf]; omega
        · obtain rfl : m = n := by omega
          have HO9 := HM.out.box
          have y0 := HO9.cell 0
          have y1 := HO9.cell 1
          have y2 := HO9.cell 2
          have y3 := HO9.cell 3
          simp at y0 y1 y2 y3
          have HR9 : Hid (Box wr w.heap.size 27 #[.slice none 0 0, .slice none 0 0, .slice none 0 0, .int .i64 0]) := HRES.out.kept (HM.out.chg.block _ HRES.out.lt HNO.out)
          have z0 := HR9.out.cell 0
          have z1 := HR9.out.cell 1
          have z2 := HR9.out.cell 2
          have z3 := HR9.out.cell 3
          simp at z0 z1 z2 z3
          have u0 := HR9.out.soft 0
          have u1 := HR9.out.soft 1
          have u2 := HR9.out.soft 2
          have u3 := HR9.out.soft 3
          have hno := HNO.out
          go_wp2
          refine bodyPost_ret (v := .agg #[.slice ac 16 cc, .slice G.ea G.em.length G.ec, .slice sa m sc, .int .i64 (G.steps : Int)]) (by simp [results, Try.results22, go_sem, *]) rfl ?_
          have hlow : ∀ b, b ≠ w.heap.size → ((((wr.setCell ⟨w.heap.size, 0, none⟩ (.slice ac 16 cc)).setCell ⟨w.heap.size, 1, none⟩ (.slice G.ea G.em.length G.ec)).setCell ⟨w.heap.size, 2, none⟩ (.slice sa m sc)).setCell ⟨w.heap.size, 3, none⟩ (.int .i64 (G.steps : Int))).heap[b]? = wr.heap[b]? := fun b hb => by
            rw [Below.heap_setCell _ _ _ _ hb, Below.heap_setCell _ _ _ _ hb, Below.heap_setCell _ _ _ _ hb, Below.heap_setCell _ _ _ _ hb]
          have hrow9 : wr.ownsRow w.heap.size 3 1 (.slice ac 16 cc) 16 (cellsN G.cells) := row_same HROW.out fun b e => HM.out.chg.block b (tag_lt (row_tag HROW.out e)) (fun e2 => tag_ne HOT.out (row_tag HROW.out e) (by decide) e2.symm)
          have hem9 := HWr.out.em
          have hst9 := HM.out.st
          rw [List.take_of_length_le (by rw [HSS.out]; exact Nat.le_refl _)] at hst9
          rw [← HN.out]
          refine ⟨ac, cc, sa, sc, rfl, ?_, ?_, ?_, ?_⟩
          · rw [← HSim.out.cells]
            exact ⟨_, row_same hrow9 fun b e => hlow b (tag_ne (row_tag hrow9 e) HR9.out.tag (by decide))⟩
          · exact ⟨_, row_same hst9 fun b e => hlow b (tag_ne (row_tag hst9 e) HR9.out.tag (by decide))⟩
          · rw [← HSim.out.em]
            exact ⟨_, row_same hem9 fun b e => hlow b (tag_ne (row_tag hem9 e) HR9.out.tag (by decide))⟩
          · exact Below.setCell (Below.setCell (Below.setCell (Below.setCell (HBW.out.trans HBx.out) (Nat.le_refl _) _) (Nat.le_refl _) _) (Nat.le_refl _) _) (Nat.le_refl _) _
end Go.Proofs.Ytehkcgjiimfdjaa
