/- The contracts of the document's own Go by a key, and of Told. -/
import Derived.Test.YtfijibengmgegaaM16Go
namespace Go.Proofs.Ytfijibengmgegaa
open Go.RowKit
set_option linter.unusedVariables false
set_option linter.unusedSimpArgs false
theorem seekI_at {k : IK} : ∀ {l : List KV} {i : Nat}, i ≤ l.length → (∀ j (hj : j < l.length), j < i → l[j].1.cmp k < 0) → (∀ hi : i < l.length, ¬ l[i].1.cmp k < 0) → seekI l k = i
  | [], i, h, _, _ => by
    obtain rfl : i = 0 := by simpa using h
    rfl
  | e :: l, 0, _, _, h => by
    have := h (by simp)
    show (List.takeWhile _ (e :: l)).length = 0
    rw [List.takeWhile_cons_of_neg (by simpa using this)]
    rfl
  | e :: l, i + 1, h, h1, h2 => by
    have h0 := h1 0 (by simp) (by omega)
    show (List.takeWhile _ (e :: l)).length = i + 1
    rw [List.takeWhile_cons_of_pos (by simpa using h0)]
    have ih := seekI_at (k := k) (l := l) (i := i) (by simpa using h) (fun j hj hji => h1 (j + 1) (by simpa using hj) (by omega)) (fun hi => h2 (by simpa using hi))
    show (List.takeWhile _ l).length + 1 = i + 1
    unfold seekI at ih
    rw [ih]
def atOf (w : World) (p : Nat) : Nat := match w.cell? ⟨p, 1, none⟩ with
  | some (.int _ i) => i.toNat
  | _ => 0
theorem GoS.atOf {w W : World} {B M p : Nat} {l : List KV} {a : Option Addr} {c : Nat} {k : IK} {i : Nat} (h : GoS w W B M p l a c k (i : Int)) : Go.Proofs.Ytfijibengmgegaa.atOf W p = i := by
  unfold Go.Proofs.Ytfijibengmgegaa.atOf
  rw [h.cells.2.1]
  rfl
set_option maxRecDepth 100000 in
set_option maxHeartbeats 4000000 in
theorem rgo_3 {w : World} {B M p : Nat} {l : List KV} {o : Option Nat} (h : Rf w B M p l o) (k : IK) (hl : l.length ≤ 1000000) :
    Calls Try.prog 15 #[at_ p, .int .i64 3, keyV k] w fun e w' => e = .returned (.tuple #[]) ∧ Rf w' B M p l (goP l 3 k o) ∧ Chg (fun q => q = p) w w' := by
  have HF : Hid (∀ j, goP l 3 k o = some j → j < l.length) := fun j hj => goP_fit h.fit hj
  obtain ⟨a, c, hs⟩ := h.start k
  have H1 : Hid (GoS w ((w.alloc (.cells (KeyA k) 33)).setCell ⟨p, 1, none⟩ (.int .i64 0)) B M p l a c k 0) := hs.set 0
  obtain ⟨x0, x1, x2⟩ := hs.cells
  clear hs h
  unfold KeyA at x0 x1 x2 H1
  go_enter Try.func15, Try.ntmps15
  go_wp2_with fail
  generalize (w.alloc (Obj.cells #[Value.string k.user, Value.int IntKind.u64 (k.seq : Int), Value.int IntKind.i64 k.kind] 33)).setCell ⟨p, 1, none⟩ (.int .i64 0) = W0 at H1 ⊢
  clear x0 x1 x2
  go_loopw [57] (fun _ wr => ∃ (i : Nat), i ≤ l.length ∧ Hid (GoS w wr B M p l a c k (i : Int) ∧ ∀ j (hj : j < l.length), j < i → l[j].1.cmp k < 0)) (fun _ wr => l.length - atOf wr p)
  case atStart => exact ⟨0, Nat.zero_le _, H1.out, fun j _ h => absurd h (Nat.not_lt_zero _)⟩
  case round =>
    clear H1
    obtain ⟨i, hil, HI⟩ := hrel
    have HAT : Hid (atOf wr p = i) := HI.out.1.atOf
    by_cases hi : i < l.length
    · obtain ⟨b, off, ha, _⟩ := HI.out.1.own.ks.cells4 (by omega)
      have HZ : Hid (∀ W, GoS w W B M p l a c k (i : Int) → W.cell? ⟨p, 0, none⟩ = some (.slice a l.length c) ∧ W.cell? ⟨p, 1, none⟩ = some (.int .i64 (i : Int)) ∧ W.cell? ⟨b, off + i * 4, none⟩ = some (.string l[i].1.user) ∧ W.cell? ⟨b, off + i * 4 + 1, none⟩ = some (.int .u64 (l[i].1.seq : Int)) ∧ W.cell? ⟨b, off + i * 4 + 2, none⟩ = some (.int .i64 l[i].1.kind) ∧ W.cell? ⟨w.heap.size, 0, none⟩ = some (.string k.user) ∧ W.cell? ⟨w.heap.size, 1, none⟩ = some (.int .u64 (k.seq : Int)) ∧ W.cell? ⟨w.heap.size, 2, none⟩ = some (.int .i64 k.kind)) := fun W hW => by
        obtain ⟨b', off', ha', hc⟩ := hW.own.ks.cells4 (by omega)
        rw [ha] at ha'
        cases ha'
        obtain ⟨z0, z1, z2, _⟩ := hc i hi
        exact ⟨hW.cells.1, hW.cells.2.1, z0, z1, z2, hW.keys⟩
      have hx := fun W => idxKV W (a := a) (b := b) (off := off) (n := l.length) (c := c) (i := i) ha hi
      have HY : Hid (l[i].1.cmp k < 0 → ∀ j (hj : j < l.length), j < i + 1 → l[j].1.cmp k < 0) := fun hlt j hj hji => by
        by_cases e : j = i
        · subst e; exact hlt
        · exact HI.out.2 j hj (by omega)
      have HN : Hid (0 ≤ l[i].1.cmp k → (i : Int) = encI (goP l 3 k o)) := fun hno => by
        show _ = encI (normO l (seekI l k))
        rw [seekI_at hil HI.out.2 (fun _ => by omega), normO_enc, if_pos hi]
      have HCP : Hid (∀ W : World, Calls Try.prog 20 #[.agg #[.string l[i].1.user, .int .u64 (l[i].1.seq : Int), .int .i64 l[i].1.kind], .agg #[.string k.user, .int .u64 (k.seq : Int), .int .i64 k.kind]] W fun r w' => r = .returned (.int .i64 (l[i].1.cmp k)) ∧ Below W.heap.size W w') := fun W => rcompare_any _ _ _ _ _ _ W
      have hiI : (i : Int) < (l.length : Int) := by omega
      have hwr : IntKind.i64.wrap ((i : Int) + 1) = (i : Int) + 1 := by rw [IntKind.wrap_i64]; omega
      clear ha
      generalize l[i].1 = eA at HZ HY HN HCP
      generalize eA.cmp k = cv at HY HN HCP
      generalize off + i * 4 = oA at HZ hx
      have HB0 : Hid (GoS w wr B M p l a c k (i : Int)) := HI.out.1
      clear HI
      go_wp2_with fail
      have HB1 : Hid (GoS w wr.drew B M p l a c k (i : Int)) := HB0.out.below (Below.refl _ _).drew
      clear HB0
      obtain ⟨x0, x1, x2, x3, x4, x5, x6, x7⟩ := HZ.out _ HB1.out
      have hgd : decide ((i : Int) < (l.length : Int)) = true := decide_eq_true hiI
      go_region_held3 (fun V => V.cell? ⟨p, 0, none⟩ = some (.slice a l.length c) ∧ V.cell? ⟨p, 1, none⟩ = some (.int .i64 (i : Int)) ∧ V.cell? ⟨b, oA, none⟩ = some (.string eA.user) ∧ V.cell? ⟨b, oA + 1, none⟩ = some (.int .u64 (eA.seq : Int)) ∧ V.cell? ⟨b, oA + 2, none⟩ = some (.int .i64 eA.kind) ∧ V.cell? ⟨w.heap.size, 0, none⟩ = some (.string k.user) ∧ V.cell? ⟨w.heap.size, 1, none⟩ = some (.int .u64 (k.seq : Int)) ∧ V.cell? ⟨w.heap.size, 2, none⟩ = some (.int .i64 k.kind)) (first | exact ⟨x0, x1, x2, x3, x4, x5, x6, x7⟩ | go_keep)
        (first
         | (go_at_call 20; refine (HCP.out _).mono ?_; rintro _ vx ⟨rfl, hbx⟩
            have HB1 : Hid (GoS w vx B M p l a c k (i : Int)) := HB1.out.below hbx
            obtain ⟨x0, x1, x2, x3, x4, x5, x6, x7⟩ := HZ.out _ HB1.out
            clear hbx))
      have y2 := HB1.out.cells.2.2
      by_cases hcv : cv < 0
      · have HA := HB1.out.set ((i : Int) + 1)
        go_wp2
        go_roundw
        case rel => exact ⟨i + 1, by omega, HA, HY.out hcv⟩
        case measure =>
          rw [HA.atOf (i := i + 1), HAT.out]
          omega
      · have HE : Hid ((i : Int) = encI (goP l 3 k o)) := HN.out (by omega)
        have hz : ¬ (l.length : Int) ≤ (i : Int) := by omega
        go_wp2_with fail
        go_quiet (fail)
        go_wp2
        go_returns
        exact ⟨rfl, (HB1.out.below (Below.drewM (Below.refl _ _) _)).rf HE.out HF.out, (HB1.out.below (Below.drewM (Below.refl _ _) _)).chg⟩
    · obtain rfl : i = l.length := by omega
      have HE : Hid ((-1 : Int) = encI (goP l 3 k o)) := by
        show _ = encI (normO l (seekI l k))
        rw [seekI_at hil HI.out.2 (fun h => absurd h (Nat.lt_irrefl _)), normO_enc, if_neg (Nat.lt_irrefl _)]
      have HB0 : Hid (GoS w wr B M p l a c k (l.length : Int)) := HI.out.1
      clear HI
      obtain ⟨y0, y1, y2⟩ := HB0.out.cells
      have hz : ¬ (l.length : Int) < (l.length : Int) := by omega
      go_wp2_with fail
      go_quiet (fail)
      go_wp2_with fail
      have HB1 : Hid (GoS w (wr.drewN nq) B M p l a c k (l.length : Int)) := HB0.out.below (Below.drewM (Below.refl _ _) _)
      generalize wr.drewN nq = wq at HB1 ⊢
      clear HB0 y0 y1 y2
      obtain ⟨y0, y1, y2⟩ := HB1.out.cells
      go_quiet (fail)
      go_wp2
      go_returns
      exact ⟨rfl, ((HB1.out.below (Below.drewM (Below.refl _ _) _)).set (-1)).rf HE.out HF.out, ((HB1.out.below (Below.drewM (Below.refl _ _) _)).set (-1)).chg⟩
/-- The document's own Go. -/
theorem rgo_any {w : World} {B M p : Nat} {l : List KV} {o : Option Nat} (h : Rf w B M p l o) (g : Nat) (hg : 1 ≤ g ∧ g ≤ 5) (k : IK) (hl : l.length ≤ 1000000) :
    Calls Try.prog 15 #[at_ p, .int .i64 (g : Int), keyV k] w fun e w' => e = .returned (.tuple #[]) ∧ Rf w' B M p l (goP l g k o) ∧ Chg (fun q => q = p) w w' := by
  rcases (show g = 1 ∨ g = 2 ∨ g = 3 ∨ g = 4 ∨ g = 5 by omega) with rfl | rfl | rfl | rfl | rfl
  · exact rgo_1 h k hl
  · exact rgo_2 h k hl
  · exact rgo_3 h k hl
  · exact rgo_4 h k hl
  · exact rgo_5 h k hl
set_option maxRecDepth 100000 in
set_option maxHeartbeats 4000000 in
theorem rtold_any {w : World} {B M p : Nat} {l : List KV} {o : Option Nat} (h : Rf w B M p l o) :
    Calls Try.prog 16 #[at_ p] w fun e w' => e = .returned (.tuple #[.agg (kvc (told16 l o).1).toArray, .bool (told16 l o).2]) ∧ Below w.heap.size w w' := by
  obtain ⟨a, c, h1, h2, _⟩ := h.here
  have HF : Hid (∀ i, o = some i → i < l.length) := h.fit
  have hp := h1.lt
  obtain ⟨W1, eW⟩ : ∃ W1, W1 = w.alloc (.cells #[.string ⟨#[]⟩, .int .u64 0, .int .i64 0, .string ⟨#[]⟩] TKV) := ⟨_, rfl⟩
  have HB : Hid (Below w.heap.size w W1 ∧ Box W1 w.heap.size TKV #[.string ⟨#[]⟩, .int .u64 0, .int .i64 0, .string ⟨#[]⟩]) := by
    rw [eW]
    exact ⟨(Below.refl _ _).alloc (Nat.le_refl _) _, Box.new _ _ _⟩
  have HQ : Hid (∀ W, Below w.heap.size w W → Box W p TRI #[.slice a l.length c, .int .i64 (encI o)] ∧ OwnK W B a l.length c l) := fun W hW => ⟨h1.kept (hW.block _ hp), h2.below hW⟩
  have hc1 := (HQ.out _ HB.out.1).1.cell 1
  rw [eW] at hc1
  clear h h1 h2
  cases o with
  | none =>
    rw [show encI none = -1 from rfl] at hc1
    have r0 := HB.out.2.cell 0
    have r1 := HB.out.2.cell 1
    have r2 := HB.out.2.cell 2
    have r3 := HB.out.2.cell 3
    rw [eW] at r0 r1 r2 r3
    go_enter Try.func16, Try.ntmps16
    go_wp2_with fail
    refine bodyPost_ret (v := .tuple #[.agg #[.string ⟨#[]⟩, .int .u64 0, .int .i64 0, .string ⟨#[]⟩], .bool false]) (by simp [results, Try.results16, go_sem]) rfl ⟨rfl, ?_⟩
    rw [← eW]
    exact HB.out.1
  | some i =>
    have hil := HF.out i rfl
    rw [show encI (some i) = (i : Int) from rfl] at hc1 HQ
    obtain ⟨b, off, ha, _⟩ := (HQ.out _ (Below.refl _ _)).2.ks.cells4 (by omega)
    have hx := fun W => idxKV W (a := a) (b := b) (off := off) (n := l.length) (c := c) (i := i) ha hil
    rw [show told16 l (some i) = (l[i], true) by simp [told16, List.getD, hil]]
    have HZ : Hid (∀ W, Below w.heap.size w W → W.cell? ⟨p, 0, none⟩ = some (.slice a l.length c) ∧ W.cell? ⟨p, 1, none⟩ = some (.int .i64 (i : Int)) ∧ W.cell? ⟨b, off + i * 4, none⟩ = some (.string l[i].1.user) ∧ W.cell? ⟨b, off + i * 4 + 1, none⟩ = some (.int .u64 (l[i].1.seq : Int)) ∧ W.cell? ⟨b, off + i * 4 + 2, none⟩ = some (.int .i64 l[i].1.kind) ∧ W.cell? ⟨b, off + i * 4 + 3, none⟩ = some (.string l[i].2)) := fun W hW => by
      obtain ⟨hb, ho⟩ := HQ.out W hW
      obtain ⟨b', off', ha', hc⟩ := ho.ks.cells4 (by omega)
      rw [ha] at ha'
      cases ha'
      exact ⟨hb.cell 0, hb.cell 1, hc i hil⟩
    clear ha HQ
    generalize off + i * 4 = oA at HZ hx
    generalize l[i] = e at HZ ⊢
    have HB3 : Hid (Below w.heap.size w (w.alloc (.cells #[.string e.1.user, .int .u64 (e.1.seq : Int), .int .i64 e.1.kind, .string e.2] TKV)).drew ∧ Box (w.alloc (.cells #[.string e.1.user, .int .u64 (e.1.seq : Int), .int .i64 e.1.kind, .string e.2] TKV)).drew w.heap.size TKV #[.string e.1.user, .int .u64 (e.1.seq : Int), .int .i64 e.1.kind, .string e.2]) := ⟨((Below.refl _ _).alloc (Nat.le_refl _) _).drew, Box.new _ _ _⟩
    rw [eW] at HB
    have HB1 : Hid (Below w.heap.size w (w.alloc (.cells #[.string ⟨#[]⟩, .int .u64 0, .int .i64 0, .string ⟨#[]⟩] TKV)).drew) := HB.out.1.drew
    go_enter Try.func16, Try.ntmps16
    go_wp2_with fail
    clear hc1
    go_region_held3 (fun V => V.cell? ⟨p, 0, none⟩ = some (.slice a l.length c) ∧ V.cell? ⟨p, 1, none⟩ = some (.int .i64 (i : Int)) ∧ V.cell? ⟨b, oA, none⟩ = some (.string e.1.user) ∧ V.cell? ⟨b, oA + 1, none⟩ = some (.int .u64 (e.1.seq : Int)) ∧ V.cell? ⟨b, oA + 2, none⟩ = some (.int .i64 e.1.kind) ∧ V.cell? ⟨b, oA + 3, none⟩ = some (.string e.2)) (first | exact HZ.out _ HB1.out | exact HZ.out _ HB3.out.1 | go_keep) (fail)
    have r0 := HB3.out.2.cell 0
    have r1 := HB3.out.2.cell 1
    have r2 := HB3.out.2.cell 2
    have r3 := HB3.out.2.cell 3
    go_wp2
    exact bodyPost_ret (v := .tuple #[.agg #[.string e.1.user, .int .u64 (e.1.seq : Int), .int .i64 e.1.kind, .string e.2], .bool true]) (by simp [results, Try.results16, go_sem, r0, r1, r2, r3]) rfl ⟨rfl, HB3.out.1⟩
end Go.Proofs.Ytfijibengmgegaa
