/- The contract of sort.Search, at block's closures. -/
import Derived.Test.YtgegjcnjlibfdaaGreatChecked
import Derived.Test.YtgegjcnjlibfdaaGreatQa02
import Derived.Deep.LoopGhost
import Derived.WalkKit
import Derived.Test.YtgegjcnjlibfdaaGreatC11OpenA
import Derived.Laws.EntriesVeiled
namespace Go.Proofs.YtgegjcnjlibfdaaGreat
set_option maxRecDepth 100000
open Go.RowKit
set_option linter.unusedVariables false
set_option linter.unusedSimpArgs false
set_option maxRecDepth 100000 in
set_option maxHeartbeats 1000000 in
theorem search2 (n : Nat) (hn : n < 4611686018427387904) (pr : Nat → Bool) (c1 c2 : Value) (w : World)
    (hf : ∀ W : World, Below w.heap.size w W → ∀ i : Nat, i < n → Calls Tryz.prog 89 #[.int .i64 (i : Int), c1, c2] W fun e w' => e = .returned (.bool (pr i)) ∧ Below W.heap.size W w')
    (hm : ∀ a b, a ≤ b → b < n → pr a = true → pr b = true) :
    Calls Tryz.prog 47 #[.int .i64 (n : Int), .func (.func 89) #[] #[c1, c2]] w fun e w' => ∃ r : Nat, e = .returned (.int .i64 (r : Int)) ∧ r ≤ n ∧ (∀ i, i < r → pr i = false) ∧ (∀ i, r ≤ i → i < n → pr i = true) ∧ Below w.heap.size w w' := by
  have HF : Hid (∀ W : World, Below w.heap.size w W → ∀ i : Nat, i < n → Calls Tryz.prog 89 #[.int .i64 (i : Int), c1, c2] W fun e w' => e = .returned (.bool (pr i)) ∧ Below W.heap.size W w') := hf
  have HM : Hid (∀ a b, a ≤ b → b < n → pr a = true → pr b = true) := hm
  clear hf hm
  go_enter Tryz.func47, Tryz.ntmps47
  go_wp2
  go_loopg [5, 6] n (fun kx s5 s6 wr => ∃ (lo hi : Nat), s5 = .int .i64 (lo : Int) ∧ s6 = .int .i64 (hi : Int) ∧ lo ≤ hi ∧ hi ≤ n ∧ hi - lo ≤ kx ∧ Hid (Below w.heap.size w wr ∧ (∀ t, t < lo → pr t = false) ∧ (∀ t, hi ≤ t → t < n → pr t = true)))
  case atStart => exact ⟨0, n, rfl, rfl, Nat.zero_le _, Nat.le_refl _, by omega, Below.refl _ _, fun t ht => absurd ht (Nat.not_lt_zero _), fun t h1 h2 => by omega⟩
  case round =>
    obtain ⟨lo, hi, rfl, rfl, hlh, hin, hg, HI⟩ := hrel
    by_cases hlt : lo < hi
    · have hc := HF.out _ HI.out.1 ((lo + hi) / 2) (by omega)
      rw [show (((lo + hi) / 2 : Nat) : Int) = ((lo : Int) + (hi : Int)) / 2 by omega] at hc
      cases hp : pr ((lo + hi) / 2) <;> rw [hp] at hc
      · have HP : Hid (pr ((lo + hi) / 2) = false) := hp
        clear hp
        go_wp2_with fail
        refine hc.mono ?_
        rintro _ w2 ⟨rfl, hb⟩
        have HB : Hid (Below w.heap.size w w2) := HI.out.1.trans (hb.mono HI.out.1.size)
        clear hb hc
        go_wp2
        go_roundg (hi - ((lo + hi) / 2 + 1))
        case measure => omega
        case rel =>
          refine ⟨(lo + hi) / 2 + 1, hi, by congr 1, rfl, by omega, hin, Nat.le_refl _, HB.out, fun t ht => ?_, HI.out.2.2⟩
          cases h : pr t with
          | false => rfl
          | true =>
            have := HM.out t ((lo + hi) / 2) (by omega) (by omega) h
            rw [HP.out] at this
            cases this
      · have HP : Hid (pr ((lo + hi) / 2) = true) := hp
        clear hp
        go_wp2_with fail
        refine hc.mono ?_
        rintro _ w2 ⟨rfl, hb⟩
        have HB : Hid (Below w.heap.size w w2) := HI.out.1.trans (hb.mono HI.out.1.size)
        clear hb hc
        go_wp2
        go_roundg ((lo + hi) / 2 - lo)
        case measure => omega
        case rel => exact ⟨lo, (lo + hi) / 2, rfl, by congr 1, by omega, by omega, Nat.le_refl _, HB.out, HI.out.2.1, fun t h1 h2 => HM.out _ t h1 h2 HP.out⟩
    · obtain rfl : hi = lo := by omega
      go_wp2
      go_ret
      exact ⟨hi, ret1 rfl, hin, HI.out.2.1, HI.out.2.2, HI.out.1⟩
set_option maxRecDepth 100000 in
set_option maxHeartbeats 1000000 in
theorem search3 (n : Nat) (hn : n < 4611686018427387904) (pr : Nat → Bool) (c1 c2 : Value) (w : World)
    (hf : ∀ W : World, Below w.heap.size w W → ∀ i : Nat, i < n → Calls Tryz.prog 91 #[.int .i64 (i : Int), c1, c2] W fun e w' => e = .returned (.bool (pr i)) ∧ Below W.heap.size W w')
    (hm : ∀ a b, a ≤ b → b < n → pr a = true → pr b = true) :
    Calls Tryz.prog 47 #[.int .i64 (n : Int), .func (.func 91) #[] #[c1, c2]] w fun e w' => ∃ r : Nat, e = .returned (.int .i64 (r : Int)) ∧ r ≤ n ∧ (∀ i, i < r → pr i = false) ∧ (∀ i, r ≤ i → i < n → pr i = true) ∧ Below w.heap.size w w' := by
  have HF : Hid (∀ W : World, Below w.heap.size w W → ∀ i : Nat, i < n → Calls Tryz.prog 91 #[.int .i64 (i : Int), c1, c2] W fun e w' => e = .returned (.bool (pr i)) ∧ Below W.heap.size W w') := hf
  have HM : Hid (∀ a b, a ≤ b → b < n → pr a = true → pr b = true) := hm
  clear hf hm
  go_enter Tryz.func47, Tryz.ntmps47
  go_wp2
  go_loopg [5, 6] n (fun kx s5 s6 wr => ∃ (lo hi : Nat), s5 = .int .i64 (lo : Int) ∧ s6 = .int .i64 (hi : Int) ∧ lo ≤ hi ∧ hi ≤ n ∧ hi - lo ≤ kx ∧ Hid (Below w.heap.size w wr ∧ (∀ t, t < lo → pr t = false) ∧ (∀ t, hi ≤ t → t < n → pr t = true)))
  case atStart => exact ⟨0, n, rfl, rfl, Nat.zero_le _, Nat.le_refl _, by omega, Below.refl _ _, fun t ht => absurd ht (Nat.not_lt_zero _), fun t h1 h2 => by omega⟩
  case round =>
    obtain ⟨lo, hi, rfl, rfl, hlh, hin, hg, HI⟩ := hrel
    by_cases hlt : lo < hi
    · have hc := HF.out _ HI.out.1 ((lo + hi) / 2) (by omega)
      rw [show (((lo + hi) / 2 : Nat) : Int) = ((lo : Int) + (hi : Int)) / 2 by omega] at hc
      cases hp : pr ((lo + hi) / 2) <;> rw [hp] at hc
      · have HP : Hid (pr ((lo + hi) / 2) = false) := hp
        clear hp
        go_wp2_with fail
        refine hc.mono ?_
        rintro _ w2 ⟨rfl, hb⟩
        have HB : Hid (Below w.heap.size w w2) := HI.out.1.trans (hb.mono HI.out.1.size)
        clear hb hc
        go_wp2
        go_roundg (hi - ((lo + hi) / 2 + 1))
        case measure => omega
        case rel =>
          refine ⟨(lo + hi) / 2 + 1, hi, by congr 1, rfl, by omega, hin, Nat.le_refl _, HB.out, fun t ht => ?_, HI.out.2.2⟩
          cases h : pr t with
          | false => rfl
          | true =>
            have := HM.out t ((lo + hi) / 2) (by omega) (by omega) h
            rw [HP.out] at this
            cases this
      · have HP : Hid (pr ((lo + hi) / 2) = true) := hp
        clear hp
        go_wp2_with fail
        refine hc.mono ?_
        rintro _ w2 ⟨rfl, hb⟩
        have HB : Hid (Below w.heap.size w w2) := HI.out.1.trans (hb.mono HI.out.1.size)
        clear hb hc
        go_wp2
        go_roundg ((lo + hi) / 2 - lo)
        case measure => omega
        case rel => exact ⟨lo, (lo + hi) / 2, rfl, by congr 1, by omega, by omega, Nat.le_refl _, HB.out, HI.out.2.1, fun t h1 h2 => HM.out _ t h1 h2 HP.out⟩
    · obtain rfl : hi = lo := by omega
      go_wp2
      go_ret
      exact ⟨hi, ret1 rfl, hin, HI.out.2.1, HI.out.2.2, HI.out.1⟩
end Go.Proofs.YtgegjcnjlibfdaaGreat
/- The contracts of the closures by which a block's Find halves. -/
namespace Go.Proofs.YtgegjcnjlibfdaaGreat
open Go.RowKit
set_option linter.unusedVariables false
set_option linter.unusedSimpArgs false
abbrev TK : TypeId := 52
abbrev TFn : TypeId := 148
def ikA (k : IK) : Array Value := #[.string k.user, .int .u64 (k.seq : Int), .int .i64 k.kind]
def fnV (kb : Nat) : Value := .func (.func 88) #[] #[at_ kb]
def na (e : KV) (k : IK) : Bool := decide (0 ≤ e.1.cmp k)
set_option maxRecDepth 100000 in
set_option maxHeartbeats 1000000 in
theorem notAhead_any (e : KV) (k : IK) (kb : Nat) (V : World) (hk : Box V kb TK (ikA k)) :
    Calls Tryz.prog 88 #[.agg #[.string e.1.user, .int .u64 (e.1.seq : Int), .int .i64 e.1.kind, .string e.2], at_ kb] V fun r w' => r = .returned (.bool (na e k)) ∧ Below V.heap.size V w' := by
  have c0 : V.cell? ⟨kb, 0, none⟩ = some (.string k.user) := hk.cell 0
  have c1 : V.cell? ⟨kb, 1, none⟩ = some (.int .u64 (k.seq : Int)) := hk.cell 1
  have c2 : V.cell? ⟨kb, 2, none⟩ = some (.int .i64 k.kind) := hk.cell 2
  have hlt : kb < V.heap.size := hk.lt
  have hne : kb ≠ V.heap.size := by omega
  have HC : Hid (∀ U : World, Calls Tryz.prog 43 #[.agg #[.string e.1.user, .int .u64 (e.1.seq : Int), .int .i64 e.1.kind], .agg #[.string k.user, .int .u64 (k.seq : Int), .int .i64 k.kind]] U fun r w' => r = .returned (.int .i64 (e.1.cmp k)) ∧ Below U.heap.size U w') := fun U => compare_any _ _ _ _ _ _ U
  have HN : Hid (na e k = decide (0 ≤ e.1.cmp k)) := rfl
  generalize e.1.cmp k = cv at HC HN
  go_enter Tryz.func88, Tryz.ntmps88
  go_wp2_with fail
  refine (HC.out _).mono ?_
  rintro _ w2 ⟨rfl, hb⟩
  have HB : Hid (Below V.heap.size V w2) := ((Below.refl _ _).alloc (Nat.le_refl _) _).trans (hb.mono (by simp))
  clear hb
  go_wp2
  go_ret
  rw [HN.out]
  exact ⟨ret1 rfl, HB.out⟩
set_option maxRecDepth 100000 in
set_option maxHeartbeats 2000000 in
theorem find2_any {V : World} {B p iv sz : Nat} {ss : List (List UInt8)} (h : BkAt V B p iv sz ss) {j : Nat} (hj : j < ss.length) {e : KV} {key rest : List UInt8} (he : takeB ss[j] [] = some (e, key, rest)) (k : IK) (kb fb bb : Nat) (hk : Box V kb TK (ikA k)) (hf : Box V fb TFn #[fnV kb]) (hb : Box V bb TPB #[at_ p]) :
    Calls Tryz.prog 89 #[.int .i64 (j : Int), at_ fb, at_ bb] V fun r w' => r = .returned (.bool (na e k)) ∧ Below V.heap.size V w' := by
  have H0 : Hid (BkAt V.drew B p iv sz ss ∧ Box V.drew kb TK (ikA k) ∧ Box V.drew fb TFn #[fnV kb] ∧ Box V.drew bb TPB #[at_ p]) := ⟨h.below (Below.refl _ _).drew, hk, hf, hb⟩
  have HFi : Hid (Calls Tryz.prog 90 #[at_ p, .int .i64 (j : Int)] V.drew fun r w' => r = .returned (.agg #[.string e.1.user, .int .u64 (e.1.seq : Int), .int .i64 e.1.kind, .string e.2]) ∧ Below V.heap.size V w') := (first_any H0.out.1 hj he).mono fun r w' h => ⟨h.1, ((Below.refl _ V).drew).trans h.2⟩
  have HNA : Hid (∀ U : World, Box U kb TK (ikA k) → Calls Tryz.prog 88 #[.agg #[.string e.1.user, .int .u64 (e.1.seq : Int), .int .i64 e.1.kind, .string e.2], at_ kb] U fun r w' => r = .returned (.bool (na e k)) ∧ Below U.heap.size U w') := fun U hU => notAhead_any e k kb U hU
  have d0 : V.drew.cell? ⟨fb, 0, none⟩ = some (.func (.func 88) #[] #[.pointer (some ⟨kb, 0, none⟩)]) := H0.out.2.2.1.cell 0
  have d1 : V.drew.cell? ⟨bb, 0, none⟩ = some (at_ p) := H0.out.2.2.2.cell 0
  clear h hj he hk hf hb
  generalize na e k = nv at HNA
  go_enter Tryz.func89, Tryz.ntmps89
  go_wp2_with fail
  go_region_held3 (fun U => U.cell? ⟨fb, 0, none⟩ = some (.func (.func 88) #[] #[.pointer (some ⟨kb, 0, none⟩)]) ∧ U.cell? ⟨bb, 0, none⟩ = some (at_ p)) (first | exact ⟨d0, d1⟩ | go_keep)
    (first
     | (go_at_call 90; refine HFi.out.mono ?_; rintro _ vx ⟨rfl, hbx⟩
        have H1 : Hid (Below V.heap.size V vx ∧ Box vx kb TK (ikA k) ∧ Box vx fb TFn #[fnV kb] ∧ Box vx bb TPB #[at_ p]) := ⟨hbx, Box.kept (w := V) H0.out.2.1 (hbx.block _ H0.out.2.1.lt), Box.kept (w := V) H0.out.2.2.1 (hbx.block _ H0.out.2.2.1.lt), Box.kept (w := V) H0.out.2.2.2 (hbx.block _ H0.out.2.2.2.lt)⟩
        have d0 : vx.cell? ⟨fb, 0, none⟩ = some (.func (.func 88) #[] #[.pointer (some ⟨kb, 0, none⟩)]) := H1.out.2.2.1.cell 0
        have d1 : vx.cell? ⟨bb, 0, none⟩ = some (at_ p) := H1.out.2.2.2.cell 0
        clear hbx)
     | (go_at_call 88; refine (HNA.out _ H1.out.2.1).mono ?_; rintro _ vy ⟨rfl, hby⟩
        have H2 : Hid (Below V.heap.size V vy) := H1.out.1.trans (hby.mono H1.out.1.size)
        have d0 : vy.cell? ⟨fb, 0, none⟩ = some (.func (.func 88) #[] #[.pointer (some ⟨kb, 0, none⟩)]) := (H1.out.2.2.1.kept (hby.block _ H1.out.2.2.1.lt)).cell 0
        have d1 : vy.cell? ⟨bb, 0, none⟩ = some (at_ p) := (H1.out.2.2.2.kept (hby.block _ H1.out.2.2.2.lt)).cell 0
        clear hby))
  go_wp2
  go_ret
  exact ⟨ret1 rfl, H2.out⟩
set_option maxRecDepth 100000 in
set_option maxHeartbeats 2000000 in
theorem find3_any {V : World} {a : Option Addr} {n c : Nat} {l : List KV} (h : KsAt V a n c l) {j : Nat} (hj : j < l.length) (k : IK) (kb fb sb : Nat) (hk : Box V kb TK (ikA k)) (hf : Box V fb TFn #[fnV kb]) (hb : Box V sb 23 #[.slice a n c]) :
    Calls Tryz.prog 91 #[.int .i64 (j : Int), at_ fb, at_ sb] V fun r w' => r = .returned (.bool (na l[j] k)) ∧ Below V.heap.size V w' := by
  have hjn : j < n := by have := h.size; omega
  obtain ⟨b, off, ha, hc⟩ := h.cells4 (by omega)
  obtain ⟨k0, k1, k2, k3⟩ := hc j hj
  have hidx := fun U => idxKV U (a := a) (b := b) (off := off) (n := n) (c := c) ha hjn
  generalize l[j] = e at k0 k1 k2 k3
  have H0 : Hid (Box V kb TK (ikA k)) := hk
  have HNA : Hid (∀ U : World, Box U kb TK (ikA k) → Calls Tryz.prog 88 #[.agg #[.string e.1.user, .int .u64 (e.1.seq : Int), .int .i64 e.1.kind, .string e.2], at_ kb] U fun r w' => r = .returned (.bool (na e k)) ∧ Below U.heap.size U w') := fun U hU => notAhead_any e k kb U hU
  have d0 : V.drew.cell? ⟨fb, 0, none⟩ = some (.func (.func 88) #[] #[.pointer (some ⟨kb, 0, none⟩)]) := hf.cell 0
  have d1 : V.drew.cell? ⟨sb, 0, none⟩ = some (.slice a n c) := hb.cell 0
  have HB : Hid (Box V fb TFn #[fnV kb] ∧ Box V sb 23 #[.slice a n c]) := ⟨hf, hb⟩
  have e0 : V.drew.cell? ⟨b, off + j * 4, none⟩ = some (.string e.1.user) := k0
  have e1 : V.drew.cell? ⟨b, off + j * 4 + 1, none⟩ = some (.int .u64 (e.1.seq : Int)) := k1
  have e2 : V.drew.cell? ⟨b, off + j * 4 + 2, none⟩ = some (.int .i64 e.1.kind) := k2
  have e3 : V.drew.cell? ⟨b, off + j * 4 + 3, none⟩ = some (.string e.2) := k3
  have HKC : Hid (∀ U, Below V.heap.size V U → U.cell? ⟨b, off + j * 4, none⟩ = some (.string e.1.user) ∧ U.cell? ⟨b, off + j * 4 + 1, none⟩ = some (.int .u64 (e.1.seq : Int)) ∧ U.cell? ⟨b, off + j * 4 + 2, none⟩ = some (.int .i64 e.1.kind) ∧ U.cell? ⟨b, off + j * 4 + 3, none⟩ = some (.string e.2)) := fun U hU => by
    have hlt : b < V.heap.size := World.block_lt_of_cell? V _ k0
    exact ⟨by rw [hU.cell hlt]; exact k0, by rw [hU.cell hlt]; exact k1, by rw [hU.cell hlt]; exact k2, by rw [hU.cell hlt]; exact k3⟩
  clear h hj hk hf hb hc ha k0 k1 k2 k3
  generalize na e k = nv at HNA
  go_enter Tryz.func91, Tryz.ntmps91
  go_wp2_with fail
  go_region_held3 (fun U => U.cell? ⟨fb, 0, none⟩ = some (.func (.func 88) #[] #[.pointer (some ⟨kb, 0, none⟩)]) ∧ U.cell? ⟨sb, 0, none⟩ = some (.slice a n c) ∧ U.cell? ⟨b, off + j * 4, none⟩ = some (.string e.1.user) ∧ U.cell? ⟨b, off + j * 4 + 1, none⟩ = some (.int .u64 (e.1.seq : Int)) ∧ U.cell? ⟨b, off + j * 4 + 2, none⟩ = some (.int .i64 e.1.kind) ∧ U.cell? ⟨b, off + j * 4 + 3, none⟩ = some (.string e.2)) (first | exact ⟨d0, d1, e0, e1, e2, e3⟩ | go_keep)
    (first
     | (go_at_call 88; refine (HNA.out V.drew H0.out).mono ?_; rintro _ vy ⟨rfl, hby⟩
        have H2 : Hid (Below V.heap.size V vy) := ((Below.refl _ V).drew).trans hby
        have d0 : vy.cell? ⟨fb, 0, none⟩ = some (.func (.func 88) #[] #[.pointer (some ⟨kb, 0, none⟩)]) := (Box.kept (w := V) HB.out.1 (H2.out.block _ HB.out.1.lt)).cell 0
        have d1 : vy.cell? ⟨sb, 0, none⟩ = some (.slice a n c) := (Box.kept (w := V) HB.out.2 (H2.out.block _ HB.out.2.lt)).cell 0
        obtain ⟨e0, e1, e2, e3⟩ := HKC.out _ H2.out
        clear hby))
  go_wp2
  go_ret
  exact ⟨ret1 rfl, H2.out⟩
end Go.Proofs.YtgegjcnjlibfdaaGreat
/- The contract of a block's Find. -/
namespace Go.Proofs.YtgegjcnjlibfdaaGreat
open Go.RowKit
set_option linter.unusedVariables false
set_option linter.unusedSimpArgs false
set_option maxRecDepth 100000 in
theorem find_nil (k : IK) (w : World) : Calls Tryz.prog 51 #[.pointer none, k.v] w fun r w' => r = .returned (.int .i64 0) ∧ Below w.heap.size w w' := by
  have HB : Hid (Below w.heap.size w ((w.alloc (.cells #[.pointer none] TPB)).alloc (.cells (ikA k) TK))) := ((Below.refl _ _).alloc (Nat.le_refl _) _).alloc (by simp) _
  unfold IK.v
  go_enter Tryz.func51, Tryz.ntmps51
  go_wp2
  go_ret
  exact ⟨ret1 rfl, HB.out⟩
set_option maxRecDepth 100000 in
set_option maxHeartbeats 4000000 in
theorem find_any {w : World} {B p iv : Nat} {l : List KV} (h : GB w B p iv l) (k : IK) :
    Calls Tryz.prog 51 #[at_ p, k.v] w fun r w' => ∃ n, FirstAt l k n ∧ r = .returned (.int .i64 (n : Int)) ∧ Below w.heap.size w w' := by
  have hmf : ∀ (fn : Fn) (first cap : Array Value) (w : World), (Instr.makeFunc fn first cap).run Tryz.prog w = .ok (.func fn first cap) w := fun _ _ _ _ => rfl
  have HG : Hid (GB w B p iv l) := h
  have hiv1 := h.one
  have hiv16 := h.top
  have hsm := h.small
  clear h
  unfold IK.v
  have W3 : Hid (∀ V : World, V = ((w.alloc (.cells #[at_ p] TPB)).alloc (.cells (ikA k) TK)).alloc (.cells #[fnV (w.heap.size + 1)] TFn) → Below w.heap.size w V ∧ Box V w.heap.size TPB #[at_ p] ∧ Box V (w.heap.size + 1) TK (ikA k) ∧ Box V (w.heap.size + 1 + 1) TFn #[fnV (w.heap.size + 1)]) := by
    rintro V rfl
    refine ⟨(((Below.refl _ _).alloc (Nat.le_refl _) _).alloc (by simp) _).alloc (by simp; omega) _, ((Box.new _ _ _).alloc _).alloc _, ?_, ?_⟩
    · have := (Box.new (w.alloc (.cells #[at_ p] TPB)) TK (ikA k)).alloc (.cells #[fnV (w.heap.size + 1)] TFn)
      simpa using this
    · have := Box.new ((w.alloc (.cells #[at_ p] TPB)).alloc (.cells (ikA k) TK)) TFn #[fnV (w.heap.size + 1)]
      simpa using this
  have c0 : ∃ g, w.cell? ⟨p, 0, none⟩ = some (.slice (some ⟨g, 0, none⟩) (strs iv l).length (strs iv l).length) ∧ (strs iv l).length ≤ 1000000000000 := by
    obtain ⟨g, c0, _, _, hm, _⟩ := HG.out.bk.cells
    exact ⟨g, c0, hm⟩
  obtain ⟨g, c0, hm⟩ := c0
  have c1 : w.cell? ⟨p, 1, none⟩ = some (.int .i64 (iv : Int)) := by
    obtain ⟨g, _, c1, _⟩ := HG.out.bk.cells
    exact c1
  have hpl : p < w.heap.size := World.block_lt_of_cell? w _ c0
  have hpn : p ≠ w.heap.size := by omega
  have hpn1 : p ≠ w.heap.size + 1 := by omega
  have hpn2 : p ≠ w.heap.size + 1 + 1 := by omega
  have e0 : (((w.alloc (.cells #[at_ p] TPB)).alloc (.cells #[.string k.user, .int .u64 (k.seq : Int), .int .i64 k.kind] TK)).alloc (.cells #[.func (.func 88) #[] #[.pointer (some ⟨w.heap.size + 1, 0, none⟩)]] TFn)).cell? ⟨p, 0, none⟩ = some (.slice (some ⟨g, 0, none⟩) (strs iv l).length (strs iv l).length) := by
    exact Eq.trans ((W3.out _ rfl).1.cell (show (⟨p, 0, none⟩ : Addr).block < _ from hpl)) c0
  go_enter Tryz.func51, Tryz.ntmps51
  go_wp2_with fail
  have H3 : Hid (Below w.heap.size w (((w.alloc (.cells #[at_ p] TPB)).alloc (.cells #[.string k.user, .int .u64 (k.seq : Int), .int .i64 k.kind] TK)).alloc (.cells #[.func (.func 88) #[] #[.pointer (some ⟨w.heap.size + 1, 0, none⟩)]] TFn)) ∧ Box (((w.alloc (.cells #[at_ p] TPB)).alloc (.cells #[.string k.user, .int .u64 (k.seq : Int), .int .i64 k.kind] TK)).alloc (.cells #[.func (.func 88) #[] #[.pointer (some ⟨w.heap.size + 1, 0, none⟩)]] TFn)) w.heap.size TPB #[at_ p] ∧ Box (((w.alloc (.cells #[at_ p] TPB)).alloc (.cells #[.string k.user, .int .u64 (k.seq : Int), .int .i64 k.kind] TK)).alloc (.cells #[.func (.func 88) #[] #[.pointer (some ⟨w.heap.size + 1, 0, none⟩)]] TFn)) (w.heap.size + 1) TK (ikA k) ∧ Box (((w.alloc (.cells #[at_ p] TPB)).alloc (.cells #[.string k.user, .int .u64 (k.seq : Int), .int .i64 k.kind] TK)).alloc (.cells #[.func (.func 88) #[] #[.pointer (some ⟨w.heap.size + 1, 0, none⟩)]] TFn)) (w.heap.size + 1 + 1) TFn #[fnV (w.heap.size + 1)]) := W3.out _ rfl
  generalize ((w.alloc (.cells #[at_ p] TPB)).alloc (.cells #[.string k.user, .int .u64 (k.seq : Int), .int .i64 k.kind] TK)).alloc (.cells #[.func (.func 88) #[] #[.pointer (some ⟨w.heap.size + 1, 0, none⟩)]] TFn) = w3 at H3 ⊢
  clear W3 e0
  have HS2 := search2 (strs iv l).length (by omega) (fun m => if h : m * iv < l.length then na l[m * iv] k else true) (at_ (w.heap.size + 1 + 1)) (at_ w.heap.size) w3 (by
    intro V hV m hm
    obtain ⟨hh, rest, ht⟩ := first_take hiv1 HG.out.eok hm
    have hbV := H3.out.1.trans (hV.mono H3.out.1.size)
    have := find2_any (HG.out.bk.below hbV) hm ht k _ _ _ (H3.out.2.2.1.kept (hV.block _ H3.out.2.2.1.lt)) (H3.out.2.2.2.kept (hV.block _ H3.out.2.2.2.lt)) (H3.out.2.1.kept (hV.block _ H3.out.2.1.lt))
    simp only [hh, dif_pos]
    exact this) (by
    intro a b hab hb ha
    have hbl : b * iv < l.length := (chunks_at hiv1 l b).1.2 (by rw [← strs_len]; exact hb)
    have hal : a * iv < l.length := Nat.lt_of_le_of_lt (mul_of_le hab) hbl
    simp only [hal, hbl, dif_pos] at ha ⊢
    unfold na at ha ⊢
    exact decide_eq_true (na_mono HG.out.rise hbl (mul_of_le hab) (of_decide_eq_true ha)))
  generalize hmq : (strs iv l).length = m at c0 hm HS2 ⊢
  have HMQ : Hid ((strs iv l).length = m) := hmq
  clear hmq
  refine HS2.mono ?_
  rintro _ w4 ⟨mark, rfl, hmk, hlo, hhi, hb4⟩
  have H4 : Hid (Below w.heap.size w w4 ∧ Box w4 w.heap.size TPB #[at_ p] ∧ Box w4 (w.heap.size + 1) TK (ikA k) ∧ Box w4 (w.heap.size + 1 + 1) TFn #[fnV (w.heap.size + 1)]) := ⟨H3.out.1.trans (hb4.mono H3.out.1.size), H3.out.2.1.kept (hb4.block _ H3.out.2.1.lt), H3.out.2.2.1.kept (hb4.block _ H3.out.2.2.1.lt), H3.out.2.2.2.kept (hb4.block _ H3.out.2.2.2.lt)⟩
  have HLO : Hid (∀ m, m < mark → ∀ hh : m * iv < l.length, l[m * iv].1.cmp k < 0) := fun m hm hh => by
    have := hlo m hm
    simp only [hh, dif_pos] at this
    unfold na at this
    have := of_decide_eq_false this
    omega
  have HHI : Hid (∀ m, mark ≤ m → ∀ hh : m * iv < l.length, 0 ≤ l[m * iv].1.cmp k) := fun m' hm hh => by
    have := hhi m' hm (by rw [← HMQ.out, strs_len]; exact (chunks_at hiv1 l m').1.1 hh)
    simp only [hh, dif_pos] at this
    unfold na at this
    exact of_decide_eq_true this
  clear hlo hhi hb4 HS2
  by_cases hm0 : mark = 0
  · subst hm0
    go_wp2
    go_ret
    exact ⟨0, find_zero HG.out.rise HHI.out, ret1 rfl, H4.out.1⟩
  · have hcj : mark - 1 < (strs iv l).length := by rw [HMQ.out]; omega
    have hcl : mark - 1 < (chunks iv l).length := by rw [← strs_len]; exact hcj
    have hem := entM_some (HG.out.bk.below H4.out.1) hiv16 hcj (strs_ents hiv1 HG.out.eok hcj)
    have hcm := chunks_mem hiv1 l _ (List.getElem_mem hcl)
    have HFM : Hid (∀ among, among ≤ ((chunks iv l)[mark - 1]).length → (∀ i, i < among → ∀ hh : i < ((chunks iv l)[mark - 1]).length, ((chunks iv l)[mark - 1])[i].1.cmp k < 0) → (∀ i, among ≤ i → ∀ hh : i < ((chunks iv l)[mark - 1]).length, 0 ≤ ((chunks iv l)[mark - 1])[i].1.cmp k) → FirstAt l k ((mark - 1) * iv + among)) := fun among h1 h2 h3 => find_marks hiv1 HG.out.rise hm0 (by rw [← strs_len, HMQ.out]; exact hmk) HLO.out HHI.out hcl h1 h2 h3
    have HRC : Hid (Rises (chunks iv l)[mark - 1]) := by
      have he := (chunks_at hiv1 l (mark - 1)).2 hcl
      show Rises (chunks iv l)[mark - 1]
      rw [he]
      exact (HG.out.rise.drop (i := (mark - 1) * iv)).take
    have hcle : ((chunks iv l)[mark - 1]).length ≤ 16 := by have := hcm.2.1; omega
    generalize (chunks iv l)[mark - 1] = ch at hem HFM HRC hcle
    rw [show ((mark - 1 : Nat) : Int) = (mark : Int) - 1 by omega] at hem
    have d0 : w4.cell? ⟨w.heap.size, 0, none⟩ = some (at_ p) := H4.out.2.1.cell 0
    have hmb : mark ≤ 1000000000000 := by omega
    have gm : ((mark : Int) == 0) = false := by simp; omega
    clear hcj hcl hcm
    go_wp2_with fail
    refine hem.mono ?_
    rintro _ w5 ⟨a5, c5, rfl, ho5, hb5⟩
    have H6 : Hid (Below w.heap.size w (w5.alloc (.cells #[.slice a5 ch.length c5] 23)) ∧ Box (w5.alloc (.cells #[.slice a5 ch.length c5] 23)) w.heap.size TPB #[at_ p] ∧ Box (w5.alloc (.cells #[.slice a5 ch.length c5] 23)) (w.heap.size + 1) TK (ikA k) ∧ Box (w5.alloc (.cells #[.slice a5 ch.length c5] 23)) (w.heap.size + 1 + 1) TFn #[fnV (w.heap.size + 1)] ∧ Box (w5.alloc (.cells #[.slice a5 ch.length c5] 23)) w5.heap.size 23 #[.slice a5 ch.length c5] ∧ KsAt (w5.alloc (.cells #[.slice a5 ch.length c5] 23)) a5 ch.length c5 ch) := by
      have hb := hb5.alloc hb5.size (.cells #[.slice a5 ch.length c5] 23)
      exact ⟨H4.out.1.trans (hb.mono H4.out.1.size), H4.out.2.1.kept (hb.block _ H4.out.2.1.lt), H4.out.2.2.1.kept (hb.block _ H4.out.2.2.1.lt), H4.out.2.2.2.kept (hb.block _ H4.out.2.2.2.lt), Box.new _ _ _, ho5.ks.below ((Below.refl _ _).alloc (Nat.le_refl _) _)⟩
    clear ho5 hb5 hem
    go_wp2_with fail
    generalize w5.alloc (.cells #[.slice a5 ch.length c5] 23) = w6 at H6 ⊢
    generalize w5.heap.size = sb at H6 ⊢
    have HS3 := search3 ch.length (by omega) (fun i => if h : i < ch.length then na ch[i] k else true) (at_ (w.heap.size + 1 + 1)) (at_ sb) w6 (by
      intro V hV i hi
      obtain ⟨q1, q2, q3, q4, q5, q6⟩ := H6.out
      have := find3_any (q6.below hV) hi k _ _ _ (q3.kept (hV.block _ q3.lt)) (q4.kept (hV.block _ q4.lt)) (q5.kept (hV.block _ q5.lt))
      simp only [hi, dif_pos]
      exact this) (by
      intro a b hab hb ha
      have hal : a < ch.length := by omega
      simp only [hal, hb, dif_pos] at ha ⊢
      unfold na at ha ⊢
      exact decide_eq_true (na_mono HRC.out hb hab (of_decide_eq_true ha)))
    refine HS3.mono ?_
    rintro _ w7 ⟨am, rfl, ham, hlo, hhi, hb7⟩
    have HFA : Hid (FirstAt l k ((mark - 1) * iv + am)) := by
      refine HFM.out am ham (fun i hi hh => ?_) (fun i hi hh => ?_)
      · have := hlo i hi
        simp only [hh, dif_pos] at this
        unfold na at this
        have := of_decide_eq_false this
        omega
      · have := hhi i hi hh
        simp only [hh, dif_pos] at this
        unfold na at this
        exact of_decide_eq_true this
    have H7 : Hid (Below w.heap.size w w7) := H6.out.1.trans (hb7.mono H6.out.1.size)
    have f0 : w7.cell? ⟨w.heap.size, 0, none⟩ = some (at_ p) := (H6.out.2.1.kept (hb7.block _ H6.out.2.1.lt)).cell 0
    have f1 : w7.cell? ⟨p, 1, none⟩ = some (.int .i64 (iv : Int)) := by rw [H7.out.cell hpl]; exact c1
    clear hlo hhi hb7 HS3
    have hml : (mark - 1) * iv ≤ 1000000000000 * 16 := Nat.mul_le_mul (by omega) hiv16
    have hmi : ((mark : Int) - 1) * (iv : Int) = (((mark - 1) * iv : Nat) : Int) := by
      rw [Int.natCast_mul]
      congr 1
      omega
    have HMI : Hid (((mark : Int) - 1) * (iv : Int) = (((mark - 1) * iv : Nat) : Int)) := hmi
    have hwm : IntKind.i64.wrap (((mark : Int) - 1) * (iv : Int)) = (((mark - 1) * iv : Nat) : Int) := by
      rw [hmi, IntKind.wrap_i64]
      generalize (mark - 1) * iv = x at hml
      omega
    generalize (mark - 1) * iv = x at hml hwm hmi HFA HMI
    go_wp2
    go_ret
    exact ⟨x + am, HFA.out, ret1 (by go_num), H7.out⟩
end Go.Proofs.YtgegjcnjlibfdaaGreat
