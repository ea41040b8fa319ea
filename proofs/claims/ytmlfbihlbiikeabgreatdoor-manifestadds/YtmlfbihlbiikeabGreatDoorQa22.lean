/- What manifest does with files, plainly: steps that may fail anywhere, and what a crash leaves of them. -/
import Derived.Test.YtmlfbihlbiikeabGreatDoorQa20
import Derived.Test.YtmlfbihlbiikeabGreatDoorQa07
import Derived.Test.YtmlfbihlbiikeabGreatDoorQa02
import Derived.Test.YtmlfbihlbiikeabGreatDoorQa08
namespace Go.Proofs.YtmlfbihlbiikeabGreatDoor
set_option linter.unusedVariables false
set_option linter.unusedSimpArgs false
structure Kn where
  quota : Nat
  fused : Bool
  fuse : Int
  fails : Bool
  fail : Int
  asked : Nat
structure Cr where
  files : List PFile
  names : List PName
  lasts : List PName
  since : List PChange
def pf (c : Cr) (k : Kn) : PFs := ⟨c.files, c.names, c.lasts, c.since, k.quota, k.fused, k.fuse, k.fails, k.fail, k.asked⟩
def Kn.quiet (k : Kn) : Prop := k.fused = false ∧ k.fails = false
def Kn.ask (k : Kn) : Kn × Nat :=
  if (k.fused && (k.fuse == 0)) = true then ({ k with asked := k.asked + 1 }, 44)
  else if k.fails = true then
    (if k.fail = 0 then ({ k with asked := k.asked + 1, fuse := if k.fused then k.fuse - 1 else k.fuse, fails := false }, 45)
     else ({ k with asked := k.asked + 1, fuse := if k.fused then k.fuse - 1 else k.fuse, fail := k.fail - 1 }, 0))
  else ({ k with asked := k.asked + 1, fuse := if k.fused then k.fuse - 1 else k.fuse }, 0)
theorem pf_ask (c : Cr) (k : Kn) : (pf c k).ask = (pf c k.ask.1, k.ask.2) := by
  unfold PFs.ask Kn.ask PFs.off pf
  split <;> (try split) <;> (try split) <;> simp_all
theorem Kn.ask_quiet {k : Kn} (h : k.quiet) : k.ask.2 = 0 ∧ k.ask.1.quiet := by
  obtain ⟨h1, h2⟩ := h
  unfold Kn.ask Kn.quiet
  rw [h1, h2]
  simp
theorem Kn.ask_asked (k : Kn) : k.ask.1.asked = k.asked + 1 ∧ k.ask.1.quota = k.quota := by
  unfold Kn.ask
  split <;> (try split) <;> (try split) <;> simp_all
abbrev FStep := PFs → PFs × Nat
def removedF (name : List UInt8) : FStep := fun S => if (S.read name).2 = 0 then S.remove name else if (S.read name).2 = 42 then (S, 0) else (S, (S.read name).2)
def runF : List FStep → PFs → PFs × Nat
  | [], S => (S, 0)
  | f :: r, S => if (f S).2 = 0 then runF r (f S).1 else f S
def Moves (q : Nat) (f : FStep) (c d : Cr) : Prop :=
  ∀ k : Kn, k.quota = q → ∃ k', k'.quota = q ∧ k'.asked ≤ k.asked + 1 ∧ ((f (pf c k) = (pf d k', 0) ∧ (k.quiet → k'.quiet)) ∨ (¬ k.quiet ∧ ∃ e, e ≠ 0 ∧ e < 100 ∧ f (pf c k) = (pf c k', e)))
theorem Moves.of {q : Nat} {f : FStep} {c d : Cr} (h : ∀ k : Kn, k.quota = q → f (pf c k) = if k.ask.2 ≠ 0 then (pf c k.ask.1, k.ask.2) else (pf d k.ask.1, 0)) (he : ∀ k : Kn, k.ask.2 < 100) : Moves q f c d := fun k hq => by
  obtain ⟨a1, a2⟩ := k.ask_asked
  refine ⟨k.ask.1, by rw [a2, hq], by omega, ?_⟩
  by_cases h0 : k.ask.2 = 0
  · left
    rw [h k hq, if_neg (by omega)]
    exact ⟨rfl, fun hk => (Kn.ask_quiet hk).2⟩
  · right
    refine ⟨fun hk => h0 (Kn.ask_quiet hk).1, k.ask.2, h0, he k, ?_⟩
    rw [h k hq, if_pos h0]
theorem Kn.ask_small (k : Kn) : k.ask.2 < 100 := by
  unfold Kn.ask
  split <;> (try split) <;> (try split) <;> simp
def Cr.change (c : Cr) (ch : PChange) : Cr := ⟨c.files, changedN c.names ch, c.lasts, c.since ++ [ch]⟩
def Cr.create (c : Cr) (name : List UInt8) : Cr := (⟨c.files ++ [file0], c.names, c.lasts, c.since⟩ : Cr).change ⟨1, name, [], c.files.length⟩
def Cr.put (c : Cr) (i : Nat) (f : PFile) : Cr := { c with files := c.files.set i f }
def Cr.bulk (c : Cr) (l : List PName) : Nat := match l with
  | [] => 0
  | n :: r => (c.files.getD n.file file0).b.length + c.bulk r
theorem bulk_pf (c : Cr) (k : Kn) : ∀ l, (pf c k).bulk l = c.bulk l
  | [] => rfl
  | n :: r => by
    show ((pf c k).fileOf n.file).b.length + (pf c k).bulk r = _
    rw [bulk_pf c k r]
    rfl
theorem create_moves (q : Nat) {c : Cr} {name : List UInt8} (hg : goodN name = true) (hn : findN c.names name = none) : Moves q (fun S => S.create name) c (c.create name) :=
  Moves.of (fun k hq => by
    show PFs.create (pf c k) name = _
    unfold PFs.create
    rw [pf_ask]
    by_cases h0 : k.ask.2 = 0
    · rw [if_neg (by simp [h0]), if_neg (by rw [hg]; decide), if_neg (by rw [show (pf c k).names = c.names from rfl, hn]; decide), if_neg (by simp [h0])]
      rfl
    · rw [if_pos h0, if_pos h0]) Kn.ask_small
theorem append_moves {q : Nat} {c : Cr} {name : List UInt8} (b : List UInt8) {i : Nat} (hn : findN c.names name = some i) (hb : b.length + c.bulk c.names ≤ q) :
    Moves q (fun S => S.append name b) c (c.put i ⟨(c.files.getD i file0).b ++ b, (c.files.getD i file0).last⟩) :=
  Moves.of (fun k hq => by
    show PFs.append (pf c k) name b = _
    unfold PFs.append
    rw [pf_ask, bulk_pf, show (pf c k).names = c.names from rfl, hn]
    by_cases h0 : k.ask.2 = 0
    · rw [if_neg (by simp [h0]), if_neg (by simp [h0])]
      show (if (pf c k).quota < b.length + c.bulk c.names then _ else _) = _
      rw [if_neg (by rw [show (pf c k).quota = k.quota from rfl, hq]; omega)]
      rfl
    · rw [if_pos h0, if_pos h0]) Kn.ask_small
theorem sync_moves (q : Nat) {c : Cr} {name : List UInt8} {i : Nat} (hn : findN c.names name = some i) :
    Moves q (fun S => S.sync name) c (c.put i ⟨(c.files.getD i file0).b, (c.files.getD i file0).b.length⟩) :=
  Moves.of (fun k hq => by
    show PFs.sync (pf c k) name = _
    unfold PFs.sync
    rw [pf_ask, show (pf c k).names = c.names from rfl, hn]
    by_cases h0 : k.ask.2 = 0
    · rw [if_neg (by simp [h0]), if_neg (by simp [h0])]
      rfl
    · rw [if_pos h0, if_pos h0]) Kn.ask_small
theorem rename_moves (q : Nat) {c : Cr} {a b : List UInt8} {i : Nat} (hn : findN c.names a = some i) (hb : goodN b = true) :
    Moves q (fun S => S.rename a b) c (c.change ⟨2, a, b, i⟩) :=
  Moves.of (fun k hq => by
    show PFs.rename (pf c k) a b = _
    unfold PFs.rename
    rw [pf_ask, show (pf c k).names = c.names from rfl, hn]
    by_cases h0 : k.ask.2 = 0
    · rw [if_neg (by simp [h0]), if_neg (by simp [h0])]
      show (if goodN b = false then _ else _) = _
      rw [if_neg (by rw [hb]; decide)]
      rfl
    · rw [if_pos h0, if_pos h0]) Kn.ask_small
theorem syncDir_moves (q : Nat) (c : Cr) : Moves q (fun S => S.syncDir) c ⟨c.files, c.names, c.names, []⟩ :=
  Moves.of (fun k hq => by
    show PFs.syncDir (pf c k) = _
    unfold PFs.syncDir
    rw [pf_ask]
    by_cases h0 : k.ask.2 = 0
    · rw [if_neg (by simp [h0]), if_neg (by simp [h0])]
      rfl
    · rw [if_pos h0, if_pos h0]) Kn.ask_small
theorem off_quiet {c : Cr} {k : Kn} (h : k.quiet) : (pf c k).off = false := by
  unfold PFs.off
  rw [show (pf c k).fused = k.fused from rfl, h.1]
  rfl
theorem removed_moves (q : Nat) {c : Cr} {name : List UInt8} (hn : findN c.names name = none) : Moves q (removedF name) c c := fun k hq => by
  refine ⟨k, hq, by omega, ?_⟩
  unfold removedF PFs.read
  rw [show (pf c k).names = c.names from rfl, hn]
  by_cases h0 : (pf c k).off = true
  · right
    refine ⟨fun hk => absurd h0 (by rw [off_quiet hk]; decide), 44, by decide, by decide, ?_⟩
    rw [if_pos h0]
    rfl
  · left
    rw [if_neg h0]
    exact ⟨rfl, id⟩
def Ch (q : Nat) : Cr → List (FStep × Cr) → Prop
  | _, [] => True
  | c, (f, d) :: r => Moves q f c d ∧ Ch q d r
theorem Ch.run {q : Nat} : ∀ (l : List (FStep × Cr)) (c : Cr), Ch q c l → ∀ k : Kn, k.quota = q → ∃ j e k', j ≤ l.length ∧ e < 100 ∧ (e = 0 ↔ j = l.length) ∧ (k.quiet → e = 0 ∧ k'.quiet) ∧ k'.quota = q ∧ k'.asked ≤ k.asked + l.length ∧ runF (l.map (·.1)) (pf c k) = (pf ((c :: l.map (·.2)).getD j c) k', e)
  | [], c, _, k, hq => ⟨0, 0, k, Nat.le_refl _, by decide, by simp, fun h => ⟨rfl, h⟩, hq, by simp, rfl⟩
  | (f, d) :: r, c, h, k, hq => by
    obtain ⟨h1, h2⟩ := h
    obtain ⟨k1, hq1, ha1, hm⟩ := h1 k hq
    rcases hm with ⟨hm, hk1⟩ | ⟨hk, e, he, he2, hm⟩
    · obtain ⟨j, e, k', hj, he1, he, hk', hq', ha', hr⟩ := Ch.run r d h2 k1 hq1
      refine ⟨j + 1, e, k', by rw [List.length_cons]; omega, he1, by rw [he, List.length_cons]; omega, fun h => hk' (hk1 h), hq', by rw [List.length_cons]; omega, ?_⟩
      show (if (f (pf c k)).2 = 0 then runF (r.map (·.1)) (f (pf c k)).1 else f (pf c k)) = _
      rw [hm, if_pos rfl]
      show runF (r.map (·.1)) (pf d k1) = _
      rw [hr]
      have e1 : ((d :: r.map (·.2)).getD j d) = ((c :: ((f, d) :: r).map (·.2)).getD (j + 1) c) := by
        show _ = ((d :: r.map (·.2)).getD j c)
        rw [List.getD_eq_getElem?_getD, List.getD_eq_getElem?_getD, List.getElem?_eq_getElem (by rw [List.length_cons, List.length_map]; omega)]
        rfl
      rw [e1]
    · refine ⟨0, e, k1, Nat.zero_le _, he2, by rw [List.length_cons]; omega, fun h => absurd h hk, hq1, by rw [List.length_cons]; omega, ?_⟩
      show (if (f (pf c k)).2 = 0 then runF (r.map (·.1)) (f (pf c k)).1 else f (pf c k)) = _
      rw [hm, if_neg he]
      rfl
theorem read_pf {c : Cr} {k : Kn} (hk : k.quiet) (name : List UInt8) : (pf c k).read name = match findN c.names name with
    | none => ([], 42)
    | some i => ((c.files.getD i file0).b, 0) := by
  unfold PFs.read
  rw [off_quiet hk, if_neg (by decide)]
  rfl
end Go.Proofs.YtmlfbihlbiikeabGreatDoor
namespace Go.Proofs.YtmlfbihlbiikeabGreatDoor
set_option maxRecDepth 100000
open Go.RowKit
set_option linter.unusedVariables false
set_option linter.unusedSimpArgs false
theorem strOf_data (l : List UInt8) : (strOf l).data.toList = l := rfl
theorem Kp.refl (R : Nat → Prop) (w : World) : Kp R w w := ⟨rfl, rfl, rfl, Nat.le_refl _, fun _ _ _ => rfl⟩
theorem Kp.trans {R : Nat → Prop} {a b c : World} (h : Kp R a b) (k : Kp R b c) : Kp R a c := ⟨k.os.trans h.os, k.tape.trans h.tape, k.output.trans h.output, Nat.le_trans h.size k.size, fun i hi hlt => (k.block i hi (Nat.lt_of_lt_of_le hlt h.size)).trans (h.block i hi hlt)⟩
theorem Kp.less {R R' : Nat → Prop} {a b : World} (h : Kp R a b) (hR : ∀ k, R' k → R k) : Kp R' a b := ⟨h.os, h.tape, h.output, h.size, fun i hi hlt => h.block i (hR i hi) hlt⟩
theorem Kp.of {R : Nat → Prop} {a b : World} (h : Below a.heap.size a b) : Kp R a b := ⟨h.os, h.tape, h.output, h.size, fun i _ hlt => h.block i hlt⟩
structure Held (C : Nat → Prop) (W0 : World) (R : Nat → Prop) (w : World) : Prop where
  mine : ∀ k, C k → R k
  old : ∀ k, C k → k < W0.heap.size
  size : W0.heap.size ≤ w.heap.size
  same : ∀ k, C k → w.heap[k]? = W0.heap[k]?
theorem Held.kp {C : Nat → Prop} {W0 : World} {R : Nat → Prop} {w w' : World} (h : Held C W0 R w) (k : Kp R w w') : Held C W0 R w' := ⟨h.mine, h.old, Nat.le_trans h.size k.size, fun i hi => (k.block i (h.mine i hi) (Nat.lt_of_lt_of_le (h.old i hi) h.size)).trans (h.same i hi)⟩
theorem Held.box {C : Nat → Prop} {W0 : World} {R : Nat → Prop} {w : World} {p : Nat} {t : TypeId} {arr : Array Value} (h : Held C W0 R w) (hp : C p) (hb : Box W0 p t arr) : Box w p t arr := hb.kept (h.same p hp)
def Does (J : Face) (i p : Nat) (C : Nat → Prop) (W0 : World) (v : Value) (f : FStep) : Prop :=
  ∃ (K : Nat) (pre cap : Array Value), v = .func (.func K) pre cap ∧ (∀ W, (callFunc K (pre ++ cap)).run Tryz.prog W = .ok (.enter K (pre ++ cap)) W) ∧
    ∀ {w : World} {R : Nat → Prop} {l r : Fss} {S : PFs}, Held C W0 R w → J w R l r → l[i]? = some (p, S) → S.asked < 1000000 →
      Calls Tryz.prog K (pre ++ cap) w fun e w' => e = .returned (.int .i64 ((f S).2 : Nat)) ∧ J w' R (l.set i (p, (f S).1)) r ∧ Kp R w w'
def DoneR (J : Face) (i p : Nat) (R : Nat → Prop) (l r : Fss) (w : World) (o : PFs × Nat) (e : Ending) (w' : World) : Prop :=
  e = .returned (.int .i64 (o.2 : Nat)) ∧ J w' R (l.set i (p, o.1)) r ∧ Kp R w w'
theorem idxSt (b : Nat) {j n c : Nat} (hj : j < n) (W : World) : (Instr.indexAt 68 (.slice (some ⟨b, 0, none⟩) n c) (.int .i64 (j : Int))).run Tryz.prog W = .ok (.pointer (some ⟨b, j, none⟩)) W := by
  have h1 : (0 : Int) ≤ (j : Int) ∧ (j : Int) < (n : Int) := by omega
  have hsz : (sizeOf (Tryz.prog.elem 68)).run Tryz.prog W = .ok 1 W := by kernel_rfl
  rw [run_indexAt_slice (P := Tryz.prog) (h := (by kernel_rfl : Tryz.prog.underlying 68 = some (.slice (Tryz.prog.elem 68)))), if_pos (by exact h1), hsz]
  simp [Result.andThen, Addr.add_lit]
theorem set_set_at {l : Fss} {i : Nat} (x y : Nat × PFs) : (l.set i x).set i y = l.set i y := by simp
theorem get_set_at {l : Fss} {i : Nat} {x z : Nat × PFs} (h : l[i]? = some z) : (l.set i x)[i]? = some x := by
  have := (List.getElem?_eq_some_iff.1 h).1
  simp [this]
theorem set_self_at {l : Fss} {i : Nat} {z : Nat × PFs} (h : l[i]? = some z) : l.set i z = l := by
  obtain ⟨h1, h2⟩ := List.getElem?_eq_some_iff.1 h
  subst h2
  simp
theorem runF_drop {fs : List FStep} {j : Nat} (hj : j < fs.length) (S : PFs) : runF (fs.drop j) S = if (fs[j] S).2 = 0 then runF (fs.drop (j + 1)) (fs[j] S).1 else fs[j] S := by
  rw [List.drop_eq_getElem_cons hj]
  rfl
set_option maxHeartbeats 2000000 in
theorem done_any {J : Face} (i p : Nat) (C : Nat → Prop) (W0 : World) (fs : List FStep) (vs : List Value) (b n c : Nat) (hn : fs.length = n) (hn1 : n ≤ 100) (hCb : C b) (hcell : ∀ j, j < n → W0.cell? ⟨b, j, none⟩ = vs[j]?)
    (hd : ∀ j (h : j < n) (h' : j < fs.length), ∃ v, vs[j]? = some v ∧ Does J i p C W0 v fs[j]) (ha : ∀ f ∈ fs, ∀ S, (f S).1.asked ≤ S.asked + 1)
    {w : World} {R : Nat → Prop} {l r : Fss} {S : PFs} (hH : Held C W0 R w) (hJ : J w R l r) (hl : l[i]? = some (p, S)) (hS : S.asked < 900000) :
    Calls Tryz.prog 25 #[.slice (some ⟨b, 0, none⟩) n c] w (DoneR J i p R l r w (runF fs S)) := by
  have HD : Hid (∀ j (h : j < n) (h' : j < fs.length), ∃ v, vs[j]? = some v ∧ Does J i p C W0 v fs[j]) := hd
  have HA : Hid (∀ f ∈ fs, ∀ S, (f S).1.asked ≤ S.asked + 1) := ha
  have HC : Hid (C b ∧ (∀ j, j < n → W0.cell? ⟨b, j, none⟩ = vs[j]?) ∧ fs.length = n ∧ l[i]? = some (p, S)) := ⟨hCb, hcell, hn, hl⟩
  have HW : Hid (Held C W0 R w ∧ J w R l r) := ⟨hH, hJ⟩
  clear hd ha hcell hCb hH hJ hl hn
  go_enter Tryz.func25, Tryz.ntmps25
  go_wp2_with fail
  go_step3
  go_wp2_with fail
  go_step3
  go_wp2_with fail
  go_loopw [2, 7] (fun x2 x7 wr => ∃ (j : Nat) (T : PFs), j ≤ n ∧ x7 = .int .i64 (j : Int) ∧ x2 = .int .i64 0 ∧ Hid (Held C W0 R wr ∧ J wr R (l.set i (p, T)) r ∧ Kp R w wr ∧ runF fs S = runF (fs.drop j) T ∧ T.asked ≤ S.asked + j)) (fun _ x7 _ => n - (intOf x7).toNat)
  case atStart => exact ⟨0, S, Nat.zero_le _, rfl, rfl, HW.out.1, by rw [set_self_at HC.out.2.2.2]; exact HW.out.2, Kp.refl _ _, rfl, Nat.le_refl _⟩
  case round =>
    obtain ⟨j, T, hj, rfl, rfl, HI⟩ := hrel
    by_cases hjn : j < n
    · have hjf : j < fs.length := by rw [HC.out.2.2.1]; exact hjn
      obtain ⟨v, hv, K, pre, cap, rfl, hcf, hdo⟩ := HD.out j hjn hjf
      have hix := fun W => idxSt b (c := c) hjn W
      have c0 : wr.cell? ⟨b, j, none⟩ = some (.func (.func K) pre cap) := by
        rw [← hv, ← HC.out.2.1 j hjn]
        simp only [World.cell?]
        rw [HI.out.1.same b HC.out.1]
      have HST := runF_drop hjf T
      have hTa : T.asked < 1000000 := by have := HI.out.2.2.2.2; omega
      have HDO := hdo HI.out.1 HI.out.2.1 (get_set_at HC.out.2.2.2) hTa
      have HAS := HA.out _ (List.getElem_mem hjf) T
      generalize fs[j] T = o at HST HDO HAS
      have HX : Hid (runF (fs.drop j) T = if o.2 = 0 then runF (fs.drop (j + 1)) o.1 else o) := HST
      have HAS' : Hid (o.1.asked ≤ T.asked + 1) := HAS
      clear hv hdo HST HAS
      go_wp2_with fail
      refine HDO.mono ?_
      rintro _ w2 ⟨rfl, hJ2, hk2⟩
      obtain ⟨T1, er⟩ := o
      have H2 : Hid (Held C W0 R w2 ∧ J w2 R (l.set i (p, T1)) r ∧ Kp R w w2) := ⟨HI.out.1.kp hk2, by rw [set_set_at] at hJ2; exact hJ2, HI.out.2.2.1.trans hk2⟩
      clear hJ2 hk2 HDO c0 hix hcf
      dsimp only
      by_cases h0 : er = 0
      · subst h0
        have HN : Hid (runF fs S = runF (fs.drop (j + 1)) T1) := by
          unfold Hid
          rw [HI.out.2.2.2.1, HX.out]
          rfl
        go_wp2
        go_roundw
        case rel => exact ⟨j + 1, T1, hjn, by go_num, rfl, H2.out.1, H2.out.2.1, H2.out.2.2, HN.out, by have h1 := HAS'.out; have h2 := HI.out.2.2.2.2; dsimp only at h1; omega⟩
        case measure => simp only [intOf]; omega
      · have hb : ((er : Int) != 0) = true := by simp; omega
        have HN : Hid (runF fs S = (T1, er)) := by
          unfold Hid
          rw [HI.out.2.2.2.1, HX.out, if_neg h0]
        go_wp2_with fail
        try rw [Exit.noGoto_ret]
        go_ret
        rw [HN.out]
        exact ⟨rfl, H2.out.2.1, H2.out.2.2⟩
    · obtain rfl : j = n := by omega
      have HN : Hid (runF fs S = (T, 0)) := by
        unfold Hid
        rw [HI.out.2.2.2.1, List.drop_eq_nil_of_le (by rw [HC.out.2.2.1]; exact Nat.le_refl _)]
        rfl
      go_wp2_with fail
      try rw [Exit.noGoto_ret]
      go_ret
      rw [HN.out]
      exact ⟨rfl, HI.out.2.1, HI.out.2.2.1⟩
end Go.Proofs.YtmlfbihlbiikeabGreatDoor
namespace Go.Proofs.YtmlfbihlbiikeabGreatDoor
open Go.Shelf Go.RowKit Go.Lib
set_option linter.unusedVariables false
set_option linter.unusedSimpArgs false
theorem pum_dec : ∀ (l : List UInt8) (acc : Nat), (∀ b ∈ l, isD b = true) → l.foldl (fun n b => n * 10 + (b.toNat - 48)) acc ≤ 1099511627776 → Lib.parseUintM (2 ^ 64 - 1) acc l = .ok (l.foldl (fun n b => n * 10 + (b.toNat - 48)) acc)
  | [], acc, _, _ => rfl
  | c :: r, acc, h, hm => by
    have hc := h c (by simp)
    unfold isD at hc
    simp only [Bool.and_eq_true, decide_eq_true_eq] at hc
    have hge : ∀ (r : List UInt8) (a : Nat), a ≤ r.foldl (fun n b => n * 10 + (b.toNat - 48)) a := fun r => by
      induction r with
      | nil => exact fun a => Nat.le_refl _
      | cons x r ih => exact fun a => Nat.le_trans (by omega) (ih (a * 10 + (x.toNat - 48)))
    have h1 := hge r (acc * 10 + (c.toNat - 48))
    rw [List.foldl_cons] at hm ⊢
    unfold Lib.parseUintM
    rw [if_pos hc, if_neg (by omega), if_neg (by omega)]
    exact pum_dec r _ (fun b hb => h b (by simp [hb])) hm
theorem numB_ne (n : Nat) : numB n ≠ [] := fun e => by
  have := congrArg List.length e
  unfold numB pad6 at this
  rw [List.length_append, List.length_replicate, List.length_nil] at this
  omega
theorem pub_num {n : Nat} (h : n ≤ 1099511627776) : Lib.parseUintB 64 (numB n) = .ok n := by
  unfold Lib.parseUintB
  rw [if_neg (numB_ne n)]
  have hv := valN_numB n
  unfold valN at hv
  have := pum_dec (numB n) 0 (numB_all n) (by rw [hv]; exact h)
  rw [hv] at this
  exact this
def coreN (k : Int) (s : List UInt8) : List UInt8 := Lib.trimSuffix (Lib.trimPrefix s (fmA k)) (fmB k)
theorem trimP_app (a l : List UInt8) : Lib.trimPrefix (a ++ l) a = l := by
  unfold Lib.trimPrefix Lib.hasPrefix
  rw [if_pos (List.isPrefixOf_iff_prefix.2 (List.prefix_append a l)), List.drop_left' rfl]
theorem trimS_app (l b : List UInt8) : Lib.trimSuffix (l ++ b) b = l := by
  unfold Lib.trimSuffix Lib.hasSuffix
  rw [if_pos (List.isSuffixOf_iff_suffix.2 (List.suffix_append l b)), List.length_append, Nat.add_sub_cancel, List.take_left' rfl]
theorem core_name {k : Int} (hk : numK k) {m : Nat} (h1 : 1 ≤ m) (h2 : m ≤ 1099511627776) : coreN k (nameP k m) = numB m := by
  rcases hk with rfl | rfl | rfl
  · rw [nameP_log h1 h2]
    show Lib.trimSuffix (Lib.trimPrefix ([] ++ (numB m ++ logB)) []) logB = _
    rw [trimP_app, trimS_app]
  · rw [nameP_tab h1 h2]
    show Lib.trimSuffix (Lib.trimPrefix ([] ++ (numB m ++ tabB)) []) tabB = _
    rw [trimP_app, trimS_app]
  · rw [nameP_man h1 h2]
    show Lib.trimSuffix (Lib.trimPrefix (manB ++ numB m) manB) [] = _
    rw [trimP_app]
    have := trimS_app (numB m) []
    rw [List.append_nil] at this
    exact this
theorem trimP_le (s a : List UInt8) : (Lib.trimPrefix s a).length ≤ s.length := by
  unfold Lib.trimPrefix
  split
  · rw [List.length_drop]; omega
  · exact Nat.le_refl _
theorem trimS_le (s a : List UInt8) : (Lib.trimSuffix s a).length ≤ s.length := by
  unfold Lib.trimSuffix
  split
  · rw [List.length_take]; omega
  · exact Nat.le_refl _
theorem pum_le (M : Nat) : ∀ (l : List UInt8) (acc u : Nat), acc ≤ M → Lib.parseUintM M acc l = .ok u → u ≤ M
  | [], acc, u, h, e => by
    simp only [Lib.parseUintM, Lib.NumEnd.ok.injEq] at e
    omega
  | c :: r, acc, u, h, e => by
    unfold Lib.parseUintM at e
    split at e
    · split at e
      · cases e
      · split at e
        · cases e
        · exact pum_le M r _ u (by omega) e
    · cases e
theorem pub_le {l : List UInt8} {u : Nat} (h : Lib.parseUintB 64 l = .ok u) : u < 18446744073709551616 := by
  unfold Lib.parseUintB at h
  split at h
  · cases h
  · have := pum_le (2 ^ 64 - 1) l 0 u (by omega) h
    omega
theorem pu_any (l : List UInt8) (hs : l.length ≤ 281474976710656) (w : World) (hg : Gl w) :
    Calls Tryz.prog 89 #[.string (strOf l), .int .i64 10, .int .i64 64] w fun e w' => ∃ (u : Nat) (v : Value), e = .returned (.tuple #[.int .u64 (u : Int), v]) ∧ u < 18446744073709551616 ∧ (∀ m : Nat, Lib.parseUintB 64 l = .ok m → u = m) ∧ Below w.heap.size w w' := by
  have hsz : (strOf l).size ≤ 281474976710656 := by rw [strOf_size]; exact hs
  have hl : (strOf l).data.toList = l := by simp [strOf]
  obtain ⟨t1, p1, h1⟩ := hg.syn
  obtain ⟨t2, p2, h2⟩ := hg.rng
  cases h : Lib.parseUintB 64 l with
  | ok u =>
    have hu : u < 18446744073709551616 := pub_le h
    refine (Any.strconv_ParseUint_10_at64_ok puL (strOf l) (by omega) u (by rw [hl]; exact h) w).mono ?_
    rintro e w' ⟨rfl, hw⟩
    refine ⟨u, _, rfl, hu, fun m hm => by cases hm; rfl, ?_⟩
    rcases hw with rfl | rfl
    · exact Below.refl _ _
    · exact Lib.bytesWorld_below _ _ _
  | «syntax» =>
    refine (Any.strconv_ParseUint_10_at64_syntax_var puL (strOf l) hsz (by rw [hl]; exact h) t1 p1 w h1).mono ?_
    rintro e w' ⟨N, rfl, _, _, hb⟩
    exact ⟨0, _, rfl, by decide, fun m hm => (by cases hm), hb⟩
  | range =>
    refine (Any.strconv_ParseUint_10_at64_range_var puL (strOf l) hsz (by rw [hl]; exact h) t2 p2 w h2).mono ?_
    rintro e w' ⟨N, rfl, _, _, hb⟩
    exact ⟨18446744073709551615, _, rfl, by decide, fun m hm => (by cases hm), hb⟩
set_option maxRecDepth 100000 in
set_option maxHeartbeats 1000000 in
theorem number_any (k : Int) (s : List UInt8) (hs : s.length ≤ 281474976710656) (w : World) (hg : Gl w) :
    Calls Tryz.prog 50 #[fmV k, .string (strOf s)] w fun e w' => ∃ n : Nat, e = .returned (.int .u64 (n : Int)) ∧ n < 18446744073709551616 ∧ (fmN k = false → n = 0) ∧ (∀ m, numK k → 1 ≤ m → m ≤ 1099511627776 → s = nameP k m → n = m) ∧ Below w.heap.size w w' := by
  have hl : ∀ l, (strOf l).data.toList = l := fun l => by simp [strOf]
  have HB : Hid (Below w.heap.size w (w.alloc (.cells #[.string (strOf (fmA k)), .string (strOf (fmB k)), .bool (fmN k)] TFm)) ∧ Gl w) := ⟨(Below.refl _ _).alloc (Nat.le_refl _) _, hg⟩
  unfold fmV
  cases hN : fmN k with
  | false =>
    have hnk : ¬ numK k := fun h => by
      unfold fmN at hN
      have := of_decide_eq_false hN
      exact this h
    rw [hN] at HB
    go_enter Tryz.func50, Tryz.ntmps50
    go_wp2
    go_ret
    exact ⟨0, rfl, by decide, fun _ => rfl, fun m h => absurd h hnk, HB.out.1⟩
  | true =>
    have HP : Hid (∀ m, numK k → 1 ≤ m → m ≤ 1099511627776 → s = nameP k m → Lib.parseUintB 64 (coreN k s) = .ok m) := fun m a b c e => by
      rw [e, core_name a b c, pub_num c]
    have h1 : ∀ W : World, Calls Tryz.prog 91 #[.string (strOf s), .string (strOf (fmA k))] W fun e w' => e = .returned (.string (strOf (Lib.trimPrefix s (fmA k)))) ∧ w' = W := fun W => by
      have := Any.strings_TrimPrefix tpL (strOf s) (strOf (fmA k)) W
      rw [hl, hl] at this
      exact this
    have l1 := trimP_le s (fmA k)
    have h2 : ∀ W : World, Calls Tryz.prog 90 #[.string (strOf (Lib.trimPrefix s (fmA k))), .string (strOf (fmB k))] W fun e w' => e = .returned (.string (strOf (coreN k s))) ∧ w' = W := fun W => by
      have := Any.strings_TrimSuffix tsL (strOf (Lib.trimPrefix s (fmA k))) (strOf (fmB k)) W (by rw [strOf_size]; omega)
      rw [hl, hl] at this
      exact this
    have l2 : (coreN k s).length ≤ 281474976710656 := Nat.le_trans (Nat.le_trans (trimS_le _ _) l1) hs
    have h3 := fun (W : World) (h : Gl W) => pu_any (coreN k s) l2 W h
    rw [hN] at HB
    generalize coreN k s = C at *
    generalize strOf (Lib.trimPrefix s (fmA k)) = P1 at *
    generalize strOf s = S at *
    generalize strOf (fmA k) = A at *
    generalize strOf (fmB k) = Bq at *
    generalize strOf C = CC at *
    clear hg hl l1 l2 hs
    go_enter Tryz.func50, Tryz.ntmps50
    go_wp2_with fail
    have HX : Hid (Box (w.alloc (.cells #[.string A, .string Bq, .bool true] TFm)) w.heap.size TFm #[.string A, .string Bq, .bool true]) := Box.new _ _ _
    generalize (w.alloc (.cells #[.string A, .string Bq, .bool true] TFm)) = W0 at HB HX ⊢
    have c0 : W0.drew.cell? ⟨w.heap.size, 0, none⟩ = some (.string A) := HX.out.cell 0
    have c1 : W0.drew.cell? ⟨w.heap.size, 1, none⟩ = some (.string Bq) := HX.out.cell 1
    have HG2 : Hid (Gl W0.drew) := HB.out.2.later (show Below w.heap.size w W0.drew from HB.out.1.drew)
    have h3' := h3 W0.drew HG2.out
    clear h3
    go_region_held3 (fun V => V.cell? ⟨w.heap.size, 0, none⟩ = some (.string A) ∧ V.cell? ⟨w.heap.size, 1, none⟩ = some (.string Bq)) (first | exact ⟨c0, c1⟩ | go_keep)
      (first | (go_at_call 91; refine (h1 _).mono ?_; rintro _ v1 ⟨rfl, rfl⟩) | (go_at_call 90; refine (h2 _).mono ?_; rintro _ v1 ⟨rfl, rfl⟩) | (go_at_call 89; refine h3'.mono ?_; rintro _ v1 ⟨u, vv, rfl, hu, hum, hb3⟩; have c0 : v1.cell? ⟨w.heap.size, 0, none⟩ = some (.string A) := ((HX.out.kept (w' := v1) (hb3.block _ HX.out.lt)).cell 0); have c1 : v1.cell? ⟨w.heap.size, 1, none⟩ = some (.string Bq) := ((HX.out.kept (w' := v1) (hb3.block _ HX.out.lt)).cell 1)))
    clear c0 c1
    have H3 : Hid (Below w.heap.size w v1) := (show Below w.heap.size w W0.drew from HB.out.1.drew).trans (hb3.mono (show w.heap.size ≤ W0.drew.heap.size from HB.out.1.size))
    go_wp2
    go_ret
    exact ⟨u, rfl, hu, fun h => (by cases h), fun m a b c e => hum m (HP.out m a b c e), H3.out⟩
end Go.Proofs.YtmlfbihlbiikeabGreatDoor
