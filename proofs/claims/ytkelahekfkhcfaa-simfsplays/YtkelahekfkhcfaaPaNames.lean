/- Lists of names of the document's own file systems, in memory. -/
import Derived.Test.YtkelahekfkhcfaaSameN
import Derived.Test.YtkelahekfkhcfaaFsNil
import Derived.BigQuiet
import Derived.Test.YtkelahekfkhcfaaFsOkD
namespace Go.Proofs.Ytkelahekfkhcfaa
open Go.RowKit
def name0 : PName := ⟨[], 0⟩
structure NsAt (w : World) (a : Option Addr) (len cap : Nat) (l : List PName) : Prop where
  size : l.length = len
  le : len ≤ cap
  max : cap ≤ maxLen
  bare : a = none → cap = 0
  here : 0 < len → ∃ b off, a = some ⟨b, off, none⟩ ∧ ∀ j, j < len → w.cell? ⟨b, off + j * 2, none⟩ = some (.string (strOf (l.getD j name0).name)) ∧ w.cell? ⟨b, off + j * 2 + 1, none⟩ = some (.int .i64 ((l.getD j name0).file : Nat))
theorem NsAt.below {B : Nat} {w w' : World} {a : Option Addr} {len cap : Nat} {l : List PName} (h : NsAt w a len cap l) (hB : w.heap.size ≤ B) (hb : Below B w w') : NsAt w' a len cap l :=
  ⟨h.size, h.le, h.max, h.bare, fun hp => by
    obtain ⟨b, off, ha, hc⟩ := h.here hp
    refine ⟨b, off, ha, fun j hj => ?_⟩
    obtain ⟨h0, h1⟩ := hc j hj
    have hlt : b < B := Nat.lt_of_lt_of_le (World.block_lt_of_cell? w _ h0) hB
    exact ⟨by rw [hb.cell hlt]; exact h0, by rw [hb.cell hlt]; exact h1⟩⟩
theorem NsAt.nil (w : World) : NsAt w none 0 0 [] := ⟨rfl, Nat.le_refl _, Nat.zero_le _, fun _ => rfl, fun h => absurd h (Nat.lt_irrefl _)⟩
theorem drop_ns (l : List PName) (k : Nat) (h : k < l.length) : l.drop k = l.getD k name0 :: l.drop (k + 1) := by
  rw [List.drop_eq_getElem_cons h]
  simp [List.getD, h]
/-- A name's place. -/
def placeN (l : List PName) (name : List UInt8) : Option Nat := match l with
  | [] => none
  | x :: r => if (x.name == name) = true then some 0 else (placeN r name).map (· + 1)
def placeI : Option Nat → Int
  | none => -1
  | some k => (k : Int)
theorem placeN_file (l : List PName) (name : List UInt8) : findN l name = (placeN l name).map (fun i => (l.getD i name0).file) := by
  induction l with
  | nil => rfl
  | cons x r ih =>
    unfold placeN findN
    by_cases h : (x.name == name) = true
    · rw [if_pos h, List.find?_cons_of_pos (by simpa using h)]
      simp [List.getD]
    · rw [if_neg h, List.find?_cons_of_neg (by simpa using h)]
      unfold findN at ih
      rw [ih]
      cases placeN r name with
      | none => rfl
      | some k => simp [List.getD]
theorem placeN_lt {l : List PName} {name : List UInt8} {k : Nat} (h : placeN l name = some k) : k < l.length := by
  induction l generalizing k with
  | nil => simp [placeN] at h
  | cons x r ih =>
    unfold placeN at h
    split at h
    · simp at h
      subst h
      simp
    · cases hr : placeN r name with
      | none => rw [hr] at h; simp at h
      | some m =>
        rw [hr] at h
        simp at h
        subst h
        have := ih hr
        simp
        omega
set_option maxRecDepth 100000 in
set_option maxHeartbeats 1000000 in
theorem rfind_any (a : Option Addr) (len cap : Nat) (l : List PName) (nm : List UInt8) (w : World) (h : NsAt w a len cap l) :
    Calls Try.prog 58 #[.slice a len cap, .string (strOf nm)] w fun e w' => e = .returned (.int .i64 (placeI (placeN l nm))) ∧ w' = w := by
  have hs := h.size
  have hm := h.max
  have hl := h.le
  unfold maxLen at hm
  have H1 : Hid (NsAt w a len cap l) := h
  have HS : Hid (l.length = len) := hs
  clear h hs
  go_enter Try.func58, Try.ntmps58
  go_wp2
  go_loop [5] (fun i => ∃ k : Nat, k ≤ len ∧ i = .int .i64 k ∧ Hid (placeN l nm = (placeN (l.drop k) nm).map (· + k))) (fun i => len - (intOf i).toNat)
  case atStart => exact ⟨0, Nat.zero_le _, rfl, by simp [Hid]⟩
  case round =>
    obtain ⟨k, hk, rfl, HR⟩ := hrel
    by_cases hlt : k < len
    · obtain ⟨b, off, rfl, hc⟩ := H1.out.here (by omega)
      have p0 := (hc k hlt).1
      have HD : Hid (_ = _) := drop_ns l k (by rw [HS.out]; exact hlt)
      have hq := strOf_same (l.getD k name0).name nm
      have hx1 : (0 : Int) ≤ (k : Int) := by omega
      have hx2 : (k : Int) < (len : Int) := by omega
      clear hc
      by_cases he : ((l.getD k name0).name == nm) = true
      · have HE : Hid (placeN l nm = some k) := by
          unfold Hid
          rw [HR.out, HD.out, placeN, if_pos he]
          simp
        rw [he] at hq
        generalize strOf (l.getD k name0).name = X at p0 hq
        generalize strOf nm = Y at hq ⊢
        clear he
        go_wp2
        go_ret
        rw [HE.out]
        exact ⟨ret1 rfl, rfl⟩
      · have HE : Hid (placeN l nm = (placeN (l.drop (k + 1)) nm).map (· + (k + 1))) := by
          unfold Hid
          rw [HR.out, HD.out, placeN, if_neg he]
          cases placeN (l.drop (k + 1)) nm with
          | none => rfl
          | some m => simp; omega
        rw [Bool.eq_false_iff.2 he] at hq
        generalize strOf (l.getD k name0).name = X at p0 hq
        generalize strOf nm = Y at hq ⊢
        clear he
        go_wp2
        go_round
        case rel => exact ⟨k + 1, by omega, by go_num, HE.out⟩
        case measure => simp [intOf]; omega
    · have HE : Hid (placeN l nm = none) := by
        unfold Hid
        rw [HR.out, List.drop_eq_nil_of_le (by rw [HS.out]; omega)]
        rfl
      go_wp2
      go_ret
      rw [HE.out]
      exact ⟨ret1 rfl, rfl⟩
end Go.Proofs.Ytkelahekfkhcfaa
/- Lists of names that a call owns, and one more appended. -/
namespace Go.Proofs.Ytkelahekfkhcfaa
open Go.RowKit
def cellsN : List PName → List Value
  | [] => []
  | n :: r => .string (strOf n.name) :: .int .i64 ((n.file : Nat) : Int) :: cellsN r
theorem cellsN_length : ∀ l : List PName, (cellsN l).length = l.length * 2
  | [] => rfl
  | n :: r => by
    have := cellsN_length r
    simp [cellsN, this]
    omega
theorem cellsN_append : ∀ l m : List PName, cellsN (l ++ m) = cellsN l ++ cellsN m
  | [], _ => rfl
  | n :: r, m => by rw [List.cons_append, cellsN, cellsN, cellsN_append r m]; rfl
theorem cellsN_at : ∀ (l : List PName) (j : Nat), j < l.length → (cellsN l)[j * 2]? = some (.string (strOf (l.getD j name0).name)) ∧ (cellsN l)[j * 2 + 1]? = some (.int .i64 (((l.getD j name0).file : Nat) : Int))
  | [], j, h => by simp at h
  | n :: r, 0, _ => by simp [cellsN, List.getD]
  | n :: r, j + 1, h => by
    have := cellsN_at r j (by simpa using h)
    rw [cellsN, show (j + 1) * 2 = j * 2 + 1 + 1 by omega]
    simpa [List.getD] using this
theorem cellsN_one : ∀ (l : List PName), ∀ u ∈ cellsN l, u.oneCell' = true
  | [], u, hu => by cases hu
  | n :: r, u, hu => by
    rcases List.mem_cons.1 hu with rfl | hu
    · rfl
    · rcases List.mem_cons.1 hu with rfl | hu
      · rfl
      · exact cellsN_one r u hu
structure OwnN (w : World) (B : Nat) (a : Option Addr) (len cap : Nat) (l : List PName) : Prop where
  size : l.length = len
  row : w.ownsRow B 92 2 (.slice a len cap) len (cellsN l)
theorem OwnN.ns {w : World} {B : Nat} {a : Option Addr} {len cap : Nat} {l : List PName} (h : OwnN w B a len cap l) : NsAt w a len cap l := by
  have hs := h.size
  rcases h.row.2 with ⟨hv, hn⟩ | ⟨g, c, cur, hv, hb, hg, hn, hc, hz, ht⟩
  · simp only [Value.slice.injEq] at hv
    obtain ⟨rfl, rfl, rfl⟩ := hv
    exact ⟨hs, Nat.le_refl _, Nat.zero_le _, fun _ => rfl, fun h0 => absurd h0 (Nat.lt_irrefl _)⟩
  · simp only [Value.slice.injEq, true_and] at hv
    obtain ⟨rfl, rfl⟩ := hv
    have hcell : ∀ i u, (cellsN l)[i]? = some u → w.cell? ⟨g, i, none⟩ = some u := by
      intro i u hu
      have hi : i < (cellsN l).length := (List.getElem?_eq_some_iff.1 hu).1
      rw [h.row.cellAt i (by rw [cellsN_length, hs] at hi; omega), hu]
    refine ⟨hs, hn, hc, fun h0 => by simp at h0, fun _ => ⟨g, 0, rfl, fun j hj => ?_⟩⟩
    obtain ⟨h0, h1⟩ := cellsN_at l j (by omega)
    rw [Nat.zero_add]
    exact ⟨hcell _ _ h0, hcell _ _ h1⟩
theorem OwnN.alloc {w : World} {B : Nat} {a : Option Addr} {len cap : Nat} {l : List PName} (h : OwnN w B a len cap l) (o : Obj) : OwnN (w.alloc o) B a len cap l := ⟨h.size, h.row.alloc o⟩
theorem OwnN.nil (w : World) (B : Nat) : OwnN w B none 0 0 [] := ⟨rfl, World.ownsRow_nil w B _ 2⟩
theorem infoName : (Try.prog.info? 92).map (fun i => (i.zero, i.size, i.bytes)) = some (some (.agg #[.string ByteArray.empty, .int .i64 0]), 2, 24) := by kernel_rfl
theorem ownN_of_row {w : World} {B : Nat} {v : Value} {n : Nat} {l : List PName} (h : w.ownsRow B 92 2 v n (cellsN l)) : ∃ a cap, v = .slice a n cap ∧ OwnN w B a n cap l := by
  have hn : l.length = n := by have := h.1; rw [cellsN_length] at this; omega
  rcases h.2 with ⟨rfl, rfl⟩ | ⟨g, c, cur, rfl, rest⟩
  · exact ⟨none, 0, rfl, hn, h⟩
  · exact ⟨_, c, rfl, hn, h⟩
theorem NsAt.cellsAt {w : World} {ad : Addr} {n c : Nat} {m : List PName} (h : NsAt w (some ad) n c m) : ∀ j u, (cellsN m)[j]? = some u → w.cell? (ad.add j) = some u := by
  intro j u hu
  have hs := h.size
  have hj : j < (cellsN m).length := (List.getElem?_eq_some_iff.1 hu).1
  rw [cellsN_length] at hj
  obtain ⟨b, off, he, hc⟩ := h.here (by omega)
  obtain rfl := Option.some.inj he
  obtain ⟨t, r, hr, rfl⟩ : ∃ t r, r < 2 ∧ j = t * 2 + r := ⟨j / 2, j % 2, by omega, by omega⟩
  obtain ⟨h0, h1⟩ := cellsN_at m t (by omega)
  obtain ⟨g0, g1⟩ := hc t (by omega)
  rw [Addr.add_lit, ← Nat.add_assoc]
  rcases (by omega : r = 0 ∨ r = 1) with rfl | rfl
  · rw [Nat.add_zero] at hu ⊢
    rw [g0, ← h0, hu]
  · rw [g1, ← h1, hu]
theorem wpList_appN (w : World) {ops : Array Oper} {rest : List Oper} {o : Oper} {a : Act} {Q : Exit → Act → World → Prop} (hgd : o.guard = none) (s x : Operand)
    (ho : o.op = .call { callee := .builtin .append, args := #[s, x], argTypes := #[66, 66] })
    (B : Nat) (a1 : Option Addr) (n1 c1 : Nat) (l : List PName) (hs : a.eval s = .slice a1 n1 c1) (hown : OwnN w B a1 n1 c1 l)
    (ad : Addr) (n2 c2 : Nat) (m : List PName) (hx : a.eval x = .slice (some ad) n2 c2) (hsrc : NsAt w (some ad) n2 c2 m)
    (hl : (n1 + n2) * 24 ≤ 140737488355328) (hB : B ≤ w.heap.size)
    (h : ∀ a' c' w', OwnN w' B a' (n1 + n2) c' (l ++ m) → Below B w w' → wpList Try.prog ops Q rest (a.put o.dst (.slice a' (n1 + n2) c')) w') :
    wpList Try.prog ops Q (o :: rest) a w := by
  obtain ⟨i, hi, hz0, hz1, hz2⟩ := info_parts infoName
  have hsz := hsrc.size
  have hlt : ∀ k, (Value.slice a1 n1 c1).ownBlock = some k → B ≤ k := fun k hk => (hown.row.lt k hk).1
  refine wpList_append_own w hgd s x _ ho B 92 i _ 2 24 Try.underlying66 hi hz0 hz1 hz2 rfl (by decide) _ n1 _ hs hown.row ad n2 c2 (cellsN m) hx (by rw [cellsN_length]; omega) hsrc.cellsAt (cellsN_one m) (by unfold maxLen; omega) (by omega) hB ?_
  intro v' w' hr hg _
  rw [← cellsN_append] at hr
  obtain ⟨a', c', rfl, ho'⟩ := ownN_of_row hr
  exact h a' c' w' ho' ((Below.refl B w).grown hg hB hlt)
theorem NsAt.oneAt {w : World} {g : Nat} {s : ByteArray} {n : PName} {e : TypeId} (hg : g = w.heap.size) (hs : s = strOf n.name) : NsAt (w.alloc (.cells #[.string s, .int .i64 ((n.file : Nat) : Int)] e)) (some ⟨g, 0, none⟩) 1 1 [n] := by
  subst hg hs
  refine ⟨rfl, Nat.le_refl _, by unfold maxLen; omega, by simp, fun _ => ⟨w.heap.size, 0, rfl, fun j hj => ?_⟩⟩
  obtain rfl : j = 0 := by omega
  refine ⟨?_, ?_⟩ <;> simp
end Go.Proofs.Ytkelahekfkhcfaa
/- The contract of the document's own without: names but one. -/
namespace Go.Proofs.Ytkelahekfkhcfaa
open Go.RowKit
theorem take_ns (l : List PName) (k : Nat) (h : k < l.length) : l.take (k + 1) = l.take k ++ [l.getD k name0] := by
  rw [List.take_add_one]
  simp [List.getD, h]
theorem without_take (l : List PName) (nm : List UInt8) (k : Nat) (h : k < l.length) : without (l.take (k + 1)) nm = without (l.take k) nm ++ (if ((l.getD k name0).name == nm) = true then [] else [l.getD k name0]) := by
  unfold without
  rw [take_ns l k h, List.filter_append]
  congr 1
  by_cases he : ((l.getD k name0).name == nm) = true
  · rw [if_pos he]
    simp only [List.filter_cons, List.filter_nil, bne, he]
    rfl
  · rw [if_neg he]
    simp only [List.filter_cons, List.filter_nil, bne, Bool.eq_false_iff.2 he]
    rfl
theorem without_len (l : List PName) (nm : List UInt8) : (without l nm).length ≤ l.length := List.length_filter_le _ _
set_option maxRecDepth 100000 in
set_option maxHeartbeats 1000000 in
theorem rwithout_any (a : Option Addr) (len cap : Nat) (l : List PName) (nm : List UInt8) (w : World) (h : NsAt w a len cap l) (hbig : len * 24 ≤ 140737488355328) :
    Calls Try.prog 68 #[.slice a len cap, .string (strOf nm)] w fun e w' => ∃ a' c', e = .returned (.slice a' (without l nm).length c') ∧ OwnN w' w.heap.size a' (without l nm).length c' (without l nm) ∧ Below w.heap.size w w' := by
  have hs := h.size
  have hm := h.max
  have hl := h.le
  unfold maxLen at hm
  have H1 : Hid (NsAt w a len cap l) := h
  have HS : Hid (l.length = len) := hs
  clear h hs
  go_enter Try.func68, Try.ntmps68
  go_wp2
  go_loopw [5, 6] (fun o i wr => ∃ (ao : Option Addr) (n co k : Nat), k ≤ len ∧ n ≤ k ∧ o = .slice ao n co ∧ i = .int .i64 (k : Int) ∧ Hid (OwnN wr w.heap.size ao n co (without (l.take k) nm)) ∧ Hid (Below w.heap.size w wr)) (fun _ i _ => len - (intOf i).toNat)
  case atStart => exact ⟨none, 0, 0, 0, Nat.zero_le _, Nat.le_refl _, rfl, rfl, OwnN.nil _ _, Below.refl _ _⟩
  case round =>
    obtain ⟨ao, n, co, k, hk, hn, rfl, rfl, HO, HB⟩ := hrel
    have hsz := HB.out.size
    by_cases hlt : k < len
    · obtain ⟨b, off, rfl, hc⟩ := (H1.out.below (Nat.le_refl _) HB.out).here (by omega)
      obtain ⟨p0, p1⟩ := hc k hlt
      have HT : Hid (_ = _) := without_take l nm k (by rw [HS.out]; exact hlt)
      have hq := strOf_same (l.getD k name0).name nm
      have hx1 : (0 : Int) ≤ (k : Int) := by omega
      have hx2 : (k : Int) < (len : Int) := by omega
      clear hc
      by_cases he : ((l.getD k name0).name == nm) = true
      · have HE : Hid (without (l.take (k + 1)) nm = without (l.take k) nm) := by unfold Hid; rw [HT.out, if_pos he, List.append_nil]
        rw [he] at hq
        generalize strOf (l.getD k name0).name = X at p0 hq
        generalize strOf nm = Y at hq
        clear he
        go_wp2
        go_roundw
        case rel => exact ⟨ao, n, co, k + 1, by omega, by omega, rfl, by go_num, by unfold Hid; rw [HE.out]; exact HO.out, HB.out⟩
        case measure => simp [intOf]; omega
      · have HE : Hid (without (l.take (k + 1)) nm = without (l.take k) nm ++ [l.getD k name0]) := by unfold Hid; rw [HT.out, if_neg he]
        rw [Bool.eq_false_iff.2 he] at hq
        clear he HT
        generalize l.getD k name0 = x at p0 p1 hq HE
        obtain ⟨X, hX⟩ : ∃ X, strOf x.name = X := ⟨_, rfl⟩
        rw [hX] at p0 hq
        generalize strOf nm = Y at hq
        have HX : Hid (X = strOf x.name) := hX.symm
        clear hX
        go_wp2_with (first
          | (at_builtin; refine wpList_appN _ rfl _ _ rfl w.heap.size _ _ _ (without (l.take k) nm) rfl (HO.out.alloc _) _ _ _ [x] rfl (NsAt.oneAt (by simp) HX.out) (by omega) (by simp; omega) ?_))
        intro a4 c4 w4 ho4 hb4
        have HO4 : Hid (OwnN w4 w.heap.size a4 (n + 1) c4 (without (l.take k) nm ++ [x])) := ho4
        have HB4 : Hid (Below w.heap.size w w4) := (HB.out.alloc hsz _).trans hb4
        clear ho4 hb4
        go_wp2_with fail
        go_roundw
        case rel => exact ⟨a4, n + 1, c4, k + 1, by omega, by omega, rfl, by go_num, by unfold Hid; rw [HE.out]; exact HO4.out, HB4.out⟩
        case measure => simp [intOf]; omega
    · have HE : Hid (without l nm = without (l.take k) nm) := by unfold Hid; rw [List.take_of_length_le (by rw [HS.out]; omega)]
      have HN : Hid ((without l nm).length = n) := by unfold Hid; rw [HE.out]; exact HO.out.size
      go_wp2
      go_ret
      rw [HN.out, HE.out]
      exact ⟨ao, co, ret1 rfl, HO.out, HB.out⟩
end Go.Proofs.Ytkelahekfkhcfaa
/- Texts in order, as the model has it and as the plain functions have it; names that a call owns, in later worlds. -/
namespace Go.Proofs.Ytkelahekfkhcfaa
open Go.RowKit
theorem less_lt : ∀ x y : List UInt8, Op.bytesLess x y = ltB x y
  | _, [] => by unfold Op.bytesLess ltB; rfl
  | [], _ :: _ => by unfold Op.bytesLess ltB; rfl
  | a :: x, b :: y => by
    unfold Op.bytesLess ltB
    rw [less_lt x y]
    by_cases h1 : a.toNat < b.toNat
    · rw [if_pos h1]
      have : (a < b) := h1
      simp [this]
    · rw [if_neg h1]
      by_cases h2 : b.toNat < a.toNat
      · rw [if_pos h2]
        have h3 : ¬ a < b := h1
        have h4 : (a == b) = false := by
          rw [beq_eq_false_iff_ne]
          rintro rfl
          omega
        simp [h3, h4]
      · rw [if_neg h2]
        have h3 : ¬ a < b := h1
        have h4 : a = b := UInt8.toNat_inj.1 (by omega)
        simp [h4]
theorem strOf_less (x y : List UInt8) : Op.bytesLess (strOf x).toList (strOf y).toList = ltB x y := by
  rw [less_lt, ByteArray.toList_eq, ByteArray.toList_eq]
  simp [strOf]
theorem OwnN.below {w w' : World} {B : Nat} {a : Option Addr} {len cap : Nat} {l : List PName} (h : OwnN w B a len cap l) (hb : Below w.heap.size w w') : OwnN w' B a len cap l := by
  refine ⟨h.size, h.row.1, ?_⟩
  rcases h.row.2 with hn | ⟨g, c, cur, hv, hB, hg, rest⟩
  · exact .inl hn
  · exact .inr ⟨g, c, cur, hv, hB, by rw [hb.block g (Array.getElem?_eq_some_iff.1 hg).1]; exact hg, rest⟩
theorem OwnN.mono {w : World} {B B' : Nat} {a : Option Addr} {len cap : Nat} {l : List PName} (h : OwnN w B a len cap l) (hB : B' ≤ B) : OwnN w B' a len cap l := by
  refine ⟨h.size, h.row.1, ?_⟩
  rcases h.row.2 with hn | ⟨g, c, cur, hv, hb, rest⟩
  · exact .inl hn
  · exact .inr ⟨g, c, cur, hv, Nat.le_trans hB hb, rest⟩
theorem insN_len (n : PName) : ∀ l, (insN n l).length = l.length + 1
  | [] => rfl
  | x :: r => by
    unfold insN
    split
    · simp
    · simp [insN_len n r]
end Go.Proofs.Ytkelahekfkhcfaa
/- The contract of the document's own with: names and one more, in its place. -/
namespace Go.Proofs.Ytkelahekfkhcfaa
open Go.RowKit
set_option maxRecDepth 100000 in
set_option maxHeartbeats 4000000 in
theorem rwith_any (a : Option Addr) (len cap : Nat) (l : List PName) (n : PName) (w : World) (h : NsAt w a len cap l) (hbig : (len + 2) * 24 ≤ 140737488355328) :
    Calls Try.prog 67 #[.slice a len cap, .agg #[.string (strOf n.name), .int .i64 ((n.file : Nat) : Int)]] w fun e w' => ∃ a' c', e = .returned (.slice a' (withN l n).length c') ∧ OwnN w' w.heap.size a' (withN l n).length c' (withN l n) ∧ Below w.heap.size w w' := by
  have H1 : Hid (NsAt w a len cap l) := h
  have hLl : (without l n.name).length ≤ len := by rw [← h.size]; exact without_len l n.name
  have HW : Hid (withN l n = insN n (without l n.name)) := rfl
  have HK0 : Hid (∀ t : TypeId, Blk (w.alloc (.cells #[.string (strOf n.name), .int .i64 ((n.file : Nat) : Int)] t)) w.heap.size [.string (strOf n.name), .int .i64 ((n.file : Nat) : Int)]) := fun t => Blk.new w _ t
  clear h
  go_enter Try.func67, Try.ntmps67
  go_wp2_with fail
  refine (rwithout_any a len cap l n.name _ (H1.out.below (Nat.le_refl _) ((Below.refl _ _).alloc (Nat.le_refl _) _)) (by omega)).mono ?_
  obtain ⟨M, hM⟩ : ∃ M, without l n.name = M := ⟨_, rfl⟩
  rw [hM] at hLl HW ⊢
  clear hM
  obtain ⟨m, hm⟩ : ∃ m, M.length = m := ⟨_, rfl⟩
  rw [hm] at hLl ⊢
  have HM : Hid (M.length = m) := hm
  clear hm
  rintro e w1 ⟨aM, cM, rfl, ho, hb⟩
  have HO1 : Hid (NsAt w1 aM m cM M) := ho.ns
  have HK1 : Hid (Blk w1 w.heap.size [.string (strOf n.name), .int .i64 ((n.file : Nat) : Int)]) := (HK0.out _).below (Nat.le_refl _) hb
  have HB1 : Hid (Below w.heap.size w w1) := ((Below.refl _ _).alloc (Nat.le_refl _) _).trans (hb.mono (by simp))
  have hmx := ho.ns.max
  have hml := ho.ns.le
  unfold maxLen at hmx
  clear ho hb HK0
  go_wp2_with fail
  go_loopw [5, 6, 7] (fun o d i wr => ∃ (ao : Option Addr) (k co : Nat) (O : List PName) (dn : Bool) (no : Nat), k ≤ m ∧ no ≤ k + 1 ∧ (dn = false → no ≤ k) ∧ o = .slice ao no co ∧ d = .bool dn ∧ i = .int .i64 (k : Int) ∧ Hid (OwnN wr w1.heap.size ao no co O) ∧ Hid (insN n M = O ++ (if dn = true then M.drop k else insN n (M.drop k))) ∧ Hid (Below w1.heap.size w1 wr)) (fun _ _ i _ => m - (intOf i).toNat)
  case atStart => exact ⟨none, 0, 0, [], false, 0, Nat.zero_le _, by omega, (fun _ => Nat.le_refl _), rfl, rfl, rfl, OwnN.nil _ _, by simp [Hid], Below.refl _ _⟩
  case round =>
    obtain ⟨ao, k, co, O, dn, no, hk, hno, hnf, rfl, rfl, rfl, HO, HI, HB⟩ := hrel
    have hsz := HB.out.size
    have HK : Hid (Blk wr w.heap.size [.string (strOf n.name), .int .i64 ((n.file : Nat) : Int)]) := HK1.out.below (Nat.le_refl _) HB.out
    have c0 := HK.out.cell 0 _ rfl
    have c1 := HK.out.cell 1 _ rfl
    by_cases hlt : k < m
    · obtain ⟨b, off, rfl, hc⟩ := (HO1.out.below (Nat.le_refl _) HB.out).here (by omega)
      obtain ⟨p0, p1⟩ := hc k hlt
      have HD : Hid (_ = _) := drop_ns M k (by rw [HM.out]; exact hlt)
      have hq := strOf_less n.name (M.getD k name0).name
      have hx1 : (0 : Int) ≤ (k : Int) := by omega
      have hx2 : (k : Int) < (m : Int) := by omega
      clear hc
      generalize M.getD k name0 = x at p0 p1 hq HD
      have hd : ∀ nq, Below wr.heap.size wr (wr.drewN nq) := fun _ => ⟨rfl, rfl, rfl, Nat.le_refl _, fun _ _ => rfl⟩
      have HD1 : Hid (∀ nq, Below w1.heap.size w1 (wr.drewN nq)) := fun nq => HB.out.trans ((hd nq).mono hsz)
      have HOD : Hid (∀ nq, OwnN (wr.drewN nq) w1.heap.size ao no co O) := fun nq => HO.out.below (hd nq)
      have HSD : Hid (∀ nq, w1.heap.size ≤ (wr.drewN nq).heap.size) := fun _ => hsz
      obtain ⟨X, hX⟩ : ∃ X, strOf x.name = X := ⟨_, rfl⟩
      have HX : Hid (X = strOf x.name) := hX.symm
      rw [hX] at p0 hq
      have HPX : Hid (∀ W : World, Below w1.heap.size w1 W → W.cell? ⟨b, off + k * 2, none⟩ = some (.string X) ∧ W.cell? ⟨b, off + k * 2 + 1, none⟩ = some (.int .i64 ((x.file : Nat) : Int))) := fun W hW => by
        have hlb : b < w1.heap.size := by
          obtain ⟨b', off', he, hc'⟩ := HO1.out.here (by omega)
          simp only [Option.some.injEq, Addr.mk.injEq, and_true] at he
          obtain ⟨rfl, rfl⟩ := he
          exact World.block_lt_of_cell? w1 _ (hc' 0 (by omega)).1
        refine ⟨?_, ?_⟩
        · rw [hW.cell hlb, ← HB.out.cell hlb]; exact p0
        · rw [hW.cell hlb, ← HB.out.cell hlb]; exact p1
      have HKX : Hid (∀ W : World, Below w1.heap.size w1 W → W.cell? ⟨w.heap.size, 0, none⟩ = some (.string (strOf n.name)) ∧ W.cell? ⟨w.heap.size, 1, none⟩ = some (.int .i64 ((n.file : Nat) : Int))) := fun W hW => by
        have hK := HK1.out.below (Nat.le_refl _) hW
        exact ⟨hK.cell 0 _ rfl, hK.cell 1 _ rfl⟩
      clear hX
      cases dn with
      | true =>
        have HI' : Hid (insN n M = (O ++ [x]) ++ M.drop (k + 1)) := by
          unfold Hid
          rw [HI.out, if_pos rfl, HD.out]
          simp
        go_wp2_with fail
        go_quiet (fail)
        obtain ⟨p0', p1'⟩ := HPX.out _ (HD1.out nq)
        go_wp2_with (first
          | (at_builtin; refine wpList_appN _ rfl _ _ rfl w1.heap.size _ _ _ O rfl ((HOD.out nq).alloc _) _ _ _ [x] rfl (NsAt.oneAt (by simp) HX.out) (by omega) (by have := HSD.out nq; simp; omega) ?_))
        intro a4 c4 w4 ho4 hb4
        have HO4 : Hid (OwnN w4 w1.heap.size a4 (no + 1) c4 (O ++ [x])) := ho4
        have HB4 : Hid (Below w1.heap.size w1 w4) := ((HD1.out nq).alloc (HSD.out nq) _).trans hb4
        clear ho4 hb4
        go_wp2_with fail
        go_roundw
        case rel => exact ⟨a4, k + 1, c4, O ++ [x], true, no + 1, by omega, by omega, (fun e => by cases e), rfl, rfl, by go_num, HO4.out, by unfold Hid; rw [if_pos rfl]; exact HI'.out, HB4.out⟩
        case measure => simp [intOf]; omega
      | false =>
        replace hnf := hnf rfl
        by_cases hl : ltB n.name x.name = true
        · have HI' : Hid (insN n M = ((O ++ [n]) ++ [x]) ++ M.drop (k + 1)) := by
            unfold Hid
            rw [HI.out, if_neg (by decide), HD.out, insN, if_pos hl]
            simp
          rw [hl] at hq
          have HBB : Hid ((no + 1 + 1) * 24 ≤ 140737488355328) := Nat.le_trans (Nat.mul_le_mul_right 24 (show no + 1 + 1 ≤ len + 2 by clear hbig hmx; omega)) hbig
          generalize hN : strOf n.name = N at hq c0 HKX
          have HN : Hid (N = strOf n.name) := hN.symm
          clear hN hl HK HK1
          go_wp2_with fail
          go_quiet (fail)
          obtain ⟨c0', c1'⟩ := HKX.out _ (HD1.out nq)
          go_wp2_with (first
            | (at_builtin; refine wpList_appN _ rfl _ _ rfl w1.heap.size _ _ _ O rfl ((HOD.out nq).alloc _) _ _ _ [n] rfl (NsAt.oneAt (by simp) HN.out) (by omega) (by have := HSD.out nq; simp; omega) ?_))
          intro a4 c4 w4 ho4 hb4
          have HO4 : Hid (OwnN w4 w1.heap.size a4 (no + 1) c4 (O ++ [n])) := ho4
          have HB4 : Hid (Below w1.heap.size w1 w4) := ((HD1.out nq).alloc (HSD.out nq) _).trans hb4
          have HZ4 : Hid (w1.heap.size ≤ w4.heap.size) := HB4.out.size
          clear ho4 hb4 c0' c1'
          obtain ⟨p0', p1'⟩ := HPX.out _ HB4.out
          go_wp2_with (first
            | (at_builtin; refine wpList_appN _ rfl _ _ rfl w1.heap.size _ _ _ (O ++ [n]) rfl (HO4.out.alloc _) _ _ _ [x] rfl (NsAt.oneAt (by simp) HX.out) HBB.out (Nat.le_trans HZ4.out (by simp)) ?_))
          intro a5 c5 w5 ho5 hb5
          have HO5 : Hid (OwnN w5 w1.heap.size a5 (no + 1 + 1) c5 ((O ++ [n]) ++ [x])) := by unfold Hid; simpa using ho5
          have HB5 : Hid (Below w1.heap.size w1 w5) := (HB4.out.alloc HZ4.out _).trans hb5
          clear ho5 hb5
          go_wp2_with fail
          go_roundw
          case rel => exact ⟨a5, k + 1, c5, (O ++ [n]) ++ [x], true, no + 1 + 1, by omega, by omega, (fun e => by cases e), rfl, rfl, by go_num, HO5.out, by unfold Hid; rw [if_pos rfl]; exact HI'.out, HB5.out⟩
          case measure => simp [intOf]; omega
        · have HI' : Hid (insN n M = (O ++ [x]) ++ insN n (M.drop (k + 1))) := by
            unfold Hid
            rw [HI.out, if_neg (by decide), HD.out, insN, if_neg hl]
            simp
          rw [Bool.eq_false_iff.2 hl] at hq
          generalize strOf n.name = N at hq c0
          clear hl HK HK1 HKX
          go_wp2_with fail
          go_quiet (fail)
          obtain ⟨p0', p1'⟩ := HPX.out _ (HD1.out nq)
          go_wp2_with (first
            | (at_builtin; refine wpList_appN _ rfl _ _ rfl w1.heap.size _ _ _ O rfl ((HOD.out nq).alloc _) _ _ _ [x] rfl (NsAt.oneAt (by simp) HX.out) (by omega) (by have := HSD.out nq; simp; omega) ?_))
          intro a4 c4 w4 ho4 hb4
          have HO4 : Hid (OwnN w4 w1.heap.size a4 (no + 1) c4 (O ++ [x])) := ho4
          have HB4 : Hid (Below w1.heap.size w1 w4) := ((HD1.out nq).alloc (HSD.out nq) _).trans hb4
          clear ho4 hb4
          go_wp2_with fail
          go_roundw
          case rel => exact ⟨a4, k + 1, c4, O ++ [x], false, no + 1, by omega, by omega, (fun _ => by omega), rfl, rfl, by go_num, HO4.out, by unfold Hid; rw [if_neg (by decide)]; exact HI'.out, HB4.out⟩
          case measure => simp [intOf]; omega
    · obtain rfl : k = m := by omega
      have HEN : Hid (M.drop k = []) := List.drop_eq_nil_of_le (by rw [HM.out]; exact Nat.le_refl _)
      cases dn with
      | true =>
        have HF : Hid (withN l n = O) := by unfold Hid; rw [HW.out, HI.out, if_pos rfl, HEN.out, List.append_nil]
        have HN : Hid ((withN l n).length = no) := by unfold Hid; rw [HF.out]; exact HO.out.size
        go_wp2_with fail
        go_ret
        rw [HN.out, HF.out]
        exact ⟨ao, co, ret1 rfl, HO.out.mono HB1.out.size, HB1.out.trans (HB.out.mono HB1.out.size)⟩
      | false =>
        have HF : Hid (withN l n = O ++ [n]) := by unfold Hid; rw [HW.out, HI.out, if_neg (by decide), HEN.out]; rfl
        have HN : Hid ((withN l n).length = no + 1) := by unfold Hid; rw [HF.out, List.length_append, HO.out.size]; rfl
        generalize hNN : strOf n.name = N at c0
        have HNN : Hid (N = strOf n.name) := hNN.symm
        clear hNN HK HK1
        go_wp2_with (first
          | (at_builtin; refine wpList_appN _ rfl _ _ rfl w1.heap.size _ _ _ O rfl (HO.out.alloc _) _ _ _ [n] rfl (NsAt.oneAt (by simp) HNN.out) (by omega) (by simp; omega) ?_))
        intro a4 c4 w4 ho4 hb4
        have HO4 : Hid (OwnN w4 w1.heap.size a4 (no + 1) c4 (O ++ [n])) := ho4
        have HB4 : Hid (Below w1.heap.size w1 w4) := (HB.out.alloc hsz _).trans hb4
        clear ho4 hb4
        go_wp2_with fail
        go_ret
        rw [HN.out, HF.out]
        exact ⟨a4, c4, ret1 rfl, HO4.out.mono HB1.out.size, HB1.out.trans (HB4.out.mono HB1.out.size)⟩
end Go.Proofs.Ytkelahekfkhcfaa
/- The contracts of the document's own Pick and good. -/
namespace Go.Proofs.Ytkelahekfkhcfaa
open Go.RowKit
theorem pick_of {z : Int} {picks : List Int} {i most : Nat} (hz : 0 ≤ z) (h : (if picks.getD i 0 < 0 then -1 - picks.getD i 0 else picks.getD i 0) = z) : z.tmod ((most : Int) + 1) = ((PFs.pick picks i most : Nat) : Int) := by
  unfold PFs.pick
  rw [h, Int.tmod_eq_emod_of_nonneg hz]
  have := Int.emod_nonneg z (show ((most : Int) + 1) ≠ 0 by omega)
  omega
set_option maxRecDepth 100000 in
set_option maxHeartbeats 1000000 in
theorem rpick_any (a : Option Addr) (len cap : Nat) (l : List Int) (i most : Nat) (w : World) (h : IsAt w a len cap l) (hi : i < 9223372036854775807) (hm : most < 9223372036854775807) :
    Calls Try.prog 60 #[.slice a len cap, .int .i64 (i : Int), .int .i64 (most : Int)] w fun e w' => e = .returned (.int .i64 ((PFs.pick l i most : Nat) : Int)) ∧ w' = w := by
  have hs := h.size
  have hmx := h.max
  have hl := h.le
  unfold maxLen at hmx
  have hm1 : ((most : Int) + 1 == 0) = false := by simp; omega
  have hm2 : (most : Int) + 1 ≠ 0 := by omega
  by_cases hlt : i < len
  · obtain ⟨b, off, rfl, hc⟩ := h.here (by omega)
    have p0 := hc i hlt
    obtain ⟨z1, z2⟩ := h.wf i hlt
    have hx1 : (0 : Int) ≤ (i : Int) := by omega
    have hx2 : (i : Int) < (len : Int) := by omega
    by_cases hn : l.getD i 0 < 0
    · have hP := pick_of (z := -1 - l.getD i 0) (picks := l) (i := i) (most := most) (by omega) (by rw [if_pos hn])
      generalize l.getD i 0 = z at p0 z1 z2 hn hP
      generalize PFs.pick l i most = P at hP ⊢
      clear hc h hs
      go_enter Try.func60, Try.ntmps60
      go_wp2
      go_ret
      exact ⟨ret1 rfl, rfl⟩
    · have hP := pick_of (z := l.getD i 0) (picks := l) (i := i) (most := most) (by omega) (by rw [if_neg hn])
      generalize l.getD i 0 = z at p0 z1 z2 hn hP
      generalize PFs.pick l i most = P at hP ⊢
      have hz0 : 0 ≤ z := by omega
      clear hc h hs
      go_enter Try.func60, Try.ntmps60
      go_wp2
      go_ret
      exact ⟨ret1 rfl, rfl⟩
  · have hg : l.getD i 0 = 0 := by simp [List.getD, List.getElem?_eq_none (show l.length ≤ i by omega)]
    have HP : Hid (PFs.pick l i most = 0) := by
      unfold PFs.pick Hid
      rw [hg]
      simp
    have hx : decide ((i : Int) < (len : Int)) = false := by simp; omega
    clear h hs hg
    go_enter Try.func60, Try.ntmps60
    go_wp2
    go_ret
    rw [HP.out]
    exact ⟨ret1 (by simp), rfl⟩
set_option maxRecDepth 100000 in
set_option maxHeartbeats 1000000 in
theorem rgood_any (s : ByteArray) (w : World) : Calls Try.prog 57 #[.string s] w fun e w' => e = .returned (.bool (goodN s.data.toList)) ∧ w' = w := by
  have hl : s.data.toList.length = s.size := by rw [Array.length_toList]; rfl
  have HE : Hid (goodN s.data.toList = (decide (0 < s.size) && decide (s.size ≤ 32))) := by unfold goodN Hid; rw [hl]
  clear hl
  by_cases h1 : 0 < s.size
  · by_cases h2 : s.size ≤ 32
    · go_enter Try.func57, Try.ntmps57
      go_wp2
      go_ret
      rw [HE.out]
      exact ⟨ret1 (by simp [h1, h2]; omega), rfl⟩
    · go_enter Try.func57, Try.ntmps57
      go_wp2
      go_ret
      rw [HE.out]
      exact ⟨ret1 (by simp [h1, h2]; omega), rfl⟩
  · go_enter Try.func57, Try.ntmps57
    go_wp2
    go_ret
    rw [HE.out]
    exact ⟨ret1 (by simp [h1]), rfl⟩
end Go.Proofs.Ytkelahekfkhcfaa
/- The document's own file systems, in memory. -/
namespace Go.Proofs.Ytkelahekfkhcfaa
open Go.RowKit
/-- A file: its bytes' place. -/
structure RF where
  a : Option Addr
  cap : Nat
  x : PFile
def rf0 : RF := ⟨none, 0, file0⟩
def RF.v (r : RF) : Value := .slice r.a r.x.b.length r.cap
def RF.n (r : RF) : Value := .int .i64 ((r.x.last : Nat) : Int)
def RF.row (r : RF) : Option Nat := r.a.map (·.block)
def cellsF : List RF → List Value
  | [] => []
  | r :: l => r.v :: r.n :: cellsF l
theorem cellsF_length : ∀ l : List RF, (cellsF l).length = l.length * 2
  | [] => rfl
  | r :: l => by
    have := cellsF_length l
    simp [cellsF, this]
    omega
theorem cellsF_append : ∀ l m : List RF, cellsF (l ++ m) = cellsF l ++ cellsF m
  | [], _ => rfl
  | r :: l, m => by rw [List.cons_append, cellsF, cellsF, cellsF_append l m]; rfl
theorem cellsF_at : ∀ (l : List RF) (k : Nat), k < l.length → (cellsF l)[k * 2]? = some (l.getD k rf0).v ∧ (cellsF l)[k * 2 + 1]? = some (l.getD k rf0).n
  | [], k, h => by simp at h
  | r :: l, 0, _ => by simp [cellsF, List.getD]
  | r :: l, k + 1, h => by
    have := cellsF_at l k (by simpa using h)
    rw [cellsF, show (k + 1) * 2 = k * 2 + 1 + 1 by omega]
    simpa [List.getD] using this
theorem cellsF_set : ∀ (l : List RF) (k : Nat) (r : RF), cellsF (l.set k r) = ((cellsF l).set (k * 2) r.v).set (k * 2 + 1) r.n
  | [], k, r => by simp [cellsF]
  | x :: l, 0, r => by simp [cellsF]
  | x :: l, k + 1, r => by
    rw [List.set_cons_succ, cellsF, cellsF, cellsF_set l k r, show (k + 1) * 2 = k * 2 + 1 + 1 by omega]
    simp
def cellsG1 (c : PChange) : List Value := [.int .i64 ((c.kind : Nat) : Int), .string (strOf c.name), .string (strOf c.to), .int .i64 ((c.file : Nat) : Int)]
def cellsG : List PChange → List Value
  | [] => []
  | c :: l => cellsG1 c ++ cellsG l
theorem cellsG_length : ∀ l : List PChange, (cellsG l).length = l.length * 4
  | [] => rfl
  | c :: l => by
    have := cellsG_length l
    simp [cellsG, cellsG1, this]
    omega
theorem cellsG_append : ∀ l m : List PChange, cellsG (l ++ m) = cellsG l ++ cellsG m
  | [], _ => rfl
  | c :: l, m => by rw [List.cons_append, cellsG, cellsG, cellsG_append l m, List.append_assoc]
theorem cellsG_at : ∀ (l : List PChange) (k j : Nat), k < l.length → j < 4 → (cellsG l)[k * 4 + j]? = (cellsG1 (l.getD k chg0))[j]?
  | [], k, j, h, _ => by simp at h
  | c :: r, 0, j, _, hj => by
    rw [cellsG, List.getElem?_append_left (by simp [cellsG1]; omega)]
    simp [List.getD]
  | c :: r, k + 1, j, h, hj => by
    rw [cellsG, List.getElem?_append_right (by simp [cellsG1]; omega), show (cellsG1 c).length = 4 from rfl, show (k + 1) * 4 + j - 4 = k * 4 + j by omega, cellsG_at r k j (by simpa using h) hj]
    simp [List.getD]
/-- The cells of a file system. -/
structure RC where
  fa : Option Addr
  fl : Nat
  fc : Nat
  na : Option Addr
  nl : Nat
  nc : Nat
  la : Option Addr
  ll : Nat
  lc : Nat
  sa : Option Addr
  sl : Nat
  sc : Nat
  q : Int
  ub : Bool
  un : Int
  ib : Bool
  jn : Int
  o : Int
def RC.arr (c : RC) : Array Value := #[.slice c.fa c.fl c.fc, .slice c.na c.nl c.nc, .slice c.la c.ll c.lc, .slice c.sa c.sl c.sc, .int .i64 c.q, .bool c.ub, .int .i64 c.un, .bool c.ib, .int .i64 c.jn, .int .i64 c.o]
abbrev RB (w : World) (p : Nat) (c : RC) : Prop := Box w p 69 c.arr
theorem RB.cells {w : World} {p : Nat} {c : RC} (h : RB w p c) : w.cell? ⟨p, 0, none⟩ = some (.slice c.fa c.fl c.fc) ∧ w.cell? ⟨p, 1, none⟩ = some (.slice c.na c.nl c.nc) ∧ w.cell? ⟨p, 2, none⟩ = some (.slice c.la c.ll c.lc) ∧ w.cell? ⟨p, 3, none⟩ = some (.slice c.sa c.sl c.sc) ∧ w.cell? ⟨p, 4, none⟩ = some (.int .i64 c.q) ∧ w.cell? ⟨p, 5, none⟩ = some (.bool c.ub) ∧ w.cell? ⟨p, 6, none⟩ = some (.int .i64 c.un) ∧ w.cell? ⟨p, 7, none⟩ = some (.bool c.ib) ∧ w.cell? ⟨p, 8, none⟩ = some (.int .i64 c.jn) ∧ w.cell? ⟨p, 9, none⟩ = some (.int .i64 c.o) :=
  ⟨h.cell 0, h.cell 1, h.cell 2, h.cell 3, h.cell 4, h.cell 5, h.cell 6, h.cell 7, h.cell 8, h.cell 9⟩
/-- Where a file system's parts lie. -/
structure RG where
  fa : Option Addr
  fc : Nat
  na : Option Addr
  nc : Nat
  la : Option Addr
  lc : Nat
  sa : Option Addr
  sc : Nat
  fl : List RF
def rg0 : RG := ⟨none, 0, none, 0, none, 0, none, 0, []⟩
def rcOf (S : PFs) (g : RG) : RC := ⟨g.fa, S.files.length, g.fc, g.na, S.names.length, g.nc, g.la, S.lasts.length, g.lc, g.sa, S.since.length, g.sc, (S.quota : Nat), S.fused, S.fuse, S.fails, S.fail, (S.asked : Nat)⟩
def blkOf (a : Option Addr) : Option Nat := a.map (·.block)
theorem own_blk (a : Option Addr) (n c : Nat) : (Value.slice a n c).ownBlock = blkOf a := by
  cases a <;> rfl
structure RfAt (w : World) (p : Nat) (S : PFs) (g : RG) : Prop where
  fs : RB w p (rcOf S g)
  row : w.ownsRow 0 76 2 (.slice g.fa S.files.length g.fc) S.files.length (cellsF g.fl)
  eq : S.files = g.fl.map (·.x)
  bytes : ∀ r ∈ g.fl, OwnB w 0 r.a r.x.b.length r.cap r.x.b
  names : OwnN w 0 g.na S.names.length g.nc S.names
  lasts : OwnN w 0 g.la S.lasts.length g.lc S.lasts
  since : w.ownsRow 0 90 4 (.slice g.sa S.since.length g.sc) S.since.length (cellsG S.since)
def RIn (g : RG) (k : Nat) : Prop := blkOf g.fa = some k ∨ blkOf g.na = some k ∨ blkOf g.la = some k ∨ blkOf g.sa = some k ∨ ∃ r ∈ g.fl, blkOf r.a = some k
def RFoot (p : Nat) (g : RG) (k : Nat) : Prop := k = p ∨ RIn g k
section
variable {w w' : World} {p : Nat} {S : PFs} {g : RG}
theorem RfAt.tagP (h : RfAt w p S g) : tag w p = some 69 := Box.tag h.fs
theorem RfAt.tagF (h : RfAt w p S g) {k : Nat} (e : blkOf g.fa = some k) : tag w k = some 76 := row_tag h.row (by rw [own_blk]; exact e)
theorem RfAt.tagN (h : RfAt w p S g) {k : Nat} (e : blkOf g.na = some k) : tag w k = some 92 := row_tag h.names.row (by rw [own_blk]; exact e)
theorem RfAt.tagL (h : RfAt w p S g) {k : Nat} (e : blkOf g.la = some k) : tag w k = some 92 := row_tag h.lasts.row (by rw [own_blk]; exact e)
theorem RfAt.tagS (h : RfAt w p S g) {k : Nat} (e : blkOf g.sa = some k) : tag w k = some 90 := row_tag h.since (by rw [own_blk]; exact e)
theorem RfAt.tagB (h : RfAt w p S g) {r : RF} (hr : r ∈ g.fl) {k : Nat} (e : blkOf r.a = some k) : tag w k = some 5 := row_tag (h.bytes r hr).row (by rw [own_blk]; exact e)
theorem RfAt.foot_lt (h : RfAt w p S g) {k : Nat} (hk : RFoot p g k) : k < w.heap.size := by
  rcases hk with rfl | e | e | e | e | ⟨r, hr, e⟩
  · exact tag_lt h.tagP
  · exact tag_lt (h.tagF e)
  · exact tag_lt (h.tagN e)
  · exact tag_lt (h.tagL e)
  · exact tag_lt (h.tagS e)
  · exact tag_lt (h.tagB hr e)
theorem OwnN.same {w w' : World} {a : Option Addr} {len cap : Nat} {l : List PName} (h : OwnN w 0 a len cap l) (hk : ∀ b, blkOf a = some b → w'.heap[b]? = w.heap[b]?) : OwnN w' 0 a len cap l := ⟨h.size, row_same h.row fun b e => hk b (by rw [← own_blk a len cap]; exact e)⟩
theorem OwnB.same {w w' : World} {a : Option Addr} {len cap : Nat} {bs : List UInt8} (h : OwnB w 0 a len cap bs) (hk : ∀ b, blkOf a = some b → w'.heap[b]? = w.heap[b]?) : OwnB w' 0 a len cap bs := ⟨h.size, row_same h.row fun b e => hk b (by rw [← own_blk a len cap]; exact e)⟩
/-- Only the file system's own block turned. -/
theorem RfAt.frame {S' : PFs} (h : RfAt w p S g) (hs : ∀ k, RIn g k → w'.heap[k]? = w.heap[k]?) (hfs : RB w' p (rcOf S' g)) (e1 : S'.names = S.names) (e2 : S'.lasts = S.lasts) (e3 : S'.since = S.since) (e4 : S'.files = S.files) : RfAt w' p S' g where
  fs := hfs
  row := by rw [e4]; exact row_same h.row fun b e => hs b (.inl (by rw [← own_blk g.fa]; exact e))
  eq := by rw [e4]; exact h.eq
  bytes := fun r hr => (h.bytes r hr).same fun b e => hs b (.inr (.inr (.inr (.inr ⟨r, hr, e⟩))))
  names := by rw [e1]; exact h.names.same fun b e => hs b (.inr (.inl e))
  lasts := by rw [e2]; exact h.lasts.same fun b e => hs b (.inr (.inr (.inl e)))
  since := by rw [e3]; exact row_same h.since fun b e => hs b (.inr (.inr (.inr (.inl (by rw [← own_blk g.sa]; exact e)))))
theorem RfAt.kept (h : RfAt w p S g) (hs : ∀ k, RFoot p g k → w'.heap[k]? = w.heap[k]?) : RfAt w' p S g := h.frame (fun k hk => hs k (.inr hk)) (Box.kept h.fs (hs p (.inl rfl))) rfl rfl rfl rfl
theorem RfAt.below (h : RfAt w p S g) (hb : Below w.heap.size w w') : RfAt w' p S g := h.kept fun _ hk => hb.block _ (h.foot_lt hk)
theorem RfAt.in_ne (h : RfAt w p S g) {k : Nat} (hk : RIn g k) : k ≠ p := by
  rcases hk with e | e | e | e | ⟨r, hr, e⟩
  · exact tag_ne (h.tagF e) h.tagP (by decide)
  · exact tag_ne (h.tagN e) h.tagP (by decide)
  · exact tag_ne (h.tagL e) h.tagP (by decide)
  · exact tag_ne (h.tagS e) h.tagP (by decide)
  · exact tag_ne (h.tagB hr e) h.tagP (by decide)
theorem RfAt.count (h : RfAt w p S g) : g.fl.length = S.files.length := by rw [h.eq, List.length_map]
theorem RfAt.fileAt (h : RfAt w p S g) (k : Nat) : (g.fl.getD k rf0).x = S.fileOf k := by
  unfold PFs.fileOf
  rw [h.eq]
  simp only [List.getD, List.getElem?_map]
  cases g.fl[k]? <;> rfl
end
/-- Which blocks turn, and which are new. -/
structure RTurn (p : Nat) (g g' : RG) (w w' : World) : Prop where
  chg : Chg (RFoot p g) w w'
  foot : ∀ k, RIn g' k → RIn g k ∨ w.heap.size ≤ k
theorem RTurn.same {p : Nat} {g : RG} {w w' : World} (h : Chg (RFoot p g) w w') : RTurn p g g w w' := ⟨h, fun _ hk => .inl hk⟩
theorem RTurn.own {p : Nat} {g : RG} {w w' : World} (h : Chg (fun k => k = p) w w') : RTurn p g g w w' := ⟨h.wide fun _ _ e => .inl e, fun _ hk => .inl hk⟩
structure RInv (S : PFs) : Prop where
  inv : Inv S
  some_ : S.files.length ≤ S.asked
end Go.Proofs.Ytkelahekfkhcfaa
/- The document's own file systems, all at once, each with its own blocks. -/
namespace Go.Proofs.Ytkelahekfkhcfaa
open Go.RowKit
structure E1 (w : World) (R : Nat → Prop) (l : Fss) (gh : Nat → RG) : Prop where
  old : ∀ k, R k → k < w.heap.size
  here : ∀ i p S, l[i]? = some (p, S) → RInv S ∧ RfAt w p S (gh i) ∧ ∀ b, RFoot p (gh i) b → ¬ R b
  apart : ∀ i j p S q T, i ≠ j → l[i]? = some (p, S) → l[j]? = some (q, T) → ∀ b, RFoot p (gh i) b → ¬ RFoot q (gh j) b
def E0 : Face := fun w R _ l => ∃ gh, E1 w R l gh
section
variable {w w' : World} {R R' : Nat → Prop} {l : Fss} {gh : Nat → RG} {p q i : Nat} {S S' : PFs} {g' : RG}
theorem E1.turn (h : E1 w R l gh) (hc : Chg R w w') : E1 w' (fun k => R k ∨ (w.heap.size ≤ k ∧ k < w'.heap.size)) l gh := by
  refine ⟨fun k hk => hk.elim (fun e => Nat.lt_of_lt_of_le (h.old k e) hc.size) (fun e => e.2), fun i p S e => ?_, h.apart⟩
  obtain ⟨hI, hf, hR⟩ := h.here i p S e
  refine ⟨hI, hf.kept fun k hk => hc.block k (hf.foot_lt hk) (hR k hk), fun b hb => ?_⟩
  rintro (e | e)
  · exact hR b hb e
  · have := hf.foot_lt hb
    omega
theorem E1.less (h : E1 w R l gh) (hR : ∀ k, R' k → R k) : E1 w R' l gh :=
  ⟨fun k hk => h.old k (hR k hk), fun i p S e => ⟨(h.here i p S e).1, (h.here i p S e).2.1, fun b hb e' => (h.here i p S e).2.2 b hb (hR b e')⟩, h.apart⟩
theorem E1.below (h : E1 w R l gh) (hb : Below w.heap.size w w') (hR : ∀ k, R' k → R k ∨ (w.heap.size ≤ k ∧ k < w'.heap.size)) : E1 w' R' l gh := (h.turn (Chg.of hb)).less hR
theorem E1.set {r : Fss} (h : E1 w R l gh) (hi : l[i]? = some (p, S)) (hI : RInv S') (hf : RfAt w' p S' g') (ht : RTurn p (gh i) g' w w') : E0 w' R r (l.set i (p, S')) ∧ Kp R w w' := by
  obtain ⟨_, hf0, hR0⟩ := h.here i p S hi
  have hfoot : ∀ b, RFoot p g' b → RFoot p (gh i) b ∨ w.heap.size ≤ b := fun b hb => hb.elim (fun e => .inl (.inl e)) (fun e => (ht.foot b e).imp .inr id)
  refine ⟨⟨fun j => if j = i then g' else gh j, fun k hk => Nat.lt_of_lt_of_le (h.old k hk) ht.chg.size, fun j q T e => ?_, fun j k q T u V hjk ej ek b hb hb' => ?_⟩, ht.chg.os, ht.chg.tape, ht.chg.output, ht.chg.size, fun k hk hlt => ht.chg.block k hlt (fun e => hR0 k e hk)⟩
  · rcases set_at e with ⟨rfl, e2⟩ | ⟨hj, e2⟩
    · obtain ⟨rfl, rfl⟩ := Prod.mk.inj e2
      simp only [↓reduceIte]
      refine ⟨hI, hf, fun b hb hRb => ?_⟩
      rcases hfoot b hb with e | e
      · exact hR0 b e hRb
      · have := h.old b hRb
        omega
    · simp only [if_neg hj]
      obtain ⟨a1, a2, a3⟩ := h.here j q T e2
      exact ⟨a1, a2.kept fun k hk => ht.chg.block k (a2.foot_lt hk) (fun e => h.apart j i q T p S hj e2 hi k hk e), a3⟩
  · rcases set_at ej with ⟨rfl, e2⟩ | ⟨hj, e2⟩
    · obtain ⟨rfl, rfl⟩ := Prod.mk.inj e2
      rcases set_at ek with ⟨rfl, _⟩ | ⟨hk, e3⟩
      · exact hjk rfl
      · simp only [↓reduceIte] at hb
        simp only [if_neg hk] at hb'
        rcases hfoot b hb with e | e
        · exact h.apart j k _ _ _ _ hjk hi e3 b e hb'
        · have := (h.here k _ _ e3).2.1.foot_lt hb'
          omega
    · simp only [if_neg hj] at hb
      rcases set_at ek with ⟨rfl, e3⟩ | ⟨hk, e3⟩
      · obtain ⟨rfl, rfl⟩ := Prod.mk.inj e3
        simp only [↓reduceIte] at hb'
        rcases hfoot b hb' with e | e
        · exact h.apart j k _ _ _ _ hjk e2 hi b hb e
        · have := (h.here j _ _ e2).2.1.foot_lt hb
          omega
      · simp only [if_neg hk] at hb'
        exact h.apart j k _ _ _ _ hjk e2 e3 b hb hb'
theorem E1.push {r : Fss} (h : E1 w R l gh) (hI : RInv S) (hf : RfAt w' q S g') (hnew : ∀ b, RFoot q g' b → w.heap.size ≤ b) (hb : Below w.heap.size w w') : E0 w' R r (l ++ [(q, S)]) ∧ Kp R w w' := by
  refine ⟨⟨fun j => if j = l.length then g' else gh j, fun k hk => Nat.lt_of_lt_of_le (h.old k hk) hb.size, fun j q T e => ?_, fun j k q T u V hjk ej ek b hb1 hb' => ?_⟩, kp_of hb⟩
  · rcases push_at e with ⟨rfl, e2⟩ | ⟨hj, e2⟩
    · obtain ⟨rfl, rfl⟩ := Prod.mk.inj e2
      simp only [↓reduceIte]
      refine ⟨hI, hf, fun b hb hRb => ?_⟩
      have := h.old b hRb
      have := hnew b hb
      omega
    · simp only [if_neg hj]
      obtain ⟨a1, a2, a3⟩ := h.here j q T e2
      exact ⟨a1, a2.below hb, a3⟩
  · rcases push_at ej with ⟨rfl, e2⟩ | ⟨hj, e2⟩
    · obtain ⟨rfl, rfl⟩ := Prod.mk.inj e2
      rcases push_at ek with ⟨rfl, _⟩ | ⟨hk, e3⟩
      · exact hjk rfl
      · simp only [↓reduceIte] at hb1
        simp only [if_neg hk] at hb'
        have := (h.here k _ _ e3).2.1.foot_lt hb'
        have := hnew b hb1
        omega
    · simp only [if_neg hj] at hb1
      rcases push_at ek with ⟨rfl, e3⟩ | ⟨hk, e3⟩
      · obtain ⟨rfl, rfl⟩ := Prod.mk.inj e3
        simp only [↓reduceIte] at hb'
        have := (h.here j _ _ e2).2.1.foot_lt hb1
        have := hnew b hb'
        omega
      · simp only [if_neg hk] at hb'
        exact h.apart j k _ _ _ _ hjk e2 e3 b hb1 hb'
end
theorem rfBase_zero (w : World) : E0 w (fun k => k < w.heap.size) [] [] := ⟨fun _ => rg0, fun _ hk => hk, fun i p S e => by simp at e, fun i j p S q T _ e => by simp at e⟩
theorem rfBase_turn {w w' : World} {R : Nat → Prop} {l r : Fss} (h : E0 w R l r) (hc : Chg R w w') : E0 w' (fun k => R k ∨ (w.heap.size ≤ k ∧ k < w'.heap.size)) l r := by
  obtain ⟨gh, h⟩ := h
  exact ⟨gh, h.turn hc⟩
theorem rfBase_less {w : World} {R R' : Nat → Prop} {l r : Fss} (h : E0 w R l r) (hR : ∀ k, R' k → R k) : E0 w R' l r := by
  obtain ⟨gh, h⟩ := h
  exact ⟨gh, h.less hR⟩
end Go.Proofs.Ytkelahekfkhcfaa
