/- SchedHands: the walk. -/
import Derived.Test.YtehkcgjiimfdjabHandPlain
import Derived.Test.YtehkcgjiimfdjabApp5
import Derived.Test.YtehkcgjiimfdjabBegPlain
import Derived.Deep.DeepCutAuto
namespace Go.Proofs.Ytehkcgjiimfdjab
open Go.RowKit
theorem IsAt.upTo {w : World} {a : Option Addr} {len cap : Nat} {l : List Int} (h : IsAt w a len cap l) {k : Nat} (hk : k ≤ len) : IsAt w a k cap (l.take k) := by
  have hs := h.size
  have hl := h.le
  have e : ∀ j, j < k → (l.take k).getD j 0 = l.getD j 0 := fun j hj => by simp [List.getD, hj]
  refine ⟨by simp; omega, by omega, h.max, h.bare, fun j hj => by rw [e j hj]; exact h.wf j (by omega), fun hp => ?_⟩
  obtain ⟨b, off, rfl, hc⟩ := h.here (by omega)
  exact ⟨b, off, rfl, fun j hj => by rw [hc j (by omega), e j hj]⟩
def upN (n : Nat) : List Int := (List.range n).map Int.ofNat
theorem upN_succ (n : Nat) : upN (n + 1) = upN n ++ [(n : Int)] := by simp [upN, List.range_succ]
theorem upN_len (n : Nat) : (upN n).length = n := by simp [upN]
theorem IsAt.one (w : World) (n : Int) (h : in64 n) : IsAt (w.alloc (.cells #[.int .i64 n] 3)) (some ⟨w.heap.size, 0, none⟩) 1 1 [n] :=
  IsAt.box (l := [n]) (Box.new w 3 _) (by unfold maxLen; simp) (by simpa [in64] using h)
def gvG (g i : Nat) : List Ins := [⟨8, 0, 0, 0⟩, ⟨1, 0, 0, 0⟩, ⟨6, 0, (g : Int) + 5, 0⟩, ⟨10, 1, 0, 0⟩, ⟨7, 0, (g : Int) + 1, 0⟩, ⟨4, 1, (i : Int) + 1, 0⟩, ⟨2, 0, 1, 0⟩, ⟨11, 0, 0, 0⟩, ⟨9, 0, 0, 0⟩]
def tkG (g _i : Nat) : List Ins := [⟨8, 0, 0, 0⟩, ⟨1, 0, 0, 0⟩, ⟨6, 0, (g : Int) + 4, 0⟩, ⟨7, 0, (g : Int) + 6, 0⟩, ⟨10, 0, 0, 0⟩, ⟨7, 0, (g : Int) + 1, 0⟩, ⟨13, 0, 0, 0⟩, ⟨2, 0, 1, 0⟩, ⟨11, 1, 0, 0⟩, ⟨9, 0, 0, 0⟩]
theorem gvG_eq (i : Nat) : gvG (9 * i) i = gvK i := by simp [gvG, gvK]
theorem tkG_eq (i : Nat) : tkG (10 * i) i = tkK i := by simp [tkG, tkK]
theorem gvG_wf {g i : Nat} (hg : g ≤ 60) (hi : i ≤ 6) : ∀ x ∈ gvG g i, in64I x := by
  simp [gvG, in64I, in64]
  omega
theorem tkG_wf {g i : Nat} (hg : g ≤ 60) : ∀ x ∈ tkG g i, in64I x := by
  simp [tkG, in64I, in64]
  omega
/-- Instructions of a block appended to a row of the call's own, and where the row lies then. -/
theorem wpList_appIL (w : World) {ops : Array Oper} {rest : List Oper} {o : Oper} {a : Act} {Q : Exit → Act → World → Prop} (hgd : o.guard = none) (s x : Operand)
    (ho : o.op = .call { callee := .builtin .append, args := #[s, x], argTypes := #[24, 24] })
    (B : Nat) (a1 : Option Addr) (n1 c1 : Nat) (l : List Ins) (hs : a.eval s = .slice a1 n1 c1) (hown : OwnI w B a1 n1 c1 l)
    (b n2 c2 : Nat) (m : List Ins) (hx : a.eval x = .slice (some ⟨b, 0, none⟩) n2 c2) (hsrc : Box w b 26 (insL m).toArray) (hm : m.length = n2) (hw : ∀ x ∈ m, in64I x)
    (hb : n1 + n2 ≤ 1000000) (h0 : 0 < n2) (hB : B ≤ w.heap.size)
    (h : ∀ g c' w', OwnI w' B (some ⟨g, 0, none⟩) (n1 + n2) c' (l ++ m) → Below B w w' → w.grownBy w' (blkOf a1) → (blkOf a1 = some g ∨ g = w.heap.size) → wpList Try.prog ops Q rest (a.put o.dst (.slice (some ⟨g, 0, none⟩) (n1 + n2) c')) w') :
    wpList Try.prog ops Q (o :: rest) a w := by
  have hl := hown.size
  obtain ⟨i, hi, hz0, hz1, hz2⟩ := info_parts infoInst
  refine wpList_append_lies w hgd s x _ ho B 26 i _ 4 32 Try.underlying24 hi hz0 hz1 hz2 rfl (by decide) _ n1 _ hs hown.row ⟨b, 0, none⟩ n2 c2 (insL m) hx (by rw [insL_len, hm]) (fun j u hu => ?_) (insL_one m) h0 (by unfold maxLen; omega) (by omega) hB w.heap.size rfl (fun g c' w' hr hg hl' _ => h g c' w' ⟨by rw [List.length_append]; omega, by rw [insL_append]; exact hr, fun k hk => ?_⟩ ((Below.refl B w).grown hg hB (fun k hk => (hown.row.lt k hk).1)) (by rw [← own_blk a1 n1 c1]; exact hg) (by rw [← own_blk a1 n1 c1]; exact hl'))
  · rw [Addr.add_lit, Nat.zero_add, hsrc.cell]
    simpa using hu
  · rcases List.mem_append.1 hk with hk | hk
    · exact hown.wf k hk
    · exact hw k hk
theorem OwnI.other {w w' : World} {B : Nat} {a : Option Addr} {len cap : Nat} {l : List Ins} (h : OwnI w B a len cap l) {row : Option Nat} (hg : w.grownBy w' row) (hne : ∀ b, blkOf a = some b → row ≠ some b) : OwnI w' B a len cap l :=
  ⟨h.size, row_same h.row fun b e => by
    rw [own_blk] at e
    exact hg.block b (tag_lt (row_tag h.row (by rw [own_blk]; exact e))) (hne b e).symm, h.wf⟩
theorem OwnI.lt {w : World} {B : Nat} {a : Option Addr} {len cap : Nat} {l : List Ins} (h : OwnI w B a len cap l) {b : Nat} (e : blkOf a = some b) : b < w.heap.size := tag_lt (row_tag h.row (by rw [own_blk]; exact e))
set_option maxRecDepth 100000 in
set_option maxHeartbeats 1000000 in
theorem schedHands_walk (a0 : Int) (a1 : Option Addr) (len1 cap1 : Nat) (b1 : List Int) (w : World) (w0 : (Lit.int .i64 a0).wf = true) (w1 : IsAt w a1 len1 cap1 b1) (e1 : cap1 ≤ 17592186043904) :
    Calls Try.prog 3 #[.int .i64 a0, .slice a1 len1 cap1] w fun e w' => e = .returned (.bool true) ∧ Below w.heap.size w w' := by
  have H1 : Hid (IsAt w a1 len1 cap1 b1) := w1
  have hle1 := w1.le
  have hw0 : -9223372036854775808 ≤ a0 ∧ a0 ≤ 9223372036854775807 := by
    simp [Lit.wf, IntKind.min, IntKind.max, IntKind.bits, IntKind.signed] at w0
    omega
  obtain ⟨l0, u0⟩ := hw0
  clear w0 w1
  go_enter Try.func3, Try.ntmps3
  go_wp2_with fail
  refine (awake_any _).mono ?_
  rintro _ v1 ⟨rfl, hb1⟩
  have HB1 : Hid (Below w.heap.size w v1) := hb1
  clear hb1
  go_upto_if 17 with fail
  go_cut [0] (fun s wc => ∃ q : Nat, s = .int .i64 q ∧ q ≤ 9223372036854775807 ∧ wc = v1)
  case first =>
    by_cases hq : a0 < 0
    · obtain ⟨q, e⟩ : ∃ q : Nat, -(a0 + 1) = (q : Int) := ⟨(-(a0 + 1)).toNat, by omega⟩
      have HE : Hid (-(a0 + 1) = (q : Int)) := e
      clear e
      go_wp2_with fail
      go_meet
      exact ⟨q, by rw [HE.out], by have := HE.out; omega, rfl⟩
    · go_wp2_with fail
      go_meet
      exact ⟨a0.toNat, by rw [show ((a0.toNat : Nat) : Int) = a0 by omega], by omega, rfl⟩
  case rest =>
    obtain ⟨qa, rfl, hqa, rfl⟩ := hcut
    clear l0 u0
    rename World => x0
    obtain ⟨T, hT1, hT6, eT⟩ : ∃ T : Nat, 1 ≤ T ∧ T ≤ 6 ∧ (1 + (qa : Int) % 6) = (T : Int) := ⟨1 + qa % 6, by omega, by omega, by omega⟩
    have HET : Hid ((1 + (qa : Int) % 6) = (T : Int)) := eT
    clear eT
    have hs0 : w.heap.size ≤ x0.heap.size := HB1.out.size
    go_wp2_with fail
    rw [HET.out]
    clear HET hqa
    go_loopw [6, 7, 8, 9] (fun o t i _ wz => ∃ (k g h c d : Nat) (ao at2 : Option Addr), k ≤ T ∧ i = .int .i64 (k : Int) ∧ o = .slice ao g c ∧ t = .slice at2 h d ∧ Hid (g = 9 * k) ∧ Hid (h = 10 * k) ∧ g ≤ 54 ∧ h ≤ 60 ∧ Hid (OwnI wz x0.heap.size ao g c (gvC k)) ∧ Hid (OwnI wz x0.heap.size at2 h d (tkC k)) ∧ Hid (∀ b, blkOf ao = some b → blkOf at2 ≠ some b) ∧ Hid (Below x0.heap.size x0 wz)) (fun _ _ i _ _ => T - (intOf i).toNat)
    case atStart => exact ⟨0, 0, 0, 0, 0, none, none, Nat.zero_le _, rfl, rfl, rfl, rfl, rfl, by omega, by omega, OwnI.nil _ _, OwnI.nil _ _, (fun _ e => by cases e), Below.refl _ _⟩
    case round =>
      obtain ⟨k, g, h, c, d, ao, at2, hk, rfl, rfl, rfl, HG, HH, hg, hh, HO, HT, HN, HB⟩ := hrel
      by_cases hlt : k < T
      · have HBX : Hid (Box (wr.alloc (.cells #[.int .i64 8, .int .i64 0, .int .i64 0, .int .i64 0, .int .i64 1, .int .i64 0, .int .i64 0, .int .i64 0, .int .i64 6, .int .i64 0, .int .i64 ((g : Int) + 5), .int .i64 0, .int .i64 10, .int .i64 1, .int .i64 0, .int .i64 0, .int .i64 7, .int .i64 0, .int .i64 ((g : Int) + 1), .int .i64 0, .int .i64 4, .int .i64 1, .int .i64 ((k : Int) + 1), .int .i64 0, .int .i64 2, .int .i64 0, .int .i64 1, .int .i64 0, .int .i64 11, .int .i64 0, .int .i64 0, .int .i64 0, .int .i64 9, .int .i64 0, .int .i64 0, .int .i64 0] 26)) wr.heap.size 26 (insL (gvG g k)).toArray) := Box.new wr _ _
        have HA1 : Hid (∀ o : Obj, Below wr.heap.size wr (wr.alloc o)) := fun o => (Below.refl _ _).alloc (Nat.le_refl _) _
        have hsz := HB.out.size
        go_wp2_with (first | (at_builtin; refine wpList_appIL _ rfl _ _ rfl x0.heap.size _ _ _ (gvC k) rfl (HO.out.below (HA1.out _)) _ 9 9 (gvG g k) rfl HBX.out rfl (gvG_wf (by omega) (by omega)) (by omega) (by omega) (by simp; omega) ?_))
        intro r3 c3 w3 hO3 hb3 hg3 hr3
        have HO3 : Hid (OwnI w3 x0.heap.size (some ⟨r3, 0, none⟩) (g + 9) c3 (gvC (k + 1))) := by
          unfold Hid
          rw [HG.out, gvG_eq] at hO3
          rw [HG.out]
          exact hO3
        have HT3 : Hid (OwnI w3 x0.heap.size at2 h d (tkC k)) := (HT.out.below (HA1.out _)).other hg3 (fun b e e' => HN.out b e' e)
        have HN3 : Hid (blkOf at2 ≠ some r3) := fun e => by
          rcases hr3 with hr3 | hr3
          · exact HN.out r3 hr3 e
          · have := HT.out.lt e
            omega
        have HB3 : Hid (Below x0.heap.size x0 w3) := (HB.out.trans ((HA1.out _).mono hsz)).trans hb3
        have hsz3 := HB3.out.size
        clear hO3 hb3 hg3 hr3 HO HT HN HB HBX HA1 hsz
        have HBX : Hid (Box (w3.alloc (.cells #[.int .i64 8, .int .i64 0, .int .i64 0, .int .i64 0, .int .i64 1, .int .i64 0, .int .i64 0, .int .i64 0, .int .i64 6, .int .i64 0, .int .i64 ((h : Int) + 4), .int .i64 0, .int .i64 7, .int .i64 0, .int .i64 ((h : Int) + 6), .int .i64 0, .int .i64 10, .int .i64 0, .int .i64 0, .int .i64 0, .int .i64 7, .int .i64 0, .int .i64 ((h : Int) + 1), .int .i64 0, .int .i64 13, .int .i64 0, .int .i64 0, .int .i64 0, .int .i64 2, .int .i64 0, .int .i64 1, .int .i64 0, .int .i64 11, .int .i64 1, .int .i64 0, .int .i64 0, .int .i64 9, .int .i64 0, .int .i64 0, .int .i64 0] 26)) w3.heap.size 26 (insL (tkG h k)).toArray) := Box.new w3 _ _
        have HA1 : Hid (∀ o : Obj, Below w3.heap.size w3 (w3.alloc o)) := fun o => (Below.refl _ _).alloc (Nat.le_refl _) _
        go_wp2_with (first | (at_builtin; refine wpList_appIL _ rfl _ _ rfl x0.heap.size _ _ _ (tkC k) rfl (HT3.out.below (HA1.out _)) _ 10 10 (tkG h k) rfl HBX.out rfl (tkG_wf (by omega)) (by omega) (by omega) (by simp; omega) ?_))
        intro r4 c4 w4 hO4 hb4 hg4 hr4
        have HT4 : Hid (OwnI w4 x0.heap.size (some ⟨r4, 0, none⟩) (h + 10) c4 (tkC (k + 1))) := by
          unfold Hid
          rw [HH.out, tkG_eq] at hO4
          rw [HH.out]
          exact hO4
        have HO4 : Hid (OwnI w4 x0.heap.size (some ⟨r3, 0, none⟩) (g + 9) c3 (gvC (k + 1))) := (HO3.out.below (HA1.out _)).other hg4 (fun b e e' => by cases e; exact HN3.out e')
        have HN4 : Hid (∀ b, blkOf (some ⟨r3, 0, none⟩) = some b → blkOf (some ⟨r4, 0, none⟩) ≠ some b) := fun b e e' => by
          cases e
          cases e'
          rcases hr4 with hr4 | hr4
          · exact HN3.out hr4
          · have := HO3.out.lt (b := r3) rfl
            omega
        have HB4 : Hid (Below x0.heap.size x0 w4) := (HB3.out.trans ((HA1.out _).mono hsz3)).trans hb4
        have HG4 : Hid (g + 9 = 9 * (k + 1)) := by unfold Hid; rw [HG.out]; omega
        have HH4 : Hid (h + 10 = 10 * (k + 1)) := by unfold Hid; rw [HH.out]; omega
        have hg4' : g + 9 ≤ 54 := by rw [HG4.out]; omega
        have hh4' : h + 10 ≤ 60 := by rw [HH4.out]; omega
        clear hO4 hb4 hg4 hr4 HO3 HT3 HN3 HB3 HBX HA1 hsz3
        go_wp2
        go_roundw
        case rel => exact ⟨k + 1, g + 9, h + 10, c3, c4, _, _, by omega, by go_num, rfl, rfl, HG4, HH4, hg4', hh4', HO4, HT4, HN4, HB4⟩
        case measure => simp [intOf]; omega
      · obtain rfl : k = T := by omega
        have HI1 : Hid (IcAt wr ao g c (gvC k)) := HO.out.is
        have HI2 : Hid (IcAt wr at2 h d (tkC k)) := HT.out.is
        have HW2 : Hid (Below w.heap.size w wr) := HB1.out.trans (HB.out.mono hs0)
        have hs2 : w.heap.size ≤ wr.heap.size := HW2.out.size
        clear HO HT HN HB hlt HG HH hs0 HB1
        rename World => x2
        go_upto_if 72 with fail
        go_cut [1] (fun s wz => ∃ n : Nat, s = .slice a1 n cap1 ∧ n ≤ 300 ∧ n ≤ cap1 ∧ wz = x2 ∧ Hid (IsAt x2 a1 n cap1 (b1.take n)))
        case first =>
          have HI : Hid (IsAt x2 a1 len1 cap1 b1) := H1.out.below (Nat.le_refl _) HW2.out
          by_cases hq : 300 < len1
          · obtain ⟨bb, off, rfl, _⟩ := H1.out.here (by omega)
            go_wp2_with fail
            go_meet
            exact ⟨300, rfl, by omega, by omega, rfl, HI.out.upTo (by omega)⟩
          · have hq' : decide ((300 : Int) < (len1 : Int)) = false := by simp; omega
            go_wp2_with fail
            go_meet
            exact ⟨len1, rfl, by omega, hle1, rfl, HI.out.upTo (Nat.le_refl _)⟩
        case rest =>
          obtain ⟨n, rfl, hn, hnc, rfl, HP⟩ := hcut
          have HMD : Hid (OwnN (wc.alloc (.cells #[] 3)) wc.heap.size (some ⟨wc.heap.size, 0, none⟩) 0 0 []) := OwnN.made wc
          have HA1 : Hid (∀ o : Obj, Below wc.heap.size wc (wc.alloc o)) := fun o => (Below.refl _ _).alloc (Nat.le_refl _) _
          go_wp2_with (first | (at_builtin; refine wpList_appN _ rfl _ _ rfl wc.heap.size _ _ _ [] rfl HMD.out a1 n cap1 (b1.take n) rfl (HP.out.below (Nat.le_refl _) (HA1.out _)) (by omega) (by simp) ?_))
          intro a' c' w' hO' hb' hg'
          have HO' : Hid (OwnN w' wc.heap.size a' n c' (b1.take n)) := hO'
          have HB' : Hid (Below wc.heap.size wc w') := (HA1.out _).trans hb'
          clear hO' hb' hg' HMD HA1 HP
          go_wp2_with fail
          go_loopw [10, 11] (fun o i wz => ∃ (m c3 : Nat) (a3 : Option Addr), m ≤ 400 ∧ i = .int .i64 (m : Int) ∧ o = .slice a3 (n + m) c3 ∧ Hid (OwnN wz wc.heap.size a3 (n + m) c3 (b1.take n ++ upN m)) ∧ Hid (Below wc.heap.size wc wz)) (fun _ i _ => 400 - (intOf i).toNat)
          case atStart => exact ⟨0, c', a', Nat.zero_le _, rfl, rfl, by have := HO'.out; unfold Hid; rwa [show upN 0 = [] from rfl, List.append_nil], HB'⟩
          case round =>
            obtain ⟨m, c3, a3, hm, rfl, rfl, HO, HB⟩ := hrel
            by_cases hlt3 : m < 400
            · have HSR : Hid (IsAt (wr.alloc (.cells #[.int .i64 (m : Int)] 3)) (some ⟨wr.heap.size, 0, none⟩) 1 1 [(m : Int)]) := IsAt.one wr _ (by unfold in64; omega)
              have HA1 : Hid (∀ o : Obj, Below wr.heap.size wr (wr.alloc o)) := fun o => (Below.refl _ _).alloc (Nat.le_refl _) _
              have hsz := HB.out.size
              go_wp2_with (first | (at_builtin; refine wpList_appN _ rfl _ _ rfl wc.heap.size _ _ _ (b1.take n ++ upN m) rfl (HO.out.below (HA1.out _)) _ 1 1 [(m : Int)] rfl HSR.out (by omega) (by simp; omega) ?_))
              intro a4 c4 w4 hO4 hb4 hg4
              have HO4 : Hid (OwnN w4 wc.heap.size a4 (n + (m + 1)) c4 (b1.take n ++ upN (m + 1))) := by unfold Hid; rw [upN_succ]; exact hO4
              have HB4 : Hid (Below wc.heap.size wc w4) := (HB.out.trans ((HA1.out _).mono hsz)).trans hb4
              clear hO4 hb4 hg4
              go_wp2
              go_roundw
              case rel => exact ⟨m + 1, c4, a4, by omega, by go_num, rfl, HO4, HB4⟩
              case measure => simp [intOf]; omega
            · obtain rfl : m = 400 := by omega
              obtain ⟨N, HN⟩ : ∃ N, Hid (N = n + 400) := ⟨_, rfl⟩
              have HO5 : Hid (OwnN wr wc.heap.size a3 N c3 (b1.take n ++ upN 400)) := by unfold Hid; rw [HN.out]; exact HO.out
              have HL : Hid (400 ≤ (b1.take n ++ upN 400).length) := by
                unfold Hid
                rw [List.length_append, upN_len]
                omega
              have HZ : Hid ((b1.take n ++ upN 400).length = N) := HO5.out.size
              have hNN : N ≤ 100000 := by rw [HN.out]; omega
              have HP1 : Hid (IcAt wr ao g c (gvC k)) := HI1.out.below (Nat.le_refl _) HB.out
              have HP2 : Hid (IcAt wr at2 h d (tkC k)) := HI2.out.below (Nat.le_refl _) HB.out
              have HWr : Hid (Below w.heap.size w wr) := HW2.out.trans (HB.out.mono hs2)
              have HA1 : Hid (∀ o : Obj, Below wr.heap.size wr (wr.alloc o)) := fun o => (Below.refl _ _).alloc (Nat.le_refl _) _
              have HCD : Hid (CdAt (wr.alloc (.cells #[.slice ao g c, .slice at2 h d] 24)) (some ⟨wr.heap.size, 0, none⟩) 2 2 [gvC k, tkC k]) :=
                CdAt.two (Box.new wr _ _) (HP1.out.below (Nat.le_refl _) (HA1.out _)) (HP2.out.below (Nat.le_refl _) (HA1.out _))
              obtain ⟨B, hrun, q1, q2, q3⟩ := hd_all hT1 hT6 HL.out
              have HRUN : Hid ((begins [gvC k, tkC k] []).run (b1.take n ++ upN 400) = B) := hrun
              have hlen : B.em.length = k := by rw [q1, emL_len]
              clear hrun
              rw [← HN.out]
              clear hlt3
              go_wp2_with fail
              refine (srun_at _ 2 2 _ none 0 0 [] a3 N c3 (b1.take n ++ upN 400) HCD.out (IsAt.nil _) (HO5.out.is.below (Nat.le_refl _) (HA1.out _)) (by rw [HZ.out]; omega) (fun _ => by rw [HRUN.out, hlen]; omega)).mono ?_
              rintro e v9 (⟨h9, _⟩ | ⟨_, qc, ea, ec, sa, sc, rfl, R⟩)
              · rw [hd_ok hT1 hT6] at h9
                cases h9
              · rw [HRUN.out] at R
                rw [HRUN.out]
                have hs9 := R.states
                have hb9 := R.base
                rw [q2, q3] at hs9
                have HEM : Hid (∀ j, j < k → ∃ fr, ea = some ⟨fr, 0, none⟩ ∧ v9.cell? ⟨fr, j * 2, none⟩ = some (.int .i64 1) ∧ v9.cell? ⟨fr, j * 2 + 1, none⟩ = some (.int .i64 ((j : Int) + 1)) ∧ k ≤ ec ∧ ec ≤ maxLen ∧ fr < v9.heap.size) := fun j hj => by
                  obtain ⟨fr, e1, p0, p1, h1, h2, h3⟩ := R.emitAt (j := j) (by rw [hlen]; exact hj)
                  rw [hlen] at h1
                  rw [q1, emL_at k j hj] at p0 p1
                  exact ⟨fr, e1, p0, p1, h1, h2, h3⟩
                obtain ⟨sle, smx, _, hsa⟩ := row_addr hs9
                obtain ⟨sb, rfl⟩ := hsa (by omega)
                have t0 := hs9.cellAt 0 (by omega)
                have t1 := hs9.cellAt 1 (by omega)
                have hsl := tag_lt (row_tag hs9 rfl)
                simp at t0 t1
                have HW9 : Hid (Below w.heap.size w v9) := (HWr.out.trans ((HA1.out _).mono HWr.out.size)).trans (hb9.mono (by have := HWr.out.size; simp; omega))
                rw [hlen, q3]
                clear R hs9 hb9 q1 q2 q3
                generalize B.steps = st
                go_wp2_with fail
                generalize hV : v9.alloc (.cells #[.slice (some ⟨qc, 0, none⟩) 16 16, .slice ea k ec, .slice (some ⟨sb, 0, none⟩) 2 sc, .int .i64 (st : Int)] 29) = V
                have hbV : Below v9.heap.size v9 V := by rw [← hV]; exact (Below.refl _ _).alloc (Nat.le_refl _) _
                have hxV : Box V v9.heap.size 29 #[.slice (some ⟨qc, 0, none⟩) 16 16, .slice ea k ec, .slice (some ⟨sb, 0, none⟩) 2 sc, .int .i64 (st : Int)] := by rw [← hV]; exact Box.new v9 _ _
                have z1 := hxV.cell 1
                have z2 := hxV.cell 2
                simp at z1 z2
                have y0 : V.cell? ⟨sb, 0, none⟩ = some (.int .i64 2) := (hbV.cell (p := ⟨sb, 0, none⟩) hsl).trans t0
                have y1 : V.cell? ⟨sb, 1, none⟩ = some (.int .i64 2) := (hbV.cell (p := ⟨sb, 1, none⟩) hsl).trans t1
                have HWV : Hid (Below w.heap.size w V) := HW9.out.trans (hbV.mono HW9.out.size)
                have HEMV : Hid (∀ j, j < k → ∃ fr, ea = some ⟨fr, 0, none⟩ ∧ V.cell? ⟨fr, j * 2, none⟩ = some (.int .i64 1) ∧ V.cell? ⟨fr, j * 2 + 1, none⟩ = some (.int .i64 ((j : Int) + 1))) := fun j hj => by
                  obtain ⟨fr, h1, h2, h3, _, _, h5⟩ := HEM.out j hj
                  exact ⟨fr, h1, (hbV.cell (p := ⟨fr, j * 2, none⟩) h5).trans h2, (hbV.cell (p := ⟨fr, j * 2 + 1, none⟩) h5).trans h3⟩
                have hec : k ≤ ec ∧ ec ≤ 9223372036854775807 := by
                  obtain ⟨_, _, _, _, h1, h2, _⟩ := HEM.out 0 (by omega)
                  unfold maxLen at h2
                  exact ⟨h1, h2⟩
                obtain ⟨hec1, hec2⟩ := hec
                unfold maxLen at smx
                generalize v9.heap.size = rb at z1 z2 ⊢
                clear hV hbV hxV HEM t0 t1 hsl HW9
                go_loopw [14] (fun i wz => ∃ j : Nat, j ≤ k ∧ i = .int .i64 (j : Int) ∧ wz = V) (fun i _ => k - (intOf i).toNat)
                case atStart => exact ⟨0, Nat.zero_le _, rfl, rfl⟩
                case round =>
                  obtain ⟨j, hj, rfl, rfl⟩ := hrel
                  by_cases hjk : j < k
                  · obtain ⟨fr, rfl, u0, u1⟩ := HEMV.out j hjk
                    go_wp2
                    go_roundw
                    case rel => exact ⟨j + 1, by omega, by go_num, trivial⟩
                    case measure => simp [intOf]; omega
                  · obtain rfl : j = k := by omega
                    go_wp2
                    go_returns
                    exact ⟨rfl, HWV.out⟩
end Go.Proofs.Ytehkcgjiimfdjab
