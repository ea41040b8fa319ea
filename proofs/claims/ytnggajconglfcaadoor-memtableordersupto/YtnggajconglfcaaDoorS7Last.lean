/- The contracts of last, with each of its tests. -/
import Derived.Test.YtnggajconglfcaaDoorPdRows
import Derived.Test.YtnggajconglfcaaDoorS7Lay
namespace Go.Proofs.YtnggajconglfcaaDoor
open Go.RowKit
set_option linter.unusedVariables false
def atp (S : PS) (P : Nat → Bool) (l : Nat) : Nat := if l = 8 then 0 else place (S.lev l) (cnt P (S.lev l))
theorem nxt_place {L : List Nat} (hn : L.Nodup) {k : Nat} (hk : k ≤ L.length) : nxt L (place L k) = L[k]? := by
  cases k with
  | zero =>
    rw [show place L 0 = 0 from rfl, nxt_zero, List.head?_eq_getElem?]
  | succ k =>
    have hk' : k < L.length := by omega
    have : place L (k + 1) = L[k] + 1 := by simp [place, List.getD, hk']
    rw [this]
    exact nxt_at hn k hk'
theorem place_in {L : List Nat} {k : Nat} (hk : k ≤ L.length) : InL L (place L k) := by
  cases k with
  | zero => exact .inl rfl
  | succ k =>
    have hk' : k < L.length := by omega
    have : place L (k + 1) = L[k] + 1 := by simp [place, List.getD, hk']
    rw [this]
    exact .inr ⟨_, rfl, List.getElem_mem hk'⟩
def blockOf : Value → Option Nat
  | .pointer (some a) => some a.block
  | _ => none
def goneTo (L : List Nat) (g : SG) (v : Value) : Nat := match blockOf v with
  | some b => L.length - posIn b (L.map g.n)
  | none => 0
section
variable {w : World} {p : Nat} {S : PS} {g : SG}
theorem SkAt.atp_in (h : SkAt w p S g) {P : Nat → Bool} (hP : Falls S P) {m : Nat} (hm : m < 8) : ∃ k, k ≤ cnt P (S.lev m) ∧ atp S P (m + 1) = place (S.lev m) k := by
  unfold atp
  split
  · exact ⟨0, Nat.zero_le _, rfl⟩
  · exact h.inv.enter hP (by omega)
set_option maxRecDepth 100000 in
set_option maxHeartbeats 1000000 in
theorem last_seek (h : SkAt w p S g) {P : Nat → Bool} (hP : Falls S P) {kb : Nat} (HC : ∀ d j, j < S.ops.length → Calls Tryd.prog 59 #[at_ (g.n j), at_ kb] (w.drewN d) fun e w' => e = .returned (.bool (P j)) ∧ ∃ d', w' = w.drewN d') :
    Calls Tryd.prog 58 #[at_ p, .func (.func 59) #[] #[at_ kb]] w fun e w' => e = .returned (.pointer (some (plc p g (atp S P 0)))) ∧ ∃ d, w' = w.drewN d := by
  have HS : Hid (SkAt w p S g) := h
  have HF : Hid (Falls S P) := hP
  have HCC : Hid (∀ d j, j < S.ops.length → Calls Tryd.prog 59 #[at_ (g.n j), at_ kb] (w.drewN d) fun e w' => e = .returned (.bool (P j)) ∧ ∃ d', w' = w.drewN d') := HC
  clear h hP HC
  go_enter Tryd.func58, Tryd.ntmps58
  go_wp2_with fail
  go_loopw [5, 6] (fun x y wr => ∃ l d : Nat, l ≤ 8 ∧ x = .pointer (some (plc p g (atp S P l))) ∧ y = .int .i64 ((l : Int) - 1) ∧ wr = w.drewN d) (fun _ y _ => (intOf y + 1).toNat)
  case atStart => exact ⟨8, 0, by omega, rfl, rfl, rfl⟩
  case round =>
    obtain ⟨l, d0, hl8, rfl, rfl, rfl⟩ := hrel
    cases l with
    | zero =>
      go_wp2
      go_returns
      exact ⟨rfl, d0, rfl⟩
    | succ m =>
      have hm : m < 8 := by omega
      obtain ⟨k0, hk0, hat⟩ := HS.out.atp_in HF.out hm
      rw [hat]
      have hnd := HS.out.inv.nodup hm
      have hcl := cnt_le P (S.lev m)
      have hlink := HS.out.link hm (place_in (L := S.lev m) (k := k0) (by omega))
      rw [nxt_place hnd (by omega)] at hlink
      obtain ⟨pb, po, hpe⟩ : ∃ pb po, plc p g (place (S.lev m) k0) = ⟨pb, po, none⟩ := ⟨_, _, plc_eta p g _⟩
      have HPE : Hid (plc p g (place (S.lev m) k0) = ⟨pb, po, none⟩) := hpe
      rw [hpe] at hlink ⊢
      have hlink' : w.cell? ⟨pb, po + 1 + m, none⟩ = some (lnk g (S.lev m)[k0]?) := hlink
      have e1 : ((m + 1 : Nat) : Int) - 1 = (m : Int) := by omega
      rw [e1]
      have HND : Hid (S.lev m).Nodup := hnd
      obtain ⟨c, HCT⟩ : ∃ c, Hid (c = cnt P (S.lev m)) := ⟨_, rfl⟩
      rw [← HCT.out] at hk0 hcl
      clear hlink hpe hat e1 hnd
      go_wp2_with fail
      go_loopw [5, 7] (fun x y wr => ∃ k d : Nat, k ≤ c ∧ x = .pointer (some (plc p g (place (S.lev m) k))) ∧ y = lnk g (S.lev m)[k]? ∧ wr = w.drewN d) (fun _ y _ => goneTo (S.lev m) g y)
      case atStart => exact ⟨k0, d0, hk0, by rw [HPE.out], rfl, rfl⟩
      case round =>
        obtain ⟨k, d1, hkc, rfl, rfl, rfl⟩ := hrel
        clear hlink' HPE
        by_cases hlt : k < (S.lev m).length
        · have hx : (S.lev m)[k]? = some (S.lev m)[k] := by simp [hlt]
          obtain ⟨x, hx0⟩ : ∃ x, x = (S.lev m)[k] := ⟨_, rfl⟩
          have HX : Hid (x = (S.lev m)[k]) := hx0
          rw [hx, ← hx0, show lnk g (some x) = at_ (g.n x) from rfl]
          have hmem : x ∈ S.lev m := by rw [hx0]; exact List.getElem_mem hlt
          have hxl := HS.out.inv.lt hm hmem
          have HP := HCC.out d1 x hxl
          have cl := HS.out.link (a := x + 1) hm (.inr ⟨x, rfl, hmem⟩)
          rw [show nxt (S.lev m) (x + 1) = (S.lev m)[k + 1]? by rw [hx0]; exact nxt_at HND.out k hlt] at cl
          have cl' : w.cell? ⟨g.n x, 1 + m, none⟩ = some (lnk g (S.lev m)[k + 1]?) := by have := cl; simp only [plc] at this; rw [Nat.zero_add] at this; exact this
          have HPOS : Hid (goneTo (S.lev m) g (at_ (g.n x)) = (S.lev m).length - k) := by
            unfold Hid goneTo
            show (S.lev m).length - posIn (g.n x) ((S.lev m).map g.n) = _
            rw [hx0, HS.out.posOf hm hlt]
          have HPOS2 : Hid (goneTo (S.lev m) g (lnk g (S.lev m)[k + 1]?) ≤ (S.lev m).length - (k + 1)) := by
            unfold Hid
            by_cases h2 : k + 1 < (S.lev m).length
            · rw [show (S.lev m)[k + 1]? = some (S.lev m)[k + 1] by simp [h2]]
              show (S.lev m).length - posIn (g.n (S.lev m)[k + 1]) ((S.lev m).map g.n) ≤ _
              rw [HS.out.posOf hm h2]
              exact Nat.le_refl _
            · rw [List.getElem?_eq_none (by omega)]
              exact Nat.zero_le _
          by_cases hlc : k < c
          · have hp : P x = true := by
              obtain ⟨_, h2⟩ := cnt_lt P (S.lev m) k (by rw [← HCT.out]; exact hlc)
              rw [hx0]
              exact h2
            rw [hp] at HP
            have HPL : Hid (plc p g (place (S.lev m) (k + 1)) = ⟨g.n x, 0, none⟩) := by
              unfold Hid
              rw [show place (S.lev m) (k + 1) = x + 1 by simp [place, List.getD, hlt, hx0]]
              rfl
            clear hx hx0 hmem hxl cl hp
            go_wp2_with fail
            refine HP.mono ?_
            rintro _ _ ⟨rfl, d2, rfl⟩
            go_wp2
            go_roundw
            case rel => exact ⟨k + 1, d2, by omega, by rw [HPL.out], rfl, rfl⟩
            case measure => rw [HPOS.out]; have := HPOS2.out; omega
          · obtain rfl : k = c := by omega
            have hp : P x = false := by
              have := cnt_at P (S.lev m) (by rw [← HCT.out]; exact hlt)
              have e9 := HCT.out
              rw [hx0]
              simp only [← e9] at this
              exact this
            rw [hp] at HP
            clear hx hx0 hmem hxl cl hp cl' HPOS HPOS2
            go_wp2_with fail
            refine HP.mono ?_
            rintro _ _ ⟨rfl, d2, rfl⟩
            go_wp2
            go_roundw
            case rel => exact ⟨m, d2, by omega, by unfold atp; rw [if_neg (by omega), ← HCT.out], rfl, rfl⟩
            case measure => simp only [intOf]; omega
        · have hk2 : k = c := by omega
          have hx : (S.lev m)[k]? = none := List.getElem?_eq_none (by omega)
          rw [hx, show lnk g none = .pointer none from rfl]
          have HK : Hid (k = c) := hk2
          clear hx hk2
          go_wp2
          go_roundw
          case rel => exact ⟨m, d1, by omega, by unfold atp; rw [if_neg (by omega), ← HCT.out, HK.out], rfl, rfl⟩
          case measure => simp only [intOf]; omega
end
end Go.Proofs.YtnggajconglfcaaDoor
