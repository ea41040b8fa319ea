/- Two families of file systems in one memory: what is told of each alone holds of both together. -/
import Derived.Test.YtkelahekfkhcfaaRfFace
namespace Go.Proofs.Ytkelahekfkhcfaa
open Go.RowKit
/-- What a predicate of this kind must bear. -/
structure Base (E : Face) : Prop where
  zero : ∀ w, E w (fun k => k < w.heap.size) [] []
  turn : ∀ {w w' R l r}, E w R l r → Chg R w w' → E w' (fun k => R k ∨ (w.heap.size ≤ k ∧ k < w'.heap.size)) l r
  less : ∀ {w l r} {R R' : Nat → Prop}, E w R l r → (∀ k, R' k → R k) → E w R' l r
/-- Both: each block is none of the ones' or none of the others'. -/
def Both (D E : Face) : Face := fun w R l r => ∃ RD RE : Nat → Prop, D w RD l [] ∧ E w RE [] r ∧ (∀ k, R k → RD k ∧ RE k) ∧ (∀ k, k < w.heap.size → RD k ∨ RE k)
theorem Kp.less {R R' : Nat → Prop} {w w' : World} (h : Kp R w w') (hR : ∀ k, R' k → R k) : Kp R' w w' := ⟨h.os, h.tape, h.output, h.size, fun k hk hs => h.block k (hR k hk) hs⟩
theorem Kp.chg {R R' : Nat → Prop} {w w' : World} (h : Kp R w w') (hc : ∀ k, k < w.heap.size → R k ∨ R' k) : Chg R' w w' := ⟨h.os, h.tape, h.output, h.size, fun k hk hn => h.block k ((hc k hk).resolve_right hn) hk⟩
theorem Chg.more {R R' : Nat → Prop} {w w' : World} (h : Chg R w w') (hR : ∀ k, R k → R' k) : Chg R' w w' := ⟨h.os, h.tape, h.output, h.size, fun k hk hn => h.block k hk (fun hr => hn (hR k hr))⟩
theorem Both.zero {D E : Face} (hD : FsOk D) (hE : Base E) (w : World) : Both D E w (fun k => k < w.heap.size) [] [] := ⟨_, _, hD.zero w, hE.zero w, fun _ h => ⟨h, h⟩, fun _ h => .inl h⟩
theorem Both.turn {D E : Face} (hD : FsOk D) (hE : Base E) {w w' : World} {R : Nat → Prop} {l r : Fss} (h : Both D E w R l r) (hc : Chg R w w') : Both D E w' (fun k => R k ∨ (w.heap.size ≤ k ∧ k < w'.heap.size)) l r := by
  obtain ⟨RD, RE, hd, he, hR, hcov⟩ := h
  refine ⟨_, _, hD.turn hd (hc.more fun k hk => (hR k hk).1), hE.turn he (hc.more fun k hk => (hR k hk).2), fun k hk => hk.elim (fun h => ⟨.inl (hR k h).1, .inl (hR k h).2⟩) (fun h => ⟨.inr h, .inr h⟩), fun k hk => ?_⟩
  by_cases hs : k < w.heap.size
  · exact (hcov k hs).elim (fun h => .inl (.inl h)) (fun h => .inr (.inl h))
  · exact .inl (.inr ⟨by omega, hk⟩)
theorem Both.less {D E : Face} {w : World} {l r : Fss} {R R' : Nat → Prop} (h : Both D E w R l r) (hR' : ∀ k, R' k → R k) : Both D E w R' l r := by
  obtain ⟨RD, RE, hd, he, hR, hcov⟩ := h
  exact ⟨RD, RE, hd, he, fun k hk => hR k (hR' k hk), hcov⟩
/-- The ones do something. -/
theorem Both.left {D E : Face} (hE : Base E) {w w' : World} {R RD RE RD' : Nat → Prop} {l' r : Fss} (hd : D w' RD' l' []) (hk : Kp RD w w') (he : E w RE [] r) (hR : ∀ k, R k → RD k ∧ RE k) (hcov : ∀ k, k < w.heap.size → RD k ∨ RE k) (hsub : ∀ k, RD k → RD' k) (R' : Nat → Prop) (hR' : ∀ k, R' k → R k ∨ (RD' k ∧ w.heap.size ≤ k ∧ k < w'.heap.size)) : Both D E w' R' l' r := by
  refine ⟨RD', _, hd, hE.turn he (hk.chg hcov), fun k h => (hR' k h).elim (fun h => ⟨hsub k (hR k h).1, .inl (hR k h).2⟩) (fun h => ⟨h.1, .inr h.2⟩), fun k hk => ?_⟩
  by_cases hs : k < w.heap.size
  · exact (hcov k hs).elim (fun h => .inl (hsub k h)) (fun h => .inr (.inl h))
  · exact .inr (.inr ⟨by omega, hk⟩)
theorem Both.right {D E : Face} (hD : FsOk D) {w w' : World} {R RD RE RE' : Nat → Prop} {l r' : Fss} (he : E w' RE' [] r') (hk : Kp RE w w') (hd : D w RD l []) (hR : ∀ k, R k → RD k ∧ RE k) (hcov : ∀ k, k < w.heap.size → RD k ∨ RE k) (hsub : ∀ k, RE k → RE' k) (R' : Nat → Prop) (hR' : ∀ k, R' k → R k ∨ (RE' k ∧ w.heap.size ≤ k ∧ k < w'.heap.size)) : Both D E w' R' l r' := by
  refine ⟨_, RE', hD.turn hd (hk.chg fun k h => (hcov k h).symm), he, fun k h => (hR' k h).elim (fun h => ⟨.inl (hR k h).1, hsub k (hR k h).2⟩) (fun h => ⟨.inr h.2, h.1⟩), fun k hk => ?_⟩
  by_cases hs : k < w.heap.size
  · exact (hcov k hs).elim (fun h => .inl (.inl h)) (fun h => .inr (hsub k h))
  · exact .inl (.inr ⟨by omega, hk⟩)
theorem both_fs {D E : Face} (hD : FsOk D) (hB : Base E) : FsOk (Both D E) where
  zero := Both.zero hD hB
  turn := Both.turn hD hB
  less := Both.less
  new := by
    intro w R l r q hq h0
    obtain ⟨RD, RE, hd, he, hR, hcov⟩ := h0
    refine (hD.new q hq hd).mono ?_
    rintro e w1 (⟨hq, p, rfl, hj, hk⟩ | ⟨hq, rfl, hj, hk⟩)
    · exact .inl ⟨hq, p, rfl, Both.left hB hj hk he hR hcov (fun _ h => h) R (fun _ h => .inl h), hk.less (fun k h => (hR k h).1)⟩
    · exact .inr ⟨hq, rfl, Both.left hB hj hk he hR hcov (fun _ h => h) R (fun _ h => .inl h), hk.less (fun k h => (hR k h).1)⟩
  create := by
    intro w R l r p S i name h0 hi ha
    obtain ⟨RD, RE, hd, he, hR, hcov⟩ := h0
    refine (hD.create i name hd hi ha).mono ?_
    rintro e w1 ⟨rfl, hj, hk⟩
    exact ⟨rfl, Both.left hB hj hk he hR hcov (fun _ h => h) R (fun _ h => .inl h), hk.less (fun k h => (hR k h).1)⟩
  append := by
    intro w R l r p S i name a len cap bs h0 hi ha hb hlen
    obtain ⟨RD, RE, hd, he, hR, hcov⟩ := h0
    refine (hD.append i name a len cap bs hd hi ha hb hlen).mono ?_
    rintro e w1 ⟨rfl, hj, hk⟩
    exact ⟨rfl, Both.left hB hj hk he hR hcov (fun _ h => h) R (fun _ h => .inl h), hk.less (fun k h => (hR k h).1)⟩
  sync := by
    intro w R l r p S i name h0 hi ha
    obtain ⟨RD, RE, hd, he, hR, hcov⟩ := h0
    refine (hD.sync i name hd hi ha).mono ?_
    rintro e w1 ⟨rfl, hj, hk⟩
    exact ⟨rfl, Both.left hB hj hk he hR hcov (fun _ h => h) R (fun _ h => .inl h), hk.less (fun k h => (hR k h).1)⟩
  rename := by
    intro w R l r p S i a b h0 hi ha
    obtain ⟨RD, RE, hd, he, hR, hcov⟩ := h0
    refine (hD.rename i a b hd hi ha).mono ?_
    rintro e w1 ⟨rfl, hj, hk⟩
    exact ⟨rfl, Both.left hB hj hk he hR hcov (fun _ h => h) R (fun _ h => .inl h), hk.less (fun k h => (hR k h).1)⟩
  remove := by
    intro w R l r p S i name h0 hi ha
    obtain ⟨RD, RE, hd, he, hR, hcov⟩ := h0
    refine (hD.remove i name hd hi ha).mono ?_
    rintro e w1 ⟨rfl, hj, hk⟩
    exact ⟨rfl, Both.left hB hj hk he hR hcov (fun _ h => h) R (fun _ h => .inl h), hk.less (fun k h => (hR k h).1)⟩
  syncDir := by
    intro w R l r p S i h0 hi ha
    obtain ⟨RD, RE, hd, he, hR, hcov⟩ := h0
    refine (hD.syncDir i hd hi ha).mono ?_
    rintro e w1 ⟨rfl, hj, hk⟩
    exact ⟨rfl, Both.left hB hj hk he hR hcov (fun _ h => h) R (fun _ h => .inl h), hk.less (fun k h => (hR k h).1)⟩
  read := by
    intro w R l r p S i name h0 hi
    obtain ⟨RD, RE, hd, he, hR, hcov⟩ := h0
    refine (hD.read i name hd hi).mono ?_
    rintro e w1 ⟨a, c, rfl, ho, hj, hk⟩
    exact ⟨a, c, rfl, ho, Both.left hB hj hk he hR hcov (fun _ h => .inl h) _ (fun k h => h.elim .inl (fun h => .inr ⟨.inr h, ho.row.lt k h⟩)), hk.less (fun k h => (hR k h).1)⟩
  list := by
    intro w R l r p S i h0 hi
    obtain ⟨RD, RE, hd, he, hR, hcov⟩ := h0
    refine (hD.list i hd hi).mono ?_
    rintro e w1 ⟨a, c, rfl, hs, hf, hj, hk⟩
    exact ⟨a, c, rfl, hs, hf, Both.left hB hj hk he hR hcov (fun _ h => .inl h) _ (fun k h => h.elim .inl (fun h => .inr ⟨.inr h, by obtain ⟨ad, e, rfl⟩ := h; exact hf ad e⟩)), hk.less (fun k h => (hR k h).1)⟩
  ops := by
    intro w R l r p S i h0 hi
    obtain ⟨RD, RE, hd, he, hR, hcov⟩ := h0
    refine (hD.ops i hd hi).mono ?_
    rintro e w1 ⟨rfl, hj, hk⟩
    exact ⟨rfl, Both.left hB hj hk he hR hcov (fun _ h => h) R (fun _ h => .inl h), hk.less (fun k h => (hR k h).1)⟩
  fuse := by
    intro w R l r p S i n hn h0 hi
    obtain ⟨RD, RE, hd, he, hR, hcov⟩ := h0
    refine (hD.fuse i n hn hd hi).mono ?_
    rintro e w1 ⟨rfl, hj, hk⟩
    exact ⟨rfl, Both.left hB hj hk he hR hcov (fun _ h => h) R (fun _ h => .inl h), hk.less (fun k h => (hR k h).1)⟩
  fail := by
    intro w R l r p S i n hn h0 hi
    obtain ⟨RD, RE, hd, he, hR, hcov⟩ := h0
    refine (hD.fail i n hn hd hi).mono ?_
    rintro e w1 ⟨rfl, hj, hk⟩
    exact ⟨rfl, Both.left hB hj hk he hR hcov (fun _ h => h) R (fun _ h => .inl h), hk.less (fun k h => (hR k h).1)⟩
  damage := by
    intro w R l r p S i name n t hn h0 hi
    obtain ⟨RD, RE, hd, he, hR, hcov⟩ := h0
    refine (hD.damage i name n t hn hd hi).mono ?_
    rintro e w1 ⟨rfl, hj, hk⟩
    exact ⟨rfl, Both.left hB hj hk he hR hcov (fun _ h => h) R (fun _ h => .inl h), hk.less (fun k h => (hR k h).1)⟩
  crash := by
    intro w R l r p S i a len cap picks h0 hi hp hin
    obtain ⟨RD, RE, hd, he, hR, hcov⟩ := h0
    refine (hD.crash i a len cap picks hd hi hp (fun h ad e => (hR _ (hin h ad e)).1)).mono ?_
    rintro e w1 ⟨rfl, hj, hk⟩
    exact ⟨rfl, Both.left hB hj hk he hR hcov (fun _ h => h) R (fun _ h => .inl h), hk.less (fun k h => (hR k h).1)⟩
  copy := by
    intro w R l r p S i h0 hi
    obtain ⟨RD, RE, hd, he, hR, hcov⟩ := h0
    refine (hD.copy i hd hi).mono ?_
    rintro e w1 ⟨q, rfl, hj, hk⟩
    exact ⟨q, rfl, Both.left hB hj hk he hR hcov (fun _ h => h) R (fun _ h => .inl h), hk.less (fun k h => (hR k h).1)⟩
theorem both_rf {D E : Face} (hD : FsOk D) (hE : RfOk E) : RfOk (Both D E) where
  new := by
    intro w R l r q hq h0
    obtain ⟨RD, RE, hd, he, hR, hcov⟩ := h0
    refine (hE.new q hq he).mono ?_
    rintro e w1 (⟨hq, p, rfl, hj, hk⟩ | ⟨hq, rfl, hj, hk⟩)
    · exact .inl ⟨hq, p, rfl, Both.right hD hj hk hd hR hcov (fun _ h => h) R (fun _ h => .inl h), hk.less (fun k h => (hR k h).2)⟩
    · exact .inr ⟨hq, rfl, Both.right hD hj hk hd hR hcov (fun _ h => h) R (fun _ h => .inl h), hk.less (fun k h => (hR k h).2)⟩
  create := by
    intro w R l r p S i name h0 hi ha
    obtain ⟨RD, RE, hd, he, hR, hcov⟩ := h0
    refine (hE.create i name he hi ha).mono ?_
    rintro e w1 ⟨rfl, hj, hk⟩
    exact ⟨rfl, Both.right hD hj hk hd hR hcov (fun _ h => h) R (fun _ h => .inl h), hk.less (fun k h => (hR k h).2)⟩
  append := by
    intro w R l r p S i name a len cap bs h0 hi ha hb hlen
    obtain ⟨RD, RE, hd, he, hR, hcov⟩ := h0
    refine (hE.append i name a len cap bs he hi ha hb hlen).mono ?_
    rintro e w1 ⟨rfl, hj, hk⟩
    exact ⟨rfl, Both.right hD hj hk hd hR hcov (fun _ h => h) R (fun _ h => .inl h), hk.less (fun k h => (hR k h).2)⟩
  sync := by
    intro w R l r p S i name h0 hi ha
    obtain ⟨RD, RE, hd, he, hR, hcov⟩ := h0
    refine (hE.sync i name he hi ha).mono ?_
    rintro e w1 ⟨rfl, hj, hk⟩
    exact ⟨rfl, Both.right hD hj hk hd hR hcov (fun _ h => h) R (fun _ h => .inl h), hk.less (fun k h => (hR k h).2)⟩
  rename := by
    intro w R l r p S i a b h0 hi ha
    obtain ⟨RD, RE, hd, he, hR, hcov⟩ := h0
    refine (hE.rename i a b he hi ha).mono ?_
    rintro e w1 ⟨rfl, hj, hk⟩
    exact ⟨rfl, Both.right hD hj hk hd hR hcov (fun _ h => h) R (fun _ h => .inl h), hk.less (fun k h => (hR k h).2)⟩
  remove := by
    intro w R l r p S i name h0 hi ha
    obtain ⟨RD, RE, hd, he, hR, hcov⟩ := h0
    refine (hE.remove i name he hi ha).mono ?_
    rintro e w1 ⟨rfl, hj, hk⟩
    exact ⟨rfl, Both.right hD hj hk hd hR hcov (fun _ h => h) R (fun _ h => .inl h), hk.less (fun k h => (hR k h).2)⟩
  syncDir := by
    intro w R l r p S i h0 hi ha
    obtain ⟨RD, RE, hd, he, hR, hcov⟩ := h0
    refine (hE.syncDir i he hi ha).mono ?_
    rintro e w1 ⟨rfl, hj, hk⟩
    exact ⟨rfl, Both.right hD hj hk hd hR hcov (fun _ h => h) R (fun _ h => .inl h), hk.less (fun k h => (hR k h).2)⟩
  read := by
    intro w R l r p S i name h0 hi
    obtain ⟨RD, RE, hd, he, hR, hcov⟩ := h0
    refine (hE.read i name he hi).mono ?_
    rintro e w1 ⟨a, c, rfl, ho, hj, hk⟩
    exact ⟨a, c, rfl, ho, Both.right hD hj hk hd hR hcov (fun _ h => h) R (fun _ h => .inl h), hk.less (fun k h => (hR k h).2)⟩
  list := by
    intro w R l r p S i h0 hi
    obtain ⟨RD, RE, hd, he, hR, hcov⟩ := h0
    refine (hE.list i he hi).mono ?_
    rintro e w1 ⟨a, c, rfl, hs, hf, hj, hk⟩
    exact ⟨a, c, rfl, hs, hf, Both.right hD hj hk hd hR hcov (fun _ h => .inl h) _ (fun k h => h.elim .inl (fun h => .inr ⟨.inr h, by obtain ⟨ad, e, rfl⟩ := h; exact hf ad e⟩)), hk.less (fun k h => (hR k h).2)⟩
  fuse := by
    intro w R l r p S i n hn h0 hi
    obtain ⟨RD, RE, hd, he, hR, hcov⟩ := h0
    refine (hE.fuse i n hn he hi).mono ?_
    rintro e w1 ⟨rfl, hj, hk⟩
    exact ⟨rfl, Both.right hD hj hk hd hR hcov (fun _ h => h) R (fun _ h => .inl h), hk.less (fun k h => (hR k h).2)⟩
  fail := by
    intro w R l r p S i n hn h0 hi
    obtain ⟨RD, RE, hd, he, hR, hcov⟩ := h0
    refine (hE.fail i n hn he hi).mono ?_
    rintro e w1 ⟨rfl, hj, hk⟩
    exact ⟨rfl, Both.right hD hj hk hd hR hcov (fun _ h => h) R (fun _ h => .inl h), hk.less (fun k h => (hR k h).2)⟩
  damage := by
    intro w R l r p S i name n t hn h0 hi
    obtain ⟨RD, RE, hd, he, hR, hcov⟩ := h0
    refine (hE.damage i name n t hn he hi).mono ?_
    rintro e w1 ⟨rfl, hj, hk⟩
    exact ⟨rfl, Both.right hD hj hk hd hR hcov (fun _ h => h) R (fun _ h => .inl h), hk.less (fun k h => (hR k h).2)⟩
  crash := by
    intro w R l r p S i a len cap picks h0 hi hp hin
    obtain ⟨RD, RE, hd, he, hR, hcov⟩ := h0
    refine (hE.crash i a len cap picks he hi hp (fun h ad e => (hR _ (hin h ad e)).2)).mono ?_
    rintro e w1 ⟨rfl, hj, hk⟩
    exact ⟨rfl, Both.right hD hj hk hd hR hcov (fun _ h => h) R (fun _ h => .inl h), hk.less (fun k h => (hR k h).2)⟩
  copy := by
    intro w R l r p S i h0 hi
    obtain ⟨RD, RE, hd, he, hR, hcov⟩ := h0
    refine (hE.copy i he hi).mono ?_
    rintro e w1 ⟨q, rfl, hj, hk⟩
    exact ⟨q, rfl, Both.right hD hj hk hd hR hcov (fun _ h => h) R (fun _ h => .inl h), hk.less (fun k h => (hR k h).2)⟩
  asked := by
    intro w R l r p S i h0 hi
    obtain ⟨RD, RE, hd, he, hR, hcov⟩ := h0
    exact hE.asked i he hi
end Go.Proofs.Ytkelahekfkhcfaa
