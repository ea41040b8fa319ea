/- A table and the document's own one, side by side. -/
import Derived.Test.YtnggajconglfcaaDoorM8RAdd
namespace Go.Proofs.YtnggajconglfcaaDoor
open Go.RowKit
set_option linter.unusedVariables false
set_option linter.unusedSimpArgs false
abbrev TC : TypeId := 34
structure JJ (w0 W : World) (p q : Nat) (T1 T2 : PT) (G : TG) (a : Option Addr) (c : Nat) : Prop where
  own : Own8 w0 W p T1 G
  ref : RtAt W w0.heap.size q T2 a c
def tbTag (t : Nat) : Prop := t = TT ∨ skTag t ∨ t = TLp ∨ t = 1000
theorem TbAt.tags {w : World} {p : Nat} {T : PT} {G : TG} (h : TbAt w p T G) {k : Nat} (hk : TFoot p G k) : ∃ t, tag w k = some t ∧ tbTag t := by
  rcases hk with rfl | hk | hk
  · exact ⟨_, h.box.tag, .inl rfl⟩
  · obtain ⟨t, h1, h2⟩ := h.sh.tags hk
    exact ⟨t, h1, h2.elim (fun h => .inr (.inl h)) (fun h => .inr (.inr (.inl h)))⟩
  · have := h.map
    rw [hk] at this
    exact ⟨_, MpAt.tag this, .inr (.inr (.inr rfl))⟩
theorem not_tbTag_rf : ¬ tbTag TRf := by
  rintro (h | (h | h | h | h | h) | h | h) <;> exact absurd h (by decide)
theorem not_tbTag_kv : ¬ tbTag TKV := by
  rintro (h | (h | h | h | h | h) | h | h) <;> exact absurd h (by decide)
theorem not_tbTag_c : ¬ tbTag TC := by
  rintro (h | (h | h | h | h | h) | h | h) <;> exact absurd h (by decide)
theorem TbAt.not_tag {w : World} {p : Nat} {T : PT} {G : TG} (h : TbAt w p T G) {k t : Nat} (ht : tag w k = some t) (hn : ¬ tbTag t) : ¬ TFoot p G k := fun hf => by
  obtain ⟨t', h1, h2⟩ := h.tags hf
  rw [ht] at h1
  rw [← Option.some.inj h1] at h2
  exact hn h2
section
variable {w0 W W' : World} {p q : Nat} {T1 T2 T1' : PT} {G G' : TG} {a : Option Addr} {c : Nat}
theorem JJ.below (h : JJ w0 W p q T1 T2 G a c) (hb : Below W.heap.size W W') : JJ w0 W' p q T1 T2 G a c := ⟨h.own.below hb, h.ref.below hb⟩
theorem JJ.glob (h : JJ w0 W p q T1 T2 G a c) (hg : Glob w0) : Glob W := h.own.glob hg
theorem JJ.ref_kept (h : JJ w0 W p q T1 T2 G a c) (hc : Chg (TFoot p G) W W') : RtAt W' w0.heap.size q T2 a c :=
  ⟨h.ref.box.kept (hc.block _ h.ref.box.lt (h.own.at'.not_tag h.ref.box.tag not_tbTag_rf)), h.ref.own.kept fun k hk => hc.block _ (tag_lt (h.ref.own.tag hk)) (h.own.at'.not_tag (h.ref.own.tag hk) not_tbTag_kv), h.ref.ge⟩
theorem JJ.call_kept {z : Nat} {arr : Array Value} (h : JJ w0 W p q T1 T2 G a c) (hz : Box W z TC arr) (hc : Chg (TFoot p G) W W') : Box W' z TC arr := hz.kept (hc.block _ hz.lt (h.own.at'.not_tag hz.tag not_tbTag_c))
theorem jadd (hg : Glob w0) (h : JJ w0 W p q T1 T2 G a c) (k : IK) (v : ByteArray) (hk : k.user.size ≤ 9223372036854775807) (hv : v.size ≤ 9223372036854775807) (hN : T1.kvs.length < 1000) {z : Nat} {arr : Array Value} (hz : Box W z TC arr) : Calls Tryd.prog 11 #[at_ p, k.v, .string v] W fun e w' => e = .returned (.int .i64 ((T1.err k v : Nat) : Int)) ∧ ∃ G', JJ w0 w' p q (T1.add k v) T2 G' a c ∧ Box w' z TC arr := by
  refine (add_own put_small (by decide) hg h.own k v hk hv hN).mono ?_
  rintro _ w' ⟨rfl, G', ho, hc, _⟩
  exact ⟨rfl, G', ⟨ho, h.ref_kept hc⟩, h.call_kept hz hc⟩
theorem chg_q_foot (h : JJ w0 W p q T1 T2 G a c) (hc : Chg (fun x => x = q) W W') : TbAt W' p T1 G := h.own.at'.chg hc fun k hk hf => by
  subst hk
  exact h.own.at'.not_tag h.ref.box.tag not_tbTag_rf hf
theorem JJ.own_kept (h : JJ w0 W p q T1 T2 G a c) (hc : Chg (fun x => x = q) W W') : Own8 w0 W' p T1 G :=
  ⟨chg_q_foot h hc, h.own.base.trans (hc.below (fun k hk => by rw [hk]; exact h.ref.ge) h.own.base.size), h.own.mine⟩
theorem jradd (h : JJ w0 W p q T1 T2 G a c) (hi : T2.Inv) (k : IK) (v : ByteArray) (hk : k.user.size ≤ 9223372036854775807) (hv : v.size ≤ 9223372036854775807) (hN : T2.kvs.length ≤ 999) {z : Nat} {arr : Array Value} (hz : Box W z TC arr) : Calls Tryd.prog 12 #[at_ q, k.v, .string v] W fun e w' => e = .returned (.int .i64 ((T2.err k v : Nat) : Int)) ∧ ∃ a' c', JJ w0 w' p q T1 (T2.add k v) G a' c' ∧ Box w' z TC arr := by
  refine (radd_at h.ref hi k v hk hv hN h.own.base.size).mono ?_
  rintro _ w' ⟨rfl, a', c', hr, hc⟩
  refine ⟨rfl, a', c', ⟨h.own_kept hc, hr⟩, hz.kept (hc.block _ hz.lt fun e => ?_)⟩
  have h1 := hz.tag
  rw [e, h.ref.box.tag] at h1
  exact absurd (Option.some.inj h1) (by decide)
end
end Go.Proofs.YtnggajconglfcaaDoor
