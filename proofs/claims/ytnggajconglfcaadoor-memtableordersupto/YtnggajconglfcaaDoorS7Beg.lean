/- An operation is begun: plainly, and in memory. -/
import Derived.Test.YtnggajconglfcaaDoorS7Laid
namespace Go.Proofs.YtnggajconglfcaaDoor
open Go.RowKit
set_option linter.unusedVariables false
def PO.new (key : ByteArray) (h : Nat) : PO := ⟨key, h, 0, 7, 0, none, fun _ => 0⟩
def PS.begin (S : PS) (key : ByteArray) (h : Nat) : PS := { S with ops := S.ops ++ [PO.new key h] }
section
variable {S : PS} {key : ByteArray} {h : Nat}
theorem PS.begin_len : (S.begin key h).ops.length = S.ops.length + 1 := by simp [PS.begin]
theorem PS.begin_op {j : Nat} (hj : j < S.ops.length) : (S.begin key h).op j = S.op j := by simp [PS.begin, PS.op, List.getD, List.getElem?_append_left hj]
theorem PS.begin_new : (S.begin key h).op S.ops.length = PO.new key h := by simp [PS.begin, PS.op, List.getD]
theorem PS.begin_keys : (S.begin key h).keys = S.keys ++ [key] := by simp [PS.begin, PS.keys, PO.new]
theorem PS.mem_keys {S : PS} {k : ByteArray} : k ∈ S.keys ↔ ∃ i, i < S.ops.length ∧ S.key i = k := by
  unfold PS.keys
  constructor
  · intro hk
    obtain ⟨o, ho, e⟩ := List.mem_map.1 hk
    obtain ⟨i, hi, e'⟩ := List.getElem_of_mem ho
    exact ⟨i, hi, by simp [PS.key, PS.op, List.getD, hi, e', e]⟩
  · rintro ⟨i, hi, rfl⟩
    refine List.mem_map.2 ⟨S.ops[i], List.getElem_mem hi, ?_⟩
    simp [PS.key, PS.op, List.getD, hi]
theorem PS.OpOk.begin {o : PO} (ho : S.OpOk o) (hi : S.Inv) (hk : ∀ j, j < S.ops.length → (S.begin key h).key j = S.key j) : (S.begin key h).OpOk o :=
  have okat : ∀ {k l a}, l < 8 → S.OkAt k l a → (S.begin key h).OkAt k l a := fun hl hx => by
    rcases hx with e | ⟨j, e, hm, hkk⟩
    · exact .inl e
    · exact .inr ⟨j, e, hm, by rw [hk j (hi.lt hl hm)]; exact hkk⟩
  ⟨ho.ph, ho.high, ho.low, fun h0 => okat (ho.low h0).1 (ho.pos h0), fun h0 l h1 h2 => okat h2 (ho.ahead h0 l h1 h2), fun h1 j hj => by
    have := ho.seen h1 j hj
    rw [hk j (ho.sight j hj)]
    exact this, fun j hj => by rw [PS.begin_len]; have := ho.sight j hj; omega⟩
theorem PS.Inv.begin (hi : S.Inv) (hk : key ∉ S.keys) (hs : key.size ≤ 9223372036854775807) (hh : 1 ≤ h ∧ h ≤ 8) (hr : S.ops.length < S.room) : (S.begin key h).Inv := by
  have kold : ∀ j, j < S.ops.length → (S.begin key h).key j = S.key j := fun j hj => by unfold PS.key; rw [PS.begin_op hj]
  have knew : (S.begin key h).key S.ops.length = key := by unfold PS.key; rw [PS.begin_new]; rfl
  refine ⟨hi.room, by rw [PS.begin_len]; exact hr, fun i j h1 h2 e => ?_, fun i h1 => ?_, fun l hl => ?_, fun l hl i => ?_, fun i h1 => ?_⟩
  · rw [PS.begin_len] at h1 h2
    by_cases e1 : i < S.ops.length
    · by_cases e2 : j < S.ops.length
      · rw [kold i e1, kold j e2] at e
        exact hi.uniq i j e1 e2 e
      · obtain rfl : j = S.ops.length := by omega
        rw [kold i e1, knew] at e
        exact absurd (PS.mem_keys.2 ⟨i, e1, e⟩) hk
    · obtain rfl : i = S.ops.length := by omega
      by_cases e2 : j < S.ops.length
      · rw [kold j e2, knew] at e
        exact absurd (PS.mem_keys.2 ⟨j, e2, e.symm⟩) hk
      · omega
  · rw [PS.begin_len] at h1
    by_cases e1 : i < S.ops.length
    · rw [kold i e1]
      exact hi.long i e1
    · obtain rfl : i = S.ops.length := by omega
      rw [knew]
      exact hs
  · show (S.lev l).Pairwise _
    refine (hi.sorted l hl).imp_of_mem fun {x y} hx hy hxy => ?_
    rw [kold x (hi.lt hl hx), kold y (hi.lt hl hy)]
    exact hxy
  · rw [PS.begin_len]
    show i ∈ S.lev l ↔ _
    rw [hi.mem l hl i]
    by_cases e1 : i < S.ops.length
    · rw [PS.begin_op e1]
      simp [e1]
      omega
    · by_cases e2 : i = S.ops.length
      · subst e2
        rw [PS.begin_new]
        simp [PO.upto, PO.new]
      · simp [e1]
        omega
  · rw [PS.begin_len] at h1
    by_cases e1 : i < S.ops.length
    · rw [PS.begin_op e1]
      exact (hi.ok i e1).begin hi kold
    · obtain rfl : i = S.ops.length := by omega
      rw [PS.begin_new]
      exact ⟨by simp [PO.new], hh, fun _ => ⟨by simp [PO.new], fun e => absurd rfl e⟩, fun _ => .inl rfl, fun _ l _ _ => .inl rfl, fun e => by simp [PO.new] at e, fun j hj => by simp [PO.new] at hj⟩
end
section
variable {w w' : World} {p : Nat} {S : PS} {g : SG} {key : ByteArray} {h nb ob c : Nat} {a : Option Addr}
def SG.more (g : SG) (nb ob : Nat) (a : Option Addr) (c : Nat) : SG := ⟨g.nb ++ [nb], g.ob ++ [ob], g.m, a, c⟩
theorem SG.more_n {j : Nat} (hj : j < g.nb.length) : (g.more nb ob a c).n j = g.n j := by simp [SG.more, SG.n, List.getD, List.getElem?_append_left hj]
theorem SG.more_o {j : Nat} (hj : j < g.ob.length) : (g.more nb ob a c).o j = g.o j := by simp [SG.more, SG.o, List.getD, List.getElem?_append_left hj]
theorem SG.more_nn : (g.more nb ob a c).n g.nb.length = nb := by simp [SG.more, SG.n, List.getD]
theorem SG.more_oo : (g.more nb ob a c).o g.ob.length = ob := by simp [SG.more, SG.o, List.getD]
theorem SG.more_lnk {x : Option Nat} (hx : ∀ j, x = some j → j < g.nb.length) : lnk (g.more nb ob a c) x = lnk g x := by
  cases x with
  | none => rfl
  | some j => simp only [lnk]; rw [SG.more_n (hx j rfl)]
theorem SG.more_plc {x : Nat} (hx : x ≤ g.nb.length) : plc p (g.more nb ob a c) x = plc p g x := by
  cases x with
  | zero => rfl
  | succ j => simp only [plc]; rw [SG.more_n (by omega)]
theorem PS.OkAt.le {S : PS} {k : ByteArray} {l x : Nat} (hi : S.Inv) (hl : l < 8) (h : S.OkAt k l x) : x ≤ S.ops.length := by
  rcases h with e | ⟨j, e, hm, _⟩
  · omega
  · have := hi.lt hl hm
    omega
theorem SkAt.begun (hs : SkAt w p S g) (hinv : (S.begin key h).Inv)
    (hp : Box w' p TL (listArr S.room (fun l => lnk g (nxt (S.lev l) 0)) g.m a (S.ops.length + 1) c))
    (keep : ∀ k, k ∈ g.nb ∨ k ∈ g.ob → w'.heap[k]? = w.heap[k]?)
    (hn : Box w' nb TN (nodeArr key (fun _ => .pointer none)))
    (ho : Box w' ob TO (OC.arr ⟨at_ nb, h, 7, ⟨p, 1, none⟩, .pointer none, fun _ => .pointer none, nextV ob 0⟩))
    (hob : ob ∉ g.ob)
    (hrow : w'.ownsRow 0 TP 1 (.slice a (S.ops.length + 1) c) (S.ops.length + 1) (g.ob.map at_ ++ [at_ ob]))
    (hmap : ∃ D : DataW Unit, w'.ownsMap Tryd.prog 9 unitElem g.m (S.ops.length + 1) D ∧ ∀ s : ByteArray, Maps.has D (.string s.data.toList) = true ↔ s ∈ S.keys ++ [key]) : SkAt w' p (S.begin key h) (g.more nb ob a c) where
  inv := hinv
  head := by
    rw [PS.begin_len]
    refine hp.eq (listArr_congr fun l hl => ?_)
    rw [SG.more_lnk (fun j hj => by rw [hs.nlen]; exact hs.inv.lt hl (nxt_mem hj))]
    rfl
  nlen := by rw [PS.begin_len]; simp [SG.more, hs.nlen]
  olen := by rw [PS.begin_len]; simp [SG.more, hs.olen]
  ond := by
    show (g.ob ++ [ob]).Nodup
    rw [List.nodup_append]
    refine ⟨hs.ond, by simp, fun x hx y hy => ?_⟩
    rw [List.mem_singleton.1 hy]
    rintro rfl
    exact hob hx
  node := fun j hj => by
    rw [PS.begin_len] at hj
    by_cases e : j < S.ops.length
    · obtain ⟨v, hv, hb⟩ := hs.node j e
      have hjn : j < g.nb.length := by rw [hs.nlen]; exact e
      refine ⟨v, fun l hl hm => ?_, ?_⟩
      · rw [hv l hl hm, SG.more_lnk (fun j hj => by rw [hs.nlen]; exact hs.inv.lt hl (nxt_mem hj))]
        rfl
      · rw [SG.more_n hjn]
        have e2 : (S.begin key h).key j = S.key j := by unfold PS.key; rw [PS.begin_op e]
        rw [e2]
        exact hb.kept (keep _ (.inl (SG.n_mem hjn)))
    · obtain rfl : j = S.ops.length := by omega
      refine ⟨fun _ => .pointer none, fun l hl hm => ?_, ?_⟩
      · have := hs.inv.lt hl hm
        omega
      · have e2 : (S.begin key h).key S.ops.length = key := by unfold PS.key; rw [PS.begin_new]; rfl
        rw [e2, ← hs.nlen, SG.more_nn]
        exact hn
  op := fun j hj => by
    rw [PS.begin_len] at hj
    by_cases e : j < S.ops.length
    · have hjn : j < g.nb.length := by rw [hs.nlen]; exact e
      have hjo : j < g.ob.length := by rw [hs.olen]; exact e
      rw [PS.begin_op e]
      have hop := (hs.op j e).kept (keep _ (.inr (SG.o_mem hjo)))
      have ok := hs.inv.ok j e
      unfold OpIs at hop ⊢
      rw [SG.more_o hjo]
      by_cases h3 : (S.op j).ph = 3
      · rw [if_pos h3] at hop ⊢
        exact hop
      · rw [if_neg h3] at hop ⊢
        obtain ⟨ah, h1, h2⟩ := hop
        refine ⟨ah, fun l h4 h5 => ?_, ?_⟩
        · rw [h1 l h4 h5, SG.more_plc (by rw [hs.nlen]; exact (ok.ahead h3 l h4 h5).le hs.inv h5)]
        · rw [SG.more_n hjn, SG.more_plc (by rw [hs.nlen]; exact (ok.pos h3).le hs.inv (ok.low h3).1), SG.more_lnk (fun j hj => by rw [hs.nlen]; exact ok.sight j hj)]
          exact h2
    · obtain rfl : j = S.ops.length := by omega
      rw [PS.begin_new]
      unfold OpIs
      rw [if_neg (by simp [PO.new])]
      refine ⟨fun _ => .pointer none, fun l h4 h5 => ?_, ?_⟩
      · simp only [PO.new] at h4
        omega
      · have e1 : (g.more nb ob a c).n S.ops.length = nb := by rw [← hs.nlen]; exact SG.more_nn
        have e2 : (g.more nb ob a c).o S.ops.length = ob := by rw [← hs.olen]; exact SG.more_oo
        rw [e1, e2]
        exact ho
  row := by
    rw [PS.begin_len]
    show w'.ownsRow 0 TP 1 (.slice a (S.ops.length + 1) c) (S.ops.length + 1) ((g.ob ++ [ob]).map at_)
    rw [List.map_append]
    exact hrow
  map := by
    rw [PS.begin_len, PS.begin_keys]
    exact hmap
end
end Go.Proofs.YtnggajconglfcaaDoor
