/- The walk of MemtablePlays. -/
import Derived.Test.YtnggajconglfcaaDoorM8Joint
import Derived.Deep.DeepCutAuto
import Derived.Deep.RegionHeld3
import Derived.BigQuiet
namespace Go.Proofs.YtnggajconglfcaaDoor
open Go.RowKit
set_option linter.unusedVariables false
set_option linter.unusedSimpArgs false
theorem CsAt.cells5 {w : World} {a : Option Addr} {n c : Nat} {l : List CallV} (h : CsAt w a n c l) (hp : 0 < n) : ∃ b off, a = some ⟨b, off, none⟩ ∧ ∀ k (hk : k < l.length), w.cell? ⟨b, off + k * 5, none⟩ = some (.int .i64 l[k].kind) ∧ w.cell? ⟨b, off + k * 5 + 1, none⟩ = some (.string l[k].k.user) ∧ w.cell? ⟨b, off + k * 5 + 2, none⟩ = some (.int .u64 (l[k].k.seq : Int)) ∧ w.cell? ⟨b, off + k * 5 + 3, none⟩ = some (.int .i64 l[k].k.kind) ∧ w.cell? ⟨b, off + k * 5 + 4, none⟩ = some (.string l[k].v) := by
  obtain ⟨b, off, ha, hc⟩ := h.here hp
  refine ⟨b, off, ha, fun k hk => ?_⟩
  have h0 := hc k hk 0 (by omega)
  have h1 := hc k hk 1 (by omega)
  have h2 := hc k hk 2 (by omega)
  have h3 := hc k hk 3 (by omega)
  have h4 := hc k hk 4 (by omega)
  simp only [Nat.add_zero, ← Nat.add_assoc] at h0 h1 h2 h3 h4
  exact ⟨h0, h1, h2, h3, h4⟩
theorem CsAt.upTo {w : World} {a : Option Addr} {n c : Nat} {l : List CallV} (h : CsAt w a n c l) {k : Nat} (hk : k ≤ n) : CsAt w a k c (l.take k) := by
  have hs := h.size
  refine ⟨by simp; omega, Nat.le_trans hk h.le, h.max, fun hp => ?_⟩
  obtain ⟨b, off, ha, hc⟩ := h.here (by omega)
  refine ⟨b, off, ha, fun i hi r hr => ?_⟩
  have hi' : i < l.length := by simp at hi; omega
  rw [hc i hi' r hr, List.getElem_take]
set_option maxRecDepth 100000 in
theorem idxCl (w : World) {a : Option Addr} {b off n c i : Nat} (ha : a = some ⟨b, off, none⟩) (hi : i < n) : (Instr.indexAt 23 (.slice a n c) (.int .i64 (i : Int))).run Tryd.prog w = .ok (.pointer (some ⟨b, off + i * 5, none⟩)) w := by
  subst ha
  have h1 : (0 : Int) ≤ (i : Int) ∧ (i : Int) < (n : Int) := by omega
  have hsz : (sizeOf (Tryd.prog.elem 23)).run Tryd.prog w = .ok 5 w := by kernel_rfl
  rw [run_indexAt_slice (P := Tryd.prog) (h := Tryd.underlying23), if_pos h1, hsz]
  simp [Result.andThen, Addr.add_lit]
theorem PT.freeze_inv {T : PT} (h : T.Inv) : ({ T with frozen := true } : PT).Inv := ⟨h.ok, h.sorted⟩
theorem JJ.freeze {w0 W W' : World} {p q : Nat} {T : PT} {G : TG} {a : Option Addr} {c : Nat} (h : JJ w0 W p q T T G a c) (ht : TbAt W' p { T with frozen := true } G) (hc : Chg (TFoot p G) W W') : JJ w0 (W'.setCell ⟨q, 1, none⟩ (.bool true)) p q { T with frozen := true } { T with frozen := true } G a c := by
  have hr := h.ref_kept hc
  have ho : Own8 w0 W' p { T with frozen := true } G := h.own.chg ht hc fun _ hk => .inl hk
  have hj : JJ w0 W' p q { T with frozen := true } T G a c := ⟨ho, hr⟩
  have hcq : Chg (fun x => x = q) W' (W'.setCell ⟨q, 1, none⟩ (.bool true)) := Chg.set (R := fun x => x = q) (Chg.refl _ _) (fun _ => rfl) 1 _
  refine ⟨hj.own_kept hcq, (hr.box.set 1 (.bool true)).eq rfl, hr.own.kept fun k hk => Below.heap_setCell _ _ _ _ (fun e => ?_), hr.ge⟩
  have h1 := hr.own.tag hk
  have e' : k = q := e
  rw [e', hr.box.tag] at h1
  exact absurd (Option.some.inj h1) (by decide)
set_option maxRecDepth 100000 in
set_option maxHeartbeats 4000000 in
theorem memtablePlays_walk (a0 : Option Addr) (len cap : Nat) (l0 : List CallV) (w : World) (h0 : CsAt w a0 len cap l0) (hr0 : ∀ c ∈ l0, c.k.Wf ∧ c.v.size ≤ 9223372036854775807 ∧ c.k.user.size ≤ 1048576) (hg : Glob w) : Calls Tryd.prog 4 #[.slice a0 len cap] w fun e w' => e = .returned (.bool true) ∧ Below w.heap.size w w' := by
  have HS0 : Hid (CsAt w a0 len cap l0 ∧ ∀ c ∈ l0, c.k.Wf ∧ c.v.size ≤ 9223372036854775807 ∧ c.k.user.size ≤ 1048576) := ⟨h0, hr0⟩
  have HG : Hid (Glob w) := hg
  have hcm := h0.max
  have hle := h0.le
  unfold maxLen at hcm
  clear h0 hr0 hg
  go_enter Tryd.func4, Tryd.ntmps4
  go_wp2_with fail
  refine (awake_any _ HG.out).mono ?_
  rintro _ w1 ⟨rfl, hb1⟩
  have HB1 : Hid (Below w.heap.size w w1) := hb1
  clear hb1
  go_upto_if 18 with fail
  go_cut [0] (fun x wz => ∃ n : Nat, x = .slice a0 n cap ∧ n ≤ 400 ∧ n ≤ cap ∧ wz = w1 ∧ Hid (∃ l, CsAt w a0 n cap l ∧ ∀ c ∈ l, c.k.Wf ∧ c.v.size ≤ 9223372036854775807 ∧ c.k.user.size ≤ 1048576))
  case first =>
    have HI : Hid (CsAt w a0 len cap l0) := HS0.out.1
    by_cases hq : 400 < len
    · obtain ⟨b, off, hab, _⟩ := HS0.out.1.here (by omega)
      subst hab
      go_wp2_with fail
      go_meet
      exact ⟨400, rfl, by omega, by omega, rfl, l0.take 400, HI.out.upTo (by omega), fun e he => HS0.out.2 e (List.mem_of_mem_take he)⟩
    · have hq' : decide ((400 : Int) < (len : Int)) = false := by simp; omega
      go_wp2_with fail
      go_meet
      exact ⟨len, rfl, by omega, hle, rfl, l0, HI.out, HS0.out.2⟩
  case rest =>
    obtain ⟨n, rfl, hn, hnc, rfl, HL⟩ := hcut
    obtain ⟨l, hl1, hl2⟩ := HL.out
    have hlen := hl1.size
    have HK : Hid (CsAt w a0 n cap l ∧ (∀ c ∈ l, c.k.Wf ∧ c.v.size ≤ 9223372036854775807 ∧ c.k.user.size ≤ 1048576) ∧ l.length = n) := ⟨hl1, hl2, hlen⟩
    clear hl1 hl2 hlen HL HS0 hle
    go_wp2_with fail
    refine (memNew_at _).mono ?_
    rintro _ w2 ⟨p, G0, rfl, h1, h2, h3⟩
    have HO : Hid (Own8 w w2 p PT.new G0 ∧ Below wc.heap.size wc w2) := ⟨Own8.made h1 h2 h3 HB1.out, h2⟩
    clear h1 h2 h3
    have hb3 : Below w2.heap.size w2 (w2.alloc (.cells #[.slice none 0 0, .bool false] TRf)) := (Below.refl _ _).alloc (Nat.le_refl _) _
    have HJ0 : Hid (JJ w (w2.alloc (.cells #[.slice none 0 0, .bool false] TRf)) p w2.heap.size PT.new PT.new G0 none 0 ∧ Below wc.heap.size wc (w2.alloc (.cells #[.slice none 0 0, .bool false] TRf))) := ⟨⟨HO.out.1.below hb3, ⟨Box.new w2 TRf _, OwnR.nil _ _, HO.out.1.base.size⟩⟩, HO.out.2.trans (hb3.mono HO.out.2.size)⟩
    clear HO hb3
    generalize hqq : w2.heap.size = q at HJ0
    go_wp2_with fail
    generalize w2.alloc (.cells #[.slice none 0 0, .bool false] TRf) = w3 at HJ0 ⊢
    clear hqq
    go_loopw [6] (fun x wr => ∃ i : Nat, i ≤ n ∧ x = .int .i64 (i : Int) ∧ Hid (∃ (T : PT) (G : TG) (a : Option Addr) (c : Nat), JJ w wr p q T T G a c ∧ T.Inv ∧ T.kvs.length ≤ i)) (fun x _ => n - (intOf x).toNat)
    case atStart => exact ⟨0, Nat.zero_le _, rfl, PT.new, G0, none, 0, HJ0.out.1, PT.new_inv, Nat.le_refl _⟩
    case round =>
      obtain ⟨i, hi, rfl, HI⟩ := hrel
      obtain ⟨T, G, a, c, hJ, hInv, hTl0⟩ := HI.out
      by_cases hin : i < n
      · have hil : i < l.length := by rw [HK.out.2.2]; exact hin
        have hcb : CsAt wr a0 n cap l := HK.out.1.below hJ.own.base
        obtain ⟨b, off, hab, hc⟩ := hcb.cells5 (by omega)
        obtain ⟨c0, c1, c2, c3, c4⟩ := hc i hil
        have hidx := fun W => idxCl W (a := a0) (b := b) (off := off) (n := n) (c := cap) hab hin
        have hraw := HK.out.2.1 _ (List.getElem_mem hil)
        generalize l[i] = cl at c0 c1 c2 c3 c4 hraw
        have hbz : Below wr.heap.size wr (wr.alloc (.cells #[.int .i64 cl.kind, .string cl.k.user, .int .u64 (cl.k.seq : Int), .int .i64 cl.k.kind, .string cl.v] TC)) := (Below.refl _ _).alloc (Nat.le_refl _) _
        have HJ1 : Hid (JJ w (wr.alloc (.cells #[.int .i64 cl.kind, .string cl.k.user, .int .u64 (cl.k.seq : Int), .int .i64 cl.k.kind, .string cl.v] TC)) p q T T G a c) := hJ.below hbz
        have HBz : Hid (Box (wr.alloc (.cells #[.int .i64 cl.kind, .string cl.k.user, .int .u64 (cl.k.seq : Int), .int .i64 cl.k.kind, .string cl.v] TC)) wr.heap.size TC #[.int .i64 cl.kind, .string cl.k.user, .int .u64 (cl.k.seq : Int), .int .i64 cl.k.kind, .string cl.v]) := Box.new wr TC _
        have HT : Hid (T.Inv ∧ T.kvs.length ≤ i) := ⟨hInv, hTl0⟩
        have HR : Hid (cl.k.Wf ∧ cl.v.size ≤ 9223372036854775807 ∧ cl.k.user.size ≤ 1048576) := hraw
        have hT4 : T.kvs.length ≤ 400 := by omega
        clear hc hab hcb hraw hJ hInv HI hbz hTl0
        have zc0 : (wr.alloc (.cells #[.int .i64 cl.kind, .string cl.k.user, .int .u64 (cl.k.seq : Int), .int .i64 cl.k.kind, .string cl.v] TC)).cell? ⟨wr.heap.size, 0, none⟩ = some (.int .i64 cl.kind) := HBz.out.cell 0
        by_cases k1 : cl.kind = 1
        · have q1 : (cl.kind == 1) = true := by rw [k1]; rfl
          have HA1 : Hid (∀ (W : World) (G : TG), JJ w W p q T T G a c → Box W wr.heap.size TC #[.int .i64 cl.kind, .string cl.k.user, .int .u64 (cl.k.seq : Int), .int .i64 cl.k.kind, .string cl.v] → Calls Tryd.prog 11 #[at_ p, .agg #[.string cl.k.user, .int .u64 (cl.k.seq : Int), .int .i64 cl.k.kind], .string cl.v] W fun e w' => e = .returned (.int .i64 ((T.err cl.k cl.v : Nat) : Int)) ∧ ∃ G', JJ w w' p q (T.add cl.k cl.v) T G' a c ∧ Box w' wr.heap.size TC #[.int .i64 cl.kind, .string cl.k.user, .int .u64 (cl.k.seq : Int), .int .i64 cl.k.kind, .string cl.v]) := fun W G hW hz => jadd HG.out hW cl.k cl.v (by have := HR.out.2.2; omega) HR.out.2.1 (by omega) hz
          have HA2 : Hid (∀ (W : World) (G : TG), JJ w W p q (T.add cl.k cl.v) T G a c → Box W wr.heap.size TC #[.int .i64 cl.kind, .string cl.k.user, .int .u64 (cl.k.seq : Int), .int .i64 cl.k.kind, .string cl.v] → Calls Tryd.prog 12 #[at_ q, .agg #[.string cl.k.user, .int .u64 (cl.k.seq : Int), .int .i64 cl.k.kind], .string cl.v] W fun e w' => e = .returned (.int .i64 ((T.err cl.k cl.v : Nat) : Int)) ∧ ∃ a' c', JJ w w' p q (T.add cl.k cl.v) (T.add cl.k cl.v) G a' c' ∧ Box w' wr.heap.size TC #[.int .i64 cl.kind, .string cl.k.user, .int .u64 (cl.k.seq : Int), .int .i64 cl.k.kind, .string cl.v]) := fun W G hW hz => jradd hW HT.out.1 cl.k cl.v (by have := HR.out.2.2; omega) HR.out.2.1 (by omega) hz
          have HTA : Hid ((T.add cl.k cl.v).Inv ∧ (T.add cl.k cl.v).kvs.length ≤ i + 1) := ⟨HT.out.1.add _ _, by have h1 := T.add_len cl.k cl.v; have := HT.out.2; omega⟩
          generalize T.err cl.k cl.v = E at HA1 HA2
          generalize T.add cl.k cl.v = TA at HA1 HA2 HTA
          have HJa : Hid (JJ w (wr.alloc (.cells #[.int .i64 cl.kind, .string cl.k.user, .int .u64 (cl.k.seq : Int), .int .i64 cl.k.kind, .string cl.v] TC)).drew p q T T G a c) := HJ1.out.below (Below.refl _ _).drew
          have HBa : Hid (Box (wr.alloc (.cells #[.int .i64 cl.kind, .string cl.k.user, .int .u64 (cl.k.seq : Int), .int .i64 cl.k.kind, .string cl.v] TC)).drew wr.heap.size TC #[.int .i64 cl.kind, .string cl.k.user, .int .u64 (cl.k.seq : Int), .int .i64 cl.k.kind, .string cl.v]) := HBz.out
          have z1 : (wr.alloc (.cells #[.int .i64 cl.kind, .string cl.k.user, .int .u64 (cl.k.seq : Int), .int .i64 cl.k.kind, .string cl.v] TC)).drew.cell? ⟨wr.heap.size, 1, none⟩ = some (.string cl.k.user) := HBa.out.cell 1
          have z2 : (wr.alloc (.cells #[.int .i64 cl.kind, .string cl.k.user, .int .u64 (cl.k.seq : Int), .int .i64 cl.k.kind, .string cl.v] TC)).drew.cell? ⟨wr.heap.size, 2, none⟩ = some (.int .u64 (cl.k.seq : Int)) := HBa.out.cell 2
          have z3 : (wr.alloc (.cells #[.int .i64 cl.kind, .string cl.k.user, .int .u64 (cl.k.seq : Int), .int .i64 cl.k.kind, .string cl.v] TC)).drew.cell? ⟨wr.heap.size, 3, none⟩ = some (.int .i64 cl.k.kind) := HBa.out.cell 3
          have z4 : (wr.alloc (.cells #[.int .i64 cl.kind, .string cl.k.user, .int .u64 (cl.k.seq : Int), .int .i64 cl.k.kind, .string cl.v] TC)).drew.cell? ⟨wr.heap.size, 4, none⟩ = some (.string cl.v) := HBa.out.cell 4
          clear k1
          go_wp2_with fail
          go_region_held3 (fun Wx => Wx.cell? ⟨wr.heap.size, 1, none⟩ = some (.string cl.k.user) ∧ Wx.cell? ⟨wr.heap.size, 2, none⟩ = some (.int .u64 (cl.k.seq : Int)) ∧ Wx.cell? ⟨wr.heap.size, 3, none⟩ = some (.int .i64 cl.k.kind) ∧ Wx.cell? ⟨wr.heap.size, 4, none⟩ = some (.string cl.v)) (first | exact ⟨z1, z2, z3, z4⟩ | go_keep)
            (first
             | (go_at_call 11; refine (HA1.out _ G HJa.out HBa.out).mono ?_; rintro _ vx ⟨rfl, G1, hj, hz⟩
                have HJb : Hid (JJ w vx p q TA T G1 a c) := hj
                have HBa : Hid (Box vx wr.heap.size TC #[.int .i64 cl.kind, .string cl.k.user, .int .u64 (cl.k.seq : Int), .int .i64 cl.k.kind, .string cl.v]) := hz
                have z1 : vx.cell? ⟨wr.heap.size, 1, none⟩ = some (.string cl.k.user) := HBa.out.cell 1
                have z2 : vx.cell? ⟨wr.heap.size, 2, none⟩ = some (.int .u64 (cl.k.seq : Int)) := HBa.out.cell 2
                have z3 : vx.cell? ⟨wr.heap.size, 3, none⟩ = some (.int .i64 cl.k.kind) := HBa.out.cell 3
                have z4 : vx.cell? ⟨wr.heap.size, 4, none⟩ = some (.string cl.v) := HBa.out.cell 4
                clear hj hz)
             | (go_at_call 12; refine (HA2.out _ G1 HJb.out HBa.out).mono ?_; rintro _ vy ⟨rfl, a2, c2', hj, hz⟩
                have HJc : Hid (JJ w vy p q TA TA G1 a2 c2') := hj
                have HBa : Hid (Box vy wr.heap.size TC #[.int .i64 cl.kind, .string cl.k.user, .int .u64 (cl.k.seq : Int), .int .i64 cl.k.kind, .string cl.v]) := hz
                have z1 : vy.cell? ⟨wr.heap.size, 1, none⟩ = some (.string cl.k.user) := HBa.out.cell 1
                have z2 : vy.cell? ⟨wr.heap.size, 2, none⟩ = some (.int .u64 (cl.k.seq : Int)) := HBa.out.cell 2
                have z3 : vy.cell? ⟨wr.heap.size, 3, none⟩ = some (.int .i64 cl.k.kind) := HBa.out.cell 3
                have z4 : vy.cell? ⟨wr.heap.size, 4, none⟩ = some (.string cl.v) := HBa.out.cell 4
                clear hj hz))
          have hIv : Hid (TA.Inv ∧ TA.kvs.length ≤ i + 1) := HTA.out
          have s0 : vy.drew.cell? ⟨q, 0, none⟩ = some (.slice a2 TA.kvs.length c2') := HJc.out.ref.box.cell 0
          have HJ9 : Hid (JJ w vy.drew p q TA TA G1 a2 c2') := HJc.out.below (Below.refl _ _).drew
          have hTl : TA.kvs.length ≤ 401 := by have := hIv.out.2; omega
          have HSz : Hid (((lsize TA.kvs : Nat) : Int) = ((TA.size : Nat) : Int)) := rfl
          generalize hsz : TA.size = sz at HSz
          have HSS : Hid (TA.size = sz) := hsz
          clear hsz
          go_wp2_with fail
          go_region_held3 (fun Wx => Wx.cell? ⟨q, 0, none⟩ = some (.slice a2 TA.kvs.length c2')) (first | exact s0 | go_keep)
            (first
             | (go_at_call 16; refine (size_at HJ9.out.own.at').mono ?_; rintro _ vy ⟨rfl, hvy⟩
                have HJ9 : Hid (JJ w vy p q TA TA G1 a2 c2') := by rw [hvy]; exact HJ9.out
                have s0 : vy.cell? ⟨q, 0, none⟩ = some (.slice a2 TA.kvs.length c2') := HJ9.out.ref.box.cell 0
                rw [HSS.out]
                clear hvy)
             | (go_at_call 17; refine (rsize_at HJ9.out.ref.own.ks hIv.out.1.ok (by omega)).mono ?_; rintro _ vz ⟨rfl, dz, hvz⟩
                have HJ9 : Hid (JJ w vz p q TA TA G1 a2 c2') := by rw [hvz]; exact HJ9.out.below (Below.drewM (Below.refl _ _) _)
                have s0 : vz.cell? ⟨q, 0, none⟩ = some (.slice a2 TA.kvs.length c2') := HJ9.out.ref.box.cell 0
                rw [HSz.out]
                clear hvz))
          go_wp2
          go_roundw
          case rel => exact ⟨i + 1, by omega, by go_num, TA, G1, a2, c2', HJ9.out, hIv.out.1, hIv.out.2⟩
          case measure => simp only [intOf]; omega
        · have q1 : (cl.kind == 1) = false := by simpa using k1
          by_cases k2 : cl.kind = 2
          · have q2 : (cl.kind == 2) = true := by rw [k2]; rfl
            have z1 : (wr.alloc (.cells #[.int .i64 cl.kind, .string cl.k.user, .int .u64 (cl.k.seq : Int), .int .i64 cl.k.kind, .string cl.v] TC)).cell? ⟨wr.heap.size, 1, none⟩ = some (.string cl.k.user) := HBz.out.cell 1
            have z2 : (wr.alloc (.cells #[.int .i64 cl.kind, .string cl.k.user, .int .u64 (cl.k.seq : Int), .int .i64 cl.k.kind, .string cl.v] TC)).cell? ⟨wr.heap.size, 2, none⟩ = some (.int .u64 (cl.k.seq : Int)) := HBz.out.cell 2
            have z3 : (wr.alloc (.cells #[.int .i64 cl.kind, .string cl.k.user, .int .u64 (cl.k.seq : Int), .int .i64 cl.k.kind, .string cl.v] TC)).cell? ⟨wr.heap.size, 3, none⟩ = some (.int .i64 cl.k.kind) := HBz.out.cell 3
            have z4 : (wr.alloc (.cells #[.int .i64 cl.kind, .string cl.k.user, .int .u64 (cl.k.seq : Int), .int .i64 cl.k.kind, .string cl.v] TC)).cell? ⟨wr.heap.size, 4, none⟩ = some (.string cl.v) := HBz.out.cell 4
            have HGt := get_at HJ1.out.own.at' cl.k.user cl.k.seq HR.out.2.2 (by omega) (HJ1.out.glob HG.out)
            have HRg : Hid (∀ W : World, JJ w W p q T T G a c → Calls Tryd.prog 14 #[.slice a T.kvs.length c, .string cl.k.user, .int .u64 (cl.k.seq : Int)] W fun e w' => e = .returned (.tuple #[.string (told (lget T.kvs cl.k.user cl.k.seq)).1, .int .i64 (((told (lget T.kvs cl.k.user cl.k.seq)).2 : Nat) : Int)]) ∧ w' = W) := fun W hW => rget_at hW.ref.own.ks _ _
            generalize (told (lget T.kvs cl.k.user cl.k.seq)).1 = gx at HGt HRg
            generalize (told (lget T.kvs cl.k.user cl.k.seq)).2 = gm at HGt HRg
            clear k1 k2
            go_wp2_with fail
            refine HGt.mono ?_
            rintro _ v2 ⟨rfl, hb2⟩
            have HJ2 : Hid (JJ w v2.drew p q T T G a c) := HJ1.out.below hb2.drew
            have HB2 : Hid (Box v2.drew wr.heap.size TC #[.int .i64 cl.kind, .string cl.k.user, .int .u64 (cl.k.seq : Int), .int .i64 cl.k.kind, .string cl.v]) := HBz.out.kept (hb2.block _ HBz.out.lt)
            clear hb2 HGt z1 z2 z3 z4
            have z1 : v2.drew.cell? ⟨wr.heap.size, 1, none⟩ = some (.string cl.k.user) := HB2.out.cell 1
            have z2 : v2.drew.cell? ⟨wr.heap.size, 2, none⟩ = some (.int .u64 (cl.k.seq : Int)) := HB2.out.cell 2
            have z3 : v2.drew.cell? ⟨wr.heap.size, 3, none⟩ = some (.int .i64 cl.k.kind) := HB2.out.cell 3
            have z4 : v2.drew.cell? ⟨wr.heap.size, 4, none⟩ = some (.string cl.v) := HB2.out.cell 4
            have s0 : v2.drew.cell? ⟨q, 0, none⟩ = some (.slice a T.kvs.length c) := HJ2.out.ref.box.cell 0
            go_wp2_with fail
            go_region_held3 (fun Wx => Wx.cell? ⟨q, 0, none⟩ = some (.slice a T.kvs.length c) ∧ Wx.cell? ⟨wr.heap.size, 1, none⟩ = some (.string cl.k.user) ∧ Wx.cell? ⟨wr.heap.size, 2, none⟩ = some (.int .u64 (cl.k.seq : Int))) (first | exact ⟨s0, z1, z2⟩ | go_keep)
              (first
               | (go_at_call 14; refine (HRg.out _ HJ2.out).mono ?_; rintro _ vx ⟨rfl, hvx⟩
                  have HJc : Hid (JJ w vx p q T T G a c) := by rw [hvx]; exact HJ2.out
                  have s0 : vx.cell? ⟨q, 0, none⟩ = some (.slice a T.kvs.length c) := HJc.out.ref.box.cell 0
                  have z1 : vx.cell? ⟨wr.heap.size, 1, none⟩ = some (.string cl.k.user) := by rw [hvx]; exact z1
                  have z2 : vx.cell? ⟨wr.heap.size, 2, none⟩ = some (.int .u64 (cl.k.seq : Int)) := by rw [hvx]; exact z2
                  clear hvx))
            have hIv : Hid (T.Inv ∧ T.kvs.length ≤ i + 1) := ⟨HT.out.1, by have := HT.out.2; omega⟩
            have s0 : vx.drew.cell? ⟨q, 0, none⟩ = some (.slice a T.kvs.length c) := HJc.out.ref.box.cell 0
            have HJ9 : Hid (JJ w vx.drew p q T T G a c) := HJc.out.below (Below.refl _ _).drew
            have hTl : T.kvs.length ≤ 401 := by have := hIv.out.2; omega
            have HSz : Hid (((lsize T.kvs : Nat) : Int) = ((T.size : Nat) : Int)) := rfl
            generalize hsz : T.size = sz at HSz
            have HSS : Hid (T.size = sz) := hsz
            clear hsz
            go_wp2_with fail
            go_region_held3 (fun Wx => Wx.cell? ⟨q, 0, none⟩ = some (.slice a T.kvs.length c)) (first | exact s0 | go_keep)
              (first
               | (go_at_call 16; refine (size_at HJ9.out.own.at').mono ?_; rintro _ vy ⟨rfl, hvy⟩
                  have HJ9 : Hid (JJ w vy p q T T G a c) := by rw [hvy]; exact HJ9.out
                  have s0 : vy.cell? ⟨q, 0, none⟩ = some (.slice a T.kvs.length c) := HJ9.out.ref.box.cell 0
                  rw [HSS.out]
                  clear hvy)
               | (go_at_call 17; refine (rsize_at HJ9.out.ref.own.ks hIv.out.1.ok (by omega)).mono ?_; rintro _ vz ⟨rfl, dz, hvz⟩
                  have HJ9 : Hid (JJ w vz p q T T G a c) := by rw [hvz]; exact HJ9.out.below (Below.drewM (Below.refl _ _) _)
                  have s0 : vz.cell? ⟨q, 0, none⟩ = some (.slice a T.kvs.length c) := HJ9.out.ref.box.cell 0
                  rw [HSz.out]
                  clear hvz))
            go_wp2
            go_roundw
            case rel => exact ⟨i + 1, by omega, by go_num, T, G, a, c, HJ9.out, hIv.out.1, hIv.out.2⟩
            case measure => simp only [intOf]; omega
          · have q2 : (cl.kind == 2) = false := by simpa using k2
            by_cases k3 : cl.kind = 3
            · have q3 : (cl.kind == 3) = true := by rw [k3]; rfl
              have HFr := freeze_at HJ1.out.own.at'
              clear k1 k2 k3
              go_wp2_with fail
              refine HFr.mono ?_
              rintro _ v2 ⟨rfl, ht2, hc2⟩
              have hr2 := HJ1.out.ref_kept hc2
              have s1 : v2.cell? ⟨q, 1, none⟩ = some (.bool T.frozen) := hr2.box.cell 1
              have f1 := hr2.box.soft 1
              have HJc : Hid (JJ w (v2.setCell ⟨q, 1, none⟩ (.bool true)) p q { T with frozen := true } { T with frozen := true } G a c) := HJ1.out.freeze ht2 hc2
              have HTF : Hid (({ T with frozen := true } : PT).Inv ∧ ({ T with frozen := true } : PT).kvs.length ≤ i + 1) := ⟨PT.freeze_inv HT.out.1, by have := HT.out.2; show T.kvs.length ≤ _; omega⟩
              generalize ({ T with frozen := true } : PT) = TF at HJc HTF
              clear ht2 hc2 hr2 HFr
              go_wp2_with fail
              generalize v2.setCell ⟨q, 1, none⟩ (.bool true) = v3 at HJc ⊢
              have hIv : Hid (TF.Inv ∧ TF.kvs.length ≤ i + 1) := HTF.out
              have s0 : v3.drew.cell? ⟨q, 0, none⟩ = some (.slice a TF.kvs.length c) := HJc.out.ref.box.cell 0
              have HJ9 : Hid (JJ w v3.drew p q TF TF G a c) := HJc.out.below (Below.refl _ _).drew
              have hTl : TF.kvs.length ≤ 401 := by have := hIv.out.2; omega
              have HSz : Hid (((lsize TF.kvs : Nat) : Int) = ((TF.size : Nat) : Int)) := rfl
              generalize hsz : TF.size = sz at HSz
              have HSS : Hid (TF.size = sz) := hsz
              clear hsz
              go_wp2_with fail
              go_region_held3 (fun Wx => Wx.cell? ⟨q, 0, none⟩ = some (.slice a TF.kvs.length c)) (first | exact s0 | go_keep)
                (first
                 | (go_at_call 16; refine (size_at HJ9.out.own.at').mono ?_; rintro _ vy ⟨rfl, hvy⟩
                    have HJ9 : Hid (JJ w vy p q TF TF G a c) := by rw [hvy]; exact HJ9.out
                    have s0 : vy.cell? ⟨q, 0, none⟩ = some (.slice a TF.kvs.length c) := HJ9.out.ref.box.cell 0
                    rw [HSS.out]
                    clear hvy)
                 | (go_at_call 17; refine (rsize_at HJ9.out.ref.own.ks hIv.out.1.ok (by omega)).mono ?_; rintro _ vz ⟨rfl, dz, hvz⟩
                    have HJ9 : Hid (JJ w vz p q TF TF G a c) := by rw [hvz]; exact HJ9.out.below (Below.drewM (Below.refl _ _) _)
                    have s0 : vz.cell? ⟨q, 0, none⟩ = some (.slice a TF.kvs.length c) := HJ9.out.ref.box.cell 0
                    rw [HSz.out]
                    clear hvz))
              go_wp2
              go_roundw
              case rel => exact ⟨i + 1, by omega, by go_num, TF, G, a, c, HJ9.out, hIv.out.1, hIv.out.2⟩
              case measure => simp only [intOf]; omega
            · have q3 : (cl.kind == 3) = false := by simpa using k3
              clear k1 k2 k3
              go_wp2_with fail
              generalize wr.alloc (.cells #[.int .i64 cl.kind, .string cl.k.user, .int .u64 (cl.k.seq : Int), .int .i64 cl.k.kind, .string cl.v] TC) = v3 at HJ1 ⊢
              have hIv : Hid (T.Inv ∧ T.kvs.length ≤ i + 1) := ⟨HT.out.1, by have := HT.out.2; omega⟩
              have s0 : v3.drew.cell? ⟨q, 0, none⟩ = some (.slice a T.kvs.length c) := HJ1.out.ref.box.cell 0
              have HJ9 : Hid (JJ w v3.drew p q T T G a c) := HJ1.out.below (Below.refl _ _).drew
              have hTl : T.kvs.length ≤ 401 := by have := hIv.out.2; omega
              have HSz : Hid (((lsize T.kvs : Nat) : Int) = ((T.size : Nat) : Int)) := rfl
              generalize hsz : T.size = sz at HSz
              have HSS : Hid (T.size = sz) := hsz
              clear hsz
              go_wp2_with fail
              go_region_held3 (fun Wx => Wx.cell? ⟨q, 0, none⟩ = some (.slice a T.kvs.length c)) (first | exact s0 | go_keep)
                (first
                 | (go_at_call 16; refine (size_at HJ9.out.own.at').mono ?_; rintro _ vy ⟨rfl, hvy⟩
                    have HJ9 : Hid (JJ w vy p q T T G a c) := by rw [hvy]; exact HJ9.out
                    have s0 : vy.cell? ⟨q, 0, none⟩ = some (.slice a T.kvs.length c) := HJ9.out.ref.box.cell 0
                    rw [HSS.out]
                    clear hvy)
                 | (go_at_call 17; refine (rsize_at HJ9.out.ref.own.ks hIv.out.1.ok (by omega)).mono ?_; rintro _ vz ⟨rfl, dz, hvz⟩
                    have HJ9 : Hid (JJ w vz p q T T G a c) := by rw [hvz]; exact HJ9.out.below (Below.drewM (Below.refl _ _) _)
                    have s0 : vz.cell? ⟨q, 0, none⟩ = some (.slice a T.kvs.length c) := HJ9.out.ref.box.cell 0
                    rw [HSz.out]
                    clear hvz))
              go_wp2
              go_roundw
              case rel => exact ⟨i + 1, by omega, by go_num, T, G, a, c, HJ9.out, hIv.out.1, hIv.out.2⟩
              case measure => simp only [intOf]; omega
      · have hTl : T.kvs.length ≤ 400 := by omega
        have HAl := all_at hJ.own.at' (by omega) (hJ.glob HG.out)
        have HJ1 : Hid (JJ w wr p q T T G a c) := hJ
        clear hJ hInv HI hTl0
        go_wp2_with fail
        refine HAl.mono ?_
        rintro _ v1 ⟨la, rfl, hOk, hb⟩
        have HJ2 : Hid (JJ w v1 p q T T G a c) := HJ1.out.below hb
        have HK2 : Hid (OwnK v1 wr.heap.size la T.kvs.length T.kvs ∧ Below wr.heap.size wr v1) := ⟨hOk, hb⟩
        have s0 : v1.cell? ⟨q, 0, none⟩ = some (.slice a T.kvs.length c) := HJ2.out.ref.box.cell 0
        clear hOk hb HAl
        go_wp2_with fail
        refine (same_at (HK2.out.1.ks (by unfold maxLen; omega)) HJ2.out.ref.own.ks).mono ?_
        rintro _ v2 ⟨rfl, d2, hv2⟩
        obtain ⟨hsz, gb, arr0, hla, hge, hbx, hcl⟩ := HK2.out.1
        have hsz0 : arr0.size = T.kvs.length * 4 := by
          rw [← Array.length_toList, hcl, cellsKV_len]
        have HB2 : Hid (Below wr.heap.size wr v2 ∧ wr.heap.size ≤ gb ∧ ∃ arr, Box v2 gb TKV arr ∧ arr.size = T.kvs.length * 4) := by
          rw [hv2]
          exact ⟨Below.drewM HK2.out.2 _, hge, arr0, hbx, hsz0⟩
        clear hsz hge hbx hcl hsz0 hv2 HK2 HJ2 s0
        subst hla
        have HN : Hid (T.kvs.length ≤ 400) := hTl
        generalize hNN : T.kvs.length = N at hTl HB2 ⊢
        clear hin hi
        generalize wr = wr0 at HJ1 HB2
        go_wp2_with fail
        go_loopw [14] (fun x wx => ∃ k : Nat, k ≤ N ∧ x = .int .i64 (k : Int) ∧ Hid (Below wr0.heap.size wr0 wx ∧ wr0.heap.size ≤ gb ∧ ∃ arr, Box wx gb TKV arr ∧ arr.size = N * 4)) (fun x _ => N - (intOf x).toNat)
        case atStart => exact ⟨0, Nat.zero_le _, rfl, HB2.out⟩
        case round =>
          obtain ⟨k, hk, rfl, HI⟩ := hrel
          obtain ⟨hbl, hge, arr, hbx, hasz⟩ := HI.out
          by_cases hkn : k < N
          · have hidx := fun W => idxKV W (a := some ⟨gb, 0, none⟩) (b := gb) (off := 0) (n := N) (c := N) rfl hkn
            have bx1 := hbx.set (k * 4) (.string ⟨#[]⟩)
            have bx2 := bx1.set (k * 4 + 1) (.int .u64 0)
            have bx3 := bx2.set (k * 4 + 2) (.int .i64 0)
            have bx4 := bx3.set (k * 4 + 3) (.string ⟨#[]⟩)
            have hb4 : Below wr0.heap.size wr0 ((((wr.setCell ⟨gb, k * 4, none⟩ (.string ⟨#[]⟩)).setCell ⟨gb, k * 4 + 1, none⟩ (.int .u64 0)).setCell ⟨gb, k * 4 + 2, none⟩ (.int .i64 0)).setCell ⟨gb, k * 4 + 3, none⟩ (.string ⟨#[]⟩)) := by
              have hc : Chg (fun x => x = gb) wr ((((wr.setCell ⟨gb, k * 4, none⟩ (.string ⟨#[]⟩)).setCell ⟨gb, k * 4 + 1, none⟩ (.int .u64 0)).setCell ⟨gb, k * 4 + 2, none⟩ (.int .i64 0)).setCell ⟨gb, k * 4 + 3, none⟩ (.string ⟨#[]⟩)) := ((((Chg.refl (fun x => x = gb) _).set (fun _ => rfl) _ _).set (fun _ => rfl) _ _).set (fun _ => rfl) _ _).set (fun _ => rfl) _ _
              exact hbl.trans (hc.below (fun x hx => by rw [hx]; exact hge) hbl.size)
            have cell : ∀ {W : World} {ar : Array Value} {j : Nat}, Box W gb TKV ar → j < ar.size → ∃ v, W.cell? ⟨gb, j, none⟩ = some v := fun {W ar j} h hj => ⟨ar[j], by rw [h.cell]; exact Array.getElem?_eq_getElem hj⟩
            obtain ⟨y0, c0⟩ := cell (j := k * 4) hbx (by omega)
            obtain ⟨y1, c1⟩ := cell (j := k * 4 + 1) bx1 (by simp; omega)
            obtain ⟨y2, c2⟩ := cell (j := k * 4 + 2) bx2 (by simp; omega)
            obtain ⟨y3, c3⟩ := cell (j := k * 4 + 3) bx3 (by simp; omega)
            have f0 := hbx.soft (k * 4)
            have f1 := bx1.soft (k * 4 + 1)
            have f2 := bx2.soft (k * 4 + 2)
            have f3 := bx3.soft (k * 4 + 3)
            have HB4 : Hid (Below wr0.heap.size wr0 ((((wr.setCell ⟨gb, k * 4, none⟩ (.string ⟨#[]⟩)).setCell ⟨gb, k * 4 + 1, none⟩ (.int .u64 0)).setCell ⟨gb, k * 4 + 2, none⟩ (.int .i64 0)).setCell ⟨gb, k * 4 + 3, none⟩ (.string ⟨#[]⟩)) ∧ wr0.heap.size ≤ gb ∧ ∃ arr, Box ((((wr.setCell ⟨gb, k * 4, none⟩ (.string ⟨#[]⟩)).setCell ⟨gb, k * 4 + 1, none⟩ (.int .u64 0)).setCell ⟨gb, k * 4 + 2, none⟩ (.int .i64 0)).setCell ⟨gb, k * 4 + 3, none⟩ (.string ⟨#[]⟩)) gb TKV arr ∧ arr.size = N * 4) := ⟨hb4, hge, _, bx4, by simp; exact hasz⟩
            simp only [Nat.zero_add] at hidx
            clear cell bx1 bx2 bx3 bx4 hb4 hbx hbl hge hasz HI
            go_wp2_with fail
            go_roundw
            case rel => exact ⟨k + 1, by omega, by go_num, HB4.out⟩
            case measure => simp only [intOf]; omega
          · have HJ2 : Hid (JJ w wr p q T T G a c) := HJ1.out.below hbl
            have HAl := fun W (hW : JJ w W p q T T G a c) => all_at hW.own.at' (by have := HN.out; omega) (hW.glob HG.out)
            have s0 : wr.drew.cell? ⟨q, 0, none⟩ = some (.slice a N c) := by rw [← hNN]; exact HJ2.out.ref.box.cell 0
            have HJ2 : Hid (JJ w wr.drew p q T T G a c) := HJ2.out.below (Below.refl _ _).drew
            have HNN : Hid (T.kvs.length = N) := hNN
            clear hbl hge hbx hasz HI hNN
            go_wp2_with fail
            go_region_held3 (fun Wx => Wx.cell? ⟨q, 0, none⟩ = some (.slice a N c)) (first | exact s0 | go_keep)
              (first
               | (go_at_call 18; refine (HAl _ HJ2.out).mono ?_; rintro _ vx ⟨la, rfl, hOk, hb⟩
                  have HJ3 : Hid (JJ w vx p q T T G a c) := HJ2.out.below hb
                  have s0 : vx.cell? ⟨q, 0, none⟩ = some (.slice a N c) := by rw [← HNN.out]; exact HJ3.out.ref.box.cell 0
                  have HK3 : Hid (KsAt vx la T.kvs.length T.kvs.length T.kvs) := hOk.ks (by have := HN.out; unfold maxLen; omega)
                  rw [HNN.out]
                  clear hOk hb)
               | (go_at_call 19; refine (same_at (by have := HK3.out; rw [HNN.out] at this; exact this) (by have := HJ3.out.ref.own.ks; rw [HNN.out] at this; exact this)).mono ?_; rintro _ vy ⟨rfl, d3, hvy⟩
                  have HJ4 : Hid (JJ w vy p q T T G a c) := by rw [hvy]; exact HJ3.out.below (Below.drewM (Below.refl _ _) _)
                  have s0 : vy.cell? ⟨q, 0, none⟩ = some (.slice a N c) := by rw [← HNN.out]; exact HJ4.out.ref.box.cell 0
                  clear hvy))
            go_wp2
            go_ret
            exact ⟨ret1 rfl, HJ4.out.own.base⟩
end Go.Proofs.YtnggajconglfcaaDoor
