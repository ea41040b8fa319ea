/- The walk of BloomBuilds. -/
import Derived.Test.YtbmimlplicdheaaB10Awake
import Derived.Test.YtbmimlplicdheaaR10Build
import Derived.Deep.RegionHeld3
namespace Go.Proofs.Ytbmimlplicdheaa
open Go.RowKit
theorem str_at {w : World} {a : Option Addr} {len cap : Nat} {bs : List UInt8} (h : BsAt w a len cap bs) : (convert 25 9 (.slice a len cap)).run Try.prog w = .ok (.string (strOf bs)) w := h.asStr Try.underlying25 Try.underlying5 Try.underlying9
set_option maxRecDepth 100000 in
set_option maxHeartbeats 1000000 in
theorem bloomBuilds_walk (ka : Option Addr) (kn kc : Nat) (keys : List ByteArray) (b : Nat) (w : World) (hk : StAt w ka kn kc keys) (_ : ka = none → kc = 0) (hkc : kc ≤ 1048576) (hks : ∀ s ∈ keys, s.size ≤ 1048576) :
    Calls Try.prog 4 #[.slice ka kn kc, .float .f64 b] w fun e w' => e = .returned (.bool true) ∧ Below w.heap.size w w' := by
  have hkle := hk.le
  have hks2 : ∀ s ∈ keys, s.size ≤ 140737488351232 := fun s hs => by have := hks s hs; omega
  obtain ⟨F, er, n, HB⟩ : ∃ (F : List UInt8) (er : Int) (n : Nat), Hid (∀ W, StAt W ka kn kc keys →
      Calls Try.prog 9 #[.slice ka kn kc, .float .f64 b] W (fun e w' => ∃ a c, e = .returned (.tuple #[.slice a n c, .int .i64 er]) ∧ BsAt w' a n c F ∧ Below W.heap.size W w') ∧
      Calls Try.prog 10 #[.slice ka kn kc, .float .f64 b] W (fun e w' => ∃ a c, e = .returned (.tuple #[.slice a n c, .int .i64 er]) ∧ BsAt w' a n c F ∧ Below W.heap.size W w')) := by
    have hnil : ∀ W : World, BsAt W none 0 0 [] := fun W => ⟨rfl, Nat.le_refl _, Nat.zero_le _, fun _ => rfl, fun h => absurd h (Nat.lt_irrefl _)⟩
    cases hok : okB b with
    | false =>
      refine ⟨[], 100, 0, fun W _ => ⟨(build_no ka kn kc b W hok).mono ?_, (rbuild_no ka kn kc b W hok).mono ?_⟩⟩
      · rintro e w' ⟨rfl, rfl⟩
        exact ⟨none, 0, rfl, hnil _, Below.refl _ _⟩
      · rintro e w' ⟨rfl, rfl⟩
        exact ⟨none, 0, rfl, hnil _, Below.refl _ _⟩
    | true =>
      refine ⟨buildN (keys.map fun s => s.data.toList) (prN b) (szN b kn), 0, szN b kn + 1, fun W hW => ⟨(build_yes ka kn kc b keys W hW hks2 (by omega) hok).mono ?_, (rbuild_yes ka kn kc b keys W hW hks2 (by omega) hok).mono ?_⟩⟩
      · rintro e w' ⟨a, c, rfl, ho, hb⟩
        exact ⟨a, c, rfl, ho.bs, hb⟩
      · rintro e w' ⟨a, c, rfl, ho, hb⟩
        exact ⟨a, c, rfl, ho.bs, hb⟩
  have HK : Hid (StAt w ka kn kc keys) := hk
  clear hk
  go_enter Try.func4, Try.ntmps4
  go_wp2_with fail
  refine (awake_any _).mono ?_
  rintro e w1 ⟨rfl, hb1⟩
  have hk1 := HK.out.below hb1
  go_wp2_with fail
  refine (HB.out w1 hk1).1.mono ?_
  rintro e w2 ⟨a2, c2, rfl, ho2, hb2⟩
  have hk2 := hk1.below hb2
  go_wp2_with fail
  refine (HB.out w2 hk2).2.mono ?_
  rintro e w3 ⟨a3, c3, rfl, ho3, hb3⟩
  have HK3 : Hid (StAt w3 ka kn kc keys) := hk2.below hb3
  have HB3 : Hid (Below w.heap.size w w3) := hb1.trans ((hb2.trans (hb3.mono hb2.size)).mono hb1.size)
  have HS2 : Hid (BsAt w3 a2 n c2 F) := ho2.below (Nat.le_refl _) hb3
  have HS3 : Hid (BsAt w3 a3 n c3 F) := ho3
  clear hb1 hb2 hb3 hk1 hk2 ho2 ho3 HK HB
  go_wp2_with fail
  go_loopw [10] (fun i wr => ∃ k : Nat, k ≤ kn ∧ i = .int .i64 (k : Int) ∧ Hid (Below w3.heap.size w3 wr)) (fun i _ => kn - (intOf i).toNat)
  case atStart => exact ⟨0, by omega, rfl, Below.refl _ _⟩
  case round =>
    obtain ⟨k, hkn, rfl, HW⟩ := hrel
    by_cases hlt : k < kn
    · obtain ⟨kb, ko, rfl, hkcell⟩ := HK3.out.here (by omega)
      have hkk : k < keys.length := by rw [HK3.out.size]; exact hlt
      have y := hkcell k hlt
      have hkc1 : wr.cell? ⟨kb, ko + k, none⟩ = some (.string keys[k]) := by
        rw [HW.out.cell (World.block_lt_of_cell? w3 _ y), y]
        simp [List.getD, hkk]
      have hsz := hks2 _ (List.getElem_mem hkk)
      generalize keys[k] = key at *
      clear hkcell
      have H1 : Hid (∀ W, _) := fun W => hash_any key W hsz
      have H2 : Hid (∀ W, _) := fun W => rhash_any key W hsz
      generalize hashN key.data.toList = hh at *
      have HKB : Hid (kb < w3.heap.size) := World.block_lt_of_cell? w3 _ y
      have HC : Hid (w3.cell? ⟨kb, ko + k, none⟩ = some (.string key)) := by rw [← hkc1]; exact (HW.out.cell HKB.out).symm
      have HX : Hid (Below w3.heap.size w3 wr.drew) := HW.out.drew
      have c0 : wr.drew.cell? ⟨kb, ko + k, none⟩ = some (.string key) := by rw [HX.out.cell HKB.out]; exact HC.out
      have hnn : ((hh : Int) != (hh : Int)) = false := by simp
      clear y
      go_wp2_with fail
      go_region_held3 (fun w' => w'.cell? ⟨kb, ko + k, none⟩ = some (.string key)) (first | exact c0 | go_keep)
        (first
         | (go_at_call 11; refine (H1.out _).mono ?_; rintro e vx ⟨rfl, hbx⟩
            have HX : Hid (Below w3.heap.size w3 vx) := HX.out.trans (hbx.mono HX.out.size)
            have c0 : vx.cell? ⟨kb, ko + k, none⟩ = some (.string key) := by rw [HX.out.cell HKB.out]; exact HC.out
            clear hbx)
         | (go_at_call 12; refine (H2.out _).mono ?_; rintro e vx ⟨rfl, hbx⟩
            have HX : Hid (Below w3.heap.size w3 vx) := HX.out.trans (hbx.mono HX.out.size)
            have c0 : vx.cell? ⟨kb, ko + k, none⟩ = some (.string key) := by rw [HX.out.cell HKB.out]; exact HC.out
            clear hbx))
      all_goals
        go_wp2
        refine ⟨⟨k + 1, by omega, rfl, HX.out⟩, ?_⟩
        simp [intOf]
        omega
    · have HS2r : Hid (BsAt wr a2 n c2 F) := HS2.out.below (Nat.le_refl _) HW.out
      have HS3r : Hid (BsAt wr a3 n c3 F) := HS3.out.below (Nat.le_refl _) HW.out
      have s2 := str_at HS2r.out
      have s3 := str_at HS3r.out
      generalize strOf F = sF at *
      go_wp2
      go_ret
      exact ⟨ret1 (by simp), HB3.out.trans (HW.out.mono HB3.out.size)⟩
end Go.Proofs.Ytbmimlplicdheaa
