/- Slices of bytes in memory: a slice that can be read as a list of bytes, and how that reading is kept. -/
import Derived.WalkKit
import Derived.Deep.AppendSrc
import Derived.Test.YtmlfbihlbiikeaaGreatDoorRows
import Derived.OpenShut
import Derived.Shelf.Strings.Prefix
import Derived.Shelf.Small.Wraps
import Derived.Shelf.Strings.Repeat
import Derived.Shelf.Strconv.Itoa1
import Derived.Shelf.Strconv.Itoa2
import Derived.Shelf.Pu.ErrVarParseUint
import Derived.Lib.ItoaMem
import Derived.Test.YtmlfbihlbiikeaaGreatDoorChecked
import Derived.Lib.ItoaNum
namespace Go.Proofs.YtmlfbihlbiikeaaGreatDoor
open Go.RowKit

theorem ret1 {a a' : Value} (h : a = a') : Ending.returned a = .returned a' := by rw [h]
theorem ret2 {a b a' b' : Value} (h1 : a = a') (h2 : b = b') : Ending.returned (.tuple #[a, b]) = .returned (.tuple #[a', b']) := by rw [h1, h2]
theorem ret3 {a b c a' b' c' : Value} (h1 : a = a') (h2 : b = b') (h3 : c = c') : Ending.returned (.tuple #[a, b, c]) = .returned (.tuple #[a', b', c']) := by rw [h1, h2, h3]

structure BsAt (w : World) (a : Option Addr) (len cap : Nat) (bs : List UInt8) : Prop where
  size : bs.length = len
  le : len ≤ cap
  max : cap ≤ maxLen
  bare : a = none → cap = 0
  here : 0 < len → ∃ b off, a = some ⟨b, off, none⟩ ∧ ∀ j, j < len → w.cell? ⟨b, off + j, none⟩ = some (.int .u8 ((bs.getD j 0).toNat : Int))

theorem BsAt.below {B : Nat} {w w' : World} {a : Option Addr} {len cap : Nat} {bs : List UInt8} (h : BsAt w a len cap bs) (hB : w.heap.size ≤ B) (hb : Below B w w') : BsAt w' a len cap bs :=
  ⟨h.size, h.le, h.max, h.bare, fun hp => by
    obtain ⟨b, off, ha, hc⟩ := h.here hp
    exact ⟨b, off, ha, fun j hj => by rw [hb.cell (Nat.lt_of_lt_of_le (World.block_lt_of_cell? w _ (hc j hj)) hB)]; exact hc j hj⟩⟩

def strOf (l : List UInt8) : ByteArray := ⟨l.toArray⟩

theorem BsAt.asStr {P : Program} {w : World} {a : Option Addr} {len cap : Nat} {bs : List UInt8} (h : BsAt w a len cap bs) {src dst e : TypeId} (hs : P.underlying src = some (.slice e)) (he : P.underlying e = some (.int .u8)) (hd : P.underlying dst = some .string) :
    (convert src dst (.slice a len cap)).run P w = .ok (.string (strOf bs)) w := by
  have hl := h.size
  subst hl
  rcases Nat.eq_zero_or_pos bs.length with h0 | h0
  · obtain rfl := List.eq_nil_of_length_eq_zero h0
    cases a with
    | none => exact run_convert_bytes_nil w src e hs he _ _ dst hd
    | some x => exact run_convert_bytes_back w src dst e x cap [] hs he hd (fun j hj => absurd hj (Nat.not_lt_zero _))
  · obtain ⟨b, off, rfl, hc⟩ := h.here h0
    refine run_convert_bytes_back w src dst e _ cap bs hs he hd (fun j hj => ?_)
    rw [Addr.add_lit, hc j hj]
    simp [List.getD, hj]

theorem BsAt.sub {w : World} {b off len cap : Nat} {bs : List UInt8} (h : BsAt w (some ⟨b, off, none⟩) len cap bs) (k n : Nat) (hk : k + n ≤ len) : BsAt w (some ⟨b, off + k, none⟩) n (cap - k) ((bs.drop k).take n) := by
  have h1 := h.size
  have h2 := h.le
  have h3 := h.max
  refine ⟨by simp; omega, by omega, by omega, by simp, fun hp => ⟨b, off + k, rfl, fun j hj => ?_⟩⟩
  obtain ⟨b', off', he, hc⟩ := h.here (by omega)
  simp at he
  obtain ⟨rfl, rfl⟩ := he
  rw [Nat.add_assoc, hc (k + j) (by omega)]
  simp [List.getD, hj]

theorem BsAt.empty {w : World} (a : Addr) (cap : Nat) (h : cap ≤ maxLen) : BsAt w (some a) 0 cap [] := ⟨rfl, Nat.zero_le _, h, by simp, fun hp => absurd hp (Nat.lt_irrefl _)⟩

theorem BsAt.one {w : World} {x : Int} {e : TypeId} {b : UInt8} (hx : x = (b.toNat : Int)) : BsAt (w.alloc (.cells #[.int .u8 x] e)) (some ⟨w.heap.size, 0, none⟩) 1 1 [b] := by
  refine ⟨rfl, Nat.le_refl _, by unfold maxLen; omega, by simp, fun _ => ⟨w.heap.size, 0, rfl, fun j hj => ?_⟩⟩
  obtain rfl : j = 0 := by omega
  subst hx
  simp
end Go.Proofs.YtmlfbihlbiikeaaGreatDoor
namespace Go.Proofs.YtmlfbihlbiikeaaGreatDoor
open Go.RowKit

end Go.Proofs.YtmlfbihlbiikeaaGreatDoor
namespace Go.Proofs.YtmlfbihlbiikeaaGreatDoor
open Go.Shelf
def tpL_ren : Go.Shelf.Ren := ⟨fun | 101 => 80 | 208 => 131 | 206 => 177 | n => n, fun | 9 => 9 | 4 => 4 | 3 => 3 | n => n, fun | n => n⟩
theorem tpL : Go.Proofs.Lays.n101 Tryz.prog tpL_ren := {
  mixed := by kernel_rfl
  f101 := Tryz.func80.trans (congrArg some (by kernel_rfl))
  f206 := Tryz.func177.trans (congrArg some (by kernel_rfl))
  f208 := Tryz.func131.trans (congrArg some (by kernel_rfl))
  t3 := Tryz.underlying3
  a3 := Tryz.isAgg3
  z3 := Tryz.sizeOf3
  v3 := Tryz.zeroValue3
  t4 := Tryz.underlying4
  a4 := Tryz.isAgg4
  z4 := Tryz.sizeOf4
  v4 := Tryz.zeroValue4
  t9 := Tryz.underlying9
  a9 := Tryz.isAgg9
  z9 := Tryz.sizeOf9
  v9 := Tryz.zeroValue9 }
def tsL_ren : Go.Shelf.Ren := ⟨fun | 102 => 79 | 209 => 130 | 207 => 138 | n => n, fun | 9 => 9 | 4 => 4 | 3 => 3 | n => n, fun | n => n⟩
theorem tsL : Go.Proofs.Lays.n102 Tryz.prog tsL_ren := {
  mixed := by kernel_rfl
  f102 := Tryz.func79.trans (congrArg some (by kernel_rfl))
  f207 := Tryz.func138.trans (congrArg some (by kernel_rfl))
  f209 := Tryz.func130.trans (congrArg some (by kernel_rfl))
  t3 := Tryz.underlying3
  a3 := Tryz.isAgg3
  z3 := Tryz.sizeOf3
  v3 := Tryz.zeroValue3
  t4 := Tryz.underlying4
  a4 := Tryz.isAgg4
  z4 := Tryz.sizeOf4
  v4 := Tryz.zeroValue4
  t9 := Tryz.underlying9
  a9 := Tryz.isAgg9
  z9 := Tryz.sizeOf9
  v9 := Tryz.zeroValue9 }
def csL_ren : Go.Shelf.Ren := ⟨fun | 104 => 47 | 211 => 86 | 207 => 138 | n => n, fun | 9 => 9 | 4 => 4 | 24 => 113 | 3 => 3 | n => n, fun | n => n⟩
theorem csL : Go.Proofs.Lays.n104 Tryz.prog csL_ren := {
  mixed := by kernel_rfl
  f104 := Tryz.func47.trans (congrArg some (by kernel_rfl))
  f207 := Tryz.func138.trans (congrArg some (by kernel_rfl))
  f211 := Tryz.func86.trans (congrArg some (by kernel_rfl))
  t3 := Tryz.underlying3
  a3 := Tryz.isAgg3
  z3 := Tryz.sizeOf3
  v3 := Tryz.zeroValue3
  t4 := Tryz.underlying4
  a4 := Tryz.isAgg4
  z4 := Tryz.sizeOf4
  v4 := Tryz.zeroValue4
  t9 := Tryz.underlying9
  a9 := Tryz.isAgg9
  z9 := Tryz.sizeOf9
  v9 := Tryz.zeroValue9
  t24 := Tryz.underlying113
  a24 := Tryz.isAgg113
  z24 := Tryz.sizeOf113
  v24 := Tryz.zeroValue113 }
def repL_ren : Go.Shelf.Ren := ⟨fun | 105 => 77 | 212 => 122 | 99 => 123 | 165 => 124 | 166 => 125 | 170 => 126 | 169 => 127 | 263 => 175 | 264 => 176 | 206 => 177 | 240 => 178 | 241 => 179 | 276 => 219 | 277 => 220 | n => n, fun | 9 => 9 | 3 => 3 | 4 => 4 | 20 => 20 | 0 => 0 | 46 => 190 | 109 => 191 | 5 => 5 | 72 => 196 | 76 => 197 | 51 => 220 | 146 => 245 | 53 => 23 | 148 => 247 | 70 => 194 | 37 => 29 | 75 => 146 | 127 => 249 | 164 => 280 | 80 => 200 | n => n, fun | n => n⟩
theorem repL : Go.Proofs.Lays.n105 Tryz.prog repL_ren := {
  mixed := by kernel_rfl
  f99 := Tryz.func123.trans (congrArg some (by kernel_rfl))
  f105 := Tryz.func77.trans (congrArg some (by kernel_rfl))
  f165 := Tryz.func124.trans (congrArg some (by kernel_rfl))
  f166 := Tryz.func125.trans (congrArg some (by kernel_rfl))
  f169 := Tryz.func127.trans (congrArg some (by kernel_rfl))
  f170 := Tryz.func126.trans (congrArg some (by kernel_rfl))
  f206 := Tryz.func177.trans (congrArg some (by kernel_rfl))
  f212 := Tryz.func122.trans (congrArg some (by kernel_rfl))
  f240 := Tryz.func178.trans (congrArg some (by kernel_rfl))
  f241 := Tryz.func179.trans (congrArg some (by kernel_rfl))
  f263 := Tryz.func175.trans (congrArg some (by kernel_rfl))
  f264 := Tryz.func176.trans (congrArg some (by kernel_rfl))
  f276 := Tryz.func219.trans (congrArg some (by kernel_rfl))
  f277 := Tryz.func220.trans (congrArg some (by kernel_rfl))
  t0 := Tryz.underlying0
  a0 := Tryz.isAgg0
  z0 := Tryz.sizeOf0
  v0 := Tryz.zeroValue0
  t3 := Tryz.underlying3
  a3 := Tryz.isAgg3
  z3 := Tryz.sizeOf3
  v3 := Tryz.zeroValue3
  t4 := Tryz.underlying4
  a4 := Tryz.isAgg4
  z4 := Tryz.sizeOf4
  v4 := Tryz.zeroValue4
  t5 := Tryz.underlying5
  a5 := Tryz.isAgg5
  z5 := Tryz.sizeOf5
  v5 := Tryz.zeroValue5
  t9 := Tryz.underlying9
  a9 := Tryz.isAgg9
  z9 := Tryz.sizeOf9
  v9 := Tryz.zeroValue9
  t20 := Tryz.underlying20
  a20 := Tryz.isAgg20
  z20 := Tryz.sizeOf20
  v20 := Tryz.zeroValue20
  t37 := Tryz.underlying29
  a37 := Tryz.isAgg29
  z37 := Tryz.sizeOf29
  v37 := Tryz.zeroValue29
  t46 := Tryz.underlying190
  a46 := Tryz.isAgg190
  z46 := Tryz.sizeOf190
  v46 := Tryz.zeroValue190
  t51 := Tryz.underlying220
  a51 := Tryz.isAgg220
  z51 := Tryz.sizeOf220
  v51 := Tryz.zeroValue220
  t53 := Tryz.underlying23
  a53 := Tryz.isAgg23
  z53 := Tryz.sizeOf23
  v53 := Tryz.zeroValue23
  t70 := Tryz.underlying194
  a70 := Tryz.isAgg194
  z70 := Tryz.sizeOf194
  v70 := Tryz.zeroValue194
  t72 := Tryz.underlying196
  a72 := Tryz.isAgg196
  z72 := Tryz.sizeOf196
  v72 := Tryz.zeroValue196
  t75 := Tryz.underlying146
  a75 := Tryz.isAgg146
  z75 := Tryz.sizeOf146
  v75 := Tryz.zeroValue146
  t76 := Tryz.underlying197
  a76 := Tryz.isAgg197
  z76 := Tryz.sizeOf197
  v76 := Tryz.zeroValue197
  t109 := Tryz.underlying191
  a109 := Tryz.isAgg191
  z109 := Tryz.sizeOf191
  v109 := Tryz.zeroValue191
  t127 := Tryz.underlying249
  a127 := Tryz.isAgg249
  z127 := Tryz.sizeOf249
  v127 := Tryz.zeroValue249
  t146 := Tryz.underlying245
  a146 := Tryz.isAgg245
  z146 := Tryz.sizeOf245
  v146 := Tryz.zeroValue245
  t148 := Tryz.underlying247
  a148 := Tryz.isAgg247
  z148 := Tryz.sizeOf247
  v148 := Tryz.zeroValue247
  t164 := Tryz.underlying280
  a164 := Tryz.isAgg280
  z164 := Tryz.sizeOf280
  v164 := Tryz.zeroValue280 }
def smallL_ren : Go.Shelf.Ren := ⟨fun | 283 => 132 | n => n, fun | 3 => 3 | 9 => 9 | 4 => 4 | n => n, fun | n => n⟩
theorem smallL : Go.Proofs.Lays.n283 Tryz.prog smallL_ren := {
  mixed := by kernel_rfl
  f283 := Tryz.func132.trans (congrArg some (by kernel_rfl))
  t3 := Tryz.underlying3
  a3 := Tryz.isAgg3
  z3 := Tryz.sizeOf3
  v3 := Tryz.zeroValue3
  t4 := Tryz.underlying4
  a4 := Tryz.isAgg4
  z4 := Tryz.sizeOf4
  v4 := Tryz.zeroValue4
  t9 := Tryz.underlying9
  a9 := Tryz.isAgg9
  z9 := Tryz.sizeOf9
  v9 := Tryz.zeroValue9 }
def ndL_ren : Go.Shelf.Ren := ⟨fun | 284 => 133 | 129 => 187 | 317 => 186 | 318 => 188 | n => n, fun | 53 => 23 | 3 => 3 | 212 => 256 | 0 => 0 | 4 => 4 | 46 => 190 | 5 => 5 | 9 => 9 | n => n, fun | 17 => 0 | n => n⟩
theorem ndL : Go.Proofs.LaysM.n284 Tryz.prog ndL_ren := {
  mixed := by kernel_rfl
  f129 := Tryz.func187.trans (congrArg some (by kernel_rfl))
  f284 := Tryz.func133.trans (congrArg some (by kernel_rfl))
  f317 := Tryz.func186.trans (congrArg some (by kernel_rfl))
  f318 := Tryz.func188.trans (congrArg some (by kernel_rfl))
  t0 := Tryz.underlying0
  a0 := Tryz.isAgg0
  z0 := Tryz.sizeOf0
  v0 := Tryz.zeroValue0
  t3 := Tryz.underlying3
  a3 := Tryz.isAgg3
  z3 := Tryz.sizeOf3
  v3 := Tryz.zeroValue3
  t4 := Tryz.underlying4
  a4 := Tryz.isAgg4
  z4 := Tryz.sizeOf4
  v4 := Tryz.zeroValue4
  t5 := Tryz.underlying5
  a5 := Tryz.isAgg5
  z5 := Tryz.sizeOf5
  v5 := Tryz.zeroValue5
  t9 := Tryz.underlying9
  a9 := Tryz.isAgg9
  z9 := Tryz.sizeOf9
  v9 := Tryz.zeroValue9
  t46 := Tryz.underlying190
  a46 := Tryz.isAgg190
  z46 := Tryz.sizeOf190
  v46 := Tryz.zeroValue190
  t53 := Tryz.underlying23
  a53 := Tryz.isAgg23
  z53 := Tryz.sizeOf23
  v53 := Tryz.zeroValue23
  t212 := Tryz.underlying256
  a212 := Tryz.isAgg256
  z212 := Tryz.sizeOf256
  v212 := Tryz.zeroValue256
  g17 := by kernel_rfl
  i0 := by kernel_rfl
  i3 := by kernel_rfl
  i4 := by kernel_rfl
  i5 := by kernel_rfl
  i9 := by kernel_rfl
  i46 := by kernel_rfl
  i53 := by kernel_rfl
  i212 := by kernel_rfl
  m17 := by kernel_rfl }
def fmtL_ren : Go.Shelf.Ren := ⟨fun | 285 => 134 | n => n, fun | 37 => 29 | 53 => 23 | 3 => 3 | 4 => 4 | 51 => 220 | 9 => 9 | 5 => 5 | 0 => 0 | n => n, fun | n => n⟩
theorem fmtL : Go.Proofs.Lays.n285 Tryz.prog fmtL_ren := {
  mixed := by kernel_rfl
  f285 := Tryz.func134.trans (congrArg some (by kernel_rfl))
  t0 := Tryz.underlying0
  a0 := Tryz.isAgg0
  z0 := Tryz.sizeOf0
  v0 := Tryz.zeroValue0
  t3 := Tryz.underlying3
  a3 := Tryz.isAgg3
  z3 := Tryz.sizeOf3
  v3 := Tryz.zeroValue3
  t4 := Tryz.underlying4
  a4 := Tryz.isAgg4
  z4 := Tryz.sizeOf4
  v4 := Tryz.zeroValue4
  t5 := Tryz.underlying5
  a5 := Tryz.isAgg5
  z5 := Tryz.sizeOf5
  v5 := Tryz.zeroValue5
  t9 := Tryz.underlying9
  a9 := Tryz.isAgg9
  z9 := Tryz.sizeOf9
  v9 := Tryz.zeroValue9
  t37 := Tryz.underlying29
  a37 := Tryz.isAgg29
  z37 := Tryz.sizeOf29
  v37 := Tryz.zeroValue29
  t51 := Tryz.underlying220
  a51 := Tryz.isAgg220
  z51 := Tryz.sizeOf220
  v51 := Tryz.zeroValue220
  t53 := Tryz.underlying23
  a53 := Tryz.isAgg23
  z53 := Tryz.sizeOf23
  v53 := Tryz.zeroValue23 }
def puL_ren : Go.Shelf.Ren := ⟨fun | 14 => 78 | 16 => 128 | 17 => 129 | 19 => 180 | 20 => 181 | 21 => 182 | 22 => 183 | 23 => 184 | 24 => 185 | 25 => 221 | 27 => 223 | 26 => 222 | 28 => 256 | 29 => 269 | 30 => 132 | 31 => 133 | 32 => 134 | 33 => 135 | 35 => 187 | 34 => 186 | 36 => 188 | 37 => 189 | 38 => 190 | 39 => 224 | 40 => 225 | n => n, fun | 9 => 9 | 3 => 3 | 22 => 23 | 24 => 146 | 25 => 147 | 4 => 4 | 34 => 250 | 5 => 5 | 36 => 190 | 37 => 29 | 0 => 0 | 39 => 252 | 21 => 21 | 44 => 285 | 47 => 249 | 50 => 309 | 48 => 307 | 2 => 2 | 52 => 203 | 55 => 206 | 59 => 256 | 60 => 220 | 20 => 20 | 61 => 257 | 65 => 310 | 66 => 311 | 67 => 200 | n => n, fun | 0 => 1 | 1 => 2 | 2 => 0 | 3 => 4 | 4 => 5 | n => n⟩
theorem puL : Go.Proofs.LaysPu.n14 Tryz.prog puL_ren := {
  mixed := by kernel_rfl
  f14 := Tryz.func78.trans (congrArg some (by kernel_rfl))
  f16 := Tryz.func128.trans (congrArg some (by kernel_rfl))
  f17 := Tryz.func129.trans (congrArg some (by kernel_rfl))
  f19 := Tryz.func180.trans (congrArg some (by kernel_rfl))
  f20 := Tryz.func181.trans (congrArg some (by kernel_rfl))
  f21 := Tryz.func182.trans (congrArg some (by kernel_rfl))
  f22 := Tryz.func183.trans (congrArg some (by kernel_rfl))
  f23 := Tryz.func184.trans (congrArg some (by kernel_rfl))
  f24 := Tryz.func185.trans (congrArg some (by kernel_rfl))
  f25 := Tryz.func221.trans (congrArg some (by kernel_rfl))
  f26 := Tryz.func222.trans (congrArg some (by kernel_rfl))
  f27 := Tryz.func223.trans (congrArg some (by kernel_rfl))
  f28 := Tryz.func256.trans (congrArg some (by kernel_rfl))
  f29 := Tryz.func269.trans (congrArg some (by kernel_rfl))
  f30 := Tryz.func132.trans (congrArg some (by kernel_rfl))
  f31 := Tryz.func133.trans (congrArg some (by kernel_rfl))
  f32 := Tryz.func134.trans (congrArg some (by kernel_rfl))
  f33 := Tryz.func135.trans (congrArg some (by kernel_rfl))
  f34 := Tryz.func186.trans (congrArg some (by kernel_rfl))
  f35 := Tryz.func187.trans (congrArg some (by kernel_rfl))
  f36 := Tryz.func188.trans (congrArg some (by kernel_rfl))
  f37 := Tryz.func189.trans (congrArg some (by kernel_rfl))
  f38 := Tryz.func190.trans (congrArg some (by kernel_rfl))
  f39 := Tryz.func224.trans (congrArg some (by kernel_rfl))
  f40 := Tryz.func225.trans (congrArg some (by kernel_rfl))
  t0 := Tryz.underlying0
  a0 := Tryz.isAgg0
  z0 := Tryz.sizeOf0
  v0 := Tryz.zeroValue0
  i0 := by kernel_rfl
  t2 := Tryz.underlying2
  a2 := Tryz.isAgg2
  z2 := Tryz.sizeOf2
  v2 := Tryz.zeroValue2
  i2 := by kernel_rfl
  t3 := Tryz.underlying3
  a3 := Tryz.isAgg3
  z3 := Tryz.sizeOf3
  v3 := Tryz.zeroValue3
  i3 := by kernel_rfl
  t4 := Tryz.underlying4
  a4 := Tryz.isAgg4
  z4 := Tryz.sizeOf4
  v4 := Tryz.zeroValue4
  i4 := by kernel_rfl
  t5 := Tryz.underlying5
  a5 := Tryz.isAgg5
  z5 := Tryz.sizeOf5
  v5 := Tryz.zeroValue5
  i5 := by kernel_rfl
  t9 := Tryz.underlying9
  a9 := Tryz.isAgg9
  z9 := Tryz.sizeOf9
  v9 := Tryz.zeroValue9
  i9 := by kernel_rfl
  t20 := Tryz.underlying20
  a20 := Tryz.isAgg20
  z20 := Tryz.sizeOf20
  v20 := Tryz.zeroValue20
  i20 := by kernel_rfl
  t21 := Tryz.underlying21
  a21 := Tryz.isAgg21
  z21 := Tryz.sizeOf21
  v21 := Tryz.zeroValue21
  i21 := by kernel_rfl
  t22 := Tryz.underlying23
  a22 := Tryz.isAgg23
  z22 := Tryz.sizeOf23
  v22 := Tryz.zeroValue23
  i22 := by kernel_rfl
  t24 := Tryz.underlying146
  a24 := Tryz.isAgg146
  z24 := Tryz.sizeOf146
  v24 := Tryz.zeroValue146
  i24 := by kernel_rfl
  t25 := Tryz.underlying147
  a25 := Tryz.isAgg147
  z25 := Tryz.sizeOf147
  v25 := Tryz.zeroValue147
  i25 := by kernel_rfl
  t34 := Tryz.underlying250
  a34 := Tryz.isAgg250
  z34 := Tryz.sizeOf250
  v34 := Tryz.zeroValue250
  i34 := by kernel_rfl
  c34 := by kernel_rfl
  t36 := Tryz.underlying190
  a36 := Tryz.isAgg190
  z36 := Tryz.sizeOf190
  v36 := Tryz.zeroValue190
  i36 := by kernel_rfl
  t37 := Tryz.underlying29
  a37 := Tryz.isAgg29
  z37 := Tryz.sizeOf29
  v37 := Tryz.zeroValue29
  i37 := by kernel_rfl
  t39 := Tryz.underlying252
  a39 := Tryz.isAgg252
  z39 := Tryz.sizeOf252
  v39 := Tryz.zeroValue252
  i39 := by kernel_rfl
  t44 := Tryz.underlying285
  a44 := Tryz.isAgg285
  z44 := Tryz.sizeOf285
  v44 := Tryz.zeroValue285
  i44 := by kernel_rfl
  t47 := Tryz.underlying249
  a47 := Tryz.isAgg249
  z47 := Tryz.sizeOf249
  v47 := Tryz.zeroValue249
  i47 := by kernel_rfl
  t48 := Tryz.underlying307
  a48 := Tryz.isAgg307
  z48 := Tryz.sizeOf307
  v48 := Tryz.zeroValue307
  i48 := by kernel_rfl
  t50 := Tryz.underlying309
  a50 := Tryz.isAgg309
  z50 := Tryz.sizeOf309
  v50 := Tryz.zeroValue309
  i50 := by kernel_rfl
  t52 := Tryz.underlying203
  a52 := Tryz.isAgg203
  z52 := Tryz.sizeOf203
  v52 := Tryz.zeroValue203
  i52 := by kernel_rfl
  t55 := Tryz.underlying206
  a55 := Tryz.isAgg206
  z55 := Tryz.sizeOf206
  v55 := Tryz.zeroValue206
  i55 := by kernel_rfl
  t59 := Tryz.underlying256
  a59 := Tryz.isAgg256
  z59 := Tryz.sizeOf256
  v59 := Tryz.zeroValue256
  i59 := by kernel_rfl
  t60 := Tryz.underlying220
  a60 := Tryz.isAgg220
  z60 := Tryz.sizeOf220
  v60 := Tryz.zeroValue220
  i60 := by kernel_rfl
  t61 := Tryz.underlying257
  a61 := Tryz.isAgg257
  z61 := Tryz.sizeOf257
  t65 := Tryz.underlying310
  a65 := Tryz.isAgg310
  z65 := Tryz.sizeOf310
  v65 := Tryz.zeroValue310
  i65 := by kernel_rfl
  t66 := Tryz.underlying311
  a66 := Tryz.isAgg311
  z66 := Tryz.sizeOf311
  v66 := Tryz.zeroValue311
  i66 := by kernel_rfl
  t67 := Tryz.underlying200
  a67 := Tryz.isAgg200
  z67 := Tryz.sizeOf200
  v67 := Tryz.zeroValue200
  i67 := by kernel_rfl
  g0 := by kernel_rfl
  m0 := by kernel_rfl
  g1 := by kernel_rfl
  m1 := by kernel_rfl
  g2 := by kernel_rfl
  m2 := by kernel_rfl
  g3 := by kernel_rfl
  m3 := by kernel_rfl
  g4 := by kernel_rfl
  m4 := by kernel_rfl }
theorem repX : Builder.Extra Tryz.prog repL_ren := {
  sizeBuilder := by kernel_rfl
  liesBuilder := by kernel_rfl
  t5 := repL.t5
  a5 := repL.a5
  z5 := repL.z5
  v5 := repL.v5
  infoByte := by kernel_rfl
  cellsByte := by kernel_rfl
  sizeByte := by kernel_rfl
  neB5 := by decide }
end Go.Proofs.YtmlfbihlbiikeaaGreatDoor
namespace Go.Proofs.YtmlfbihlbiikeaaGreatDoor
open Go.Lib
set_option linter.unusedVariables false
set_option linter.unusedSimpArgs false
def curB : List UInt8 := [67, 85, 82, 82, 69, 78, 84]
def tmpB : List UInt8 := [67, 85, 82, 82, 69, 78, 84, 46, 116, 109, 112]
def logB : List UInt8 := [46, 108, 111, 103]
def tabB : List UInt8 := [46, 116, 97, 98]
def manB : List UInt8 := [77, 65, 78, 73, 70, 69, 83, 84, 45]
def pad6 (l : List UInt8) : List UInt8 := List.replicate (6 - l.length) 48 ++ l
def numB (n : Nat) : List UInt8 := pad6 (decDigits n)
def nameP (kind : Int) (n : Nat) : List UInt8 :=
  if kind = 4 then curB else if kind = 5 then tmpB else if n < 1 ∨ 1099511627776 < n then []
  else if kind = 1 then numB n ++ logB else if kind = 2 then numB n ++ tabB else if kind = 3 then manB ++ numB n else []
def isD (b : UInt8) : Bool := decide (48 ≤ b.toNat) && decide (b.toNat ≤ 57)
def digs (s : List UInt8) : List UInt8 := s.filter isD
def valN (s : List UInt8) : Nat := s.foldl (fun n b => n * 10 + (b.toNat - 48)) 0
def digV (s : List UInt8) : Nat := if 13 < (digs s).length then 0 else valN (digs s)
theorem foldl_val (l : List UInt8) : ∀ n, l.foldl (fun n b => n * 10 + (b.toNat - 48)) n = n * 10 ^ l.length + valN l := by
  unfold valN
  induction l with
  | nil => intro n; simp
  | cons b r ih =>
    intro n
    rw [List.foldl_cons, List.foldl_cons, ih, ih (0 * 10 + (b.toNat - 48)), List.length_cons, Nat.pow_succ]
    have h1 : n * (10 ^ r.length * 10) = n * 10 * 10 ^ r.length := by rw [Nat.mul_comm (10 ^ r.length) 10, Nat.mul_assoc]
    rw [Nat.add_mul, h1, Nat.zero_mul, Nat.zero_add]
    omega
theorem valN_append (l m : List UInt8) : valN (l ++ m) = valN l * 10 ^ m.length + valN m := by
  show (l ++ m).foldl _ 0 = _
  rw [List.foldl_append, foldl_val m]
  rfl
theorem valN_zeros (k : Nat) : valN (List.replicate k 48) = 0 := by
  induction k with
  | zero => rfl
  | succ k ih =>
    rw [List.replicate_succ', valN_append, ih]
    rfl
theorem digit_toNat {d : Nat} (h : d < 10) : (UInt8.ofNat (48 + d)).toNat = 48 + d := by
  rw [UInt8.toNat_ofNat']
  exact Nat.mod_eq_of_lt (by omega)
theorem digit_isD {d : Nat} (h : d < 10) : isD (UInt8.ofNat (48 + d)) = true := by
  unfold isD
  rw [digit_toNat h, decide_eq_true (by omega), decide_eq_true (by omega)]
  rfl
theorem decDigits_small {u : Nat} (h : u < 10) : decDigits u = [UInt8.ofNat (48 + u)] := by rw [decDigits, dif_pos h]
theorem decDigits_big {u : Nat} (h : ¬ u < 10) : decDigits u = decDigits (u / 10) ++ [UInt8.ofNat (48 + u % 10)] := by rw [decDigits, dif_neg h]
theorem valN_one {d : Nat} (h : d < 10) : valN [UInt8.ofNat (48 + d)] = d := by
  show 0 * 10 + ((UInt8.ofNat (48 + d)).toNat - 48) = d
  rw [digit_toNat h]
  omega
theorem valN_dec (u : Nat) : valN (decDigits u) = u := by
  induction u using Nat.strongRecOn with
  | _ u ih =>
    by_cases h : u < 10
    · rw [decDigits_small h, valN_one h]
    · rw [decDigits_big h, valN_append, ih (u / 10) (by omega), valN_one (by omega)]
      show u / 10 * 10 ^ 1 + u % 10 = u
      omega
theorem dec_all (u : Nat) : ∀ b ∈ decDigits u, isD b = true := by
  induction u using Nat.strongRecOn with
  | _ u ih =>
    by_cases h : u < 10
    · rw [decDigits_small h]
      intro b hb
      obtain rfl := List.mem_singleton.1 hb
      exact digit_isD h
    · rw [decDigits_big h]
      intro b hb
      rcases List.mem_append.1 hb with hb | hb
      · exact ih (u / 10) (by omega) b hb
      · obtain rfl := List.mem_singleton.1 hb
        exact digit_isD (by omega)
theorem numB_all (n : Nat) : ∀ b ∈ numB n, isD b = true := by
  intro b hb
  unfold numB pad6 at hb
  rcases List.mem_append.1 hb with hb | hb
  · rw [(List.mem_replicate.1 hb).2]
    rfl
  · exact dec_all n b hb
theorem digs_numB (n : Nat) : digs (numB n) = numB n := List.filter_eq_self.2 (numB_all n)
theorem valN_numB (n : Nat) : valN (numB n) = n := by
  unfold numB pad6
  rw [valN_append, valN_zeros, valN_dec]
  omega
theorem dec_len : ∀ (k u : Nat), u < 10 ^ (k + 1) → (decDigits u).length ≤ k + 1
  | 0, u, h => by
    rw [decDigits_small (by omega)]
    exact Nat.le_refl _
  | k + 1, u, h => by
    by_cases hu : u < 10
    · rw [decDigits_small hu]
      exact Nat.succ_le_succ (Nat.zero_le _)
    · rw [decDigits_big hu, List.length_append]
      have h1 := dec_len k (u / 10) (by
        rw [Nat.pow_succ] at h
        exact Nat.div_lt_of_lt_mul (by rw [Nat.mul_comm]; exact h))
      exact Nat.succ_le_succ h1
theorem numB_len {n : Nat} (h : n ≤ 1099511627776) : (numB n).length ≤ 13 ∧ 6 ≤ (numB n).length := by
  have h1 := dec_len 12 n (by omega)
  unfold numB pad6
  rw [List.length_append, List.length_replicate]
  omega
theorem nameP_log {n : Nat} (h1 : 1 ≤ n) (h2 : n ≤ 1099511627776) : nameP 1 n = numB n ++ logB := by
  unfold nameP
  rw [if_neg (by decide), if_neg (by decide), if_neg (by omega), if_pos rfl]
theorem nameP_tab {n : Nat} (h1 : 1 ≤ n) (h2 : n ≤ 1099511627776) : nameP 2 n = numB n ++ tabB := by
  unfold nameP
  rw [if_neg (by decide), if_neg (by decide), if_neg (by omega), if_neg (by decide), if_pos rfl]
theorem nameP_man {n : Nat} (h1 : 1 ≤ n) (h2 : n ≤ 1099511627776) : nameP 3 n = manB ++ numB n := by
  unfold nameP
  rw [if_neg (by decide), if_neg (by decide), if_neg (by omega), if_neg (by decide), if_neg (by decide), if_pos rfl]
theorem nameP_out {k : Int} {n : Nat} (hk : k ≠ 4 ∧ k ≠ 5) (h : n < 1 ∨ 1099511627776 < n) : nameP k n = [] := by
  unfold nameP
  rw [if_neg hk.1, if_neg hk.2, if_pos h]
def numK (k : Int) : Prop := k = 1 ∨ k = 2 ∨ k = 3
theorem digs_name {k : Int} (hk : numK k) {n : Nat} (h1 : 1 ≤ n) (h2 : n ≤ 1099511627776) : digs (nameP k n) = numB n := by
  rcases hk with rfl | rfl | rfl
  · rw [nameP_log h1 h2]
    unfold digs
    rw [List.filter_append, show List.filter isD (numB n) = numB n from digs_numB n, show List.filter isD logB = [] by decide, List.append_nil]
  · rw [nameP_tab h1 h2]
    unfold digs
    rw [List.filter_append, show List.filter isD (numB n) = numB n from digs_numB n, show List.filter isD tabB = [] by decide, List.append_nil]
  · rw [nameP_man h1 h2]
    unfold digs
    rw [List.filter_append, show List.filter isD (numB n) = numB n from digs_numB n, show List.filter isD manB = [] by decide, List.nil_append]
theorem digV_name {k : Int} (hk : numK k) {n : Nat} (h1 : 1 ≤ n) (h2 : n ≤ 1099511627776) : digV (nameP k n) = n := by
  unfold digV
  rw [digs_name hk h1 h2, if_neg (by have := numB_len h2; omega), valN_numB]
theorem name_ne {k : Int} (hk : numK k) {n : Nat} (h1 : 1 ≤ n) (h2 : n ≤ 1099511627776) : nameP k n ≠ [] ∧ nameP k n ≠ curB ∧ nameP k n ≠ tmpB := by
  have h3 : digs (nameP k n) ≠ [] := by
    rw [digs_name hk h1 h2]
    intro e
    have := (numB_len h2).2
    rw [e] at this
    simp at this
  refine ⟨fun e => h3 (by rw [e]; rfl), fun e => h3 (by rw [e]; decide), fun e => h3 (by rw [e]; decide)⟩
theorem last_name {k : Int} (hk : numK k) {n : Nat} (h1 : 1 ≤ n) (h2 : n ≤ 1099511627776) : (k = 1 → (nameP k n).getLast? = some 103) ∧ (k = 2 → (nameP k n).getLast? = some 98) ∧ (k = 3 → ∃ b, (nameP k n).getLast? = some b ∧ isD b = true) := by
  refine ⟨fun e => ?_, fun e => ?_, fun e => ?_⟩
  · subst e
    rw [nameP_log h1 h2, show logB = [46, 108, 111] ++ [103] from rfl, ← List.append_assoc, List.getLast?_append]
    rfl
  · subst e
    rw [nameP_tab h1 h2, show tabB = [46, 116, 97] ++ [98] from rfl, ← List.append_assoc, List.getLast?_append]
    rfl
  · subst e
    rw [nameP_man h1 h2]
    have hne : numB n ≠ [] := fun e => by have := (numB_len h2).2; rw [e] at this; simp at this
    refine ⟨(numB n).getLast hne, ?_, numB_all n _ (List.getLast_mem hne)⟩
    rw [List.getLast?_append, List.getLast?_eq_some_getLast hne]
    rfl
theorem name_kind {k j : Int} (hk : numK k) (hj : numK j) {n m : Nat} (h1 : 1 ≤ n) (h2 : n ≤ 1099511627776) (h3 : 1 ≤ m) (h4 : m ≤ 1099511627776) (e : nameP k n = nameP j m) : k = j ∧ n = m := by
  refine ⟨?_, by rw [← digV_name hk h1 h2, e, digV_name hj h3 h4]⟩
  have a := last_name hk h1 h2
  have b := last_name hj h3 h4
  rw [e] at a
  rcases hk with rfl | rfl | rfl <;> rcases hj with rfl | rfl | rfl
  · rfl
  · have x := a.1 rfl
    rw [b.2.1 rfl] at x
    exact absurd x (by decide)
  · obtain ⟨c, x, y⟩ := b.2.2 rfl
    rw [a.1 rfl] at x
    obtain rfl := Option.some.inj x
    exact absurd y (by decide)
  · have x := a.2.1 rfl
    rw [b.1 rfl] at x
    exact absurd x (by decide)
  · rfl
  · obtain ⟨c, x, y⟩ := b.2.2 rfl
    rw [a.2.1 rfl] at x
    obtain rfl := Option.some.inj x
    exact absurd y (by decide)
  · obtain ⟨c, x, y⟩ := a.2.2 rfl
    rw [b.1 rfl] at x
    obtain rfl := Option.some.inj x
    exact absurd y (by decide)
  · obtain ⟨c, x, y⟩ := a.2.2 rfl
    rw [b.2.1 rfl] at x
    obtain rfl := Option.some.inj x
    exact absurd y (by decide)
  · rfl
structure Names (s : List UInt8) (k : Int) (n : Nat) : Prop where
  cur : s = curB → k = 4 ∧ n = 0
  tmp : s = tmpB → k = 5 ∧ n = 0
  num : ∀ j m, numK j → 1 ≤ m → m ≤ 1099511627776 → s = nameP j m → k = j ∧ n = m
  none : s ≠ curB → s ≠ tmpB → (∀ j m, numK j → 1 ≤ m → m ≤ 1099511627776 → s ≠ nameP j m) → k = 0 ∧ n = 0
theorem Names.same {s : List UInt8} {k j : Int} {n m : Nat} (h : Names s k n) (g : Names s j m) : k = j ∧ n = m := by
  by_cases h1 : s = curB
  · obtain ⟨rfl, rfl⟩ := h.cur h1
    obtain ⟨rfl, rfl⟩ := g.cur h1
    exact ⟨rfl, rfl⟩
  by_cases h2 : s = tmpB
  · obtain ⟨rfl, rfl⟩ := h.tmp h2
    obtain ⟨rfl, rfl⟩ := g.tmp h2
    exact ⟨rfl, rfl⟩
  by_cases h3 : ∃ i q, numK i ∧ 1 ≤ q ∧ q ≤ 1099511627776 ∧ s = nameP i q
  · obtain ⟨i, q, a, b, c, e⟩ := h3
    obtain ⟨rfl, rfl⟩ := h.num i q a b c e
    obtain ⟨rfl, rfl⟩ := g.num k n a b c e
    exact ⟨rfl, rfl⟩
  · have h4 : ∀ i q, numK i → 1 ≤ q → q ≤ 1099511627776 → s ≠ nameP i q := fun i q a b c e => h3 ⟨i, q, a, b, c, e⟩
    obtain ⟨rfl, rfl⟩ := h.none h1 h2 h4
    obtain ⟨rfl, rfl⟩ := g.none h1 h2 h4
    exact ⟨rfl, rfl⟩
theorem Names.back {s : List UInt8} {k : Int} {n : Nat} (h : Names s k n) (hk : k ≠ 0) : nameP k n = s := by
  by_cases h1 : s = curB
  · obtain ⟨rfl, rfl⟩ := h.cur h1
    rw [h1]
    rfl
  by_cases h2 : s = tmpB
  · obtain ⟨rfl, rfl⟩ := h.tmp h2
    rw [h2]
    rfl
  by_cases h3 : ∃ i q, numK i ∧ 1 ≤ q ∧ q ≤ 1099511627776 ∧ s = nameP i q
  · obtain ⟨i, q, a, b, c, e⟩ := h3
    obtain ⟨rfl, rfl⟩ := h.num i q a b c e
    exact e.symm
  · exact absurd (h.none h1 h2 (fun i q a b c e => h3 ⟨i, q, a, b, c, e⟩)).1 hk
theorem Names.made {k : Int} {n : Nat} (h : nameP k n ≠ []) {j : Int} {m : Nat} (g : Names (nameP k n) j m) : j = k ∧ (k < 4 → m = n) := by
  by_cases h4 : k = 4
  · subst h4
    have h5 := g.cur rfl
    exact ⟨h5.1, fun h => absurd h (by decide)⟩
  by_cases h5 : k = 5
  · subst h5
    have h6 := g.tmp rfl
    exact ⟨h6.1, fun h => absurd h (by decide)⟩
  by_cases hn : n < 1 ∨ 1099511627776 < n
  · exact absurd (nameP_out ⟨h4, h5⟩ hn) h
  by_cases hk : numK k
  · have h6 := g.num k n hk (by omega) (by omega) rfl
    exact ⟨h6.1, fun _ => h6.2⟩
  · refine absurd ?_ h
    unfold numK at hk
    unfold nameP
    rw [if_neg h4, if_neg h5, if_neg hn, if_neg (fun e => hk (.inl e)), if_neg (fun e => hk (.inr (.inl e))), if_neg (fun e => hk (.inr (.inr e)))]
def parseR (s : List UInt8) : Int × Nat :=
  if s = curB then (4, 0) else if s = tmpB then (5, 0)
  else if nameP 1 (digV s) = s ∧ s ≠ [] then (1, digV s)
  else if nameP 2 (digV s) = s ∧ s ≠ [] then (2, digV s)
  else if nameP 3 (digV s) = s ∧ s ≠ [] then (3, digV s) else (0, 0)
theorem made_some {k : Int} (hk : numK k) {s : List UInt8} (h : nameP k (digV s) = s ∧ s ≠ []) : 1 ≤ digV s ∧ digV s ≤ 1099511627776 := by
  by_cases hn : digV s < 1 ∨ 1099511627776 < digV s
  · rw [nameP_out (by rcases hk with rfl | rfl | rfl <;> decide) hn] at h
    exact absurd h.1.symm h.2
  · omega
theorem parseR_names (s : List UInt8) : Names s (parseR s).1 (parseR s).2 := by
  unfold parseR
  by_cases h1 : s = curB
  · rw [if_pos h1]
    refine ⟨fun _ => ⟨rfl, rfl⟩, fun e => absurd (h1.symm.trans e) (by decide), fun j m a b c e => ?_, fun e => absurd h1 e⟩
    exact absurd (e.symm.trans h1) (name_ne a b c).2.1
  rw [if_neg h1]
  by_cases h2 : s = tmpB
  · rw [if_pos h2]
    refine ⟨fun e => absurd e h1, fun _ => ⟨rfl, rfl⟩, fun j m a b c e => ?_, fun _ e => absurd h2 e⟩
    exact absurd (e.symm.trans h2) (name_ne a b c).2.2
  rw [if_neg h2]
  have key : ∀ {k : Int}, numK k → (nameP k (digV s) = s ∧ s ≠ []) → Names s k (digV s) := fun {k} hk h => by
    obtain ⟨a1, a2⟩ := made_some hk h
    refine ⟨fun e => absurd e h1, fun e => absurd e h2, fun j m a b c e => ?_, fun _ _ e => absurd h.1.symm (e k _ hk a1 a2)⟩
    exact name_kind hk a a1 a2 b c (h.1.trans e)
  by_cases h3 : nameP 1 (digV s) = s ∧ s ≠ []
  · rw [if_pos h3]
    exact key (.inl rfl) h3
  rw [if_neg h3]
  by_cases h4 : nameP 2 (digV s) = s ∧ s ≠ []
  · rw [if_pos h4]
    exact key (.inr (.inl rfl)) h4
  rw [if_neg h4]
  by_cases h5 : nameP 3 (digV s) = s ∧ s ≠ []
  · rw [if_pos h5]
    exact key (.inr (.inr rfl)) h5
  rw [if_neg h5]
  refine ⟨fun e => absurd e h1, fun e => absurd e h2, fun j m a b c e => ?_, fun _ _ _ => ⟨rfl, rfl⟩⟩
  have h6 : nameP j (digV s) = s ∧ s ≠ [] := by
    rw [e, digV_name a b c]
    exact ⟨rfl, (name_ne a b c).1⟩
  rcases a with rfl | rfl | rfl
  · exact absurd h6 h3
  · exact absurd h6 h4
  · exact absurd h6 h5
end Go.Proofs.YtmlfbihlbiikeaaGreatDoor
