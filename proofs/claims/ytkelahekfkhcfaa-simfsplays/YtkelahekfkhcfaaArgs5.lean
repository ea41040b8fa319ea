/- Calls as arguments: what a reading of one gives. -/
import Derived.Test.YtkelahekfkhcfaaArgs4
import Derived.Deep.Strs
import Derived.ChangeSame
import Derived.SizedLaws
import Derived.WideShapes
namespace Go.Proofs.Ytkelahekfkhcfaa
open Go.ChangeShapes Go.WideShapes Go.RowKit

/-- A call, as the law's struct holds it. -/
structure CallV where
  kind : Int
  name : ByteArray
  to : ByteArray
  ba : Option Addr
  bl : Nat
  bc : Nat
  bs : List UInt8
  n : Int
  pa : Option Addr
  pl : Nat
  pc : Nat
  ps : List Int
def CallV.cells (c : CallV) : List Value := [.int .i64 c.kind, .string c.name, .string c.to, .slice c.ba c.bl c.bc, .int .i64 c.n, .slice c.pa c.pl c.pc]
structure CallV.Ok (w : World) (c : CallV) : Prop where
  kindWf : (Lit.int .i64 c.kind).wf = true
  nWf : (Lit.int .i64 c.n).wf = true
  bytes : BsAt w c.ba c.bl c.bc c.bs
  picks : IsAt w c.pa c.pl c.pc c.ps
set_option maxRecDepth 100000 in
theorem CallV.Ok.below {B : Nat} {w w' : World} {c : CallV} (h : c.Ok w) (hB : w.heap.size ≤ B) (hb : Below B w w') : c.Ok w' := ⟨h.kindWf, h.nWf, h.bytes.below hB hb, h.picks.below hB hb⟩

set_option maxRecDepth 100000 in
theorem cells_call : Try.prog.cellsOf 35 = 6 := by kernel_rfl
set_option maxRecDepth 100000 in
theorem cells_cstr : Try.prog.cellsOf 9 = 1 := by kernel_rfl
set_option maxRecDepth 100000 in
theorem cells_cint : Try.prog.cellsOf 3 = 1 := by kernel_rfl
set_option maxRecDepth 100000 in
theorem cells_cbs : Try.prog.cellsOf 32 = 1 := by kernel_rfl
set_option maxRecDepth 100000 in
theorem cells_cis : Try.prog.cellsOf 33 = 1 := by kernel_rfl

section
variable {H : Type} {enc : TypeId × Value → H} {w : World} {base : Nat} {sp : Nat → Bool} {held : Bool}
set_option maxRecDepth 100000 in
theorem open_bs {fuel : Nat} {cs : List Value} {x : DataW H × List MemPlace} (h : DataW.trod enc Try.prog w base (fun _ => true) held fuel 32 cs = some x) : ∃ a len cap bs, cs = [.slice a len cap] ∧ BsAt w a len cap bs := by
  rcases open_ints Try.underlying32 Try.underlying5 (by kernel_rfl) h with ⟨hcs, _⟩ | ⟨x, l, c, zs, hcs, _, hl, hm, hz, _, hcell, hwz⟩
  · exact ⟨none, 0, 0, [], hcs, BsAt.nil w⟩
  · exact ⟨some x, l, c, _, hcs, BsAt.ofInts hl hm (by simpa using hz) hcell hwz⟩
set_option maxRecDepth 100000 in
theorem open_is {fuel : Nat} {cs : List Value} {x : DataW H × List MemPlace} (h : DataW.trod enc Try.prog w base (fun _ => true) held fuel 33 cs = some x) : ∃ a len cap l, cs = [.slice a len cap] ∧ IsAt w a len cap l := by
  rcases open_ints Try.underlying33 Try.underlying3 (by kernel_rfl) h with ⟨hcs, _⟩ | ⟨x, l, c, zs, hcs, _, hl, hm, hz, _, hcell, hwz⟩
  · exact ⟨none, 0, 0, [], hcs, IsAt.nil w⟩
  · exact ⟨some x, l, c, _, hcs, IsAt.ofInts hl hm (by simpa using hz) hcell hwz⟩
set_option maxRecDepth 100000 in
theorem open_callC {n : Nat} {cs : List Value} {y : DataW H × List MemPlace} (h : DataW.trod enc Try.prog w base (fun _ => true) held n 35 cs = some y) : ∃ c : CallV, cs = c.cells ∧ c.Ok w := by
  obtain ⟨xs, m, _, _, hl, hlen, hf⟩ := DataW.trod_struct Try.underlying35 h
  rw [cells_call] at hl
  match cs, hl with
  | [c0, c1, c2, c3, c4, c5], _ =>
  match xs, hlen with
  | [y0, y1, y2, y3, y4, y5], _ =>
  have h0 := hf 0 _ rfl
  have h1 := hf 1 _ rfl
  have h2 := hf 2 _ rfl
  have h3 := hf 3 _ rfl
  have h4 := hf 4 _ rfl
  have h5 := hf 5 _ rfl
  obtain ⟨k, e0, _, wk⟩ := DataW.trod_int Try.underlying3 h0
  obtain ⟨s, e1, _, _⟩ := DataW.trod_string Try.underlying9 h1
  obtain ⟨t, e2, _, _⟩ := DataW.trod_string Try.underlying9 h2
  obtain ⟨a3, l3, k3, b3, e3, w3⟩ := open_bs h3
  obtain ⟨n, e4, _, wn⟩ := DataW.trod_int Try.underlying3 h4
  obtain ⟨a5, l5, k5, b5, e5, w5⟩ := open_is h5
  simp [cells_cint, cells_cstr, cells_cbs, cells_cis] at e0 e1 e2 e3 e4 e5
  subst e0 e1 e2 e3 e4 e5
  exact ⟨⟨k, s, t, a3, l3, k3, b3, n, a5, l5, k5, b5⟩, rfl, wk, wn, w3, w5⟩
set_option maxRecDepth 100000 in
theorem open_call {r : Reach} {b0 : Nat} {v : Value} {d : DataW H} {ps : List MemPlace} (hval : Value.okWide Try.prog w r b0 35 v) (hd : DataW.Trod enc Try.prog w base (fun _ => true) held 35 v d ps) :
    ∃ c : CallV, v = .agg c.cells.toArray ∧ c.Ok w := by
  obtain ⟨cs, rfl, hsz⟩ := okWide_struct Try.underlying35 hval
  obtain ⟨fuel, hf⟩ := hd
  obtain ⟨c, hc, hok⟩ := open_callC hf
  refine ⟨c, ?_, hok⟩
  have : cs.toList = c.cells := by simpa [Value.cells] using hc
  rw [← this]
end
end Go.Proofs.Ytkelahekfkhcfaa
