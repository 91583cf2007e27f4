/- What a row of this seat gives its walk beside Laid: a Raw opened. -/
import Derived.Test.YtidjbpglpobigaaDoorRows
import Derived.Test.YtidjbpglpobigaaDoorLaid
import Derived.Test.YtidjbpglpobigaaDoorIpPkf
import Derived.WalkKit
import Derived.ProofKit
import Derived.OpenShut
import Derived.ShutString
import Derived.Below
import Derived.Carry
import Derived.ChangeSlices
import Derived.Deep.Slices
import Derived.Deep.Fields
import Derived.ChangeSame
namespace Go.Proofs.YtidjbpglpobigaaDoor
open Go.ChangeShapes Go.WideShapes Go.ChangeAt Go.RowKit Go.Deep
set_option linter.unusedVariables false

theorem laid5 : laidOutB Tryd.prog = true := by kernel_rfl
section
variable {H : Type} {enc : TypeId × Value → H}

set_option maxRecDepth 100000 in
theorem raw_cells {W : World} {base fuel : Nat} {sp : Nat → Bool} {held : Bool} {cs : List Value} {x : DataW H × List MemPlace} (hl : cs.length = 9) (h : DataW.trod enc Tryd.prog W base sp held fuel 37 cs = some x) :
    ∃ y : Rw, cs = [.int .i64 y.a0, .int .i64 y.a1, .int .i64 y.a2, .int .i64 y.a3, .int .i64 y.a4, .int .i64 y.fl, .int .i64 y.off, .int .i64 y.lg, .string y.s] ∧ y.ok := by
  obtain ⟨xs, n, _, hx, _, hlen, hg⟩ := DataW.trod_struct Tryd.underlying37 h
  match cs, hl, xs, hlen with
  | [c0, c1, c2, c3, c4, c5, c6, c7, c8], _, [y0, y1, y2, y3, y4, y5, y6, y7, y8], _ =>
    have g0 : DataW.trod enc Tryd.prog W base sp held n 3 [c0] = some y0 := hg 0 _ rfl
    have g1 : DataW.trod enc Tryd.prog W base sp held n 3 [c1] = some y1 := hg 1 _ rfl
    have g2 : DataW.trod enc Tryd.prog W base sp held n 3 [c2] = some y2 := hg 2 _ rfl
    have g3 : DataW.trod enc Tryd.prog W base sp held n 3 [c3] = some y3 := hg 3 _ rfl
    have g4 : DataW.trod enc Tryd.prog W base sp held n 3 [c4] = some y4 := hg 4 _ rfl
    have g5 : DataW.trod enc Tryd.prog W base sp held n 3 [c5] = some y5 := hg 5 _ rfl
    have g6 : DataW.trod enc Tryd.prog W base sp held n 3 [c6] = some y6 := hg 6 _ rfl
    have g7 : DataW.trod enc Tryd.prog W base sp held n 3 [c7] = some y7 := hg 7 _ rfl
    have g8 : DataW.trod enc Tryd.prog W base sp held n 9 [c8] = some y8 := hg 8 _ rfl
    obtain ⟨a0, e0, -, w0⟩ := DataW.trod_int Tryd.underlying3 g0
    obtain ⟨a1, e1, -, w1⟩ := DataW.trod_int Tryd.underlying3 g1
    obtain ⟨a2, e2, -, w2⟩ := DataW.trod_int Tryd.underlying3 g2
    obtain ⟨a3, e3, -, w3⟩ := DataW.trod_int Tryd.underlying3 g3
    obtain ⟨a4, e4, -, w4⟩ := DataW.trod_int Tryd.underlying3 g4
    obtain ⟨a5, e5, -, w5⟩ := DataW.trod_int Tryd.underlying3 g5
    obtain ⟨a6, e6, -, w6⟩ := DataW.trod_int Tryd.underlying3 g6
    obtain ⟨a7, e7, -, w7⟩ := DataW.trod_int Tryd.underlying3 g7
    obtain ⟨s8, e8, -, w8⟩ := DataW.trod_string Tryd.underlying9 g8
    simp at e0 e1 e2 e3 e4 e5 e6 e7 e8
    subst e0 e1 e2 e3 e4 e5 e6 e7 e8
    exact ⟨⟨a0, a1, a2, a3, a4, a5, a6, a7, s8⟩, rfl, ⟨bd64 w0, bd64 w1, bd64 w2, bd64 w3, bd64 w4, bd64 w5, bd64 w6, bd64 w7, w8⟩⟩

set_option maxRecDepth 100000 in
theorem opn_raw {W : World} {b0 : Nat} {v : Value} {d : DataW H} {p : List MemPlace} (hv : Value.okWide Tryd.prog W .any b0 37 v) (h : DataW.Trod enc Tryd.prog W 0 (fun _ => true) true 37 v d p) : ∃ x : Rw, v = rv x ∧ x.ok := by
  obtain ⟨cs, rfl, hsz⟩ := okWide_struct Tryd.underlying37 hv
  obtain ⟨fuel, hf⟩ := h
  have hC : Tryd.prog.cellsOf 37 = 9 := by kernel_rfl
  obtain ⟨y, e, hy⟩ := raw_cells (cs := cs.toList) (by rw [Array.length_toList, hsz, hC]) (by simpa [Value.cells] using hf)
  exact ⟨y, by rw [← Array.toArray_toList (xs := cs), e], hy⟩
end
end Go.Proofs.YtidjbpglpobigaaDoor
