/- More arguments opened: a message, a call. -/
import Derived.Test.YtpkfjlbjahghgaaAlaid
import Derived.Test.YtpkfjlbjahghgaaAwMsg
import Derived.Deep.Slices
import Derived.Deep.Fields
import Derived.ChangeSame
namespace Go.Proofs.Ytpkfjlbjahghgaa
open Go.ChangeShapes Go.WideShapes Go.ChangeAt Go.RowKit Go.Deep
set_option linter.unusedVariables false
section
variable {H : Type} {enc : TypeId × Value → H}

/-- a message -/
structure Mg where
  o : Int
  f : Int
  m : Int
  t : Int
  n : Int
structure Mg.ok (x : Mg) : Prop where
  o : b64 x.o
  f : b64 x.f
  m : b64 x.m
  t : b64 x.t
  n : b64 x.n
abbrev mgv (x : Mg) : Value := av x.o x.f x.m x.t x.n

set_option maxRecDepth 100000 in
theorem msg_cells {W : World} {base fuel : Nat} {sp : Nat → Bool} {held : Bool} {cs : List Value} {x : DataW H × List MemPlace} (hl : cs.length = 5) (h : DataW.trod enc Try.prog W base sp held fuel 23 cs = some x) :
    ∃ y : Mg, cs = [.int .i64 y.o, .int .i64 y.f, .int .i64 y.m, .int .i64 y.t, .int .i64 y.n] ∧ y.ok := by
  obtain ⟨xs, n, _, hx, _, hlen, hg⟩ := DataW.trod_struct Try.underlying23 h
  match cs, hl, xs, hlen with
  | [c0, c1, c2, c3, c4], _, [y0, y1, y2, y3, y4], _ =>
    have g0 : DataW.trod enc Try.prog W base sp held n 3 [c0] = some y0 := hg 0 _ rfl
    have g1 : DataW.trod enc Try.prog W base sp held n 3 [c1] = some y1 := hg 1 _ rfl
    have g2 : DataW.trod enc Try.prog W base sp held n 3 [c2] = some y2 := hg 2 _ rfl
    have g3 : DataW.trod enc Try.prog W base sp held n 3 [c3] = some y3 := hg 3 _ rfl
    have g4 : DataW.trod enc Try.prog W base sp held n 3 [c4] = some y4 := hg 4 _ rfl
    obtain ⟨a0, e0, -, w0⟩ := DataW.trod_int Try.underlying3 g0
    obtain ⟨a1, e1, -, w1⟩ := DataW.trod_int Try.underlying3 g1
    obtain ⟨a2, e2, -, w2⟩ := DataW.trod_int Try.underlying3 g2
    obtain ⟨a3, e3, -, w3⟩ := DataW.trod_int Try.underlying3 g3
    obtain ⟨a4, e4, -, w4⟩ := DataW.trod_int Try.underlying3 g4
    simp at e0 e1 e2 e3 e4
    subst e0 e1 e2 e3 e4
    exact ⟨⟨a0, a1, a2, a3, a4⟩, rfl, ⟨bd64 w0, bd64 w1, bd64 w2, bd64 w3, bd64 w4⟩⟩

set_option maxRecDepth 100000 in
theorem call_cells {W : World} {base fuel : Nat} {sp : Nat → Bool} {held : Bool} {cs : List Value} {x : DataW H × List MemPlace} (hl : cs.length = 12) (h : DataW.trod enc Try.prog W base sp held fuel 25 cs = some x) :
    ∃ c : Cl, cs = [.int .u8 c.k, .int .i64 c.a, .int .i64 c.m, .int .i64 c.t, .int .i64 c.o, .string c.s, .int .i64 c.ti, .int .i64 c.x1, .int .i64 c.x2, .int .i64 c.x3, .int .i64 c.x4, .int .i64 c.x5] ∧ c.ok := by
  obtain ⟨xs, n, _, hx, _, hlen, hg⟩ := DataW.trod_struct Try.underlying25 h
  match cs, hl, xs, hlen with
  | [c0, c1, c2, c3, c4, c5, c6, c7, c8, c9, c10, c11], _, [y0, y1, y2, y3, y4, y5, y6, y7], _ =>
    have g0 : DataW.trod enc Try.prog W base sp held n 5 [c0] = some y0 := hg 0 _ rfl
    have g1 : DataW.trod enc Try.prog W base sp held n 3 [c1] = some y1 := hg 1 _ rfl
    have g2 : DataW.trod enc Try.prog W base sp held n 3 [c2] = some y2 := hg 2 _ rfl
    have g3 : DataW.trod enc Try.prog W base sp held n 3 [c3] = some y3 := hg 3 _ rfl
    have g4 : DataW.trod enc Try.prog W base sp held n 3 [c4] = some y4 := hg 4 _ rfl
    have g5 : DataW.trod enc Try.prog W base sp held n 9 [c5] = some y5 := hg 5 _ rfl
    have g6 : DataW.trod enc Try.prog W base sp held n 3 [c6] = some y6 := hg 6 _ rfl
    have g7 : DataW.trod enc Try.prog W base sp held n 23 [c7, c8, c9, c10, c11] = some y7 := hg 7 _ rfl
    obtain ⟨a0, e0, -, w0⟩ := DataW.trod_int Try.underlying5 g0
    obtain ⟨a1, e1, -, w1⟩ := DataW.trod_int Try.underlying3 g1
    obtain ⟨a2, e2, -, w2⟩ := DataW.trod_int Try.underlying3 g2
    obtain ⟨a3, e3, -, w3⟩ := DataW.trod_int Try.underlying3 g3
    obtain ⟨a4, e4, -, w4⟩ := DataW.trod_int Try.underlying3 g4
    obtain ⟨s5, e5, -, w5⟩ := DataW.trod_string Try.underlying9 g5
    obtain ⟨a6, e6, -, w6⟩ := DataW.trod_int Try.underlying3 g6
    obtain ⟨y, e7, hy⟩ := msg_cells rfl g7
    simp at e0 e1 e2 e3 e4 e5 e6 e7
    obtain ⟨e7, e8, e9, e10, e11⟩ := e7
    subst e0 e1 e2 e3 e4 e5 e6 e7 e8 e9 e10 e11
    exact ⟨⟨a0, a1, a2, a3, a4, s5, a6, y.o, y.f, y.m, y.t, y.n⟩, rfl, ⟨bounds_u8 w0, bd64 w1, bd64 w2, bd64 w3, bd64 w4, w5, bd64 w6, hy.o, hy.f, hy.m, hy.t, hy.n⟩⟩

set_option maxRecDepth 100000 in
theorem opn_msg {W : World} {b0 : Nat} {v : Value} {d : DataW H} {p : List MemPlace} (hv : Value.okWide Try.prog W .any b0 23 v) (h : DataW.Trod enc Try.prog W 0 (fun _ => true) true 23 v d p) : ∃ x : Mg, v = mgv x ∧ x.ok := by
  obtain ⟨cs, rfl, hsz⟩ := okWide_struct Try.underlying23 hv
  obtain ⟨fuel, hf⟩ := h
  have hC : Try.prog.cellsOf 23 = 5 := by kernel_rfl
  obtain ⟨y, e, hy⟩ := msg_cells (cs := cs.toList) (by rw [Array.length_toList, hsz, hC]) (by simpa [Value.cells] using hf)
  exact ⟨y, by rw [← Array.toArray_toList (xs := cs), e], hy⟩

set_option maxRecDepth 100000 in
theorem opn_call {W : World} {b0 : Nat} {v : Value} {d : DataW H} {p : List MemPlace} (hv : Value.okWide Try.prog W .any b0 25 v) (h : DataW.Trod enc Try.prog W 0 (fun _ => true) true 25 v d p) : ∃ c : Cl, v = clv c ∧ c.ok := by
  obtain ⟨cs, rfl, hsz⟩ := okWide_struct Try.underlying25 hv
  obtain ⟨fuel, hf⟩ := h
  have hC : Try.prog.cellsOf 25 = 12 := by kernel_rfl
  obtain ⟨y, e, hy⟩ := call_cells (cs := cs.toList) (by rw [Array.length_toList, hsz, hC]) (by simpa [Value.cells] using hf)
  exact ⟨y, by rw [← Array.toArray_toList (xs := cs), e], hy⟩
end
end Go.Proofs.Ytpkfjlbjahghgaa
