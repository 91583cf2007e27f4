/- What a row of this seat gives its walk: the arguments opened. -/
import Derived.Test.YtgfcpimklmgnbaaRows
import Derived.Test.YtgfcpimklmgnbaaRoK
import Derived.WalkKit
import Derived.ProofKit
import Derived.OpenShut
import Derived.ShutString
import Derived.Below
import Derived.Carry
import Derived.ChangeSlices
import Derived.Deep.Slices
import Derived.Deep.Fields
import Derived.ChangeSame
namespace Go.Proofs.Ytgfcpimklmgnbaa
open Go.ChangeShapes Go.WideShapes Go.ChangeAt Go.RowKit Go.Deep
set_option linter.unusedVariables false

theorem laid9 : laidOutB Try.prog = true := by kernel_rfl
theorem bd64 {a : Int} (h : (Lit.int .i64 a).wf = true) : -9223372036854775808 ≤ a ∧ a ≤ 9223372036854775807 := by
  simpa [Lit.wf, IntKind.min, IntKind.max, IntKind.signed, IntKind.bits] using h
theorem list_of {α : Type} {P : Nat → α → Prop} : ∀ n, (∀ i, i < n → ∃ c, P i c) → ∃ l : List α, l.length = n ∧ ∀ (i : Nat) (h : i < l.length), P i l[i]
  | 0, _ => ⟨[], rfl, fun i h => by simp at h⟩
  | n + 1, h => by
    obtain ⟨l, h1, h2⟩ := list_of n (fun i hi => h i (by omega))
    obtain ⟨c, hc⟩ := h n (by omega)
    refine ⟨l ++ [c], by simp [h1], fun i hi => ?_⟩
    by_cases hin : i < l.length
    · rw [List.getElem_append_left hin]; exact h2 i hin
    · have : i = n := by simp at hi; omega
      subst this
      rw [List.getElem_append_right (by omega)]
      simpa [h1] using hc
section
variable {H : Type} {enc : TypeId × Value → H}

set_option maxRecDepth 100000 in
theorem pfx_cells {W : World} {base fuel : Nat} {sp : Nat → Bool} {held : Bool} {cs : List Value} {x : DataW H × List MemPlace} (hl : cs.length = 2) (h : DataW.trod enc Try.prog W base sp held fuel 25 cs = some x) :
    ∃ a0 a1 : Int, cs = [.int .i64 a0, .int .i64 a1] ∧ InI a0 ∧ InI a1 := by
  obtain ⟨xs, n, _, hx, _, hlen, hg⟩ := DataW.trod_struct Try.underlying25 h
  match cs, hl, xs, hlen with
  | [c0, c1], _, [y0, y1], _ =>
    have g0 : DataW.trod enc Try.prog W base sp held n 3 [c0] = some y0 := hg 0 _ rfl
    obtain ⟨a0, e0, -, w0⟩ := DataW.trod_int Try.underlying3 g0
    have w0 := bd64 w0
    have g1 : DataW.trod enc Try.prog W base sp held n 3 [c1] = some y1 := hg 1 _ rfl
    obtain ⟨a1, e1, -, w1⟩ := DataW.trod_int Try.underlying3 g1
    have w1 := bd64 w1
    simp at e0 e1
    subst e0 e1
    exact ⟨a0, a1, rfl, w0, w1⟩

set_option maxRecDepth 100000 in
theorem fc_cells {W : World} {base fuel : Nat} {sp : Nat → Bool} {held : Bool} {cs : List Value} {x : DataW H × List MemPlace} (hl : cs.length = 5) (h : DataW.trod enc Try.prog W base sp held fuel 27 cs = some x) :
    ∃ a0 a1 a2 a3 a4 : Int, cs = [.int .i64 a0, .int .i64 a1, .int .i64 a2, .int .i64 a3, .int .i64 a4] ∧ InI a0 ∧ InI a1 ∧ InI a2 ∧ InI a3 ∧ InI a4 := by
  obtain ⟨xs, n, _, hx, _, hlen, hg⟩ := DataW.trod_struct Try.underlying27 h
  match cs, hl, xs, hlen with
  | [c0, c1, c2, c3, c4], _, [y0, y1, y2, y3], _ =>
    have g0 : DataW.trod enc Try.prog W base sp held n 3 [c0] = some y0 := hg 0 _ rfl
    obtain ⟨a0, e0, -, w0⟩ := DataW.trod_int Try.underlying3 g0
    have w0 := bd64 w0
    have g1 : DataW.trod enc Try.prog W base sp held n 3 [c1] = some y1 := hg 1 _ rfl
    obtain ⟨a1, e1, -, w1⟩ := DataW.trod_int Try.underlying3 g1
    have w1 := bd64 w1
    have g2 : DataW.trod enc Try.prog W base sp held n 25 [c2, c3] = some y2 := hg 2 _ rfl
    obtain ⟨a2, a3, e2, w2, w3⟩ := pfx_cells rfl g2
    have g3 : DataW.trod enc Try.prog W base sp held n 3 [c4] = some y3 := hg 3 _ rfl
    obtain ⟨a4, e4, -, w4⟩ := DataW.trod_int Try.underlying3 g3
    have w4 := bd64 w4
    simp at e0 e1 e2 e4
    obtain ⟨e2, e3⟩ := e2
    subst e0 e1 e2 e3 e4
    exact ⟨a0, a1, a2, a3, a4, rfl, w0, w1, w2, w3, w4⟩

set_option maxRecDepth 100000 in
theorem ro_cells {W : World} {base fuel : Nat} {sp : Nat → Bool} {held : Bool} {cs : List Value} {x : DataW H × List MemPlace} (hl : cs.length = 4) (h : DataW.trod enc Try.prog W base sp held fuel 29 cs = some x) :
    ∃ a0 a1 a2 a3 : Int, cs = [.int .i64 a0, .int .i64 a1, .int .i64 a2, .int .i64 a3] ∧ InI a0 ∧ InI a1 ∧ InI a2 ∧ InI a3 := by
  obtain ⟨xs, n, _, hx, _, hlen, hg⟩ := DataW.trod_struct Try.underlying29 h
  match cs, hl, xs, hlen with
  | [c0, c1, c2, c3], _, [y0, y1, y2], _ =>
    have g0 : DataW.trod enc Try.prog W base sp held n 25 [c0, c1] = some y0 := hg 0 _ rfl
    obtain ⟨a0, a1, e0, w0, w1⟩ := pfx_cells rfl g0
    have g1 : DataW.trod enc Try.prog W base sp held n 3 [c2] = some y1 := hg 1 _ rfl
    obtain ⟨a2, e2, -, w2⟩ := DataW.trod_int Try.underlying3 g1
    have w2 := bd64 w2
    have g2 : DataW.trod enc Try.prog W base sp held n 3 [c3] = some y2 := hg 2 _ rfl
    obtain ⟨a3, e3, -, w3⟩ := DataW.trod_int Try.underlying3 g2
    have w3 := bd64 w3
    simp at e0 e2 e3
    obtain ⟨e0, e1⟩ := e0
    subst e0 e1 e2 e3
    exact ⟨a0, a1, a2, a3, rfl, w0, w1, w2, w3⟩

set_option maxRecDepth 100000 in
theorem fr_cells {W : World} {base fuel : Nat} {sp : Nat → Bool} {held : Bool} {cs : List Value} {x : DataW H × List MemPlace} (hl : cs.length = 3) (h : DataW.trod enc Try.prog W base sp held fuel 55 cs = some x) :
    ∃ a0 a1 a2 : Int, cs = [.int .i64 a0, .int .i64 a1, .int .i64 a2] ∧ InI a0 ∧ InI a1 ∧ InI a2 := by
  obtain ⟨xs, n, _, hx, _, hlen, hg⟩ := DataW.trod_struct Try.underlying55 h
  match cs, hl, xs, hlen with
  | [c0, c1, c2], _, [y0, y1, y2], _ =>
    have g0 : DataW.trod enc Try.prog W base sp held n 3 [c0] = some y0 := hg 0 _ rfl
    obtain ⟨a0, e0, -, w0⟩ := DataW.trod_int Try.underlying3 g0
    have w0 := bd64 w0
    have g1 : DataW.trod enc Try.prog W base sp held n 3 [c1] = some y1 := hg 1 _ rfl
    obtain ⟨a1, e1, -, w1⟩ := DataW.trod_int Try.underlying3 g1
    have w1 := bd64 w1
    have g2 : DataW.trod enc Try.prog W base sp held n 3 [c2] = some y2 := hg 2 _ rfl
    obtain ⟨a2, e2, -, w2⟩ := DataW.trod_int Try.underlying3 g2
    have w2 := bd64 w2
    simp at e0 e1 e2
    subst e0 e1 e2
    exact ⟨a0, a1, a2, rfl, w0, w1, w2⟩

set_option maxRecDepth 100000 in
theorem rr_cells {W : World} {base fuel : Nat} {sp : Nat → Bool} {held : Bool} {cs : List Value} {x : DataW H × List MemPlace} (hl : cs.length = 4) (h : DataW.trod enc Try.prog W base sp held fuel 59 cs = some x) :
    ∃ a0 a1 a2 a3 : Int, cs = [.int .i64 a0, .int .i64 a1, .int .i64 a2, .int .i64 a3] ∧ InI a0 ∧ InI a1 ∧ InI a2 ∧ InI a3 := by
  obtain ⟨xs, n, _, hx, _, hlen, hg⟩ := DataW.trod_struct Try.underlying59 h
  match cs, hl, xs, hlen with
  | [c0, c1, c2, c3], _, [y0, y1, y2, y3], _ =>
    have g0 : DataW.trod enc Try.prog W base sp held n 3 [c0] = some y0 := hg 0 _ rfl
    obtain ⟨a0, e0, -, w0⟩ := DataW.trod_int Try.underlying3 g0
    have w0 := bd64 w0
    have g1 : DataW.trod enc Try.prog W base sp held n 3 [c1] = some y1 := hg 1 _ rfl
    obtain ⟨a1, e1, -, w1⟩ := DataW.trod_int Try.underlying3 g1
    have w1 := bd64 w1
    have g2 : DataW.trod enc Try.prog W base sp held n 3 [c2] = some y2 := hg 2 _ rfl
    obtain ⟨a2, e2, -, w2⟩ := DataW.trod_int Try.underlying3 g2
    have w2 := bd64 w2
    have g3 : DataW.trod enc Try.prog W base sp held n 3 [c3] = some y3 := hg 3 _ rfl
    obtain ⟨a3, e3, -, w3⟩ := DataW.trod_int Try.underlying3 g3
    have w3 := bd64 w3
    simp at e0 e1 e2 e3
    subst e0 e1 e2 e3
    exact ⟨a0, a1, a2, a3, rfl, w0, w1, w2, w3⟩

set_option maxRecDepth 100000 in
theorem opn_fc {W : World} {b0 : Nat} {v : Value} {d : DataW H} {p : List MemPlace} (hv : Value.okWide Try.prog W .any b0 27 v) (h : DataW.Trod enc Try.prog W 0 (fun _ => true) true 27 v d p) : ∃ x, v = fv x ∧ InF x := by
  obtain ⟨cs, rfl, hsz⟩ := okWide_struct Try.underlying27 hv
  obtain ⟨fuel, hf⟩ := h
  have hC : Try.prog.cellsOf 27 = 5 := by kernel_rfl
  obtain ⟨a0, a1, a2, a3, a4, e, hw⟩ := fc_cells (cs := cs.toList) (by rw [Array.length_toList, hsz, hC]) (by simpa [Value.cells] using hf)
  exact ⟨⟨a0, a1, a2, a3, a4⟩, by rw [← Array.toArray_toList (xs := cs), e], hw⟩

set_option maxRecDepth 100000 in
theorem opn_ro {W : World} {b0 : Nat} {v : Value} {d : DataW H} {p : List MemPlace} (hv : Value.okWide Try.prog W .any b0 29 v) (h : DataW.Trod enc Try.prog W 0 (fun _ => true) true 29 v d p) : ∃ x, v = rv x ∧ InR x := by
  obtain ⟨cs, rfl, hsz⟩ := okWide_struct Try.underlying29 hv
  obtain ⟨fuel, hf⟩ := h
  have hC : Try.prog.cellsOf 29 = 4 := by kernel_rfl
  obtain ⟨a0, a1, a2, a3, e, hw⟩ := ro_cells (cs := cs.toList) (by rw [Array.length_toList, hsz, hC]) (by simpa [Value.cells] using hf)
  exact ⟨⟨a0, a1, a2, a3⟩, by rw [← Array.toArray_toList (xs := cs), e], hw⟩

set_option maxRecDepth 100000 in
theorem opn_frs {W : World} {b0 : Nat} {v : Value} {d : DataW H} {p : List MemPlace} (hv : Value.okWide Try.prog W .any b0 22 v) (h : DataW.Trod enc Try.prog W 0 (fun _ => true) true 22 v d p) : ∃ xs, FrIn W v xs := by
  obtain ⟨q, n, c, rfl⟩ := okWide_slice Try.underlying22 hv
  obtain ⟨fuel, hf⟩ := h
  have hC : Try.prog.cellsOf 55 = 3 := by kernel_rfl
  rcases open_slice Try.underlying22 hf with ⟨hcs, hx⟩ | ⟨a, len, cap, m, k, D, Pl, hcs, _, hl, hm, hmm, hx, hi⟩
  · simp [Value.cells] at hcs
    obtain ⟨rfl, rfl, rfl⟩ := hcs
    exact ⟨[], .inl ⟨rfl, rfl⟩, by simp, Nat.zero_le _⟩
  · simp [Value.cells] at hcs
    obtain ⟨rfl, rfl, rfl⟩ := hcs
    simp only [if_true] at hmm
    subst hmm
    rw [hC] at hi
    obtain ⟨l, h1, h2⟩ := list_of (P := fun i x => InFr x ∧ ∀ j, j < 3 → W.cell? ((a.add (i * 3)).add j) = (frc x)[j]?) n (fun i hin => by
      obtain ⟨cs', hc1, hc2⟩ := hi i (by omega)
      obtain ⟨_, hlen, hat⟩ := World.cells?_some hc1
      obtain ⟨a0, a1, a2, e, hx⟩ := fr_cells hlen hc2
      exact ⟨⟨a0, a1, a2⟩, hx, fun j hj => by rw [hat j hj, e]⟩)
    refine ⟨l, .inr ⟨a, _, by rw [h1], fun i hi2 j hj => (h2 i hi2).2 j hj⟩, fun x hx => ?_, by rw [h1]; omega⟩
    obtain ⟨i, hi2, rfl⟩ := List.getElem_of_mem hx
    exact (h2 i hi2).1

set_option maxRecDepth 100000 in
theorem opn_rrs {W : World} {b0 : Nat} {v : Value} {d : DataW H} {p : List MemPlace} (hv : Value.okWide Try.prog W .any b0 23 v) (h : DataW.Trod enc Try.prog W 0 (fun _ => true) true 23 v d p) : ∃ xs, RrIn W v xs := by
  obtain ⟨q, n, c, rfl⟩ := okWide_slice Try.underlying23 hv
  obtain ⟨fuel, hf⟩ := h
  have hC : Try.prog.cellsOf 59 = 4 := by kernel_rfl
  rcases open_slice Try.underlying23 hf with ⟨hcs, hx⟩ | ⟨a, len, cap, m, k, D, Pl, hcs, _, hl, hm, hmm, hx, hi⟩
  · simp [Value.cells] at hcs
    obtain ⟨rfl, rfl, rfl⟩ := hcs
    exact ⟨[], .inl ⟨rfl, rfl⟩, by simp, Nat.zero_le _⟩
  · simp [Value.cells] at hcs
    obtain ⟨rfl, rfl, rfl⟩ := hcs
    simp only [if_true] at hmm
    subst hmm
    rw [hC] at hi
    obtain ⟨l, h1, h2⟩ := list_of (P := fun i x => InRr x ∧ ∀ j, j < 4 → W.cell? ((a.add (i * 4)).add j) = (rrc x)[j]?) n (fun i hin => by
      obtain ⟨cs', hc1, hc2⟩ := hi i (by omega)
      obtain ⟨_, hlen, hat⟩ := World.cells?_some hc1
      obtain ⟨a0, a1, a2, a3, e, hx⟩ := rr_cells hlen hc2
      exact ⟨⟨a0, a1, a2, a3⟩, hx, fun j hj => by rw [hat j hj, e]⟩)
    refine ⟨l, .inr ⟨a, _, by rw [h1], fun i hi2 j hj => (h2 i hi2).2 j hj⟩, fun x hx => ?_, by rw [h1]; omega⟩
    obtain ⟨i, hi2, rfl⟩ := List.getElem_of_mem hx
    exact (h2 i hi2).1
end
end Go.Proofs.Ytgfcpimklmgnbaa
