/- A slice of calls opened. -/
import Derived.Test.YtpkfjlbjahghgaaAlaid2
import Derived.Test.YtpkfjlbjahghgaaAwIgn
namespace Go.Proofs.Ytpkfjlbjahghgaa
open Go.ChangeShapes Go.WideShapes Go.ChangeAt Go.RowKit Go.Deep
set_option linter.unusedVariables false

theorem list_of {α : Type} {P : Nat → α → Prop} : ∀ n, (∀ i, i < n → ∃ c, P i c) → ∃ l : List α, l.length = n ∧ ∀ (i : Nat) (h : i < l.length), P i l[i]
  | 0, _ => ⟨[], rfl, fun i h => by simp at h⟩
  | n + 1, h => by
    obtain ⟨l, h1, h2⟩ := list_of n (fun i hi => h i (by omega))
    obtain ⟨c, hc⟩ := h n (by omega)
    refine ⟨l ++ [c], by simp [h1], fun i hi => ?_⟩
    by_cases hin : i < l.length
    · rw [List.getElem_append_left hin]; exact h2 i hin
    · have : i = n := by simp at hi; omega
      subst this
      rw [List.getElem_append_right (by omega)]
      simpa [h1] using hc
section
variable {H : Type} {enc : TypeId × Value → H}
set_option maxRecDepth 100000 in
theorem opn_calls {W : World} {b0 : Nat} {v : Value} {d : DataW H} {p : List MemPlace} (hv : Value.okWide Try.prog W .any b0 39 v) (h : DataW.Trod enc Try.prog W 0 (fun _ => true) true 39 v d p) :
    ∃ cs : List Cl, ClsIn W v cs ∧ (∀ c ∈ cs, c.ok) ∧ cs.length ≤ maxLen := by
  obtain ⟨q, n, c, rfl⟩ := okWide_slice Try.underlying39 hv
  obtain ⟨fuel, hf⟩ := h
  have hC : Try.prog.cellsOf 25 = 12 := by kernel_rfl
  rcases open_slice Try.underlying39 hf with ⟨hcs, hx⟩ | ⟨a, len, cap, m, k, D, Pl, hcs, _, hl, hm, hmm, hx, hi⟩
  · simp [Value.cells] at hcs
    obtain ⟨rfl, rfl, rfl⟩ := hcs
    exact ⟨[], .inl ⟨rfl, rfl⟩, by simp, Nat.zero_le _⟩
  · simp [Value.cells] at hcs
    obtain ⟨rfl, rfl, rfl⟩ := hcs
    simp only [if_true] at hmm
    subst hmm
    rw [hC] at hi
    obtain ⟨l, h1, h2⟩ := list_of (P := fun i (x : Cl) => x.ok ∧ ∀ j, j < 12 → W.cell? ((a.add (i * 12)).add j) = (clCells x)[j]?) n (fun i hin => by
      obtain ⟨cs', hc1, hc2⟩ := hi i (by omega)
      obtain ⟨_, hlen, hat⟩ := World.cells?_some hc1
      obtain ⟨x, e, hx⟩ := call_cells hlen hc2
      exact ⟨x, hx, fun j hj => by rw [hat j hj, e]; rfl⟩)
    refine ⟨l, .inr ⟨a, _, by rw [h1], fun i hi2 j hj => (h2 i hi2).2 j hj⟩, fun x hx => ?_, by rw [h1]; omega⟩
    obtain ⟨i, hi2, rfl⟩ := List.getElem_of_mem hx
    exact (h2 i hi2).1
end
end Go.Proofs.Ytpkfjlbjahghgaa
