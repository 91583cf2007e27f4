/- What a refused error message of a valid kind means. -/
import Derived.Test.YtidjbpglpobigaaDoorImPk
namespace Go.Proofs.YtidjbpglpobigaaDoor
open Go.RowKit
set_option linter.unusedVariables false
attribute [local go_sem] Oper.semAt_some

/-- a valid datagram about which no error of a valid kind goes out -/
theorem neO_not {k c n : Int} {p : Pk} (hn : numK k c n) (he : errK k) (hp : okW p p.s.size) (h : ¬ neO k c n p) : p.off ≠ 0 ∨ (p.off = 0 ∧ p.to = 4294967295) ∨ (p.off = 0 ∧ p.to ≠ 4294967295 ∧ p.pr = 1) := by
  by_cases e1 : p.off = 0
  · by_cases e2 : p.to = 4294967295
    · exact .inr (.inl ⟨e1, e2⟩)
    · by_cases e3 : crE p
      · exact .inr (.inr ⟨e1, e2, e3.1⟩)
      · refine absurd ⟨hp, e1, e2, e3, he, hn, ?_⟩ h
        have h28 := neM_size k c n p
        show ((neM k c n p).s.size : Int) ≤ roomK k
        unfold roomK; split <;> omega
  · exact .inl e1
end Go.Proofs.YtidjbpglpobigaaDoor
