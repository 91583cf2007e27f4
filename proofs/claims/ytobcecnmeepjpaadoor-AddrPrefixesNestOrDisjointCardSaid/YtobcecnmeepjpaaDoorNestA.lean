/- Two prefixes nest or are apart. -/
import Derived.Test.YtobcecnmeepjpaaDoorDom
namespace Go.Proofs.YtobcecnmeepjpaaDoor
open Go.RowKit
set_option linter.unusedVariables false

theorem sz_le : ∀ b d : Nat, b < 33 → d < 33 → b ≤ d → szZ (b : Int) % szZ (d : Int) = 0 ∧ szZ (d : Int) ≤ szZ (b : Int) := by
  have h : ∀ b : Fin 33, ∀ d : Fin 33, b.val ≤ d.val → szZ (b.val : Int) % szZ (d.val : Int) = 0 ∧ szZ (d.val : Int) ≤ szZ (b.val : Int) := by decide +kernel
  exact fun b d hb hd hle => h ⟨b, hb⟩ ⟨d, hd⟩ hle
/-- the prefix with more bits lies in the other or apart from it -/
theorem nest {A B C D : Int} (h : vpZ A B = true) (k : vpZ C D = true) (hle : B ≤ D) :
    (A ≤ C ∧ C + (szZ D - 1) ≤ A + (szZ B - 1)) ∨ C + (szZ D - 1) < A ∨ A + (szZ B - 1) < C := by
  have hl := last_bd h
  have kl := last_bd k
  obtain ⟨h1, h2, h3, h4⟩ := vpZ_bd h
  obtain ⟨k1, k2, k3, k4⟩ := vpZ_bd k
  rw [vpZ_in h1 h2 h3 h4] at h
  rw [vpZ_in k1 k2 k3 k4] at k
  have hs := sz_le B.toNat D.toNat (by omega) (by omega) (by omega)
  rw [Int.toNat_of_nonneg h3, Int.toNat_of_nonneg k3] at hs
  obtain ⟨g, hg⟩ := mul_of_mod (S := szZ D) (by omega) hs.1
  obtain ⟨q1, hq1⟩ := mul_of_mod (S := szZ B) (by omega) (by simpa using h)
  obtain ⟨q2, hq2⟩ := mul_of_mod (S := szZ D) (by omega) (by simpa using k)
  have hA : A = szZ D * (g * q1) := by rw [hq1, hg, Int.mul_assoc]
  have hAB : A + szZ B = szZ D * (g * q1 + g) := by rw [Int.mul_add, ← hA, ← hg]
  rcases Int.lt_or_le C A with c | c
  · have := room (S := szZ D) (q := q2) (K := g * q1) (by omega) (by omega)
    omega
  · rcases Int.lt_or_le C (A + szZ B) with c2 | c2
    · have := room (S := szZ D) (q := q2) (K := g * q1 + g) (by omega) (by omega)
      omega
    · omega
end Go.Proofs.YtobcecnmeepjpaaDoor
