/- Prefixes are intervals: what the walks of the laws on prefixes need. -/
import Derived.Test.YtobcecnmeepjpaaDoorEx
namespace Go.Proofs.YtobcecnmeepjpaaDoor
open Go.RowKit
set_option linter.unusedVariables false

theorem mul_of_mod {a S : Int} (hS : 0 < S) (h : a % S = 0) : ∃ q, a = S * q := ⟨a / S, by have := Int.mul_ediv_add_emod a S; omega⟩
theorem mod_add {S q r : Int} (hr : 0 ≤ r) (h : r < S) : (S * q + r) % S = r := by
  rw [Int.add_comm, Int.add_mul_emod_self_left]
  exact Int.emod_eq_of_lt hr h
theorem room {S q K : Int} (hS : 0 < S) (h : S * q < S * K) : S * q + S ≤ S * K := by
  have hq : q < K := Int.lt_of_mul_lt_mul_left h (by omega)
  have := Int.mul_le_mul_of_nonneg_left (show q + 1 ≤ K by omega) (show 0 ≤ S by omega)
  rw [Int.mul_add, Int.mul_one] at this
  exact this

/-- the last address of a prefix that is valid -/
theorem last_bd {A B : Int} (h : vpZ A B = true) : 0 ≤ A ∧ A + (szZ B - 1) ≤ 4294967295 ∧ 1 ≤ szZ B ∧ 0 ≤ B ∧ B ≤ 32 := by
  obtain ⟨h1, h2, h3, h4⟩ := vpZ_bd h
  have hs := sz_bd B h3 h4
  obtain ⟨K, hK⟩ := mul_of_mod (by omega) (sz_dvd B h3 h4)
  have hm : A % szZ B = 0 := by rw [vpZ_in h1 h2 h3 h4] at h; simpa using h
  obtain ⟨q, hq⟩ := mul_of_mod (by omega) hm
  have := room (S := szZ B) (q := q) (K := K) (by omega) (by omega)
  omega

theorem contZ_in {A B x : Int} (h : vpZ A B = true) (h1 : A ≤ x) (h2 : x ≤ A + (szZ B - 1)) : contZ A B x = true := by
  have hl := last_bd h
  have hb := vpZ_bd h
  have hm : A % szZ B = 0 := by have h' := h; rw [vpZ_in hb.1 hb.2.1 hb.2.2.1 hb.2.2.2] at h'; simpa using h'
  obtain ⟨q, hq⟩ := mul_of_mod (by omega) hm
  have e : x % szZ B = x - A := by
    have := mod_add (S := szZ B) (q := q) (r := x - A) (by omega) (by omega)
    rw [← hq] at this
    rwa [show A + (x - A) = x by omega] at this
  unfold contZ
  rw [h, show validZ x = true by simp [validZ]; omega, e]
  simp
  omega
theorem contZ_out {A B x : Int} (h : vpZ A B = true) (h1 : ¬ (A ≤ x ∧ x ≤ A + (szZ B - 1))) : contZ A B x = false := by
  have hl := last_bd h
  unfold contZ
  rw [h]
  cases hv : validZ x with
  | false => rfl
  | true =>
    have hx := validZ_bd hv
    have m0 := Int.emod_nonneg x (b := szZ B) (by omega)
    have m1 := Int.emod_lt_of_pos x (b := szZ B) (by omega)
    have : (x - x % szZ B == A) = false := by rw [beq_eq_false_iff_ne]; omega
    rw [this]; rfl

theorem net_bits (b : Int) : 0 ≤ netB b ∧ netB b ≤ 32 := by have := pickQ_bd b 33 (by decide); unfold netB; omega
theorem net_valid (a b : Int) : vpZ (netA a b) (netB b) = true := by
  have hb := net_bits b
  have hs := sz_bd (netB b) hb.1 hb.2
  have hx := pickQ_bd a 4294967296 (by decide)
  have m0 := Int.emod_nonneg (pickQ a 4294967296) (b := szZ (netB b)) (by omega)
  have m1 := Int.emod_lt_of_pos (pickQ a 4294967296) (b := szZ (netB b)) (by omega)
  have hle : pickQ a 4294967296 % szZ (netB b) ≤ pickQ a 4294967296 := by
    rcases Int.lt_or_le (pickQ a 4294967296) (szZ (netB b)) with h | h
    · rw [Int.emod_eq_of_lt hx.1 h]; exact Int.le_refl _
    · omega
  rw [vpZ_in (by unfold netA; omega) (by unfold netA; omega) hb.1 hb.2]
  have e : netA a b % szZ (netB b) = 0 := by
    unfold netA
    exact Int.emod_eq_zero_of_dvd (Int.dvd_self_sub_emod)
  rw [e]; rfl
theorem lastZ_in {A B : Int} (h : vpZ A B = true) : lastZ A B = A + (szZ B - 1) := by unfold lastZ; rw [if_pos h]
end Go.Proofs.YtobcecnmeepjpaaDoor
