/- The words of a string and their one's complement sum as plain functions. No program. -/
import Derived.Test.YtolohjinjpegmaaMath
namespace Go.Proofs.Ytolohjinjpegmaa
open Go.RowKit

abbrev W16 := { x : Nat // x < 65536 }
/-- the k-th word; an odd last byte is the high one -/
def wordAt (l : List UInt8) (k : Nat) : Nat := (l[2 * k]?.getD 0).toNat * 256 + (l[2 * k + 1]?.getD 0).toNat
theorem wordAt_lt (l : List UInt8) (k : Nat) : wordAt l k < 65536 := by
  unfold wordAt
  have h1 := (l[2 * k]?.getD 0).toNat_lt
  have h2 := (l[2 * k + 1]?.getD 0).toNat_lt
  omega
def nWords (l : List UInt8) : Nat := (l.length + 1) / 2
def wordL (l : List UInt8) : List W16 := (List.range (nWords l)).map fun k => ⟨wordAt l k, wordAt_lt l k⟩
theorem wordL_length (l : List UInt8) : (wordL l).length = nWords l := by simp [wordL]
theorem wordL_get (l : List UInt8) (k : Nat) (h : k < nWords l) : (wordL l)[k]? = some ⟨wordAt l k, wordAt_lt l k⟩ := by
  simp [wordL, h]
theorem wordL_take (l : List UInt8) (k : Nat) (h : k < nWords l) : (wordL l).take (k + 1) = (wordL l).take k ++ [⟨wordAt l k, wordAt_lt l k⟩] := by
  rw [List.take_add_one, wordL_get l k h]; rfl

/-- the plain sum -/
def sumW (xs : List W16) : Nat := xs.foldl (fun a x => a + x.1) 0
theorem sumW_snoc (xs : List W16) (x : W16) : sumW (xs ++ [x]) = sumW xs + x.1 := by simp [sumW]
theorem sumW_le : ∀ (xs : List W16), sumW xs ≤ 65535 * xs.length := by
  intro xs
  have h : ∀ (xs : List W16) (a : Nat), xs.foldl (fun a x => a + x.1) a ≤ a + 65535 * xs.length := by
    intro xs
    induction xs with
    | nil => intro a; simp
    | cons x r ih => intro a; have := ih (a + x.1); have := x.2; simp only [List.foldl_cons, List.length_cons]; omega
  have := h xs 0
  simpa [sumW] using this

/-- the carries are added till none is left -/
def foldC (n : Nat) : Nat := if 65535 < n then foldC (n % 65536 + n / 65536) else n
termination_by n
decreasing_by omega
theorem foldC_le (n : Nat) : foldC n ≤ 65535 := by
  induction n using Nat.strongRecOn with
  | _ n ih =>
    unfold foldC
    split
    · exact ih _ (by omega)
    · omega
theorem foldC_step {n : Nat} (h : 65535 < n) : foldC (n % 65536 + n / 65536) = foldC n := by
  conv => rhs; unfold foldC
  rw [if_pos h]
theorem foldC_done {n : Nat} (h : n ≤ 65535) : foldC n = n := by unfold foldC; rw [if_neg (by omega)]

/-- the same in one step -/
theorem foldC_eq (n : Nat) : foldC n = if n = 0 then 0 else (n - 1) % 65535 + 1 := by
  induction n using Nat.strongRecOn with
  | _ n ih =>
    by_cases h : 65535 < n
    · rw [← foldC_step h, ih _ (by omega)]
      split <;> split <;> omega
    · rw [foldC_done (by omega)]
      split <;> omega

/-- the Internet checksum -/
def sumN (l : List UInt8) : Nat := 65535 - foldC (sumW (wordL l))
end Go.Proofs.Ytolohjinjpegmaa
