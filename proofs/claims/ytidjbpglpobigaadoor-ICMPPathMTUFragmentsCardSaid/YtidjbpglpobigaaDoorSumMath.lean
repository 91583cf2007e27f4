/- The words of a string and their one's complement sum as plain functions. No program. -/
import Derived.Test.YtidjbpglpobigaaDoorMath
namespace Go.Proofs.YtidjbpglpobigaaDoor
open Go.RowKit

abbrev W16 := { x : Nat // x < 65536 }
/-- the k-th word; an odd last byte is the high one -/
def wordAt (l : List UInt8) (k : Nat) : Nat := (l[2 * k]?.getD 0).toNat * 256 + (l[2 * k + 1]?.getD 0).toNat
theorem wordAt_lt (l : List UInt8) (k : Nat) : wordAt l k < 65536 := by
  unfold wordAt
  have h1 := (l[2 * k]?.getD 0).toNat_lt
  have h2 := (l[2 * k + 1]?.getD 0).toNat_lt
  omega
def nWords (l : List UInt8) : Nat := (l.length + 1) / 2
def wordL (l : List UInt8) : List W16 := (List.range (nWords l)).map fun k => ⟨wordAt l k, wordAt_lt l k⟩
theorem wordL_length (l : List UInt8) : (wordL l).length = nWords l := by simp [wordL]
theorem wordL_get (l : List UInt8) (k : Nat) (h : k < nWords l) : (wordL l)[k]? = some ⟨wordAt l k, wordAt_lt l k⟩ := by
  simp [wordL, h]
theorem wordL_take (l : List UInt8) (k : Nat) (h : k < nWords l) : (wordL l).take (k + 1) = (wordL l).take k ++ [⟨wordAt l k, wordAt_lt l k⟩] := by
  rw [List.take_add_one, wordL_get l k h]; rfl

/-- the plain sum -/
def sumW (xs : List W16) : Nat := xs.foldl (fun a x => a + x.1) 0
theorem sumW_snoc (xs : List W16) (x : W16) : sumW (xs ++ [x]) = sumW xs + x.1 := by simp [sumW]
theorem sumW_le : ∀ (xs : List W16), sumW xs ≤ 65535 * xs.length := by
  intro xs
  have h : ∀ (xs : List W16) (a : Nat), xs.foldl (fun a x => a + x.1) a ≤ a + 65535 * xs.length := by
    intro xs
    induction xs with
    | nil => intro a; simp
    | cons x r ih => intro a; have := ih (a + x.1); have := x.2; simp only [List.foldl_cons, List.length_cons]; omega
  have := h xs 0
  simpa [sumW] using this

/-- what is left when the carries are added till there is none -/
def foldC (n : Nat) : Nat := if n = 0 then 0 else (n - 1) % 65535 + 1
theorem foldC_eq (n : Nat) : foldC n = if n = 0 then 0 else (n - 1) % 65535 + 1 := rfl
theorem foldC_le (n : Nat) : foldC n ≤ 65535 := by
  unfold foldC; split <;> omega
theorem foldC_step {n : Nat} (h : 65535 < n) : foldC (n % 65536 + n / 65536) = foldC n := by
  unfold foldC; rw [if_neg (by omega), if_neg (by omega)]; omega
theorem foldC_done {n : Nat} (h : n ≤ 65535) : foldC n = n := by
  unfold foldC; split <;> omega
/-- the sum of two parts -/
theorem foldC_add (a b : Nat) : foldC (foldC a + foldC b) = foldC (a + b) := by
  unfold foldC
  by_cases ha : a = 0 <;> by_cases hb : b = 0
  · subst ha; subst hb; rfl
  · subst ha; rw [if_pos rfl, if_neg hb, if_neg (by omega), if_neg (by omega)]; omega
  · subst hb; rw [if_pos rfl, if_neg ha, if_neg (by omega), if_neg (by omega)]; omega
  · rw [if_neg ha, if_neg hb, if_neg (by omega), if_neg (by omega)]; omega

/-- the Internet checksum -/
def sumN (l : List UInt8) : Nat := 65535 - foldC (sumW (wordL l))
theorem sumN_le (l : List UInt8) : sumN l ≤ 65535 := by unfold sumN; omega

/-! the sum of the words, by the string's parts -/
def SW (l : List UInt8) : Nat := sumW (wordL l)
theorem sumN_eq (l : List UInt8) : sumN l = 65535 - foldC (SW l) := rfl
theorem SW_nil : SW [] = 0 := rfl
theorem SW_one (x : UInt8) : SW [x] = x.toNat * 256 := by simp [SW, wordL, nWords, wordAt, sumW]
theorem sumW_cons (x : W16) (xs : List W16) : sumW (x :: xs) = x.1 + sumW xs := by
  have h : ∀ (xs : List W16) (a b : Nat), xs.foldl (fun a x => a + x.1) (a + b) = a + xs.foldl (fun a x => a + x.1) b := by
    intro xs
    induction xs with
    | nil => intro a b; rfl
    | cons y r ih => intro a b; rw [List.foldl_cons, List.foldl_cons, Nat.add_assoc, ih]
  unfold sumW
  rw [List.foldl_cons, Nat.zero_add]
  have := h xs x.1 0
  rwa [Nat.add_zero] at this
theorem SW_two (x y : UInt8) (l : List UInt8) : SW (x :: y :: l) = x.toNat * 256 + y.toNat + SW l := by
  have hn : nWords (x :: y :: l) = nWords l + 1 := by unfold nWords; simp only [List.length_cons]; omega
  have e : wordL (x :: y :: l) = ⟨wordAt (x :: y :: l) 0, wordAt_lt _ 0⟩ :: wordL l := by
    unfold wordL
    rw [hn, List.range_succ_eq_map, List.map_cons, List.map_map]
    congr 1
  unfold SW
  rw [e, sumW_cons]
  rfl
theorem SW_append : ∀ (n : Nat) (a b : List UInt8), a.length = 2 * n → SW (a ++ b) = SW a + SW b
  | 0, a, b, h => by
    obtain rfl : a = [] := List.eq_nil_of_length_eq_zero (by omega)
    simp [SW_nil]
  | n + 1, x :: y :: a, b, h => by
    rw [List.cons_append, List.cons_append, SW_two, SW_two, SW_append n a b (by simp only [List.length_cons] at h; omega)]
    omega
  | n + 1, [x], b, h => by simp only [List.length_cons, List.length_nil] at h; omega
  | n + 1, [], b, h => by simp at h
end Go.Proofs.YtidjbpglpobigaaDoor
