/- The reference's Number. -/
import Derived.Test.YtobcecnmeepjpaaDoorDig
namespace Go.Proofs.YtobcecnmeepjpaaDoor
open Go.RowKit
set_option linter.unusedVariables false

/-- the number that Number's loop has after the bytes, if it goes through -/
def refN (m : Int) : List UInt8 → Int → Option Int
  | [], n => some n
  | b :: l, n => if b.toNat < 48 ∨ 57 < b.toNat ∨ m < n then none else refN m l (10 * n + ((b.toNat : Int) - 48))

theorem refN_255 (v : Int) (h : 0 ≤ v) (h2 : v ≤ 255) : refN 255 (Lib.itoa v) 0 = some v ∧ Lib.itoa v ≠ [] := by
  have hd : ∀ k : Nat, k < 256 → refN 255 (Lib.itoa (k : Int)) 0 = some (k : Int) ∧ Lib.itoa (k : Int) ≠ [] := by decide +kernel
  have := hd v.toNat (by omega)
  rwa [Int.toNat_of_nonneg h] at this
theorem refN_32 (v : Int) (h : 0 ≤ v) (h2 : v ≤ 32) : refN 32 (Lib.itoa v) 0 = some v ∧ Lib.itoa v ≠ [] := by
  have hd : ∀ k : Nat, k < 33 → refN 32 (Lib.itoa (k : Int)) 0 = some (k : Int) ∧ Lib.itoa (k : Int) ≠ [] := by decide +kernel
  have := hd v.toNat (by omega)
  rwa [Int.toNat_of_nonneg h] at this

/-- numZ by the reference's loop -/
theorem numZ_ref (m : Int) (hm : m = 255 ∨ m = 32) (l : List UInt8) :
    numZ l m = match refN m l 0 with
      | some n => if l ≠ [] ∧ 0 ≤ n ∧ n ≤ m ∧ Lib.itoa n = l then some n else none
      | none => none := by
  have key : ∀ v, numZ l m = some v → refN m l 0 = some v ∧ l ≠ [] ∧ 0 ≤ v ∧ v ≤ m ∧ Lib.itoa v = l := by
    intro v hv
    obtain ⟨h1, h2, h3⟩ := numZ_bd hv
    rw [← h3]
    rcases hm with rfl | rfl
    · exact ⟨(refN_255 v h1 h2).1, (refN_255 v h1 h2).2, h1, h2, rfl⟩
    · exact ⟨(refN_32 v h1 h2).1, (refN_32 v h1 h2).2, h1, h2, rfl⟩
  have back : ∀ v, 0 ≤ v → v ≤ m → Lib.itoa v = l → numZ l m = some v := by
    intro v h1 h2 h3
    rw [← h3]
    rcases hm with rfl | rfl
    · exact (itoa_facts v h1 h2).1
    · exact bits_fact v h1 h2
  cases h : numZ l m with
  | some v =>
    obtain ⟨k1, k2⟩ := key v h
    rw [k1]; simp only; rw [if_pos k2]
  | none =>
    cases hr : refN m l 0 with
    | none => rfl
    | some n =>
      simp only
      rw [if_neg]
      rintro ⟨-, h1, h2, h3⟩
      rw [back n h1 h2 h3] at h
      cases h

theorem refN_bd (m : Int) (hm : 0 ≤ m) (hm2 : m ≤ 255) : ∀ (l : List UInt8) (n r : Int), 0 ≤ n → n ≤ 2559 → refN m l n = some r → 0 ≤ r ∧ r ≤ 2559
  | [], n, r, h0, h1, h => by cases h; exact ⟨h0, h1⟩
  | b :: l, n, r, h0, h1, h => by
    unfold refN at h
    split at h
    · cases h
    · next hc => exact refN_bd m hm hm2 l _ r (by omega) (by omega) h
theorem refN_snoc (m : Int) : ∀ (l : List UInt8) (b : UInt8) (n : Int), refN m (l ++ [b]) n = (refN m l n).bind fun r => refN m [b] r
  | [], b, n => rfl
  | c :: l, b, n => by
    rw [List.cons_append]
    unfold refN
    split
    · rfl
    · exact refN_snoc m l b _
theorem refN_none (m : Int) (l r : List UInt8) (n : Int) (h : refN m l n = none) : refN m (l ++ r) n = none := by
  induction l generalizing n with
  | nil => cases h
  | cons c l ih =>
    rw [List.cons_append]
    unfold refN at h ⊢
    split
    · rfl
    · next hc => rw [if_neg hc] at h; exact ih _ h
/-- one more byte -/
theorem refN_take (m : Int) (s : ByteArray) (k : Nat) (hk : k < s.size) (n : Int) (h : refN m (s.data.toList.take k) 0 = some n) :
    refN m (s.data.toList.take (k + 1)) 0 = refN m [s[k]'hk] n := by
  have e : s.data.toList.take (k + 1) = s.data.toList.take k ++ [s[k]'hk] := by
    rw [List.take_add_one, List.getElem?_eq_getElem (by rw [Array.length_toList]; exact hk)]
    rfl
  rw [e, refN_snoc, h]; rfl
theorem refN_stop (m : Int) (s : ByteArray) (k : Nat) (h : refN m (s.data.toList.take k) 0 = none) : refN m s.data.toList 0 = none := by
  rw [← List.take_append_drop k s.data.toList]; exact refN_none m _ _ 0 h
end Go.Proofs.YtobcecnmeepjpaaDoor
