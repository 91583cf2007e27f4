/- The number of b bytes at k, and what its bytes say. No program here. -/
import Derived.Test.YtidjbpglpobigaaDoorRefGet
namespace Go.Proofs.YtidjbpglpobigaaDoor
set_option linter.unusedVariables false

/-- the number of b bytes at k -/
def rdV (s : ByteArray) (k b : Nat) : Int := beVal ((s.data.toList.drop k).take b)
theorem rdV_bd (s : ByteArray) (k b : Nat) (h : k + b ≤ s.size) : 0 ≤ rdV s k b ∧ rdV s k b < 256 ^ b :=
  beVal_bd b _ (by rw [List.length_take, List.length_drop, size_toList]; omega)
theorem beVal_inj : ∀ (n : Nat) (l l' : List UInt8), l.length = n → l'.length = n → beVal l = beVal l' → l = l'
  | 0, l, l', h, h', _ => by rw [List.eq_nil_of_length_eq_zero h, List.eq_nil_of_length_eq_zero h']
  | n + 1, l, l', h, h', e => by
    have hne : l ≠ [] := by intro e0; rw [e0] at h; simp at h
    have hne' : l' ≠ [] := by intro e0; rw [e0] at h'; simp at h'
    have d := (List.dropLast_concat_getLast hne).symm
    have d' := (List.dropLast_concat_getLast hne').symm
    rw [d, d', beVal_snoc, beVal_snoc] at e
    have b1 := (l.getLast hne).toNat_lt
    have b2 := (l'.getLast hne').toNat_lt
    have i1 : beVal l.dropLast = beVal l'.dropLast := by omega
    have i2 : (l.getLast hne).toNat = (l'.getLast hne').toNat := by omega
    have := beVal_inj n l.dropLast l'.dropLast (by rw [List.length_dropLast, h]; rfl) (by rw [List.length_dropLast, h']; rfl) i1
    rw [d, d', this, UInt8.toNat_inj.1 i2]

theorem beS_of (b : Nat) (l : List UInt8) (h1 : 1 ≤ b) (h2 : b ≤ 4) (hl : l.length = b) : (beS (b : Int) (beVal l)).data.toList = l := by
  obtain ⟨c1, c2⟩ := beVal_bd b l hl
  refine beVal_inj b _ _ ?_ hl ?_
  · rw [size_toList, beS_size _ _ (by omega) (by omega)]; rfl
  · exact beS_round b _ (by omega) (by omega) c1 c2

theorem extract_list (s : ByteArray) (i j : Nat) : (s.extract i j).data.toList = (s.data.toList.drop i).take (j - i) := by
  simp

end Go.Proofs.YtidjbpglpobigaaDoor
