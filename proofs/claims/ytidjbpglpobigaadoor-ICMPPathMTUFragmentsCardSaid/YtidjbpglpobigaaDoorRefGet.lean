/- Contracts of the reference implementation of layer 1: Get, Checksum, CRC32. -/
import Derived.Test.YtidjbpglpobigaaDoorRef
namespace Go.Proofs.YtidjbpglpobigaaDoor
open Go.RowKit

theorem beVal_snoc (l : List UInt8) (y : UInt8) : beVal (l ++ [y]) = beVal l * 256 + (y.toNat : Int) := by simp [beVal]
theorem beVal_bd : ∀ (n : Nat) (l : List UInt8), l.length = n → 0 ≤ beVal l ∧ beVal l < 256 ^ n
  | 0, l, h => by
    obtain rfl : l = [] := List.eq_nil_of_length_eq_zero h
    exact ⟨by decide, by decide⟩
  | n + 1, l, h => by
    have hne : l ≠ [] := by intro e; rw [e] at h; simp at h
    rw [← List.dropLast_concat_getLast hne, beVal_snoc]
    have ih := beVal_bd n l.dropLast (by rw [List.length_dropLast]; omega)
    have hy := (l.getLast hne).toNat_lt
    rw [Int.pow_succ]
    omega
theorem take_snoc (s : ByteArray) (k j : Nat) (h : k + j < s.size) : (s.data.toList.drop k).take (j + 1) = (s.data.toList.drop k).take j ++ [s[k + j]] := by
  rw [List.take_succ_eq_append_getElem (by rw [List.length_drop, size_toList]; omega), List.getElem_drop]
  rfl

set_option maxHeartbeats 1600000 in
theorem refGet_nat (s : ByteArray) (k b : Nat) (w : World) (hb1 : 1 ≤ b) (hb2 : b ≤ 4) (hk : k + b ≤ s.size) (hs : s.size ≤ maxLen) :
    Calls Tryd.prog 42 #[.string s, .int .i64 k, .int .i64 b] w fun e w' => e = .returned (.tuple #[.int .i64 (beVal ((s.data.toList.drop k).take b)), .int .i64 0]) ∧ w = w' := by
  unfold maxLen at hs
  have t1 : decide ((b : Int) < 1) = false := by simp; omega
  have t2 : decide (4 < (b : Int)) = false := by simp; omega
  have t3 : decide ((k : Int) < 0) = false := by simp
  have t4 : decide ((s.size : Int) < k) = false := by simp; omega
  have t5 : decide ((s.size : Int) - k < b) = false := by simp; omega
  go_enter Tryd.func42, Tryd.ntmps42
  go_wp2
  go_loop [8, 9] (fun n i => ∃ m : Nat, k ≤ m ∧ m ≤ k + b ∧ n = .int .i64 (beVal ((s.data.toList.drop k).take (m - k))) ∧ i = .int .i64 m) (fun _ i => k + b - (intOf i).toNat)
  case atStart => exact ⟨k, by omega, by omega, by rw [Nat.sub_self]; rfl, rfl⟩
  case round =>
    obtain ⟨m, hm1, hm2, rfl, rfl⟩ := hrel
    by_cases h : m < k + b
    · have hbd := beVal_bd (m - k) ((s.data.toList.drop k).take (m - k)) (by rw [List.length_take, List.length_drop, size_toList]; omega)
      have hp : (256 : Int) ^ (m - k) ≤ 16777216 := by
        have hj4 : m - k = 0 ∨ m - k = 1 ∨ m - k = 2 ∨ m - k = 3 := by omega
        rcases hj4 with e | e | e | e <;> rw [e] <;> decide
      obtain ⟨v, hv⟩ : ∃ v, beVal ((s.data.toList.drop k).take (m - k)) = v := ⟨_, rfl⟩
      rw [hv] at hbd
      have hv0 : 0 ≤ v := hbd.1
      have hv1 : v ≤ 16777216 := by omega
      have hlt : m < s.size := by omega
      have hy := s[m].toNat_lt
      have hs1 : (s.data.toList.drop k).take (m + 1 - k) = (s.data.toList.drop k).take (m - k) ++ [s[m]] := by
        have := take_snoc s k (m - k) (by omega)
        simp only [show k + (m - k) = m by omega] at this
        rw [show m + 1 - k = m - k + 1 by omega]; exact this
      have Hs := Lib.hid hs1
      have Hv := Lib.hid hv
      clear hbd hp hv hs1
      rw [Hv.out]
      go_wp2
      go_round
      case rel => exact ⟨m + 1, by omega, by omega, by rw [Hs.out, beVal_snoc, Hv.out, Int.mul_comm], by go_num⟩
      case measure => simp [intOf]; omega
    · obtain rfl : m = k + b := by omega
      have e : k + b - k = b := by omega
      rw [e]
      clear e
      go_wp2
      go_ret2
      exact ⟨rfl, rfl⟩

theorem refGet_no (s : ByteArray) (k b : Int) (w : World) (hs : s.size ≤ maxLen) (h : ¬ (1 ≤ b ∧ b ≤ 4 ∧ 0 ≤ k ∧ k + b ≤ s.size)) :
    Calls Tryd.prog 42 #[.string s, .int .i64 k, .int .i64 b] w fun e w' => e = .returned (.tuple #[.int .i64 0, .int .i64 10]) ∧ w = w' := by
  unfold maxLen at hs
  have hcase : decide (b < 1) = true ∨ (decide (b < 1) = false ∧ decide (4 < b) = true) ∨ (decide (b < 1) = false ∧ decide (4 < b) = false ∧ decide (k < 0) = true) ∨
      (decide (b < 1) = false ∧ decide (4 < b) = false ∧ decide (k < 0) = false ∧ decide ((s.size : Int) < k) = true) ∨
      (decide (b < 1) = false ∧ decide (4 < b) = false ∧ decide (k < 0) = false ∧ decide ((s.size : Int) < k) = false ∧ decide ((s.size : Int) - k < b) = true ∧ 0 ≤ k ∧ k ≤ s.size) := by
    simp only [decide_eq_true_eq, decide_eq_false_iff_not]; omega
  clear h
  rcases hcase with t1 | ⟨t1, t2⟩ | ⟨t1, t2, t3⟩ | ⟨t1, t2, t3, t4⟩ | ⟨t1, t2, t3, t4, t5, t6, t7⟩
  all_goals
    go_enter Tryd.func42, Tryd.ntmps42
    go_wp2
    go_ret2
    exact ⟨rfl, rfl⟩

/-- what both give -/
def getV (s : ByteArray) (k b : Int) : Int := if 1 ≤ b ∧ b ≤ 4 ∧ 0 ≤ k ∧ k + b ≤ s.size then beVal ((s.data.toList.drop k.toNat).take b.toNat) else 0
def getE (s : ByteArray) (k b : Int) : Int := if 1 ≤ b ∧ b ≤ 4 ∧ 0 ≤ k ∧ k + b ≤ s.size then 0 else 10
theorem get_R (s : ByteArray) (k b : Int) (w : World) (hs : s.size ≤ maxLen) :
    Calls Tryd.prog 92 #[.string s, .int .i64 k, .int .i64 b] w fun e w' => e = .returned (.tuple #[.int .i64 (getV s k b), .int .i64 (getE s k b)]) ∧ Below w.heap.size w w' := by
  unfold getV getE
  by_cases h : 1 ≤ b ∧ b ≤ 4 ∧ 0 ≤ k ∧ k + b ≤ s.size
  · rw [if_pos h, if_pos h]; exact get_any s k b w h.1 h.2.1 h.2.2.1 h.2.2.2 hs
  · rw [if_neg h, if_neg h]; exact (get_no s k b w hs h).mono fun _ _ ⟨h1, h2⟩ => ⟨h1, by rw [← h2]; exact Below.refl _ _⟩
theorem refGet_R (s : ByteArray) (k b : Int) (w : World) (hs : s.size ≤ maxLen) :
    Calls Tryd.prog 42 #[.string s, .int .i64 k, .int .i64 b] w fun e w' => e = .returned (.tuple #[.int .i64 (getV s k b), .int .i64 (getE s k b)]) ∧ w = w' := by
  unfold getV getE
  by_cases h : 1 ≤ b ∧ b ≤ 4 ∧ 0 ≤ k ∧ k + b ≤ s.size
  · rw [if_pos h, if_pos h]
    obtain ⟨n, rfl⟩ := Int.eq_ofNat_of_zero_le h.2.2.1
    obtain ⟨m, rfl⟩ := Int.eq_ofNat_of_zero_le (show 0 ≤ b by omega)
    exact refGet_nat s n m w (by omega) (by omega) (by omega) hs
  · rw [if_neg h, if_neg h]; exact refGet_no s k b w hs h
end Go.Proofs.YtidjbpglpobigaaDoor
