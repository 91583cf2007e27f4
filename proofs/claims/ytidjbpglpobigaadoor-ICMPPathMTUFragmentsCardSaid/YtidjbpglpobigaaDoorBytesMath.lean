/- Plain facts on byte strings: cuts, joins, big-endian numbers. No program's run. -/
import Derived.Test.YtidjbpglpobigaaDoorGet
namespace Go.Proofs.YtidjbpglpobigaaDoor
open Go.RowKit

theorem i64_bd {a : Int} (h : (Lit.int .i64 a).wf = true) : -9223372036854775808 ≤ a ∧ a ≤ 9223372036854775807 := by
  simpa [Lit.wf, IntKind.min, IntKind.max, IntKind.signed, IntKind.bits] using h
theorem size_toList (s : ByteArray) : s.data.toList.length = s.size := rfl
theorem toList_append (a b : ByteArray) : (a ++ b).data.toList = a.data.toList ++ b.data.toList := by simp
theorem ba_ext {a b : ByteArray} (h : a.data.toList = b.data.toList) : a = b := by
  cases a; cases b; congr; exact Array.toList_inj.1 h

/-- a string cut to at most n bytes: two ways, as the walk parts -/
theorem cut_cases (s : ByteArray) (n : Nat) :
    (n < s.size ∧ ∃ t, s.extract 0 n = t ∧ t.size ≤ n) ∨ (s.size ≤ n ∧ ∃ t, s.extract 0 s.size = t ∧ t.size ≤ n) := by
  rcases Nat.lt_or_ge n s.size with h | h
  · exact .inl ⟨h, _, rfl, by simp only [ByteArray.size_extract]; omega⟩
  · exact .inr ⟨h, _, rfl, by simp only [ByteArray.size_extract]; omega⟩

/-- the bytes of a number give the number back -/
theorem be4_round (m : Int) (h1 : 0 ≤ m) (h2 : m < 4294967296) (b : Nat) (hb : b = 1 ∨ b = 2 ∨ b = 3 ∨ b = 4) (h : m < 256 ^ b) :
    beVal (strOfNums (beNums b m)).data.toList = m := by
  rw [strOfNums_data]
  have t : ∀ x : Int, 0 ≤ x → x < 256 → ((UInt8.ofNat x.toNat).toNat : Int) = x := by
    intro x hx hx2
    rw [UInt8.toNat_ofNat']
    omega
  rcases hb with rfl | rfl | rfl | rfl
  · simp only [beNums, be4, List.drop, List.map, beVal, List.foldl]
    rw [t _ (by omega) (by omega)]
    omega
  · simp only [beNums, be4, List.drop, List.map, beVal, List.foldl]
    rw [t _ (by omega) (by omega), t _ (by omega) (by omega)]
    omega
  · simp only [beNums, be4, List.drop, List.map, beVal, List.foldl]
    rw [t _ (by omega) (by omega), t _ (by omega) (by omega), t _ (by omega) (by omega)]
    omega
  · have e : beNums 4 m = [m / 16777216 % 256, m / 65536 % 256, m / 256 % 256, m % 256] := rfl
    simp only [e, List.map, beVal, List.foldl]
    rw [t _ (by omega) (by omega), t _ (by omega) (by omega), t _ (by omega) (by omega), t _ (by omega) (by omega)]
    omega
theorem beS_round (b m : Int) (hb1 : 1 ≤ b) (hb2 : b ≤ 4) (h1 : 0 ≤ m) (h2 : m < 256 ^ b.toNat) : beVal (beS b m).data.toList = m := by
  have hb : b = 1 ∨ b = 2 ∨ b = 3 ∨ b = 4 := by omega
  rcases hb with rfl | rfl | rfl | rfl
  · exact be4_round m h1 (by simp at h2; omega) 1 (by omega) (by simpa using h2)
  · exact be4_round m h1 (by simp at h2; omega) 2 (by omega) (by simpa using h2)
  · exact be4_round m h1 (by simp at h2; omega) 3 (by omega) (by simpa using h2)
  · exact be4_round m h1 (by simp at h2; omega) 4 (by omega) (by simpa using h2)
/-- what lies between two strings -/
theorem mid_take (f s b : ByteArray) : ((f ++ s ++ b).data.toList.drop f.size).take s.size = s.data.toList := by
  rw [toList_append, toList_append, List.append_assoc, ← size_toList f, List.drop_left, ← size_toList s, List.take_left]
end Go.Proofs.YtidjbpglpobigaaDoor
