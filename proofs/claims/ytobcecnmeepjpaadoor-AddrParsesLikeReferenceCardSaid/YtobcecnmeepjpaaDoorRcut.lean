/- The first slash. -/
import Derived.Test.YtobcecnmeepjpaaDoorRpw
namespace Go.Proofs.YtobcecnmeepjpaaDoor
open Go.RowKit
set_option linter.unusedVariables false

theorem list_at (s : ByteArray) (k : Nat) (hk : k < s.size) : s.data.toList = s.data.toList.take k ++ s[k]'hk :: s.data.toList.drop (k + 1) := by
  rw [← drop_get s k hk, List.take_append_drop]
theorem take_len (s : ByteArray) (k : Nat) (hk : k ≤ s.size) : (s.data.toList.take k).length = k := by
  rw [List.length_take, Array.length_toList]; exact Nat.min_eq_left hk
theorem slash_idx (s : ByteArray) (k : Nat) (hk : k < s.size) (hn : (47 : UInt8) ∉ s.data.toList.take k) (hc : s[k]'hk = 47) : Lib.index s.data.toList [47] = k := by
  rw [Lib.index_one, list_at s k hk, hc, ib_app 47 _ _ hn, take_len s k (by omega)]
theorem slash_more (s : ByteArray) (k : Nat) (hk : k < s.size) (hn : (47 : UInt8) ∉ s.data.toList.take k) (hc : s[k]'hk ≠ 47) : (47 : UInt8) ∉ s.data.toList.take (k + 1) := by
  rw [List.take_add_one, List.getElem?_eq_getElem (by rw [Array.length_toList]; exact hk)]
  intro h
  rcases List.mem_append.1 h with h | h
  · exact hn h
  · simp at h; exact hc h.symm
theorem cut_at (s : ByteArray) (k : Nat) (hk : k < s.size) (hn : (47 : UInt8) ∉ s.data.toList.take k) (hc : s[k]'hk = 47) : cutA s = s.extract 0 k ∧ cutB s = s.extract (k + 1) s.size := by
  have hi := slash_idx s k hk hn hc
  unfold cutA cutB Lib.cut
  rw [hi]
  constructor
  · apply str_inj
    rw [ext_list]
    simp
  · apply str_inj
    rw [ext_list]
    simp
    rw [List.take_of_length_le]
    simp [List.length_drop]
theorem cut_not (s : ByteArray) (hn : (47 : UInt8) ∉ s.data.toList) : ppL s = none := by
  have hb : (cutB s).data.toList = [] := by
    unfold cutB Lib.cut
    rw [Lib.index_one, ib_none 47 _ hn]; rfl
  have hz : numZ (cutB s).data.toList 32 = none := by rw [hb]; decide +kernel
  unfold ppL
  rw [hz]
  split
  · next h => cases h
  · rfl
theorem ppL_a {s : ByteArray} (h : parseL (cutA s) = none) : ppL s = none := by unfold ppL; rw [h]
theorem ppL_b {s : ByteArray} {a : Int} (h : parseL (cutA s) = some a) (hv : vpZ a ((numZ (cutB s).data.toList 32).getD (-1)) = false) : ppL s = none := by
  unfold ppL; rw [h]
  cases hn : numZ (cutB s).data.toList 32 with
  | none => rfl
  | some b => rw [hn] at hv; simp only [Option.getD_some] at hv; simp [hv]
theorem ppL_c {s : ByteArray} {a : Int} (h : parseL (cutA s) = some a) (hv : vpZ a ((numZ (cutB s).data.toList 32).getD (-1)) = true) : ppL s = some (a, (numZ (cutB s).data.toList 32).getD (-1)) := by
  unfold ppL; rw [h]
  cases hn : numZ (cutB s).data.toList 32 with
  | none => rw [hn] at hv; simp [vpZ] at hv
  | some b => rw [hn] at hv; simp only [Option.getD_some] at hv; simp [hv]
theorem numZ_rng (l : List UInt8) : -1 ≤ (numZ l 32).getD (-1) ∧ (numZ l 32).getD (-1) ≤ 32 := by
  cases h : numZ l 32 with
  | none => simp
  | some v => have := numZ_bd h; simp; omega
end Go.Proofs.YtobcecnmeepjpaaDoor
