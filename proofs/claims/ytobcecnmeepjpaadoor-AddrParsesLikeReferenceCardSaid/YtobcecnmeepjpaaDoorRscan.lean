/- The reference's way through a dotted text, and Parse's. -/
import Derived.Test.YtobcecnmeepjpaaDoorRnum
namespace Go.Proofs.YtobcecnmeepjpaaDoor
open Go.RowKit
set_option linter.unusedVariables false

/-- what the reference's loop answers from here on: the bytes ahead, the field so far, the fields done, their number -/
def scanR : List UInt8 → List UInt8 → Nat → Int → Option Int
  | [], cur, many, a => match numZ cur 255 with
    | none => none
    | some n => if many = 3 then some (256 * a + n) else none
  | c :: l, cur, many, a => if c = 46 then (match numZ cur 255 with
      | none => none
      | some n => if many = 4 then none else scanR l [] (many + 1) (256 * a + n)) else scanR l (cur ++ [c]) many a

theorem scan_split : ∀ (l cur : List UInt8) (r : Nat) (a : Int), r ≤ 4 → (46 : UInt8) ∉ cur →
    scanR l cur (4 - r) a = if (Lib.splitK [46] 0 r (cur ++ l)).length = r then joinL (Lib.splitK [46] 0 r (cur ++ l)) a else none
  | [], cur, r, a, hr, hc => by
    rw [List.append_nil, split_end 46 r cur hc]
    unfold scanR
    cases hn : numZ cur 255 with
    | none =>
      simp only [List.length_cons, List.length_nil]
      split
      · rw [joinL_none hn]
      · rfl
    | some n =>
      simp only [List.length_cons, List.length_nil]
      by_cases h : r = 1
      · subst h
        rw [if_pos (by omega), if_pos (by omega), joinL_some hn, Int.mul_comm]; rfl
      · rw [if_neg (by omega), if_neg (by omega)]
  | c :: l, cur, r, a, hr, hc => by
    unfold scanR
    by_cases h : c = 46
    · subst h
      rw [if_pos rfl]
      match r, hr with
      | 0, _ =>
        have : (Lib.splitK [46] 0 0 (cur ++ 46 :: l)).length = 1 := rfl
        rw [if_neg (by omega)]
        cases numZ cur 255 with
        | none => rfl
        | some n => rfl
      | k + 1, hr =>
        rw [split_hit 46 k cur l hc]
        cases hn : numZ cur 255 with
        | none =>
          simp only
          split
          · rw [joinL_none hn]
          · rfl
        | some n =>
          simp only
          rw [if_neg (by omega), joinL_some hn, show 4 - (k + 1) + 1 = 4 - k by omega, scan_split l [] k (256 * a + n) (by omega) (by simp), List.nil_append, Int.mul_comm 256 a]
          simp only [List.length_cons, Nat.add_right_cancel_iff]
    · rw [if_neg h, scan_split l (cur ++ [c]) r a hr (by simp [hc, Ne.symm h]), List.append_assoc]
      rfl

theorem split_more : ∀ (k j : Nat) (l : List UInt8), l.length ≤ k → l.length ≤ j → Lib.splitK [46] 0 k l = Lib.splitK [46] 0 j l
  | 0, j, l, h1, h2 => by
    obtain rfl : l = [] := List.eq_nil_of_length_eq_zero (by omega)
    rw [split_end 46 0 [] (by simp), split_end 46 j [] (by simp)]
  | k + 1, j, l, h1, h2 => by
    by_cases h : (46 : UInt8) ∈ l
    · obtain ⟨x, y, rfl, hx⟩ := List.eq_append_cons_of_mem h
      rw [List.length_append, List.length_cons] at h1 h2
      obtain ⟨j', rfl⟩ : ∃ j', j = j' + 1 := ⟨j - 1, by omega⟩
      rw [split_hit 46 k x y hx, split_hit 46 j' x y hx, split_more k j' y (by omega) (by omega)]
    · rw [split_end 46 _ l h, split_end 46 _ l h]

theorem parse_scan (s : ByteArray) : parseL s = scanR s.data.toList [] 0 0 := by
  have h := scan_split s.data.toList [] 4 0 (by omega) (by simp)
  rw [show 4 - 4 = 0 from rfl, List.nil_append] at h
  have hsz : s.data.toList.length = s.size := by rw [Array.length_toList]; rfl
  have hf : (fieldsOf s).map (·.data.toList) = Lib.splitK [46] 0 4 s.data.toList := by
    unfold fieldsOf
    rw [Lib.splitB_data]
    by_cases c : s.size < 4
    · exact split_more _ _ _ (by omega) (by omega)
    · rw [show min 5 (s.size + 1) - 1 = 4 by omega]
  have hl : (fieldsOf s).length = (Lib.splitK [46] 0 4 s.data.toList).length := by rw [← hf, List.length_map]
  rw [h, ← hf, List.length_map]; rfl

theorem ext_list (s : ByteArray) (f k : Nat) : (s.extract f k).data.toList = (s.data.toList.drop f).take (k - f) := by
  rw [ByteArray.data_extract, Array.toList_extract]
theorem ext_snoc (s : ByteArray) (f k : Nat) (hf : f ≤ k) (hk : k < s.size) : (s.extract f (k + 1)).data.toList = (s.extract f k).data.toList ++ [s[k]'hk] := by
  have hl : k < s.data.toList.length := by rw [Array.length_toList]; exact hk
  rw [ext_list, ext_list, show k + 1 - f = (k - f) + 1 by omega, List.take_add_one, List.getElem?_drop, show f + (k - f) = k by omega, List.getElem?_eq_getElem hl]
  rfl
theorem ext_nil (s : ByteArray) (k : Nat) : (s.extract k k).data.toList = [] := by rw [ext_list, Nat.sub_self, List.take_zero]
theorem drop_get (s : ByteArray) (k : Nat) (hk : k < s.size) : s.data.toList.drop k = s[k]'hk :: s.data.toList.drop (k + 1) := by
  rw [List.drop_eq_getElem_cons (by rw [Array.length_toList]; exact hk)]; rfl
theorem drop_all (s : ByteArray) : s.data.toList.drop s.size = [] := List.drop_of_length_le (by rw [Array.length_toList]; exact Nat.le_refl _)

/-- where the reference's Parse stands -/
def At (s : ByteArray) (k f mn : Nat) (a : Int) (R : Option Int) : Prop :=
  (k ≤ s.size ∧ scanR (s.data.toList.drop k) (s.extract f k).data.toList mn a = R) ∨ (k = s.size + 1 ∧ (if mn = 4 then some a else none) = R)
theorem at_start (s : ByteArray) : At s 0 0 0 0 (parseL s) := .inl ⟨by omega, by rw [ext_nil, parse_scan]; rfl⟩
theorem at_byte {s : ByteArray} {k f mn : Nat} {a : Int} {R : Option Int} (h : At s k f mn a R) (hk : k < s.size) (hf : f ≤ k) (hc : s[k]'hk ≠ 46) : At s (k + 1) f mn a R := by
  rcases h with ⟨-, h⟩ | ⟨h, -⟩
  · refine .inl ⟨by omega, ?_⟩
    rw [drop_get s k hk, scanR, if_neg hc] at h
    rw [ext_snoc s f k hf hk]; exact h
  · omega
/-- a field ends at k: the number fails, or a fifth field begins -/
theorem at_none {s : ByteArray} {k f mn : Nat} {a : Int} {R : Option Int} (h : At s k f mn a R) (hk : k ≤ s.size) (hc : ∀ hk : k < s.size, s[k]'hk = 46) (hn : numZ (s.extract f k).data.toList 255 = none) : R = none := by
  rcases h with ⟨-, h⟩ | ⟨h, -⟩
  · by_cases c : k < s.size
    · rw [drop_get s k c, scanR, if_pos (hc c), hn] at h; exact h.symm
    · obtain rfl : k = s.size := by omega
      rw [drop_all, scanR, hn] at h; exact h.symm
  · omega
theorem at_four {s : ByteArray} {k f : Nat} {a v : Int} {R : Option Int} (h : At s k f 4 a R) (hk : k ≤ s.size) (hc : ∀ hk : k < s.size, s[k]'hk = 46) (hn : numZ (s.extract f k).data.toList 255 = some v) : R = none := by
  rcases h with ⟨-, h⟩ | ⟨h, -⟩
  · by_cases c : k < s.size
    · rw [drop_get s k c, scanR, if_pos (hc c), hn] at h; exact h.symm
    · obtain rfl : k = s.size := by omega
      rw [drop_all, scanR, hn] at h; exact h.symm
  · omega
theorem at_field {s : ByteArray} {k f mn : Nat} {a v : Int} {R : Option Int} (h : At s k f mn a R) (hk : k ≤ s.size) (h4 : mn ≠ 4) (hc : ∀ hk : k < s.size, s[k]'hk = 46) (hn : numZ (s.extract f k).data.toList 255 = some v) : At s (k + 1) (k + 1) (mn + 1) (256 * a + v) R := by
  rcases h with ⟨-, h⟩ | ⟨h, -⟩
  · by_cases c : k < s.size
    · rw [drop_get s k c, scanR, if_pos (hc c), hn] at h
      simp only at h
      rw [if_neg h4] at h
      exact .inl ⟨by omega, by rw [ext_nil]; exact h⟩
    · obtain rfl : k = s.size := by omega
      rw [drop_all, scanR, hn] at h
      simp only at h
      refine .inr ⟨rfl, ?_⟩
      rw [← h]
      by_cases c3 : mn = 3
      · rw [if_pos (by omega), if_pos c3]
      · rw [if_neg (by omega), if_neg c3]
  · omega
theorem at_end {s : ByteArray} {f mn : Nat} {a : Int} {R : Option Int} (h : At s (s.size + 1) f mn a R) : R = if mn = 4 then some a else none := by
  rcases h with ⟨h, -⟩ | ⟨-, h⟩
  · omega
  · exact h.symm
end Go.Proofs.YtobcecnmeepjpaaDoor
