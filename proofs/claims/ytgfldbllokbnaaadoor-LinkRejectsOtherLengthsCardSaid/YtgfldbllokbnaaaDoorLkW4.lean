/- The walk of LinkRejectsOtherLengths. -/
import Derived.Test.YtgfldbllokbnaaaDoorLkSane
import Derived.Test.YtgfldbllokbnaaaDoorLkLf
import Derived.Deep.RegionHeld3
import Derived.BigRegion
namespace Go.Proofs.YtgfldbllokbnaaaDoor
set_option linter.unusedVariables false
open Go.RowKit
attribute [local go_sem] Oper.semAt_some

set_option maxRecDepth 100000 in
set_option maxHeartbeats 800000 in
theorem oth_cut (a b c : Int) (s : ByteArray) (at0 : Int) (m M : ByteArray) (w : World) (a1 : -9223372036854775808 ≤ a) (a2 : a ≤ 9223372036854775807) (b1 : -9223372036854775808 ≤ b) (b2 : b ≤ 9223372036854775807) (c1 : -9223372036854775808 ≤ c) (c2 : c ≤ 9223372036854775807) (hs : s.size ≤ maxLen) (l1 : -9223372036854775808 ≤ at0) (u1 : at0 ≤ 9223372036854775807) (hm : m.size ≤ maxLen) (hk : 100 < m.size) (hc : m.extract 0 100 = M) (hM1 : 1 ≤ M.size) (hM2 : M.size ≤ 100) (ea : Addr) (E : Env w ea) :
    Calls Tryd.prog 7 #[fv a b c s, .int .i64 at0, .string m] w fun e w' => e = .returned (.bool true) ∧ Below w.heap.size w w' := by
  have k1 : (100 : Int) ≤ (m.size : Int) := by omega
  have k2 : (100 : Int) < (m.size : Int) := by omega
  have hne : ¬ M.toList = [] := by intro e; have h := size_toList M; rw [← Lib.toList_data, e] at h; simp at h; omega
  have hne2 : M.toList.isEmpty = false := by cases h : M.toList with | nil => exact absurd h hne | cons => rfl
  have hm2 := hm
  unfold maxLen at hm2
  go_enter Tryd.func7, Tryd.ntmps7
  go_wp2_with fail
  have E0 : Env (w.alloc (fo a b c s)) ea := cell_alloc E _
  refine (sane_any _ ea E0).mono ?_
  rintro e w1 ⟨rfl, hb1⟩
  have hB1 : Below w.heap.size w w1 := ((Below.refl _ w).alloc (Nat.le_refl _) _).trans (hb1.mono (by simp))
  have hf1 := blk_below (blk_new w (fo a b c s)) hb1 (by simp)
  have E1 := E.stay hB1
  clear hb1 E0 E
  have x0 := (blk_cell (k := 0) hf1 rfl).1
  have x1 := (blk_cell (k := 1) hf1 rfl).1
  have x2 := (blk_cell (k := 2) hf1 rfl).1
  have x3 := (blk_cell (k := 3) hf1 rfl).1
  simp only [List.getElem_toArray, List.getElem_cons_zero, List.getElem_cons_succ] at x0 x1 x2 x3
  go_wp2_with fail
  refine (frame_law a b c s _ a1 a2 b1 b2 c1 c2 hs).mono ?_
  rintro e w2 ⟨rfl, hb2⟩
  have hB2 := hB1.trans (hb2.mono hB1.size)
  have E2 := E1.stay hb2
  have hok := okF_pick a b c s
  clear hb2 E1 x0 x1 x2 x3 hf1
  revert hok
  generalize 1 + pickZ a 65535 = A
  generalize 1 + pickZ b 65534 = B
  generalize 1 + pickZ c 2 = C
  generalize cutK s = T
  intro hok
  have hT : T.size ≤ 1024 := hok.2.2.2.2.2
  have hde := dec_enc A B C T hok
  have hz := enc_size A B C T
  go_wp2_with fail
  refine (encode_yes A B C T _ hok).mono ?_
  rintro e w3 ⟨rfl, hb3⟩
  have hB3 := hB2.trans (hb3.mono hB2.size)
  have E3 := E2.stay hb3
  clear hb3 E2
  revert hde hz
  generalize encS A B C T = S
  intro hde hz
  have hS0 : ¬ (S.size : Int) = 0 := by omega
  have hSl : 11 ≤ S.size := by omega
  have hSu : S.size ≤ 1035 := by omega
  have Hno : Hid ((∀ j, j < S.size → ¬ decC (S.extract 0 j)) ∧ ¬ decC (S ++ M)) := by
    refine ⟨fun j hj => ?_, ?_⟩
    · have z : (S.extract 0 j).size = j := by rw [ByteArray.size_extract]; omega
      exact dec_len S _ hde j (by rw [extract_list, List.drop_zero, Nat.sub_zero, List.take_take, Nat.min_self]) (by omega) (.inl z.symm)
    · exact dec_len S _ hde S.size (by rw [toList_append, List.take_append_of_le_length (by rw [size_toList]; exact Nat.le_refl _)]) (by rw [ByteArray.size_append]; omega) (.inr rfl)
  clear hz hde hok
  go_wp2_with fail
  refine (pick_any _ _ _ l1 u1 (by omega) (by omega)).mono ?_
  rintro e w' ⟨rfl, rfl⟩
  have hpb := pickZ_bd at0 (S.size : Int) (by omega)
  obtain ⟨j, hj⟩ : ∃ j : Nat, pickZ at0 (S.size : Int) = (j : Int) := ⟨(pickZ at0 (S.size : Int)).toNat, by omega⟩
  rw [hj] at hpb ⊢
  have hjl : j < S.size := by omega
  have hj0 : (0 : Int) ≤ (j : Int) := by omega
  have hj1 : (j : Int) ≤ (S.size : Int) := by omega
  have Hn1 := Lib.hid (Hno.out.1 j hjl)
  have Hn2 := Lib.hid Hno.out.2
  have s1 : (S.extract 0 j).size ≤ 1035 := by rw [ByteArray.size_extract]; omega
  clear Hno hpb hj
  revert Hn1 s1
  obtain ⟨X, hX⟩ : ∃ X, S.extract 0 j = X := ⟨_, rfl⟩
  rw [hX]
  intro Hn1 s1
  go_wp2_with fail
  refine (decode_no X _ ea E3 (by unfold maxLen; omega) Hn1.out).mono ?_
  rintro e w4 ⟨rfl, hb4⟩
  have hB4 := hB3.trans (hb4.mono hB3.size)
  have hB5 := hB4.alloc hB4.size (fo 0 0 0 ⟨#[]⟩)
  have E5 : Env (w4.alloc (fo 0 0 0 ⟨#[]⟩)) ea := cell_alloc (E3.stay hb4) _
  clear hb4 E3 Hn1 hX
  have sY : (S ++ M).size ≤ 1135 := by rw [ByteArray.size_append]; omega
  go_wp2_with fail
  refine (decode_no (S ++ M) _ ea E5 (by unfold maxLen; omega) Hn2.out).mono ?_
  rintro e w6 ⟨rfl, hb6⟩
  have hB6 := hB5.trans (hb6.mono hB5.size)
  have hB7 := hB6.alloc hB6.size (fo 0 0 0 ⟨#[]⟩)
  clear Hn2 hb6 E5
  go_wp2
  go_ret
  exact ⟨rfl, hB7⟩

set_option maxRecDepth 100000 in
set_option maxHeartbeats 800000 in
theorem oth_uncut (a b c : Int) (s : ByteArray) (at0 : Int) (m M : ByteArray) (w : World) (a1 : -9223372036854775808 ≤ a) (a2 : a ≤ 9223372036854775807) (b1 : -9223372036854775808 ≤ b) (b2 : b ≤ 9223372036854775807) (c1 : -9223372036854775808 ≤ c) (c2 : c ≤ 9223372036854775807) (hs : s.size ≤ maxLen) (l1 : -9223372036854775808 ≤ at0) (u1 : at0 ≤ 9223372036854775807) (hm : m.size ≤ maxLen) (hk : m.size ≤ 100) (hc : M = m) (hM1 : 1 ≤ M.size) (hM2 : M.size ≤ 100) (ea : Addr) (E : Env w ea) :
    Calls Tryd.prog 7 #[fv a b c s, .int .i64 at0, .string m] w fun e w' => e = .returned (.bool true) ∧ Below w.heap.size w w' := by
  subst hc
  have k0 : (0 : Int) ≤ (M.size : Int) := by omega
  have k1 : (M.size : Int) ≤ 100 := by omega
  have k2 : ((100 : Int) < (M.size : Int)) = False := eq_false (by omega)
  have hne : ¬ M.toList = [] := by intro e; have h := size_toList M; rw [← Lib.toList_data, e] at h; simp at h; omega
  have hne2 : M.toList.isEmpty = false := by cases h : M.toList with | nil => exact absurd h hne | cons => rfl
  have hm2 := hm
  unfold maxLen at hm2
  go_enter Tryd.func7, Tryd.ntmps7
  go_wp2_with fail
  have E0 : Env (w.alloc (fo a b c s)) ea := cell_alloc E _
  refine (sane_any _ ea E0).mono ?_
  rintro e w1 ⟨rfl, hb1⟩
  have hB1 : Below w.heap.size w w1 := ((Below.refl _ w).alloc (Nat.le_refl _) _).trans (hb1.mono (by simp))
  have hf1 := blk_below (blk_new w (fo a b c s)) hb1 (by simp)
  have E1 := E.stay hB1
  clear hb1 E0 E
  have x0 := (blk_cell (k := 0) hf1 rfl).1
  have x1 := (blk_cell (k := 1) hf1 rfl).1
  have x2 := (blk_cell (k := 2) hf1 rfl).1
  have x3 := (blk_cell (k := 3) hf1 rfl).1
  simp only [List.getElem_toArray, List.getElem_cons_zero, List.getElem_cons_succ] at x0 x1 x2 x3
  go_wp2_with fail
  refine (frame_law a b c s _ a1 a2 b1 b2 c1 c2 hs).mono ?_
  rintro e w2 ⟨rfl, hb2⟩
  have hB2 := hB1.trans (hb2.mono hB1.size)
  have E2 := E1.stay hb2
  have hok := okF_pick a b c s
  clear hb2 E1 x0 x1 x2 x3 hf1
  revert hok
  generalize 1 + pickZ a 65535 = A
  generalize 1 + pickZ b 65534 = B
  generalize 1 + pickZ c 2 = C
  generalize cutK s = T
  intro hok
  have hT : T.size ≤ 1024 := hok.2.2.2.2.2
  have hde := dec_enc A B C T hok
  have hz := enc_size A B C T
  go_wp2_with fail
  refine (encode_yes A B C T _ hok).mono ?_
  rintro e w3 ⟨rfl, hb3⟩
  have hB3 := hB2.trans (hb3.mono hB2.size)
  have E3 := E2.stay hb3
  clear hb3 E2
  revert hde hz
  generalize encS A B C T = S
  intro hde hz
  have hS0 : ¬ (S.size : Int) = 0 := by omega
  have hSl : 11 ≤ S.size := by omega
  have hSu : S.size ≤ 1035 := by omega
  have Hno : Hid ((∀ j, j < S.size → ¬ decC (S.extract 0 j)) ∧ ¬ decC (S ++ M)) := by
    refine ⟨fun j hj => ?_, ?_⟩
    · have z : (S.extract 0 j).size = j := by rw [ByteArray.size_extract]; omega
      exact dec_len S _ hde j (by rw [extract_list, List.drop_zero, Nat.sub_zero, List.take_take, Nat.min_self]) (by omega) (.inl z.symm)
    · exact dec_len S _ hde S.size (by rw [toList_append, List.take_append_of_le_length (by rw [size_toList]; exact Nat.le_refl _)]) (by rw [ByteArray.size_append]; omega) (.inr rfl)
  clear hz hde hok
  go_wp2_with fail
  refine (pick_any _ _ _ l1 u1 (by omega) (by omega)).mono ?_
  rintro e w' ⟨rfl, rfl⟩
  have hpb := pickZ_bd at0 (S.size : Int) (by omega)
  obtain ⟨j, hj⟩ : ∃ j : Nat, pickZ at0 (S.size : Int) = (j : Int) := ⟨(pickZ at0 (S.size : Int)).toNat, by omega⟩
  rw [hj] at hpb ⊢
  have hjl : j < S.size := by omega
  have hj0 : (0 : Int) ≤ (j : Int) := by omega
  have hj1 : (j : Int) ≤ (S.size : Int) := by omega
  have Hn1 := Lib.hid (Hno.out.1 j hjl)
  have Hn2 := Lib.hid Hno.out.2
  have s1 : (S.extract 0 j).size ≤ 1035 := by rw [ByteArray.size_extract]; omega
  clear Hno hpb hj
  revert Hn1 s1
  obtain ⟨X, hX⟩ : ∃ X, S.extract 0 j = X := ⟨_, rfl⟩
  rw [hX]
  intro Hn1 s1
  go_wp2_with fail
  refine (decode_no X _ ea E3 (by unfold maxLen; omega) Hn1.out).mono ?_
  rintro e w4 ⟨rfl, hb4⟩
  have hB4 := hB3.trans (hb4.mono hB3.size)
  have hB5 := hB4.alloc hB4.size (fo 0 0 0 ⟨#[]⟩)
  have E5 : Env (w4.alloc (fo 0 0 0 ⟨#[]⟩)) ea := cell_alloc (E3.stay hb4) _
  clear hb4 E3 Hn1 hX
  have sY : (S ++ M).size ≤ 1135 := by rw [ByteArray.size_append]; omega
  go_wp2_with fail
  refine (decode_no (S ++ M) _ ea E5 (by unfold maxLen; omega) Hn2.out).mono ?_
  rintro e w6 ⟨rfl, hb6⟩
  have hB6 := hB5.trans (hb6.mono hB5.size)
  have hB7 := hB6.alloc hB6.size (fo 0 0 0 ⟨#[]⟩)
  clear Hn2 hb6 E5
  go_wp2
  go_ret
  exact ⟨rfl, hB7⟩

set_option maxRecDepth 100000 in
set_option maxHeartbeats 800000 in
theorem oth_nil (a b c : Int) (s : ByteArray) (at0 : Int) (m : ByteArray) (w : World) (a1 : -9223372036854775808 ≤ a) (a2 : a ≤ 9223372036854775807) (b1 : -9223372036854775808 ≤ b) (b2 : b ≤ 9223372036854775807) (c1 : -9223372036854775808 ≤ c) (c2 : c ≤ 9223372036854775807) (hs : s.size ≤ maxLen) (l1 : -9223372036854775808 ≤ at0) (u1 : at0 ≤ 9223372036854775807) (hm : m.size ≤ maxLen) (hk : m = ⟨#[]⟩) (ea : Addr) (E : Env w ea) :
    Calls Tryd.prog 7 #[fv a b c s, .int .i64 at0, .string m] w fun e w' => e = .returned (.bool true) ∧ Below w.heap.size w w' := by
  subst hk
  have hM1 : 1 ≤ (⟨#[0]⟩ : ByteArray).size := by decide
  have hM2 : (⟨#[0]⟩ : ByteArray).size ≤ 100 := by decide
  have hm2 := hm
  unfold maxLen at hm2
  go_enter Tryd.func7, Tryd.ntmps7
  go_wp2_with fail
  have E0 : Env (w.alloc (fo a b c s)) ea := cell_alloc E _
  refine (sane_any _ ea E0).mono ?_
  rintro e w1 ⟨rfl, hb1⟩
  have hB1 : Below w.heap.size w w1 := ((Below.refl _ w).alloc (Nat.le_refl _) _).trans (hb1.mono (by simp))
  have hf1 := blk_below (blk_new w (fo a b c s)) hb1 (by simp)
  have E1 := E.stay hB1
  clear hb1 E0 E
  have x0 := (blk_cell (k := 0) hf1 rfl).1
  have x1 := (blk_cell (k := 1) hf1 rfl).1
  have x2 := (blk_cell (k := 2) hf1 rfl).1
  have x3 := (blk_cell (k := 3) hf1 rfl).1
  simp only [List.getElem_toArray, List.getElem_cons_zero, List.getElem_cons_succ] at x0 x1 x2 x3
  go_wp2_with fail
  refine (frame_law a b c s _ a1 a2 b1 b2 c1 c2 hs).mono ?_
  rintro e w2 ⟨rfl, hb2⟩
  have hB2 := hB1.trans (hb2.mono hB1.size)
  have E2 := E1.stay hb2
  have hok := okF_pick a b c s
  clear hb2 E1 x0 x1 x2 x3 hf1
  revert hok
  generalize 1 + pickZ a 65535 = A
  generalize 1 + pickZ b 65534 = B
  generalize 1 + pickZ c 2 = C
  generalize cutK s = T
  intro hok
  have hT : T.size ≤ 1024 := hok.2.2.2.2.2
  have hde := dec_enc A B C T hok
  have hz := enc_size A B C T
  go_wp2_with fail
  refine (encode_yes A B C T _ hok).mono ?_
  rintro e w3 ⟨rfl, hb3⟩
  have hB3 := hB2.trans (hb3.mono hB2.size)
  have E3 := E2.stay hb3
  clear hb3 E2
  revert hde hz
  generalize encS A B C T = S
  intro hde hz
  have hS0 : ¬ (S.size : Int) = 0 := by omega
  have hSl : 11 ≤ S.size := by omega
  have hSu : S.size ≤ 1035 := by omega
  have Hno : Hid ((∀ j, j < S.size → ¬ decC (S.extract 0 j)) ∧ ¬ decC (S ++ (⟨#[0]⟩ : ByteArray))) := by
    refine ⟨fun j hj => ?_, ?_⟩
    · have z : (S.extract 0 j).size = j := by rw [ByteArray.size_extract]; omega
      exact dec_len S _ hde j (by rw [extract_list, List.drop_zero, Nat.sub_zero, List.take_take, Nat.min_self]) (by omega) (.inl z.symm)
    · exact dec_len S _ hde S.size (by rw [toList_append, List.take_append_of_le_length (by rw [size_toList]; exact Nat.le_refl _)]) (by rw [ByteArray.size_append]; omega) (.inr rfl)
  clear hz hde hok
  go_wp2_with fail
  refine (pick_any _ _ _ l1 u1 (by omega) (by omega)).mono ?_
  rintro e w' ⟨rfl, rfl⟩
  have hpb := pickZ_bd at0 (S.size : Int) (by omega)
  obtain ⟨j, hj⟩ : ∃ j : Nat, pickZ at0 (S.size : Int) = (j : Int) := ⟨(pickZ at0 (S.size : Int)).toNat, by omega⟩
  rw [hj] at hpb ⊢
  have hjl : j < S.size := by omega
  have hj0 : (0 : Int) ≤ (j : Int) := by omega
  have hj1 : (j : Int) ≤ (S.size : Int) := by omega
  have Hn1 := Lib.hid (Hno.out.1 j hjl)
  have Hn2 := Lib.hid Hno.out.2
  have s1 : (S.extract 0 j).size ≤ 1035 := by rw [ByteArray.size_extract]; omega
  clear Hno hpb hj
  revert Hn1 s1
  obtain ⟨X, hX⟩ : ∃ X, S.extract 0 j = X := ⟨_, rfl⟩
  rw [hX]
  intro Hn1 s1
  go_wp2_with fail
  refine (decode_no X _ ea E3 (by unfold maxLen; omega) Hn1.out).mono ?_
  rintro e w4 ⟨rfl, hb4⟩
  have hB4 := hB3.trans (hb4.mono hB3.size)
  have hB5 := hB4.alloc hB4.size (fo 0 0 0 ⟨#[]⟩)
  have E5 : Env (w4.alloc (fo 0 0 0 ⟨#[]⟩)) ea := cell_alloc (E3.stay hb4) _
  clear hb4 E3 Hn1 hX
  have sY : (S ++ (⟨#[0]⟩ : ByteArray)).size ≤ 1135 := by rw [ByteArray.size_append]; omega
  go_wp2_with fail
  refine (decode_no (S ++ (⟨#[0]⟩ : ByteArray)) _ ea E5 (by unfold maxLen; omega) Hn2.out).mono ?_
  rintro e w6 ⟨rfl, hb6⟩
  have hB6 := hB5.trans (hb6.mono hB5.size)
  have hB7 := hB6.alloc hB6.size (fo 0 0 0 ⟨#[]⟩)
  clear Hn2 hb6 E5
  go_wp2
  go_ret
  exact ⟨rfl, hB7⟩

theorem walk_LinkRejectsOtherLengths (a b c : Int) (s : ByteArray) (at0 : Int) (m : ByteArray) (w : World) (a1 : -9223372036854775808 ≤ a) (a2 : a ≤ 9223372036854775807) (b1 : -9223372036854775808 ≤ b) (b2 : b ≤ 9223372036854775807) (c1 : -9223372036854775808 ≤ c) (c2 : c ≤ 9223372036854775807) (hs : s.size ≤ maxLen) (l1 : -9223372036854775808 ≤ at0) (u1 : at0 ≤ 9223372036854775807) (hm : m.size ≤ maxLen) (E : ∃ ea, Env w ea) :
    Calls Tryd.prog 7 #[fv a b c s, .int .i64 at0, .string m] w fun e w' => e = .returned (.bool true) ∧ Below w.heap.size w w' := by
  obtain ⟨ea, E⟩ := E
  by_cases h0 : m.size = 0
  · have hm0 : m = ⟨#[]⟩ := ba_ext (by rw [List.eq_nil_of_length_eq_zero (l := m.data.toList) (by rw [size_toList]; exact h0)])
    exact oth_nil a b c s at0 m w a1 a2 b1 b2 c1 c2 hs l1 u1 hm hm0 ea E
  by_cases hk : 100 < m.size
  · exact oth_cut a b c s at0 m _ w a1 a2 b1 b2 c1 c2 hs l1 u1 hm hk rfl (by rw [ByteArray.size_extract]; omega) (by rw [ByteArray.size_extract]; omega) ea E
  · exact oth_uncut a b c s at0 m m w a1 a2 b1 b2 c1 c2 hs l1 u1 hm (by omega) rfl (by omega) (by omega) ea E
end Go.Proofs.YtgfldbllokbnaaaDoor
