/- Contracts of stagepostlaw08's pick and Msg. -/
import Derived.Test.YtidjbpglpobigaaDoorImZ
import Derived.Test.YtidjbpglpobigaaDoorPick
namespace Go.Proofs.YtidjbpglpobigaaDoor
open Go.RowKit
set_option linter.unusedVariables false
attribute [local go_sem] Oper.semAt_some

theorem pick8_any (c n : Int) (w : World) (h1 : -9223372036854775808 ≤ c) (h2 : c ≤ 9223372036854775807) (hn : 1 ≤ n) (hn2 : n ≤ 9223372036854775807) :
    Calls Tryd.prog 23 #[.int .i64 c, .int .i64 n] w fun e w' => e = .returned (.int .i64 (pickZ c n)) ∧ w = w' := by
  by_cases hc : c < 0
  · go_enter Tryd.func23, Tryd.ntmps23
    go_wp2
    go_ret
    exact ⟨ret_int (by rw [pickZ_neg hc, ← Int.neg_tmod, Int.tmod_eq_emod_of_nonneg (by omega)]), rfl⟩
  · have hc' : 0 ≤ c := by omega
    go_enter Tryd.func23, Tryd.ntmps23
    go_wp2
    go_ret
    exact ⟨ret_int (by rw [pickZ_pos hc']), rfl⟩

/-- the valid message that a message is mapped to -/
def msgK (k c n : Int) (s : ByteArray) : Ms :=
  let K := 1 + pickZ k 5
  if K = 3 then ⟨3, 1 + pickZ c 4, 0, s.extract 0 (min s.size 28)⟩ else if K = 4 then ⟨4, 1 + pickZ c 2, 0, s.extract 0 (min s.size 28)⟩ else if K = 5 then ⟨5, 0, 68 + pickZ n 957, s.extract 0 (min s.size 28)⟩ else ⟨K, 0, pickZ n 4294967296, s.extract 0 (min s.size 500)⟩
theorem msgK_ok (k c n : Int) (s : ByteArray) : okM (msgK k c n s) := by
  have h1 := pickZ_bd k 5 (by omega)
  have h2 := pickZ_bd c 4 (by omega)
  have h3 := pickZ_bd c 2 (by omega)
  have h4 := pickZ_bd n 957 (by omega)
  have z5 := pickZ_bd n 4294967296 (by omega)
  have e28 : ((s.extract 0 (min s.size 28)).size : Int) ≤ 28 := by rw [ByteArray.size_extract]; omega
  have e500 : ((s.extract 0 (min s.size 500)).size : Int) ≤ 500 := by rw [ByteArray.size_extract]; omega
  unfold msgK
  simp only
  have r28 : ∀ j : Int, (28 : Int) ≤ roomK j := fun j => by unfold roomK; split <;> omega
  by_cases q3 : 1 + pickZ k 5 = 3
  · rw [if_pos q3]; exact ⟨Or.inr (Or.inl ⟨rfl, (by omega : (1 : Int) ≤ 1 + pickZ c 4), (by omega : 1 + pickZ c 4 ≤ (4 : Int)), rfl⟩), Int.le_trans e28 (r28 _)⟩
  · rw [if_neg q3]
    by_cases q4 : 1 + pickZ k 5 = 4
    · rw [if_pos q4]; exact ⟨Or.inr (Or.inr (Or.inl ⟨rfl, (by omega : (1 : Int) ≤ 1 + pickZ c 2), (by omega : 1 + pickZ c 2 ≤ (2 : Int)), rfl⟩)), Int.le_trans e28 (r28 _)⟩
    · rw [if_neg q4]
      by_cases q5 : 1 + pickZ k 5 = 5
      · rw [if_pos q5]; exact ⟨Or.inr (Or.inr (Or.inr ⟨rfl, rfl, (by omega : (68 : Int) ≤ 68 + pickZ n 957), (by omega : 68 + pickZ n 957 ≤ (1024 : Int))⟩)), Int.le_trans e28 (r28 _)⟩
      · rw [if_neg q5]
        have q12 : 1 + pickZ k 5 = 1 ∨ 1 + pickZ k 5 = 2 := by omega
        refine ⟨Or.inl ⟨q12, rfl, z5.1, (by omega : pickZ n 4294967296 ≤ (4294967295 : Int))⟩, ?_⟩
        unfold roomK
        rw [if_pos q12]
        exact e500
set_option maxRecDepth 100000 in
set_option maxHeartbeats 1600000 in
theorem msg_0a (k c n : Int) (s X : ByteArray) (hk : b64i k) (hc : b64i c) (hn : b64i n) (hs : s.size ≤ maxLen) (hq : pickZ k 5 = 0) (hX : s.extract 0 500 = X) (hl : 500 < s.size) (w : World) :
    Calls Tryd.prog 26 #[mv ⟨k, c, n, s⟩] w fun e w' => e = .returned (mv ⟨1, 0, pickZ n 4294967296, X⟩) ∧ Below w.heap.size w w' := by
  unfold b64i at hk hc hn
  unfold maxLen at hs
  obtain ⟨hk1, hk2⟩ := hk
  obtain ⟨hc1, hc2⟩ := hc
  obtain ⟨hn1, hn2⟩ := hn
  have k1 : (500 : Int) ≤ (s.size : Int) := by omega
  have k2 : (500 : Int) < (s.size : Int) := by omega
  have z1 := pickZ_bd c 4 (by omega)
  have z2 := pickZ_bd c 2 (by omega)
  have z3 := pickZ_bd n 957 (by omega)
  have z4 := pickZ_bd n 4294967296 (by omega)
  go_enter Tryd.func26, Tryd.ntmps26
  go_wp2_with (go_at_call 23; refine (pick8_any _ _ _ (by omega) (by omega) (by omega) (by omega)).mono ?_; rintro e w2 ⟨rfl, rfl⟩; (try rw [hq]))
  go_returns
  refine ⟨rfl, ?_⟩
  go_grown

set_option maxRecDepth 100000 in
set_option maxHeartbeats 1600000 in
theorem msg_0b (k c n : Int) (s X : ByteArray) (hk : b64i k) (hc : b64i c) (hn : b64i n) (hs : s.size ≤ maxLen) (hq : pickZ k 5 = 0) (hX : s.extract 0 s.size = X) (hl : s.size ≤ 500) (w : World) :
    Calls Tryd.prog 26 #[mv ⟨k, c, n, s⟩] w fun e w' => e = .returned (mv ⟨1, 0, pickZ n 4294967296, X⟩) ∧ Below w.heap.size w w' := by
  unfold b64i at hk hc hn
  unfold maxLen at hs
  obtain ⟨hk1, hk2⟩ := hk
  obtain ⟨hc1, hc2⟩ := hc
  obtain ⟨hn1, hn2⟩ := hn
  have k0 : (0 : Int) ≤ (s.size : Int) := by omega
  have k1 : (s.size : Int) ≤ 500 := by omega
  have k2 : ((500 : Int) < (s.size : Int)) = False := eq_false (by omega)
  have z1 := pickZ_bd c 4 (by omega)
  have z2 := pickZ_bd c 2 (by omega)
  have z3 := pickZ_bd n 957 (by omega)
  have z4 := pickZ_bd n 4294967296 (by omega)
  go_enter Tryd.func26, Tryd.ntmps26
  go_wp2_with (go_at_call 23; refine (pick8_any _ _ _ (by omega) (by omega) (by omega) (by omega)).mono ?_; rintro e w2 ⟨rfl, rfl⟩; (try rw [hq]))
  go_returns
  refine ⟨rfl, ?_⟩
  go_grown

set_option maxRecDepth 100000 in
set_option maxHeartbeats 1600000 in
theorem msg_1a (k c n : Int) (s X : ByteArray) (hk : b64i k) (hc : b64i c) (hn : b64i n) (hs : s.size ≤ maxLen) (hq : pickZ k 5 = 1) (hX : s.extract 0 500 = X) (hl : 500 < s.size) (w : World) :
    Calls Tryd.prog 26 #[mv ⟨k, c, n, s⟩] w fun e w' => e = .returned (mv ⟨2, 0, pickZ n 4294967296, X⟩) ∧ Below w.heap.size w w' := by
  unfold b64i at hk hc hn
  unfold maxLen at hs
  obtain ⟨hk1, hk2⟩ := hk
  obtain ⟨hc1, hc2⟩ := hc
  obtain ⟨hn1, hn2⟩ := hn
  have k1 : (500 : Int) ≤ (s.size : Int) := by omega
  have k2 : (500 : Int) < (s.size : Int) := by omega
  have z1 := pickZ_bd c 4 (by omega)
  have z2 := pickZ_bd c 2 (by omega)
  have z3 := pickZ_bd n 957 (by omega)
  have z4 := pickZ_bd n 4294967296 (by omega)
  go_enter Tryd.func26, Tryd.ntmps26
  go_wp2_with (go_at_call 23; refine (pick8_any _ _ _ (by omega) (by omega) (by omega) (by omega)).mono ?_; rintro e w2 ⟨rfl, rfl⟩; (try rw [hq]))
  go_returns
  refine ⟨rfl, ?_⟩
  go_grown

set_option maxRecDepth 100000 in
set_option maxHeartbeats 1600000 in
theorem msg_1b (k c n : Int) (s X : ByteArray) (hk : b64i k) (hc : b64i c) (hn : b64i n) (hs : s.size ≤ maxLen) (hq : pickZ k 5 = 1) (hX : s.extract 0 s.size = X) (hl : s.size ≤ 500) (w : World) :
    Calls Tryd.prog 26 #[mv ⟨k, c, n, s⟩] w fun e w' => e = .returned (mv ⟨2, 0, pickZ n 4294967296, X⟩) ∧ Below w.heap.size w w' := by
  unfold b64i at hk hc hn
  unfold maxLen at hs
  obtain ⟨hk1, hk2⟩ := hk
  obtain ⟨hc1, hc2⟩ := hc
  obtain ⟨hn1, hn2⟩ := hn
  have k0 : (0 : Int) ≤ (s.size : Int) := by omega
  have k1 : (s.size : Int) ≤ 500 := by omega
  have k2 : ((500 : Int) < (s.size : Int)) = False := eq_false (by omega)
  have z1 := pickZ_bd c 4 (by omega)
  have z2 := pickZ_bd c 2 (by omega)
  have z3 := pickZ_bd n 957 (by omega)
  have z4 := pickZ_bd n 4294967296 (by omega)
  go_enter Tryd.func26, Tryd.ntmps26
  go_wp2_with (go_at_call 23; refine (pick8_any _ _ _ (by omega) (by omega) (by omega) (by omega)).mono ?_; rintro e w2 ⟨rfl, rfl⟩; (try rw [hq]))
  go_returns
  refine ⟨rfl, ?_⟩
  go_grown

set_option maxRecDepth 100000 in
set_option maxHeartbeats 1600000 in
theorem msg_2a (k c n : Int) (s X : ByteArray) (hk : b64i k) (hc : b64i c) (hn : b64i n) (hs : s.size ≤ maxLen) (hq : pickZ k 5 = 2) (hX : s.extract 0 28 = X) (hl : 28 < s.size) (w : World) :
    Calls Tryd.prog 26 #[mv ⟨k, c, n, s⟩] w fun e w' => e = .returned (mv ⟨3, 1 + pickZ c 4, 0, X⟩) ∧ Below w.heap.size w w' := by
  unfold b64i at hk hc hn
  unfold maxLen at hs
  obtain ⟨hk1, hk2⟩ := hk
  obtain ⟨hc1, hc2⟩ := hc
  obtain ⟨hn1, hn2⟩ := hn
  have k1 : (28 : Int) ≤ (s.size : Int) := by omega
  have k2 : (28 : Int) < (s.size : Int) := by omega
  have z1 := pickZ_bd c 4 (by omega)
  have z2 := pickZ_bd c 2 (by omega)
  have z3 := pickZ_bd n 957 (by omega)
  have z4 := pickZ_bd n 4294967296 (by omega)
  go_enter Tryd.func26, Tryd.ntmps26
  go_wp2_with (go_at_call 23; refine (pick8_any _ _ _ (by omega) (by omega) (by omega) (by omega)).mono ?_; rintro e w2 ⟨rfl, rfl⟩; (try rw [hq]))
  go_returns
  refine ⟨rfl, ?_⟩
  go_grown

set_option maxRecDepth 100000 in
set_option maxHeartbeats 1600000 in
theorem msg_2b (k c n : Int) (s X : ByteArray) (hk : b64i k) (hc : b64i c) (hn : b64i n) (hs : s.size ≤ maxLen) (hq : pickZ k 5 = 2) (hX : s.extract 0 s.size = X) (hl : s.size ≤ 28) (w : World) :
    Calls Tryd.prog 26 #[mv ⟨k, c, n, s⟩] w fun e w' => e = .returned (mv ⟨3, 1 + pickZ c 4, 0, X⟩) ∧ Below w.heap.size w w' := by
  unfold b64i at hk hc hn
  unfold maxLen at hs
  obtain ⟨hk1, hk2⟩ := hk
  obtain ⟨hc1, hc2⟩ := hc
  obtain ⟨hn1, hn2⟩ := hn
  have k0 : (0 : Int) ≤ (s.size : Int) := by omega
  have k1 : (s.size : Int) ≤ 28 := by omega
  have k2 : ((28 : Int) < (s.size : Int)) = False := eq_false (by omega)
  have z1 := pickZ_bd c 4 (by omega)
  have z2 := pickZ_bd c 2 (by omega)
  have z3 := pickZ_bd n 957 (by omega)
  have z4 := pickZ_bd n 4294967296 (by omega)
  go_enter Tryd.func26, Tryd.ntmps26
  go_wp2_with (go_at_call 23; refine (pick8_any _ _ _ (by omega) (by omega) (by omega) (by omega)).mono ?_; rintro e w2 ⟨rfl, rfl⟩; (try rw [hq]))
  go_returns
  refine ⟨rfl, ?_⟩
  go_grown

set_option maxRecDepth 100000 in
set_option maxHeartbeats 1600000 in
theorem msg_3a (k c n : Int) (s X : ByteArray) (hk : b64i k) (hc : b64i c) (hn : b64i n) (hs : s.size ≤ maxLen) (hq : pickZ k 5 = 3) (hX : s.extract 0 28 = X) (hl : 28 < s.size) (w : World) :
    Calls Tryd.prog 26 #[mv ⟨k, c, n, s⟩] w fun e w' => e = .returned (mv ⟨4, 1 + pickZ c 2, 0, X⟩) ∧ Below w.heap.size w w' := by
  unfold b64i at hk hc hn
  unfold maxLen at hs
  obtain ⟨hk1, hk2⟩ := hk
  obtain ⟨hc1, hc2⟩ := hc
  obtain ⟨hn1, hn2⟩ := hn
  have k1 : (28 : Int) ≤ (s.size : Int) := by omega
  have k2 : (28 : Int) < (s.size : Int) := by omega
  have z1 := pickZ_bd c 4 (by omega)
  have z2 := pickZ_bd c 2 (by omega)
  have z3 := pickZ_bd n 957 (by omega)
  have z4 := pickZ_bd n 4294967296 (by omega)
  go_enter Tryd.func26, Tryd.ntmps26
  go_wp2_with (go_at_call 23; refine (pick8_any _ _ _ (by omega) (by omega) (by omega) (by omega)).mono ?_; rintro e w2 ⟨rfl, rfl⟩; (try rw [hq]))
  go_returns
  refine ⟨rfl, ?_⟩
  go_grown

set_option maxRecDepth 100000 in
set_option maxHeartbeats 1600000 in
theorem msg_3b (k c n : Int) (s X : ByteArray) (hk : b64i k) (hc : b64i c) (hn : b64i n) (hs : s.size ≤ maxLen) (hq : pickZ k 5 = 3) (hX : s.extract 0 s.size = X) (hl : s.size ≤ 28) (w : World) :
    Calls Tryd.prog 26 #[mv ⟨k, c, n, s⟩] w fun e w' => e = .returned (mv ⟨4, 1 + pickZ c 2, 0, X⟩) ∧ Below w.heap.size w w' := by
  unfold b64i at hk hc hn
  unfold maxLen at hs
  obtain ⟨hk1, hk2⟩ := hk
  obtain ⟨hc1, hc2⟩ := hc
  obtain ⟨hn1, hn2⟩ := hn
  have k0 : (0 : Int) ≤ (s.size : Int) := by omega
  have k1 : (s.size : Int) ≤ 28 := by omega
  have k2 : ((28 : Int) < (s.size : Int)) = False := eq_false (by omega)
  have z1 := pickZ_bd c 4 (by omega)
  have z2 := pickZ_bd c 2 (by omega)
  have z3 := pickZ_bd n 957 (by omega)
  have z4 := pickZ_bd n 4294967296 (by omega)
  go_enter Tryd.func26, Tryd.ntmps26
  go_wp2_with (go_at_call 23; refine (pick8_any _ _ _ (by omega) (by omega) (by omega) (by omega)).mono ?_; rintro e w2 ⟨rfl, rfl⟩; (try rw [hq]))
  go_returns
  refine ⟨rfl, ?_⟩
  go_grown

set_option maxRecDepth 100000 in
set_option maxHeartbeats 1600000 in
theorem msg_4a (k c n : Int) (s X : ByteArray) (hk : b64i k) (hc : b64i c) (hn : b64i n) (hs : s.size ≤ maxLen) (hq : pickZ k 5 = 4) (hX : s.extract 0 28 = X) (hl : 28 < s.size) (w : World) :
    Calls Tryd.prog 26 #[mv ⟨k, c, n, s⟩] w fun e w' => e = .returned (mv ⟨5, 0, 68 + pickZ n 957, X⟩) ∧ Below w.heap.size w w' := by
  unfold b64i at hk hc hn
  unfold maxLen at hs
  obtain ⟨hk1, hk2⟩ := hk
  obtain ⟨hc1, hc2⟩ := hc
  obtain ⟨hn1, hn2⟩ := hn
  have k1 : (28 : Int) ≤ (s.size : Int) := by omega
  have k2 : (28 : Int) < (s.size : Int) := by omega
  have z1 := pickZ_bd c 4 (by omega)
  have z2 := pickZ_bd c 2 (by omega)
  have z3 := pickZ_bd n 957 (by omega)
  have z4 := pickZ_bd n 4294967296 (by omega)
  go_enter Tryd.func26, Tryd.ntmps26
  go_wp2_with (go_at_call 23; refine (pick8_any _ _ _ (by omega) (by omega) (by omega) (by omega)).mono ?_; rintro e w2 ⟨rfl, rfl⟩; (try rw [hq]))
  go_returns
  refine ⟨rfl, ?_⟩
  go_grown

set_option maxRecDepth 100000 in
set_option maxHeartbeats 1600000 in
theorem msg_4b (k c n : Int) (s X : ByteArray) (hk : b64i k) (hc : b64i c) (hn : b64i n) (hs : s.size ≤ maxLen) (hq : pickZ k 5 = 4) (hX : s.extract 0 s.size = X) (hl : s.size ≤ 28) (w : World) :
    Calls Tryd.prog 26 #[mv ⟨k, c, n, s⟩] w fun e w' => e = .returned (mv ⟨5, 0, 68 + pickZ n 957, X⟩) ∧ Below w.heap.size w w' := by
  unfold b64i at hk hc hn
  unfold maxLen at hs
  obtain ⟨hk1, hk2⟩ := hk
  obtain ⟨hc1, hc2⟩ := hc
  obtain ⟨hn1, hn2⟩ := hn
  have k0 : (0 : Int) ≤ (s.size : Int) := by omega
  have k1 : (s.size : Int) ≤ 28 := by omega
  have k2 : ((28 : Int) < (s.size : Int)) = False := eq_false (by omega)
  have z1 := pickZ_bd c 4 (by omega)
  have z2 := pickZ_bd c 2 (by omega)
  have z3 := pickZ_bd n 957 (by omega)
  have z4 := pickZ_bd n 4294967296 (by omega)
  go_enter Tryd.func26, Tryd.ntmps26
  go_wp2_with (go_at_call 23; refine (pick8_any _ _ _ (by omega) (by omega) (by omega) (by omega)).mono ?_; rintro e w2 ⟨rfl, rfl⟩; (try rw [hq]))
  go_returns
  refine ⟨rfl, ?_⟩
  go_grown

theorem msg_any (k c n : Int) (s : ByteArray) (hk : b64i k) (hc : b64i c) (hn : b64i n) (hs : s.size ≤ maxLen) (w : World) :
    Calls Tryd.prog 26 #[mv ⟨k, c, n, s⟩] w fun e w' => e = .returned (mv (msgK k c n s)) ∧ Below w.heap.size w w' := by
  have h1 := pickZ_bd k 5 (by omega)
  rcases (by omega : pickZ k 5 = 0 ∨ pickZ k 5 = 1 ∨ pickZ k 5 = 2 ∨ pickZ k 5 = 3 ∨ pickZ k 5 = 4) with hq | hq | hq | hq | hq
  · by_cases hl : 500 < s.size
    · have e : msgK k c n s = ⟨1, 0, pickZ n 4294967296, s.extract 0 500⟩ := by unfold msgK; rw [hq, Nat.min_eq_right (Nat.le_of_lt hl)]; rfl
      rw [e]
      exact msg_0a k c n s _ hk hc hn hs hq rfl hl w
    · have e : msgK k c n s = ⟨1, 0, pickZ n 4294967296, s.extract 0 s.size⟩ := by unfold msgK; rw [hq, Nat.min_eq_left (by omega : s.size ≤ 500)]; rfl
      rw [e]
      exact msg_0b k c n s _ hk hc hn hs hq rfl (by omega) w
  · by_cases hl : 500 < s.size
    · have e : msgK k c n s = ⟨2, 0, pickZ n 4294967296, s.extract 0 500⟩ := by unfold msgK; rw [hq, Nat.min_eq_right (Nat.le_of_lt hl)]; rfl
      rw [e]
      exact msg_1a k c n s _ hk hc hn hs hq rfl hl w
    · have e : msgK k c n s = ⟨2, 0, pickZ n 4294967296, s.extract 0 s.size⟩ := by unfold msgK; rw [hq, Nat.min_eq_left (by omega : s.size ≤ 500)]; rfl
      rw [e]
      exact msg_1b k c n s _ hk hc hn hs hq rfl (by omega) w
  · by_cases hl : 28 < s.size
    · have e : msgK k c n s = ⟨3, 1 + pickZ c 4, 0, s.extract 0 28⟩ := by unfold msgK; rw [hq, Nat.min_eq_right (Nat.le_of_lt hl)]; rfl
      rw [e]
      exact msg_2a k c n s _ hk hc hn hs hq rfl hl w
    · have e : msgK k c n s = ⟨3, 1 + pickZ c 4, 0, s.extract 0 s.size⟩ := by unfold msgK; rw [hq, Nat.min_eq_left (by omega : s.size ≤ 28)]; rfl
      rw [e]
      exact msg_2b k c n s _ hk hc hn hs hq rfl (by omega) w
  · by_cases hl : 28 < s.size
    · have e : msgK k c n s = ⟨4, 1 + pickZ c 2, 0, s.extract 0 28⟩ := by unfold msgK; rw [hq, Nat.min_eq_right (Nat.le_of_lt hl)]; rfl
      rw [e]
      exact msg_3a k c n s _ hk hc hn hs hq rfl hl w
    · have e : msgK k c n s = ⟨4, 1 + pickZ c 2, 0, s.extract 0 s.size⟩ := by unfold msgK; rw [hq, Nat.min_eq_left (by omega : s.size ≤ 28)]; rfl
      rw [e]
      exact msg_3b k c n s _ hk hc hn hs hq rfl (by omega) w
  · by_cases hl : 28 < s.size
    · have e : msgK k c n s = ⟨5, 0, 68 + pickZ n 957, s.extract 0 28⟩ := by unfold msgK; rw [hq, Nat.min_eq_right (Nat.le_of_lt hl)]; rfl
      rw [e]
      exact msg_4a k c n s _ hk hc hn hs hq rfl hl w
    · have e : msgK k c n s = ⟨5, 0, 68 + pickZ n 957, s.extract 0 s.size⟩ := by unfold msgK; rw [hq, Nat.min_eq_left (by omega : s.size ≤ 28)]; rfl
      rw [e]
      exact msg_4b k c n s _ hk hc hn hs hq rfl (by omega) w
end Go.Proofs.YtidjbpglpobigaaDoor
