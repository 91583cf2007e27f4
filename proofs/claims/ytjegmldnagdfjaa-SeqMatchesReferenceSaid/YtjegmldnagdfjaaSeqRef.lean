/- The reference of layer 2: it answers what the contracts of layer 2 say. -/
import Derived.Test.YtjegmldnagdfjaaSeq
namespace Go.Proofs.Ytjegmldnagdfjaa
open Go.RowKit
set_option linter.unusedVariables false

theorem tmod_or (a : Int) : a.tmod 4294967296 = a % 4294967296 ∧ 0 ≤ a.tmod 4294967296 ∨ a.tmod 4294967296 = a % 4294967296 - 4294967296 ∧ a.tmod 4294967296 < 0 ∨ a.tmod 4294967296 = a % 4294967296 ∧ a.tmod 4294967296 = 0 := by
  rcases Int.lt_or_le a 0 with h | h
  · have e : a.tmod 4294967296 = -((-a) % 4294967296) := by
      rw [← Int.tmod_eq_emod_of_nonneg (a := -a) (by omega), Int.neg_tmod, Int.neg_neg]
    omega
  · have e := Int.tmod_eq_emod_of_nonneg (b := 4294967296) h
    omega
theorem round_any (a : Int) (w : World) (la : -9223372036854775808 ≤ a) (ua : a ≤ 9223372036854775807) :
    Calls Try.prog 21 #[.int .i64 a] w fun e w' => e = .returned (.int .i64 (rnd a)) ∧ w = w' := by
  have ht := tmod_or a
  obtain ⟨t, hT⟩ : ∃ t, a.tmod 4294967296 = t := ⟨_, rfl⟩
  rw [hT] at ht
  by_cases hn : t < 0
  · go_enter Try.func21, Try.ntmps21
    go_wp2
    go_ret
    exact ⟨seq_ret_int (by unfold rnd; omega), rfl⟩
  · have hn' : 0 ≤ t := by omega
    go_enter Try.func21, Try.ntmps21
    go_wp2
    go_ret
    exact ⟨seq_ret_int (by unfold rnd; omega), rfl⟩
theorem rnd_rnd_add (a b : Int) : rnd (rnd a + rnd b) = rnd (a + b) := by unfold rnd; omega
theorem rnd_rnd_sub (a b : Int) : rnd (rnd a - rnd b) = rnd (a - b) := by unfold rnd; omega
theorem rvalid_any (a : Int) (w : World) (la : -9223372036854775808 ≤ a) (ua : a ≤ 9223372036854775807) :
    Calls Try.prog 9 #[.int .i64 a] w fun e w' => e = .returned (.bool (decide (0 ≤ a ∧ a ≤ 4294967295))) ∧ w = w' := by
  by_cases h0 : a < 0
  · go_enter Try.func9, Try.ntmps9
    go_wp2
    go_ret
    exact ⟨seq_ret_bool (by symm; simp; omega), rfl⟩
  · have h1 : 0 ≤ a := by omega
    go_enter Try.func9, Try.ntmps9
    go_wp2
    go_ret
    exact ⟨seq_ret_bool (by simp), rfl⟩

theorem radd_any (a n : Int) (w : World) (la : -9223372036854775808 ≤ a) (ua : a ≤ 9223372036854775807) (ln : -9223372036854775808 ≤ n) (un : n ≤ 9223372036854775807) :
    Calls Try.prog 11 #[.int .i64 a, .int .i64 n] w fun e w' => e = .returned (.int .i64 (rnd (a + n))) ∧ w = w' := by
  go_enter Try.func11, Try.ntmps11
  have ba := rnd_bd a
  have bn := rnd_bd n
  obtain ⟨x, hx⟩ : ∃ x, rnd a = x := ⟨_, rfl⟩
  obtain ⟨y, hy⟩ : ∃ y, rnd n = y := ⟨_, rfl⟩
  rw [hx] at ba
  rw [hy] at bn
  go_wp2_with fail
  refine (round_any a _ la ua).mono ?_
  rintro e w1 ⟨rfl, rfl⟩
  go_wp2_with fail
  refine (round_any n _ ln un).mono ?_
  rintro e w1 ⟨rfl, rfl⟩
  go_wp2_with fail
  refine (round_any _ _ (by omega) (by omega)).mono ?_
  rintro e w1 ⟨rfl, rfl⟩
  go_wp2_with fail
  go_ret
  rw [← hx, ← hy]
  exact ⟨seq_ret_int (rnd_rnd_add a n), rfl⟩

theorem ahead_any (a b : Int) (w : World) (la : -9223372036854775808 ≤ a) (ua : a ≤ 9223372036854775807) (lb : -9223372036854775808 ≤ b) (ub : b ≤ 9223372036854775807) :
    Calls Try.prog 24 #[.int .i64 a, .int .i64 b] w fun e w' => e = .returned (.int .i64 (rnd (a - b))) ∧ w = w' := by
  go_enter Try.func24, Try.ntmps24
  have ba := rnd_bd a
  have bn := rnd_bd b
  obtain ⟨x, hx⟩ : ∃ x, rnd a = x := ⟨_, rfl⟩
  obtain ⟨y, hy⟩ : ∃ y, rnd b = y := ⟨_, rfl⟩
  rw [hx] at ba
  rw [hy] at bn
  go_wp2_with fail
  refine (round_any a _ la ua).mono ?_
  rintro e w1 ⟨rfl, rfl⟩
  go_wp2_with fail
  refine (round_any b _ lb ub).mono ?_
  rintro e w1 ⟨rfl, rfl⟩
  go_wp2_with fail
  refine (round_any _ _ (by omega) (by omega)).mono ?_
  rintro e w1 ⟨rfl, rfl⟩
  go_wp2_with fail
  go_ret
  rw [← hx, ← hy]
  exact ⟨seq_ret_int (rnd_rnd_sub a b), rfl⟩

theorem rdiff_any (a b : Int) (w : World) (la : -9223372036854775808 ≤ a) (ua : a ≤ 9223372036854775807) (lb : -9223372036854775808 ≤ b) (ub : b ≤ 9223372036854775807) :
    Calls Try.prog 13 #[.int .i64 a, .int .i64 b] w fun e w' => e = .returned (.int .i64 (diffZ a b)) ∧ w = w' := by
  have hd := diffZ_or a b
  have hr : rnd (a - b) = (a - b) % 4294967296 := rfl
  have hb := rnd_bd (a - b)
  obtain ⟨x, hx⟩ : ∃ x, rnd (a - b) = x := ⟨_, rfl⟩
  rw [← hr] at hd
  rw [hx] at hd hb
  clear hr
  have H := Lib.hid (ahead_any a b · la ua lb ub)
  rw [hx] at H
  by_cases h : 2147483648 ≤ x
  · go_enter Try.func13, Try.ntmps13
    go_wp2_with fail
    refine (H.out _).mono ?_
    rintro e w1 ⟨rfl, rfl⟩
    go_wp2_with fail
    go_ret
    exact ⟨seq_ret_int (by omega), rfl⟩
  · have h' : x < 2147483648 := by omega
    go_enter Try.func13, Try.ntmps13
    go_wp2_with fail
    refine (H.out _).mono ?_
    rintro e w1 ⟨rfl, rfl⟩
    go_wp2_with fail
    go_ret
    exact ⟨seq_ret_int (by omega), rfl⟩

theorem rless_any (a b : Int) (w : World) (la : -9223372036854775808 ≤ a) (ua : a ≤ 9223372036854775807) (lb : -9223372036854775808 ≤ b) (ub : b ≤ 9223372036854775807) :
    Calls Try.prog 15 #[.int .i64 a, .int .i64 b] w fun e w' => e = .returned (.bool (decide (diffZ a b < 0))) ∧ w = w' := by
  go_enter Try.func15, Try.ntmps15
  go_wp2_with fail
  refine (rdiff_any a b _ la ua lb ub).mono ?_
  rintro e w1 ⟨rfl, rfl⟩
  go_wp2_with fail
  go_ret
  exact ⟨rfl, rfl⟩

theorem rin_any (a b n : Int) (w : World) (la : -9223372036854775808 ≤ a) (ua : a ≤ 9223372036854775807) (lb : -9223372036854775808 ≤ b) (ub : b ≤ 9223372036854775807) (ln : -9223372036854775808 ≤ n) (un : n ≤ 9223372036854775807) :
    Calls Try.prog 17 #[.int .i64 a, .int .i64 b, .int .i64 n] w fun e w' => e = .returned (.bool (decide (rnd (a - b) < n))) ∧ w = w' := by
  go_enter Try.func17, Try.ntmps17
  go_wp2_with fail
  refine (ahead_any a b _ la ua lb ub).mono ?_
  rintro e w1 ⟨rfl, rfl⟩
  go_wp2_with fail
  go_ret
  exact ⟨rfl, rfl⟩

theorem match_walk (a b n : Int) (w : World) (la : -9223372036854775808 ≤ a) (ua : a ≤ 9223372036854775807) (lb : -9223372036854775808 ≤ b) (ub : b ≤ 9223372036854775807) (ln : -9223372036854775808 ≤ n) (un : n ≤ 9223372036854775807) :
    Calls Try.prog 3 #[.int .i64 a, .int .i64 b, .int .i64 n] w fun e w' => e = .returned (.bool (true)) ∧ w = w' := by
  go_enter Try.func3, Try.ntmps3
  go_wp2_with fail
  refine (sane_any _).mono ?_
  rintro e w1 ⟨rfl, rfl⟩
  go_wp2_with fail
  refine (valid_any a _ la ua).mono ?_
  rintro e w1 ⟨rfl, rfl⟩
  go_wp2_with fail
  refine (rvalid_any a _ la ua).mono ?_
  rintro e w1 ⟨rfl, rfl⟩
  go_wp2_with fail
  refine (add_any a n _ la ua ln un).mono ?_
  rintro e w1 ⟨rfl, rfl⟩
  go_wp2_with fail
  refine (radd_any a n _ la ua ln un).mono ?_
  rintro e w1 ⟨rfl, rfl⟩
  go_wp2_with fail
  refine (diff_any a b _ la ua lb ub).mono ?_
  rintro e w1 ⟨rfl, rfl⟩
  go_wp2_with fail
  refine (rdiff_any a b _ la ua lb ub).mono ?_
  rintro e w1 ⟨rfl, rfl⟩
  go_wp2_with fail
  refine (less_any a b _ la ua lb ub).mono ?_
  rintro e w1 ⟨rfl, rfl⟩
  go_wp2_with fail
  refine (rless_any a b _ la ua lb ub).mono ?_
  rintro e w1 ⟨rfl, rfl⟩
  go_wp2_with fail
  refine (in_any a b n _ la ua lb ub ln un).mono ?_
  rintro e w1 ⟨rfl, rfl⟩
  go_wp2_with fail
  refine (rin_any a b n _ la ua lb ub ln un).mono ?_
  rintro e w1 ⟨rfl, rfl⟩
  go_wp2_with fail
  go_ret
  exact ⟨rfl, rfl⟩

end Go.Proofs.Ytjegmldnagdfjaa
