/- The walk of the statement SeqWindowSize; and SeqDiffInvertsAdd's three ways in one. -/
import Derived.Test.YtjegmldnagdfjaaSeqWalks
namespace Go.Proofs.Ytjegmldnagdfjaa
open Go.RowKit
set_option linter.unusedVariables false

theorem inv_walk (a b n m : Int) (w : World) (la : -9223372036854775808 ≤ a) (ua : a ≤ 9223372036854775807) (lb : -9223372036854775808 ≤ b) (ub : b ≤ 9223372036854775807) (ln : -9223372036854775808 ≤ n) (un : n ≤ 9223372036854775807) (lm : -9223372036854775808 ≤ m) (um : m ≤ 9223372036854775807) :
    Calls Try.prog 5 #[.int .i64 a, .int .i64 b, .int .i64 n, .int .i64 m] w fun e w' => e = .returned (.bool (true)) ∧ w = w' := by
  rcases Int.lt_or_le n (-2147483648) with h | h
  · exact inv_lo a b n m w la ua lb ub ln un lm um h
  · rcases Int.lt_or_le 2147483647 n with h2 | h2
    · exact inv_hi a b n m w la ua lb ub ln un lm um h2
    · exact inv_in a b n m w la ua lb ub ln un lm um h h2

set_option maxHeartbeats 4000000 in
theorem win_walk (fr many at' : Int) (w : World) (lfr : -9223372036854775808 ≤ fr) (ufr : fr ≤ 9223372036854775807) (lmany : -9223372036854775808 ≤ many) (umany : many ≤ 9223372036854775807) (lat' : -9223372036854775808 ≤ at') (uat' : at' ≤ 9223372036854775807) :
    Calls Try.prog 6 #[.int .i64 fr, .int .i64 many, .int .i64 at'] w fun e w' => e = .returned (.bool (true)) ∧ w = w' := by
  have bp := pickQ_bd many 4294967295 (by decide)
  have Hn := Lib.hid (pickQ_any many 4294967295 · lmany umany (by decide) (by decide))
  obtain ⟨p, hp⟩ : ∃ p, pickQ many 4294967295 = p := ⟨_, rfl⟩
  rw [hp] at bp Hn
  have bk := pickQ_bd at' (1 + p) (by omega)
  have Hk := Lib.hid (pickQ_any at' (1 + p) · lat' uat' (by omega) (by omega))
  obtain ⟨k, hk⟩ : ∃ k, pickQ at' (1 + p) = k := ⟨_, rfl⟩
  rw [hk] at bk Hk
  clear hp hk
  have ik : -9223372036854775808 ≤ k ∧ k ≤ 9223372036854775807 := by omega
  have A : ∀ (d : Int) (hd : -9223372036854775808 ≤ d ∧ d ≤ 9223372036854775807), ∃ x, rnd (fr + d) = x ∧ (0 ≤ x ∧ x ≤ 4294967295) ∧ Hid (∀ w, Calls Try.prog 10 #[.int .i64 fr, .int .i64 d] w fun e w' => e = .returned (.int .i64 x) ∧ w = w') :=
    fun d hd => ⟨_, rfl, rnd_bd _, Lib.hid (add_any fr d · lfr ufr hd.1 hd.2)⟩
  obtain ⟨x1, hx1, b1, H1⟩ := A k (by omega)
  obtain ⟨x2, hx2, b2, H2⟩ := A (1 + p - 1) (by omega)
  obtain ⟨x3, hx3, b3, H3⟩ := A (1 + p) (by omega)
  obtain ⟨x4, hx4, b4, H4⟩ := A (-1) (by omega)
  clear A
  have I0 := Lib.hid (in_any fr fr (1 + p) · lfr ufr lfr ufr (by omega) (by omega))
  have I1 := Lib.hid (in_any x1 fr (1 + p) · (by omega) (by omega) lfr ufr (by omega) (by omega))
  have I2 := Lib.hid (in_any x2 fr (1 + p) · (by omega) (by omega) lfr ufr (by omega) (by omega))
  have I3 := Lib.hid (in_any x3 fr (1 + p) · (by omega) (by omega) lfr ufr (by omega) (by omega))
  have I4 := Lib.hid (in_any x4 fr (1 + p) · (by omega) (by omega) lfr ufr (by omega) (by omega))
  have I5 := Lib.hid (in_any fr fr 0 · lfr ufr lfr ufr (by omega) (by omega))
  have I6 := Lib.hid (in_any fr fr (-1 - k) · lfr ufr lfr ufr (by omega) (by omega))
  rw [show decide (rnd (fr - fr) < 1 + p) = true from decide_eq_true (by rw [win_self]; omega)] at I0
  rw [show decide (rnd (x1 - fr) < 1 + p) = true from decide_eq_true (by rw [← hx1, win_add _ _ 0 (by omega) (by omega)]; omega)] at I1
  rw [show decide (rnd (x2 - fr) < 1 + p) = true from decide_eq_true (by rw [← hx2, win_add _ _ 0 (by omega) (by omega)]; omega)] at I2
  rw [show decide (rnd (x3 - fr) < 1 + p) = false from decide_eq_false (by rw [← hx3, win_add _ _ 0 (by omega) (by omega)]; omega)] at I3
  rw [show decide (rnd (x4 - fr) < 1 + p) = false from decide_eq_false (by rw [← hx4, win_pred]; omega)] at I4
  rw [show decide (rnd (fr - fr) < 0) = false from decide_eq_false (by rw [win_self]; omega)] at I5
  rw [show decide (rnd (fr - fr) < -1 - k) = false from decide_eq_false (by rw [win_self]; omega)] at I6
  clear hx1 hx2 hx3 hx4
  go_enter Try.func6, Try.ntmps6
  go_wp2_with fail
  refine (sane_any _).mono ?_
  rintro e w1 ⟨rfl, rfl⟩
  go_wp2_with fail
  refine (Hn.out _).mono ?_
  rintro e w1 ⟨rfl, rfl⟩
  go_wp2_with fail
  refine (Hk.out _).mono ?_
  rintro e w1 ⟨rfl, rfl⟩
  go_wp2_with fail
  refine (I0.out _).mono ?_
  rintro e w1 ⟨rfl, rfl⟩
  go_wp2_with fail
  refine (H1.out _).mono ?_
  rintro e w1 ⟨rfl, rfl⟩
  go_wp2_with fail
  refine (I1.out _).mono ?_
  rintro e w1 ⟨rfl, rfl⟩
  go_wp2_with fail
  refine (H2.out _).mono ?_
  rintro e w1 ⟨rfl, rfl⟩
  go_wp2_with fail
  refine (I2.out _).mono ?_
  rintro e w1 ⟨rfl, rfl⟩
  go_wp2_with fail
  refine (H3.out _).mono ?_
  rintro e w1 ⟨rfl, rfl⟩
  go_wp2_with fail
  refine (I3.out _).mono ?_
  rintro e w1 ⟨rfl, rfl⟩
  go_wp2_with fail
  refine (H4.out _).mono ?_
  rintro e w1 ⟨rfl, rfl⟩
  go_wp2_with fail
  refine (I4.out _).mono ?_
  rintro e w1 ⟨rfl, rfl⟩
  go_wp2_with fail
  refine (I5.out _).mono ?_
  rintro e w1 ⟨rfl, rfl⟩
  go_wp2_with fail
  refine (I6.out _).mono ?_
  rintro e w1 ⟨rfl, rfl⟩
  go_wp2_with fail
  go_ret
  exact ⟨rfl, rfl⟩

end Go.Proofs.Ytjegmldnagdfjaa
