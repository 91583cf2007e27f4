/- The walks of the statements SeqShiftInvariant, SeqDiffInvertsAdd and SeqWindowSize. -/
import Derived.Test.YtjegmldnagdfjaaSeq
namespace Go.Proofs.Ytjegmldnagdfjaa
open Go.RowKit
set_option linter.unusedVariables false

theorem shift_diff (a b n : Int) : diffZ (rnd (a + n)) (rnd (b + n)) = diffZ a b := by
  have h : (rnd (a + n) - rnd (b + n)) % 4294967296 = (a - b) % 4294967296 := by unfold rnd; omega
  unfold diffZ; rw [h]
theorem shift_rnd (a b n : Int) : rnd (rnd (a + n) - rnd (b + n)) = rnd (a - b) := by unfold rnd; omega
theorem inv_diff (a f : Int) (h1 : -2147483648 ≤ f) (h2 : f ≤ 2147483647) : diffZ (rnd (a + f)) a = f := by
  have h : (rnd (a + f) - a) % 4294967296 = f % 4294967296 := by unfold rnd; omega
  unfold diffZ; rw [h]; split <;> omega
theorem inv_add (a b : Int) : rnd (b + diffZ a b) = rnd (a + 0) := by
  have := diffZ_or a b
  unfold rnd; omega
theorem add_add (a f g : Int) : rnd (rnd (a + f) + g) = rnd (a + (f + g)) := by unfold rnd; omega
theorem anti_diff (a b : Int) : diffZ b a = -(diffZ a b) ∧ diffZ a b ≠ -2147483648 ∨ diffZ b a = -2147483648 ∧ diffZ a b = -2147483648 := by
  have := diffZ_or a b
  have := diffZ_or b a
  omega
theorem win_add (a k n : Int) (h0 : 0 ≤ k) (h1 : k < 4294967296) : rnd (rnd (a + k) - a) = k := by unfold rnd; omega
theorem win_self (a : Int) : rnd (a - a) = 0 := by unfold rnd; omega
theorem win_pred (a : Int) : rnd (rnd (a + -1) - a) = 4294967295 := by unfold rnd; omega

theorem shift_walk (a b n many : Int) (w : World) (la : -9223372036854775808 ≤ a) (ua : a ≤ 9223372036854775807) (lb : -9223372036854775808 ≤ b) (ub : b ≤ 9223372036854775807) (ln : -9223372036854775808 ≤ n) (un : n ≤ 9223372036854775807) (lmany : -9223372036854775808 ≤ many) (umany : many ≤ 9223372036854775807) :
    Calls Try.prog 4 #[.int .i64 a, .int .i64 b, .int .i64 n, .int .i64 many] w fun e w' => e = .returned (.bool (true)) ∧ w = w' := by
  have bx := rnd_bd (a + n)
  have bb := rnd_bd (b + n)
  have e1 := shift_diff a b n
  have e2 := shift_rnd a b n
  have Hx := Lib.hid (add_any a n · la ua ln un)
  have Hy := Lib.hid (add_any b n · lb ub ln un)
  obtain ⟨x, hx⟩ : ∃ x, rnd (a + n) = x := ⟨_, rfl⟩
  obtain ⟨y, hy⟩ : ∃ y, rnd (b + n) = y := ⟨_, rfl⟩
  rw [hx] at bx e1 e2 Hx
  rw [hy] at bb e1 e2 Hy
  have Hd := Lib.hid (diff_any x y · (by omega) (by omega) (by omega) (by omega))
  have Hl := Lib.hid (less_any x y · (by omega) (by omega) (by omega) (by omega))
  have Hi := Lib.hid (in_any x y many · (by omega) (by omega) (by omega) (by omega) lmany umany)
  have Hv := Lib.hid (valid_any x · (by omega) (by omega))
  rw [e1] at Hd Hl
  rw [e2] at Hi
  rw [show decide (0 ≤ x ∧ x ≤ 4294967295) = true from decide_eq_true (by omega)] at Hv
  clear e1 e2
  go_enter Try.func4, Try.ntmps4
  go_wp2_with fail
  refine (sane_any _).mono ?_
  rintro e w1 ⟨rfl, rfl⟩
  go_wp2_with fail
  refine (Hx.out _).mono ?_
  rintro e w1 ⟨rfl, rfl⟩
  go_wp2_with fail
  refine (Hy.out _).mono ?_
  rintro e w1 ⟨rfl, rfl⟩
  go_wp2_with fail
  refine (Hd.out _).mono ?_
  rintro e w1 ⟨rfl, rfl⟩
  go_wp2_with fail
  refine (diff_any a b _ la ua lb ub).mono ?_
  rintro e w1 ⟨rfl, rfl⟩
  go_wp2_with fail
  refine (Hl.out _).mono ?_
  rintro e w1 ⟨rfl, rfl⟩
  go_wp2_with fail
  refine (less_any a b _ la ua lb ub).mono ?_
  rintro e w1 ⟨rfl, rfl⟩
  go_wp2_with fail
  refine (Hi.out _).mono ?_
  rintro e w1 ⟨rfl, rfl⟩
  go_wp2_with fail
  refine (in_any a b many _ la ua lb ub lmany umany).mono ?_
  rintro e w1 ⟨rfl, rfl⟩
  go_wp2_with fail
  refine (Hv.out _).mono ?_
  rintro e w1 ⟨rfl, rfl⟩
  go_wp2_with fail
  go_ret
  exact ⟨rfl, rfl⟩

set_option maxHeartbeats 4000000 in
theorem inv_in (a b n m : Int) (w : World) (la : -9223372036854775808 ≤ a) (ua : a ≤ 9223372036854775807) (lb : -9223372036854775808 ≤ b) (ub : b ≤ 9223372036854775807) (ln : -9223372036854775808 ≤ n) (un : n ≤ 9223372036854775807) (lm : -9223372036854775808 ≤ m) (um : m ≤ 9223372036854775807) (hn0 : -2147483648 ≤ n) (hn1 : n ≤ 2147483647) :
    Calls Try.prog 5 #[.int .i64 a, .int .i64 b, .int .i64 n, .int .i64 m] w fun e w' => e = .returned (.bool (true)) ∧ w = w' := by
  have bf : -2147483648 ≤ n ∧ n ≤ 2147483647 := ⟨hn0, hn1⟩
  have bg := diffZ_bd m 0
  have Hg := Lib.hid (diff_any m 0 · lm um (by decide) (by decide))
  have bd := diffZ_bd a b
  have Hd := Lib.hid (diff_any a b · la ua lb ub)
  have bx := rnd_bd (a + n)
  have Hx := Lib.hid (add_any a n · la ua (by omega) (by omega))
  have e1 := inv_diff a n bf.1 bf.2
  have e2 := inv_add a b
  have e3 := add_add a n (diffZ m 0)
  have e4 := anti_diff a b
  have Hl := Lib.hid (less_any a b · la ua lb ub)
  have Hk := Lib.hid (less_any b a · lb ub la ua)
  obtain ⟨g, hg⟩ : ∃ g, diffZ m 0 = g := ⟨_, rfl⟩
  obtain ⟨d, hd⟩ : ∃ d, diffZ a b = d := ⟨_, rfl⟩
  obtain ⟨d2, hd2⟩ : ∃ d2, diffZ b a = d2 := ⟨_, rfl⟩
  obtain ⟨x, hx⟩ : ∃ x, rnd (a + n) = x := ⟨_, rfl⟩
  rw [hg] at bg Hg e3
  rw [hd] at bd Hd e2 e4 Hl
  rw [hd2] at e4 Hk
  rw [hx] at bx Hx e1 e3
  have Hp := Lib.hid (add_any x g · (by omega) (by omega) (by omega) (by omega))
  rw [e3] at Hp
  have Ha := Lib.hid (add_any a (n + g) · la ua (by omega) (by omega))
  have Hi := Lib.hid (diff_any x a · (by omega) (by omega) la ua)
  rw [e1] at Hi
  have Hb := Lib.hid (add_any b d · lb ub (by omega) (by omega))
  rw [e2] at Hb
  clear e1 e2 e3 hg hd hd2 hx
  rcases (show d = 0 ∧ d2 = 0 ∨ d = -2147483648 ∧ d2 = -2147483648 ∨ (d < 0 ∧ d ≠ -2147483648 ∧ 0 < d2) ∨ (0 < d ∧ d2 < 0) by omega) with ⟨k1, k2⟩ | ⟨k1, k2⟩ | ⟨k1, k2, k3⟩ | ⟨k1, k2⟩
  · clear e4
    subst k1 k2
    go_enter Try.func5, Try.ntmps5
    go_wp2_with fail
    refine (sane_any _).mono ?_
    rintro e w1 ⟨rfl, rfl⟩
    go_wp2_with fail
    refine (Hd.out _).mono ?_
    rintro e w1 ⟨rfl, rfl⟩
    go_wp2_with fail
    refine (Hx.out _).mono ?_
    rintro e w1 ⟨rfl, rfl⟩
    go_wp2_with fail
    refine (Hg.out _).mono ?_
    rintro e w1 ⟨rfl, rfl⟩
    go_wp2_with fail
    refine (Hp.out _).mono ?_
    rintro e w1 ⟨rfl, rfl⟩
    go_wp2_with fail
    refine (Hg.out _).mono ?_
    rintro e w1 ⟨rfl, rfl⟩
    go_wp2_with fail
    refine (Ha.out _).mono ?_
    rintro e w1 ⟨rfl, rfl⟩
    go_wp2_with fail
    refine (Hl.out _).mono ?_
    rintro e w1 ⟨rfl, rfl⟩
    go_wp2_with fail
    refine (Hk.out _).mono ?_
    rintro e w1 ⟨rfl, rfl⟩
    go_wp2_with fail
    refine (Hx.out _).mono ?_
    rintro e w1 ⟨rfl, rfl⟩
    go_wp2_with fail
    refine (Hi.out _).mono ?_
    rintro e w1 ⟨rfl, rfl⟩
    go_wp2_with fail
    refine (Hb.out _).mono ?_
    rintro e w1 ⟨rfl, rfl⟩
    go_wp2_with fail
    refine (add_any a 0 _ la ua (by decide) (by decide)).mono ?_
    rintro e w1 ⟨rfl, rfl⟩
    go_wp2_with fail
    go_ret
    exact ⟨rfl, rfl⟩
  · clear e4
    subst k1 k2
    go_enter Try.func5, Try.ntmps5
    go_wp2_with fail
    refine (sane_any _).mono ?_
    rintro e w1 ⟨rfl, rfl⟩
    go_wp2_with fail
    refine (Hd.out _).mono ?_
    rintro e w1 ⟨rfl, rfl⟩
    go_wp2_with fail
    refine (Hx.out _).mono ?_
    rintro e w1 ⟨rfl, rfl⟩
    go_wp2_with fail
    refine (Hg.out _).mono ?_
    rintro e w1 ⟨rfl, rfl⟩
    go_wp2_with fail
    refine (Hp.out _).mono ?_
    rintro e w1 ⟨rfl, rfl⟩
    go_wp2_with fail
    refine (Hg.out _).mono ?_
    rintro e w1 ⟨rfl, rfl⟩
    go_wp2_with fail
    refine (Ha.out _).mono ?_
    rintro e w1 ⟨rfl, rfl⟩
    go_wp2_with fail
    refine (Hl.out _).mono ?_
    rintro e w1 ⟨rfl, rfl⟩
    go_wp2_with fail
    refine (Hk.out _).mono ?_
    rintro e w1 ⟨rfl, rfl⟩
    go_wp2_with fail
    refine (Hx.out _).mono ?_
    rintro e w1 ⟨rfl, rfl⟩
    go_wp2_with fail
    refine (Hi.out _).mono ?_
    rintro e w1 ⟨rfl, rfl⟩
    go_wp2_with fail
    refine (Hb.out _).mono ?_
    rintro e w1 ⟨rfl, rfl⟩
    go_wp2_with fail
    refine (add_any a 0 _ la ua (by decide) (by decide)).mono ?_
    rintro e w1 ⟨rfl, rfl⟩
    go_wp2_with fail
    go_ret
    exact ⟨rfl, rfl⟩
  · rw [show decide (d < 0) = true from decide_eq_true k1] at Hl
    rw [show decide (d2 < 0) = false from decide_eq_false (by omega)] at Hk
    clear e4
    go_enter Try.func5, Try.ntmps5
    go_wp2_with fail
    refine (sane_any _).mono ?_
    rintro e w1 ⟨rfl, rfl⟩
    go_wp2_with fail
    refine (Hd.out _).mono ?_
    rintro e w1 ⟨rfl, rfl⟩
    go_wp2_with fail
    refine (Hx.out _).mono ?_
    rintro e w1 ⟨rfl, rfl⟩
    go_wp2_with fail
    refine (Hg.out _).mono ?_
    rintro e w1 ⟨rfl, rfl⟩
    go_wp2_with fail
    refine (Hp.out _).mono ?_
    rintro e w1 ⟨rfl, rfl⟩
    go_wp2_with fail
    refine (Hg.out _).mono ?_
    rintro e w1 ⟨rfl, rfl⟩
    go_wp2_with fail
    refine (Ha.out _).mono ?_
    rintro e w1 ⟨rfl, rfl⟩
    go_wp2_with fail
    refine (Hl.out _).mono ?_
    rintro e w1 ⟨rfl, rfl⟩
    go_wp2_with fail
    refine (Hk.out _).mono ?_
    rintro e w1 ⟨rfl, rfl⟩
    go_wp2_with fail
    refine (Hx.out _).mono ?_
    rintro e w1 ⟨rfl, rfl⟩
    go_wp2_with fail
    refine (Hi.out _).mono ?_
    rintro e w1 ⟨rfl, rfl⟩
    go_wp2_with fail
    refine (Hb.out _).mono ?_
    rintro e w1 ⟨rfl, rfl⟩
    go_wp2_with fail
    refine (add_any a 0 _ la ua (by decide) (by decide)).mono ?_
    rintro e w1 ⟨rfl, rfl⟩
    go_wp2_with fail
    go_ret
    exact ⟨rfl, rfl⟩
  · rw [show decide (d < 0) = false from decide_eq_false (by omega)] at Hl
    rw [show decide (d2 < 0) = true from decide_eq_true k2] at Hk
    clear e4
    go_enter Try.func5, Try.ntmps5
    go_wp2_with fail
    refine (sane_any _).mono ?_
    rintro e w1 ⟨rfl, rfl⟩
    go_wp2_with fail
    refine (Hd.out _).mono ?_
    rintro e w1 ⟨rfl, rfl⟩
    go_wp2_with fail
    refine (Hx.out _).mono ?_
    rintro e w1 ⟨rfl, rfl⟩
    go_wp2_with fail
    refine (Hg.out _).mono ?_
    rintro e w1 ⟨rfl, rfl⟩
    go_wp2_with fail
    refine (Hp.out _).mono ?_
    rintro e w1 ⟨rfl, rfl⟩
    go_wp2_with fail
    refine (Hg.out _).mono ?_
    rintro e w1 ⟨rfl, rfl⟩
    go_wp2_with fail
    refine (Ha.out _).mono ?_
    rintro e w1 ⟨rfl, rfl⟩
    go_wp2_with fail
    refine (Hl.out _).mono ?_
    rintro e w1 ⟨rfl, rfl⟩
    go_wp2_with fail
    refine (Hk.out _).mono ?_
    rintro e w1 ⟨rfl, rfl⟩
    go_wp2_with fail
    refine (Hx.out _).mono ?_
    rintro e w1 ⟨rfl, rfl⟩
    go_wp2_with fail
    refine (Hi.out _).mono ?_
    rintro e w1 ⟨rfl, rfl⟩
    go_wp2_with fail
    refine (Hb.out _).mono ?_
    rintro e w1 ⟨rfl, rfl⟩
    go_wp2_with fail
    refine (add_any a 0 _ la ua (by decide) (by decide)).mono ?_
    rintro e w1 ⟨rfl, rfl⟩
    go_wp2_with fail
    go_ret
    exact ⟨rfl, rfl⟩

set_option maxHeartbeats 4000000 in
theorem inv_lo (a b n m : Int) (w : World) (la : -9223372036854775808 ≤ a) (ua : a ≤ 9223372036854775807) (lb : -9223372036854775808 ≤ b) (ub : b ≤ 9223372036854775807) (ln : -9223372036854775808 ≤ n) (un : n ≤ 9223372036854775807) (lm : -9223372036854775808 ≤ m) (um : m ≤ 9223372036854775807) (hn : n < -2147483648) :
    Calls Try.prog 5 #[.int .i64 a, .int .i64 b, .int .i64 n, .int .i64 m] w fun e w' => e = .returned (.bool (true)) ∧ w = w' := by
  have bf := diffZ_bd n 0
  have Hf := Lib.hid (diff_any n 0 · ln un (by decide) (by decide))
  obtain ⟨f, hf⟩ : ∃ f, diffZ n 0 = f := ⟨_, rfl⟩
  rw [hf] at bf Hf
  have bg := diffZ_bd m 0
  have Hg := Lib.hid (diff_any m 0 · lm um (by decide) (by decide))
  have bd := diffZ_bd a b
  have Hd := Lib.hid (diff_any a b · la ua lb ub)
  have bx := rnd_bd (a + f)
  have Hx := Lib.hid (add_any a f · la ua (by omega) (by omega))
  have e1 := inv_diff a f bf.1 bf.2
  have e2 := inv_add a b
  have e3 := add_add a f (diffZ m 0)
  have e4 := anti_diff a b
  have Hl := Lib.hid (less_any a b · la ua lb ub)
  have Hk := Lib.hid (less_any b a · lb ub la ua)
  obtain ⟨g, hg⟩ : ∃ g, diffZ m 0 = g := ⟨_, rfl⟩
  obtain ⟨d, hd⟩ : ∃ d, diffZ a b = d := ⟨_, rfl⟩
  obtain ⟨d2, hd2⟩ : ∃ d2, diffZ b a = d2 := ⟨_, rfl⟩
  obtain ⟨x, hx⟩ : ∃ x, rnd (a + f) = x := ⟨_, rfl⟩
  rw [hg] at bg Hg e3
  rw [hd] at bd Hd e2 e4 Hl
  rw [hd2] at e4 Hk
  rw [hx] at bx Hx e1 e3
  have Hp := Lib.hid (add_any x g · (by omega) (by omega) (by omega) (by omega))
  rw [e3] at Hp
  have Ha := Lib.hid (add_any a (f + g) · la ua (by omega) (by omega))
  have Hi := Lib.hid (diff_any x a · (by omega) (by omega) la ua)
  rw [e1] at Hi
  have Hb := Lib.hid (add_any b d · lb ub (by omega) (by omega))
  rw [e2] at Hb
  clear e1 e2 e3 hg hd hd2 hx
  rcases (show d = 0 ∧ d2 = 0 ∨ d = -2147483648 ∧ d2 = -2147483648 ∨ (d < 0 ∧ d ≠ -2147483648 ∧ 0 < d2) ∨ (0 < d ∧ d2 < 0) by omega) with ⟨k1, k2⟩ | ⟨k1, k2⟩ | ⟨k1, k2, k3⟩ | ⟨k1, k2⟩
  · clear e4
    subst k1 k2
    go_enter Try.func5, Try.ntmps5
    go_wp2_with fail
    refine (sane_any _).mono ?_
    rintro e w1 ⟨rfl, rfl⟩
    go_wp2_with fail
    refine (Hf.out _).mono ?_
    rintro e w1 ⟨rfl, rfl⟩
    go_wp2_with fail
    refine (Hd.out _).mono ?_
    rintro e w1 ⟨rfl, rfl⟩
    go_wp2_with fail
    refine (Hx.out _).mono ?_
    rintro e w1 ⟨rfl, rfl⟩
    go_wp2_with fail
    refine (Hg.out _).mono ?_
    rintro e w1 ⟨rfl, rfl⟩
    go_wp2_with fail
    refine (Hp.out _).mono ?_
    rintro e w1 ⟨rfl, rfl⟩
    go_wp2_with fail
    refine (Hg.out _).mono ?_
    rintro e w1 ⟨rfl, rfl⟩
    go_wp2_with fail
    refine (Ha.out _).mono ?_
    rintro e w1 ⟨rfl, rfl⟩
    go_wp2_with fail
    refine (Hl.out _).mono ?_
    rintro e w1 ⟨rfl, rfl⟩
    go_wp2_with fail
    refine (Hk.out _).mono ?_
    rintro e w1 ⟨rfl, rfl⟩
    go_wp2_with fail
    refine (Hx.out _).mono ?_
    rintro e w1 ⟨rfl, rfl⟩
    go_wp2_with fail
    refine (Hi.out _).mono ?_
    rintro e w1 ⟨rfl, rfl⟩
    go_wp2_with fail
    refine (Hb.out _).mono ?_
    rintro e w1 ⟨rfl, rfl⟩
    go_wp2_with fail
    refine (add_any a 0 _ la ua (by decide) (by decide)).mono ?_
    rintro e w1 ⟨rfl, rfl⟩
    go_wp2_with fail
    go_ret
    exact ⟨rfl, rfl⟩
  · clear e4
    subst k1 k2
    go_enter Try.func5, Try.ntmps5
    go_wp2_with fail
    refine (sane_any _).mono ?_
    rintro e w1 ⟨rfl, rfl⟩
    go_wp2_with fail
    refine (Hf.out _).mono ?_
    rintro e w1 ⟨rfl, rfl⟩
    go_wp2_with fail
    refine (Hd.out _).mono ?_
    rintro e w1 ⟨rfl, rfl⟩
    go_wp2_with fail
    refine (Hx.out _).mono ?_
    rintro e w1 ⟨rfl, rfl⟩
    go_wp2_with fail
    refine (Hg.out _).mono ?_
    rintro e w1 ⟨rfl, rfl⟩
    go_wp2_with fail
    refine (Hp.out _).mono ?_
    rintro e w1 ⟨rfl, rfl⟩
    go_wp2_with fail
    refine (Hg.out _).mono ?_
    rintro e w1 ⟨rfl, rfl⟩
    go_wp2_with fail
    refine (Ha.out _).mono ?_
    rintro e w1 ⟨rfl, rfl⟩
    go_wp2_with fail
    refine (Hl.out _).mono ?_
    rintro e w1 ⟨rfl, rfl⟩
    go_wp2_with fail
    refine (Hk.out _).mono ?_
    rintro e w1 ⟨rfl, rfl⟩
    go_wp2_with fail
    refine (Hx.out _).mono ?_
    rintro e w1 ⟨rfl, rfl⟩
    go_wp2_with fail
    refine (Hi.out _).mono ?_
    rintro e w1 ⟨rfl, rfl⟩
    go_wp2_with fail
    refine (Hb.out _).mono ?_
    rintro e w1 ⟨rfl, rfl⟩
    go_wp2_with fail
    refine (add_any a 0 _ la ua (by decide) (by decide)).mono ?_
    rintro e w1 ⟨rfl, rfl⟩
    go_wp2_with fail
    go_ret
    exact ⟨rfl, rfl⟩
  · rw [show decide (d < 0) = true from decide_eq_true k1] at Hl
    rw [show decide (d2 < 0) = false from decide_eq_false (by omega)] at Hk
    clear e4
    go_enter Try.func5, Try.ntmps5
    go_wp2_with fail
    refine (sane_any _).mono ?_
    rintro e w1 ⟨rfl, rfl⟩
    go_wp2_with fail
    refine (Hf.out _).mono ?_
    rintro e w1 ⟨rfl, rfl⟩
    go_wp2_with fail
    refine (Hd.out _).mono ?_
    rintro e w1 ⟨rfl, rfl⟩
    go_wp2_with fail
    refine (Hx.out _).mono ?_
    rintro e w1 ⟨rfl, rfl⟩
    go_wp2_with fail
    refine (Hg.out _).mono ?_
    rintro e w1 ⟨rfl, rfl⟩
    go_wp2_with fail
    refine (Hp.out _).mono ?_
    rintro e w1 ⟨rfl, rfl⟩
    go_wp2_with fail
    refine (Hg.out _).mono ?_
    rintro e w1 ⟨rfl, rfl⟩
    go_wp2_with fail
    refine (Ha.out _).mono ?_
    rintro e w1 ⟨rfl, rfl⟩
    go_wp2_with fail
    refine (Hl.out _).mono ?_
    rintro e w1 ⟨rfl, rfl⟩
    go_wp2_with fail
    refine (Hk.out _).mono ?_
    rintro e w1 ⟨rfl, rfl⟩
    go_wp2_with fail
    refine (Hx.out _).mono ?_
    rintro e w1 ⟨rfl, rfl⟩
    go_wp2_with fail
    refine (Hi.out _).mono ?_
    rintro e w1 ⟨rfl, rfl⟩
    go_wp2_with fail
    refine (Hb.out _).mono ?_
    rintro e w1 ⟨rfl, rfl⟩
    go_wp2_with fail
    refine (add_any a 0 _ la ua (by decide) (by decide)).mono ?_
    rintro e w1 ⟨rfl, rfl⟩
    go_wp2_with fail
    go_ret
    exact ⟨rfl, rfl⟩
  · rw [show decide (d < 0) = false from decide_eq_false (by omega)] at Hl
    rw [show decide (d2 < 0) = true from decide_eq_true k2] at Hk
    clear e4
    go_enter Try.func5, Try.ntmps5
    go_wp2_with fail
    refine (sane_any _).mono ?_
    rintro e w1 ⟨rfl, rfl⟩
    go_wp2_with fail
    refine (Hf.out _).mono ?_
    rintro e w1 ⟨rfl, rfl⟩
    go_wp2_with fail
    refine (Hd.out _).mono ?_
    rintro e w1 ⟨rfl, rfl⟩
    go_wp2_with fail
    refine (Hx.out _).mono ?_
    rintro e w1 ⟨rfl, rfl⟩
    go_wp2_with fail
    refine (Hg.out _).mono ?_
    rintro e w1 ⟨rfl, rfl⟩
    go_wp2_with fail
    refine (Hp.out _).mono ?_
    rintro e w1 ⟨rfl, rfl⟩
    go_wp2_with fail
    refine (Hg.out _).mono ?_
    rintro e w1 ⟨rfl, rfl⟩
    go_wp2_with fail
    refine (Ha.out _).mono ?_
    rintro e w1 ⟨rfl, rfl⟩
    go_wp2_with fail
    refine (Hl.out _).mono ?_
    rintro e w1 ⟨rfl, rfl⟩
    go_wp2_with fail
    refine (Hk.out _).mono ?_
    rintro e w1 ⟨rfl, rfl⟩
    go_wp2_with fail
    refine (Hx.out _).mono ?_
    rintro e w1 ⟨rfl, rfl⟩
    go_wp2_with fail
    refine (Hi.out _).mono ?_
    rintro e w1 ⟨rfl, rfl⟩
    go_wp2_with fail
    refine (Hb.out _).mono ?_
    rintro e w1 ⟨rfl, rfl⟩
    go_wp2_with fail
    refine (add_any a 0 _ la ua (by decide) (by decide)).mono ?_
    rintro e w1 ⟨rfl, rfl⟩
    go_wp2_with fail
    go_ret
    exact ⟨rfl, rfl⟩

set_option maxHeartbeats 4000000 in
theorem inv_hi (a b n m : Int) (w : World) (la : -9223372036854775808 ≤ a) (ua : a ≤ 9223372036854775807) (lb : -9223372036854775808 ≤ b) (ub : b ≤ 9223372036854775807) (ln : -9223372036854775808 ≤ n) (un : n ≤ 9223372036854775807) (lm : -9223372036854775808 ≤ m) (um : m ≤ 9223372036854775807) (hn : 2147483647 < n) :
    Calls Try.prog 5 #[.int .i64 a, .int .i64 b, .int .i64 n, .int .i64 m] w fun e w' => e = .returned (.bool (true)) ∧ w = w' := by
  have bf := diffZ_bd n 0
  have Hf := Lib.hid (diff_any n 0 · ln un (by decide) (by decide))
  obtain ⟨f, hf⟩ : ∃ f, diffZ n 0 = f := ⟨_, rfl⟩
  rw [hf] at bf Hf
  have bg := diffZ_bd m 0
  have Hg := Lib.hid (diff_any m 0 · lm um (by decide) (by decide))
  have bd := diffZ_bd a b
  have Hd := Lib.hid (diff_any a b · la ua lb ub)
  have bx := rnd_bd (a + f)
  have Hx := Lib.hid (add_any a f · la ua (by omega) (by omega))
  have e1 := inv_diff a f bf.1 bf.2
  have e2 := inv_add a b
  have e3 := add_add a f (diffZ m 0)
  have e4 := anti_diff a b
  have Hl := Lib.hid (less_any a b · la ua lb ub)
  have Hk := Lib.hid (less_any b a · lb ub la ua)
  obtain ⟨g, hg⟩ : ∃ g, diffZ m 0 = g := ⟨_, rfl⟩
  obtain ⟨d, hd⟩ : ∃ d, diffZ a b = d := ⟨_, rfl⟩
  obtain ⟨d2, hd2⟩ : ∃ d2, diffZ b a = d2 := ⟨_, rfl⟩
  obtain ⟨x, hx⟩ : ∃ x, rnd (a + f) = x := ⟨_, rfl⟩
  rw [hg] at bg Hg e3
  rw [hd] at bd Hd e2 e4 Hl
  rw [hd2] at e4 Hk
  rw [hx] at bx Hx e1 e3
  have Hp := Lib.hid (add_any x g · (by omega) (by omega) (by omega) (by omega))
  rw [e3] at Hp
  have Ha := Lib.hid (add_any a (f + g) · la ua (by omega) (by omega))
  have Hi := Lib.hid (diff_any x a · (by omega) (by omega) la ua)
  rw [e1] at Hi
  have Hb := Lib.hid (add_any b d · lb ub (by omega) (by omega))
  rw [e2] at Hb
  clear e1 e2 e3 hg hd hd2 hx
  rcases (show d = 0 ∧ d2 = 0 ∨ d = -2147483648 ∧ d2 = -2147483648 ∨ (d < 0 ∧ d ≠ -2147483648 ∧ 0 < d2) ∨ (0 < d ∧ d2 < 0) by omega) with ⟨k1, k2⟩ | ⟨k1, k2⟩ | ⟨k1, k2, k3⟩ | ⟨k1, k2⟩
  · clear e4
    subst k1 k2
    go_enter Try.func5, Try.ntmps5
    go_wp2_with fail
    refine (sane_any _).mono ?_
    rintro e w1 ⟨rfl, rfl⟩
    go_wp2_with fail
    refine (Hf.out _).mono ?_
    rintro e w1 ⟨rfl, rfl⟩
    go_wp2_with fail
    refine (Hd.out _).mono ?_
    rintro e w1 ⟨rfl, rfl⟩
    go_wp2_with fail
    refine (Hx.out _).mono ?_
    rintro e w1 ⟨rfl, rfl⟩
    go_wp2_with fail
    refine (Hg.out _).mono ?_
    rintro e w1 ⟨rfl, rfl⟩
    go_wp2_with fail
    refine (Hp.out _).mono ?_
    rintro e w1 ⟨rfl, rfl⟩
    go_wp2_with fail
    refine (Hg.out _).mono ?_
    rintro e w1 ⟨rfl, rfl⟩
    go_wp2_with fail
    refine (Ha.out _).mono ?_
    rintro e w1 ⟨rfl, rfl⟩
    go_wp2_with fail
    refine (Hl.out _).mono ?_
    rintro e w1 ⟨rfl, rfl⟩
    go_wp2_with fail
    refine (Hk.out _).mono ?_
    rintro e w1 ⟨rfl, rfl⟩
    go_wp2_with fail
    refine (Hx.out _).mono ?_
    rintro e w1 ⟨rfl, rfl⟩
    go_wp2_with fail
    refine (Hi.out _).mono ?_
    rintro e w1 ⟨rfl, rfl⟩
    go_wp2_with fail
    refine (Hb.out _).mono ?_
    rintro e w1 ⟨rfl, rfl⟩
    go_wp2_with fail
    refine (add_any a 0 _ la ua (by decide) (by decide)).mono ?_
    rintro e w1 ⟨rfl, rfl⟩
    go_wp2_with fail
    go_ret
    exact ⟨rfl, rfl⟩
  · clear e4
    subst k1 k2
    go_enter Try.func5, Try.ntmps5
    go_wp2_with fail
    refine (sane_any _).mono ?_
    rintro e w1 ⟨rfl, rfl⟩
    go_wp2_with fail
    refine (Hf.out _).mono ?_
    rintro e w1 ⟨rfl, rfl⟩
    go_wp2_with fail
    refine (Hd.out _).mono ?_
    rintro e w1 ⟨rfl, rfl⟩
    go_wp2_with fail
    refine (Hx.out _).mono ?_
    rintro e w1 ⟨rfl, rfl⟩
    go_wp2_with fail
    refine (Hg.out _).mono ?_
    rintro e w1 ⟨rfl, rfl⟩
    go_wp2_with fail
    refine (Hp.out _).mono ?_
    rintro e w1 ⟨rfl, rfl⟩
    go_wp2_with fail
    refine (Hg.out _).mono ?_
    rintro e w1 ⟨rfl, rfl⟩
    go_wp2_with fail
    refine (Ha.out _).mono ?_
    rintro e w1 ⟨rfl, rfl⟩
    go_wp2_with fail
    refine (Hl.out _).mono ?_
    rintro e w1 ⟨rfl, rfl⟩
    go_wp2_with fail
    refine (Hk.out _).mono ?_
    rintro e w1 ⟨rfl, rfl⟩
    go_wp2_with fail
    refine (Hx.out _).mono ?_
    rintro e w1 ⟨rfl, rfl⟩
    go_wp2_with fail
    refine (Hi.out _).mono ?_
    rintro e w1 ⟨rfl, rfl⟩
    go_wp2_with fail
    refine (Hb.out _).mono ?_
    rintro e w1 ⟨rfl, rfl⟩
    go_wp2_with fail
    refine (add_any a 0 _ la ua (by decide) (by decide)).mono ?_
    rintro e w1 ⟨rfl, rfl⟩
    go_wp2_with fail
    go_ret
    exact ⟨rfl, rfl⟩
  · rw [show decide (d < 0) = true from decide_eq_true k1] at Hl
    rw [show decide (d2 < 0) = false from decide_eq_false (by omega)] at Hk
    clear e4
    go_enter Try.func5, Try.ntmps5
    go_wp2_with fail
    refine (sane_any _).mono ?_
    rintro e w1 ⟨rfl, rfl⟩
    go_wp2_with fail
    refine (Hf.out _).mono ?_
    rintro e w1 ⟨rfl, rfl⟩
    go_wp2_with fail
    refine (Hd.out _).mono ?_
    rintro e w1 ⟨rfl, rfl⟩
    go_wp2_with fail
    refine (Hx.out _).mono ?_
    rintro e w1 ⟨rfl, rfl⟩
    go_wp2_with fail
    refine (Hg.out _).mono ?_
    rintro e w1 ⟨rfl, rfl⟩
    go_wp2_with fail
    refine (Hp.out _).mono ?_
    rintro e w1 ⟨rfl, rfl⟩
    go_wp2_with fail
    refine (Hg.out _).mono ?_
    rintro e w1 ⟨rfl, rfl⟩
    go_wp2_with fail
    refine (Ha.out _).mono ?_
    rintro e w1 ⟨rfl, rfl⟩
    go_wp2_with fail
    refine (Hl.out _).mono ?_
    rintro e w1 ⟨rfl, rfl⟩
    go_wp2_with fail
    refine (Hk.out _).mono ?_
    rintro e w1 ⟨rfl, rfl⟩
    go_wp2_with fail
    refine (Hx.out _).mono ?_
    rintro e w1 ⟨rfl, rfl⟩
    go_wp2_with fail
    refine (Hi.out _).mono ?_
    rintro e w1 ⟨rfl, rfl⟩
    go_wp2_with fail
    refine (Hb.out _).mono ?_
    rintro e w1 ⟨rfl, rfl⟩
    go_wp2_with fail
    refine (add_any a 0 _ la ua (by decide) (by decide)).mono ?_
    rintro e w1 ⟨rfl, rfl⟩
    go_wp2_with fail
    go_ret
    exact ⟨rfl, rfl⟩
  · rw [show decide (d < 0) = false from decide_eq_false (by omega)] at Hl
    rw [show decide (d2 < 0) = true from decide_eq_true k2] at Hk
    clear e4
    go_enter Try.func5, Try.ntmps5
    go_wp2_with fail
    refine (sane_any _).mono ?_
    rintro e w1 ⟨rfl, rfl⟩
    go_wp2_with fail
    refine (Hf.out _).mono ?_
    rintro e w1 ⟨rfl, rfl⟩
    go_wp2_with fail
    refine (Hd.out _).mono ?_
    rintro e w1 ⟨rfl, rfl⟩
    go_wp2_with fail
    refine (Hx.out _).mono ?_
    rintro e w1 ⟨rfl, rfl⟩
    go_wp2_with fail
    refine (Hg.out _).mono ?_
    rintro e w1 ⟨rfl, rfl⟩
    go_wp2_with fail
    refine (Hp.out _).mono ?_
    rintro e w1 ⟨rfl, rfl⟩
    go_wp2_with fail
    refine (Hg.out _).mono ?_
    rintro e w1 ⟨rfl, rfl⟩
    go_wp2_with fail
    refine (Ha.out _).mono ?_
    rintro e w1 ⟨rfl, rfl⟩
    go_wp2_with fail
    refine (Hl.out _).mono ?_
    rintro e w1 ⟨rfl, rfl⟩
    go_wp2_with fail
    refine (Hk.out _).mono ?_
    rintro e w1 ⟨rfl, rfl⟩
    go_wp2_with fail
    refine (Hx.out _).mono ?_
    rintro e w1 ⟨rfl, rfl⟩
    go_wp2_with fail
    refine (Hi.out _).mono ?_
    rintro e w1 ⟨rfl, rfl⟩
    go_wp2_with fail
    refine (Hb.out _).mono ?_
    rintro e w1 ⟨rfl, rfl⟩
    go_wp2_with fail
    refine (add_any a 0 _ la ua (by decide) (by decide)).mono ?_
    rintro e w1 ⟨rfl, rfl⟩
    go_wp2_with fail
    go_ret
    exact ⟨rfl, rfl⟩

end Go.Proofs.Ytjegmldnagdfjaa
