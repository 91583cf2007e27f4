/- Contracts of layer 2: sequence numbers, the reference of it, and the fixed examples: the world stays as it was. -/
import Derived.Test.YtjegmldnagdfjaaRows
import Derived.WalkKit
import Derived.WalkLawsBesides
import Derived.WalkSpells
import Derived.IntWalk
import Derived.Lib.Hide
import Derived.Outline
import Derived.RowKit3
import Derived.Below
namespace Go.Proofs.Ytjegmldnagdfjaa
open Go.RowKit
set_option linter.unusedVariables false

/-- a modulo 2^32 -/
def rnd (a : Int) : Int := a % 4294967296
/-- the signed distance from b to a -/
def diffZ (a b : Int) : Int := if (a - b) % 4294967296 < 2147483648 then (a - b) % 4294967296 else (a - b) % 4294967296 - 4294967296
theorem rnd_bd (a : Int) : 0 ≤ rnd a ∧ rnd a ≤ 4294967295 := by unfold rnd; omega
theorem diffZ_bd (a b : Int) : -2147483648 ≤ diffZ a b ∧ diffZ a b ≤ 2147483647 := by unfold diffZ; split <;> omega
theorem diffZ_wrap (a b : Int) : wrap64 (wrap32 ((a - b) % 4294967296)) = diffZ a b := by unfold diffZ wrap64 wrap32; split <;> omega
theorem diffZ_or (a b : Int) : diffZ a b = (a - b) % 4294967296 ∧ (a - b) % 4294967296 < 2147483648 ∨ diffZ a b = (a - b) % 4294967296 - 4294967296 ∧ 2147483648 ≤ (a - b) % 4294967296 := by
  unfold diffZ; split <;> omega
theorem seq_ret_int {k : IntKind} {a b : Int} (h : a = b) : Ending.returned (.int k a) = .returned (.int k b) := by rw [h]
theorem seq_ret_bool {a b : Bool} (h : a = b) : Ending.returned (.bool a) = .returned (.bool b) := by rw [h]

theorem valid_any (a : Int) (w : World) (la : -9223372036854775808 ≤ a) (ua : a ≤ 9223372036854775807) :
    Calls Try.prog 8 #[.int .i64 a] w fun e w' => e = .returned (.bool (decide (0 ≤ a ∧ a ≤ 4294967295))) ∧ w = w' := by
  go_enter Try.func8, Try.ntmps8
  go_wp2
  go_ret
  exact ⟨seq_ret_bool (by rw [Bool.eq_iff_iff]; simp only [beq_iff_eq, decide_eq_true_eq]; omega), rfl⟩

theorem add_any (a n : Int) (w : World) (la : -9223372036854775808 ≤ a) (ua : a ≤ 9223372036854775807) (ln : -9223372036854775808 ≤ n) (un : n ≤ 9223372036854775807) :
    Calls Try.prog 10 #[.int .i64 a, .int .i64 n] w fun e w' => e = .returned (.int .i64 (rnd (a + n))) ∧ w = w' := by
  go_enter Try.func10, Try.ntmps10
  go_wp2
  go_ret
  exact ⟨rfl, rfl⟩

theorem diff_any (a b : Int) (w : World) (la : -9223372036854775808 ≤ a) (ua : a ≤ 9223372036854775807) (lb : -9223372036854775808 ≤ b) (ub : b ≤ 9223372036854775807) :
    Calls Try.prog 12 #[.int .i64 a, .int .i64 b] w fun e w' => e = .returned (.int .i64 (diffZ a b)) ∧ w = w' := by
  go_enter Try.func12, Try.ntmps12
  go_wp2
  go_ret
  exact ⟨seq_ret_int (diffZ_wrap a b), rfl⟩

theorem less_any (a b : Int) (w : World) (la : -9223372036854775808 ≤ a) (ua : a ≤ 9223372036854775807) (lb : -9223372036854775808 ≤ b) (ub : b ≤ 9223372036854775807) :
    Calls Try.prog 14 #[.int .i64 a, .int .i64 b] w fun e w' => e = .returned (.bool (decide (diffZ a b < 0))) ∧ w = w' := by
  go_enter Try.func14, Try.ntmps14
  go_wp2_with fail
  refine (diff_any a b _ la ua lb ub).mono ?_
  rintro e w1 ⟨rfl, rfl⟩
  go_wp2_with fail
  go_ret
  exact ⟨rfl, rfl⟩

theorem in_any (a b n : Int) (w : World) (la : -9223372036854775808 ≤ a) (ua : a ≤ 9223372036854775807) (lb : -9223372036854775808 ≤ b) (ub : b ≤ 9223372036854775807) (ln : -9223372036854775808 ≤ n) (un : n ≤ 9223372036854775807) :
    Calls Try.prog 16 #[.int .i64 a, .int .i64 b, .int .i64 n] w fun e w' => e = .returned (.bool (decide (rnd (a - b) < n))) ∧ w = w' := by
  go_enter Try.func16, Try.ntmps16
  go_wp2
  go_ret
  exact ⟨rfl, rfl⟩

theorem ex_0 (w : World) : Calls Try.prog 10 #[.int .i64 4294967295, .int .i64 1] w fun e w' => e = .returned (.int .i64 (0)) ∧ w = w' :=
  (add_any 4294967295 1 w (by decide) (by decide) (by decide) (by decide)).mono fun _ _ ⟨h1, h2⟩ => ⟨by rw [h1]; exact seq_ret_int (by decide +kernel), h2⟩
theorem ex_1 (w : World) : Calls Try.prog 12 #[.int .i64 1, .int .i64 4294967295] w fun e w' => e = .returned (.int .i64 (2)) ∧ w = w' :=
  (diff_any 1 4294967295 w (by decide) (by decide) (by decide) (by decide)).mono fun _ _ ⟨h1, h2⟩ => ⟨by rw [h1]; exact seq_ret_int (by decide +kernel), h2⟩
theorem ex_2 (w : World) : Calls Try.prog 14 #[.int .i64 4294967295, .int .i64 1] w fun e w' => e = .returned (.bool true) ∧ w = w' :=
  (less_any 4294967295 1 w (by decide) (by decide) (by decide) (by decide)).mono fun _ _ ⟨h1, h2⟩ => ⟨by rw [h1]; exact seq_ret_bool (by decide +kernel), h2⟩
theorem ex_3 (w : World) : Calls Try.prog 14 #[.int .i64 1, .int .i64 4294967295] w fun e w' => e = .returned (.bool false) ∧ w = w' :=
  (less_any 1 4294967295 w (by decide) (by decide) (by decide) (by decide)).mono fun _ _ ⟨h1, h2⟩ => ⟨by rw [h1]; exact seq_ret_bool (by decide +kernel), h2⟩
theorem ex_4 (w : World) : Calls Try.prog 16 #[.int .i64 1, .int .i64 4294967294, .int .i64 4] w fun e w' => e = .returned (.bool true) ∧ w = w' :=
  (in_any 1 4294967294 4 w (by decide) (by decide) (by decide) (by decide) (by decide) (by decide)).mono fun _ _ ⟨h1, h2⟩ => ⟨by rw [h1]; exact seq_ret_bool (by decide +kernel), h2⟩
theorem ex_5 (w : World) : Calls Try.prog 16 #[.int .i64 2, .int .i64 4294967294, .int .i64 4] w fun e w' => e = .returned (.bool false) ∧ w = w' :=
  (in_any 2 4294967294 4 w (by decide) (by decide) (by decide) (by decide) (by decide) (by decide)).mono fun _ _ ⟨h1, h2⟩ => ⟨by rw [h1]; exact seq_ret_bool (by decide +kernel), h2⟩
theorem ex_6 (w : World) : Calls Try.prog 8 #[.int .i64 4294967295] w fun e w' => e = .returned (.bool true) ∧ w = w' :=
  (valid_any 4294967295 w (by decide) (by decide)).mono fun _ _ ⟨h1, h2⟩ => ⟨by rw [h1]; exact seq_ret_bool (by decide +kernel), h2⟩
theorem ex_7 (w : World) : Calls Try.prog 8 #[.int .i64 4294967296] w fun e w' => e = .returned (.bool false) ∧ w = w' :=
  (valid_any 4294967296 w (by decide) (by decide)).mono fun _ _ ⟨h1, h2⟩ => ⟨by rw [h1]; exact seq_ret_bool (by decide +kernel), h2⟩
theorem ex_8 (w : World) : Calls Try.prog 12 #[.int .i64 0, .int .i64 2147483648] w fun e w' => e = .returned (.int .i64 (-2147483648)) ∧ w = w' :=
  (diff_any 0 2147483648 w (by decide) (by decide) (by decide) (by decide)).mono fun _ _ ⟨h1, h2⟩ => ⟨by rw [h1]; exact seq_ret_int (by decide +kernel), h2⟩

theorem sane_any (w : World)  :
    Calls Try.prog 7 #[] w fun e w' => e = .returned (.bool (true)) ∧ w = w' := by
  go_enter Try.func7, Try.ntmps7
  go_wp2_with fail
  refine (ex_0 _).mono ?_
  rintro e w1 ⟨rfl, rfl⟩
  go_wp2_with fail
  refine (ex_1 _).mono ?_
  rintro e w1 ⟨rfl, rfl⟩
  go_wp2_with fail
  refine (ex_2 _).mono ?_
  rintro e w1 ⟨rfl, rfl⟩
  go_wp2_with fail
  refine (ex_3 _).mono ?_
  rintro e w1 ⟨rfl, rfl⟩
  go_wp2_with fail
  refine (ex_4 _).mono ?_
  rintro e w1 ⟨rfl, rfl⟩
  go_wp2_with fail
  refine (ex_5 _).mono ?_
  rintro e w1 ⟨rfl, rfl⟩
  go_wp2_with fail
  refine (ex_6 _).mono ?_
  rintro e w1 ⟨rfl, rfl⟩
  go_wp2_with fail
  refine (ex_7 _).mono ?_
  rintro e w1 ⟨rfl, rfl⟩
  go_wp2_with fail
  refine (ex_8 _).mono ?_
  rintro e w1 ⟨rfl, rfl⟩
  go_wp2_with fail
  go_ret
  exact ⟨rfl, rfl⟩

/-- what pick gives -/
def pickQ (c n : Int) : Int := (if c < 0 then -(c + 1) else c) % n
theorem pickQ_neg {c n : Int} (h : c < 0) : pickQ c n = (-(c + 1)) % n := by rw [pickQ, if_pos h]
theorem pickQ_pos {c n : Int} (h : 0 ≤ c) : pickQ c n = c % n := by rw [pickQ, if_neg (by omega)]
theorem pickQ_bd (c n : Int) (h : 1 ≤ n) : 0 ≤ pickQ c n ∧ pickQ c n < n := by
  unfold pickQ; exact ⟨Int.emod_nonneg _ (by omega), Int.emod_lt_of_pos _ (by omega)⟩
theorem pickQ_any (c n : Int) (w : World) (h1 : -9223372036854775808 ≤ c) (h2 : c ≤ 9223372036854775807) (hn : 1 ≤ n) (hn2 : n ≤ 9223372036854775807) :
    Calls Try.prog 18 #[.int .i64 c, .int .i64 n] w fun e w' => e = .returned (.int .i64 (pickQ c n)) ∧ w = w' := by
  by_cases hc : c < 0
  · go_enter Try.func18, Try.ntmps18
    go_wp2
    go_ret
    exact ⟨seq_ret_int (by rw [pickQ_neg hc, ← Int.neg_tmod, Int.tmod_eq_emod_of_nonneg (by omega)]), rfl⟩
  · have hc' : 0 ≤ c := by omega
    go_enter Try.func18, Try.ntmps18
    go_wp2
    go_ret
    exact ⟨seq_ret_int (by rw [pickQ_pos hc']), rfl⟩
end Go.Proofs.Ytjegmldnagdfjaa
