/- The contracts of prefixes as the walks of the laws take them. -/
import Derived.Test.YtobcecnmeepjpaaDoorNet
namespace Go.Proofs.YtobcecnmeepjpaaDoor
open Go.RowKit
set_option linter.unusedVariables false

theorem cont_yes {A B z : Int} (h : vpZ A B = true) (h1 : A ≤ z) (h2 : z ≤ A + (szZ B - 1)) (w : World) :
    Hid (Calls Tryd.prog 24 #[.agg #[.int .i64 A, .int .i64 B], .int .i64 z] w fun e w' => e = .returned (.bool true) ∧ Below w.heap.size w w') := by
  have hl := last_bd h
  have := cont_any A B z w (by omega) (by omega) (by omega) (by omega) (by omega) (by omega)
  rw [contZ_in h h1 h2] at this
  exact this
theorem cont_not {A B z : Int} (h : vpZ A B = true) (h1 : ¬ (A ≤ z ∧ z ≤ A + (szZ B - 1))) (l : -9223372036854775808 ≤ z) (u : z ≤ 9223372036854775807) (w : World) :
    Hid (Calls Tryd.prog 24 #[.agg #[.int .i64 A, .int .i64 B], .int .i64 z] w fun e w' => e = .returned (.bool false) ∧ Below w.heap.size w w') := by
  have hl := last_bd h
  have := cont_any A B z w (by omega) (by omega) (by omega) (by omega) l u
  rw [contZ_out h h1] at this
  exact this
theorem vp_yes {A B : Int} (h : vpZ A B = true) (w : World) :
    Hid (Calls Tryd.prog 23 #[.agg #[.int .i64 A, .int .i64 B]] w fun e w' => e = .returned (.bool true) ∧ Below w.heap.size w w') := by
  have hl := last_bd h
  have := vprefix_any A B w (by omega) (by omega) (by omega) (by omega)
  rw [h] at this
  exact this
theorem last_yes {A B : Int} (h : vpZ A B = true) (w : World) :
    Hid (Calls Tryd.prog 22 #[.agg #[.int .i64 A, .int .i64 B]] w fun e w' => e = .returned (.int .i64 (A + (szZ B - 1))) ∧ Below w.heap.size w w') := by
  have hl := last_bd h
  have := last_any A B w (by omega) (by omega) (by omega) (by omega)
  rw [lastZ_in h] at this
  exact this
/-- what NetOf makes: a valid prefix -/
theorem net_dom (a b : Int) (la : -9223372036854775808 ≤ a) (ua : a ≤ 9223372036854775807) (lb : -9223372036854775808 ≤ b) (ub : b ≤ 9223372036854775807) :
    ∃ A B, netA a b = A ∧ netB b = B ∧ vpZ A B = true ∧ ∀ w, Hid (Calls Tryd.prog 12 #[.int .i64 a, .int .i64 b] w fun e w' => e = .returned (.agg #[.int .i64 A, .int .i64 B]) ∧ Below w.heap.size w w') :=
  ⟨_, _, rfl, rfl, net_valid a b, fun w => Lib.hid (net_any a b w la ua lb ub)⟩
theorem pick_dom (c n : Int) (h1 : -9223372036854775808 ≤ c) (h2 : c ≤ 9223372036854775807) (hn : 1 ≤ n) (hn2 : n ≤ 9223372036854775807) :
    ∃ x, pickQ c n = x ∧ (0 ≤ x ∧ x < n) ∧ ∀ w, Hid (Calls Tryd.prog 11 #[.int .i64 c, .int .i64 n] w fun e w' => e = .returned (.int .i64 x) ∧ w = w') :=
  ⟨_, rfl, pickQ_bd c n hn, fun w => Lib.hid (pickQ_any c n w h1 h2 hn hn2)⟩
end Go.Proofs.YtobcecnmeepjpaaDoor
