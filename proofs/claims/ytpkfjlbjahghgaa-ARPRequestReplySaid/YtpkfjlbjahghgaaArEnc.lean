/- Contracts of the reference's Valid, Encode and Decode of messages. -/
import Derived.Test.YtpkfjlbjahghgaaArMath
import Derived.Deep.RegionHeld3
import Derived.Lib.Strings
namespace Go.Proofs.Ytpkfjlbjahghgaa
open Go.RowKit
set_option linter.unusedVariables false
attribute [local go_sem] Oper.semAt_some

set_option maxHeartbeats 1600000 in
theorem rvalidA_any (o f m t n : Int) (w : World) :
    Calls Try.prog 17 #[av o f m t n] w fun e w' => e = .returned (.bool (decide (okA o f m t n))) ∧ w' = w.alloc (ao o f m t n) := by
  have hA : okA o f m t n ↔ okOne f ∧ okOne t ∧ okMac m ∧ ((o = 1 ∧ n = 0) ∨ (o = 2 ∧ okMac n)) := Iff.rfl
  have H1 := rones_any f
  have H2 := rones_any t
  have H3 := rlink_any m
  have H4 := rlink_any n
  rcases Decidable.em (okOne f) with hf | hf <;> rcases Decidable.em (okOne t) with ht | ht <;> rcases Decidable.em (okMac m) with hm | hm <;> rcases Decidable.em (okMac n) with hn | hn <;>
  (first | rw [decide_eq_true hf] at H1 | rw [decide_eq_false hf] at H1) <;>
  (first | rw [decide_eq_true ht] at H2 | rw [decide_eq_false ht] at H2) <;>
  (first | rw [decide_eq_true hm] at H3 | rw [decide_eq_false hm] at H3) <;>
  (first | rw [decide_eq_true hn] at H4 | rw [decide_eq_false hn] at H4)
  all_goals go_enter Try.func17, Try.ntmps17
  all_goals go_wp2_with (first
            | (go_at_call 42; first | (refine (H1 _).mono ?_; rintro e w' ⟨rfl, rfl⟩; clear H1) | (refine (H2 _).mono ?_; rintro e w' ⟨rfl, rfl⟩; clear H2))
            | (go_at_call 43; first | (refine (H3 _).mono ?_; rintro e w' ⟨rfl, rfl⟩; clear H3) | (refine (H4 _).mono ?_; rintro e w' ⟨rfl, rfl⟩; clear H4)))
  all_goals go_ret
  all_goals refine ⟨ret_bool ?_, by first | rfl | simp_all⟩
  all_goals first
    | (refine (decide_eq_false fun hh => ?_).symm; rw [hA] at hh; simp_all; done)
    | (refine (decide_eq_true ?_).symm; rw [hA]; simp_all; done)
    | (rw [show (n == 0) = false from by simp_all]; refine (decide_eq_false fun hh => ?_).symm; rw [hA] at hh; simp_all; done)
    | (rw [show (n == 0) = true from by simp_all]; refine (decide_eq_true ?_).symm; rw [hA]; simp_all; done)
end Go.Proofs.Ytpkfjlbjahghgaa
