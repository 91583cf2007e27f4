/- Contracts of arp.unicast, arp.unicastMac, arp.Valid, arp.elapsed. -/
import Derived.Test.YtpkfjlbjahghgaaArV
namespace Go.Proofs.Ytpkfjlbjahghgaa
open Go.RowKit
set_option linter.unusedVariables false
attribute [local go_sem] Oper.semAt_some

theorem uni_any (a : Int) (w : World) :
    Calls Try.prog 41 #[.int .i64 a] w fun e w' => e = .returned (.bool (decide (okOne a))) ∧ w = w' := by
  go_enter Try.func41, Try.ntmps41
  go_wp2
  all_goals go_ret
  all_goals refine ⟨ret_bool ?_, rfl⟩
  all_goals first
    | exact (decide_eq_false (by unfold okOne; omega)).symm
    | (rw [decide_eq_decide]; unfold okOne; omega)
theorem unim_any (a : Int) (w : World) :
    Calls Try.prog 40 #[.int .i64 a] w fun e w' => e = .returned (.bool (decide (okMac a))) ∧ w = w' := by
  go_enter Try.func40, Try.ntmps40
  go_wp2
  all_goals go_ret
  all_goals refine ⟨ret_bool ?_, rfl⟩
  all_goals first
    | exact (decide_eq_false (by unfold okMac; omega)).symm
    | (rw [decide_eq_decide]; unfold okMac; omega)

set_option maxHeartbeats 3200000 in
theorem valid_any (o f m t n : Int) (w : World) :
    Calls Try.prog 16 #[av o f m t n] w fun e w' => e = .returned (.bool (decide (okA o f m t n))) ∧ w' = w.alloc (ao o f m t n) := by
  go_enter Try.func16, Try.ntmps16
  go_wp2_with (first
    | (go_at_call 41; refine (uni_any _ _).mono ?_; rintro e w' ⟨rfl, rfl⟩)
    | (go_at_call 40; refine (unim_any _ _).mono ?_; rintro e w' ⟨rfl, rfl⟩))
  all_goals go_ret
  all_goals (try subst_vars)
  all_goals refine ⟨ret_bool ?_, rfl⟩
  all_goals first
    | exact (decide_eq_false (by unfold okA okOne okMac at *; omega)).symm
    | (rw [Bool.eq_iff_iff]; simp [okA, *]; done)
    | (rw [Bool.eq_iff_iff]; simp [okA, *]; omega)

/-- the wrapped difference as an unsigned number (at c58d2c3 the test of ages lies in package ticks) -/
theorem elapsed_any (since now ticks : Int) (w : World) (h1 : -4611686018427387904 ≤ since) (h2 : since ≤ 4611686018427387904) (h3 : -4611686018427387904 ≤ now) (h4 : now ≤ 4611686018427387904) (h5 : 0 ≤ ticks) (h6 : ticks ≤ 1000000) :
    Calls Try.prog 53 #[.int .i64 since, .int .i64 now, .int .i64 ticks] w fun e w' => e = .returned (.bool (decide (ticks ≤ now - since))) ∧ w = w' := by
  have hw : ∀ x : Int, IntKind.u64.wrap x = x % 18446744073709551616 := fun x => by
    have a1 : IntKind.u64.signed = false := rfl
    have a2 : IntKind.u64.bits = 64 := rfl
    simp [IntKind.wrap, a1, a2]
  rcases Int.lt_or_le now since with hlt | hle
  · go_enter Try.func53, Try.ntmps53
    go_wp2
    go_ret
    exact ⟨ret_bool (by rw [decide_eq_false (p := ticks ≤ now - since) (by omega)]), rfl⟩
  · have e : IntKind.u64.wrap (IntKind.u64.wrap now - IntKind.u64.wrap since) = now - since := by rw [hw, hw, hw]; omega
    have e2 : IntKind.u64.wrap ticks = ticks := by rw [hw]; omega
    go_enter Try.func53, Try.ntmps53
    go_wp2
    go_ret
    refine ⟨ret_bool ?_, rfl⟩
    rw [decide_eq_decide]
    first | omega | (rw [e]) | (rw [e, e2])
end Go.Proofs.Ytpkfjlbjahghgaa
