
/- Contracts of the reference's Ones, Link, Valid, put, and of the statements' address. -/
import Derived.Test.YtpkfjlbjahghgaaPick
import Derived.Test.YtpkfjlbjahghgaaRefGet
import Derived.Below
import Derived.Handy
namespace Go.Proofs.Ytpkfjlbjahghgaa
open Go.RowKit
set_option linter.unusedVariables false
attribute [local go_sem] Oper.semAt_some

/-- a message: Op, From, FromMac, To, ToMac -/
abbrev av (o f m t n : Int) : Value := .agg #[.int .i64 o, .int .i64 f, .int .i64 m, .int .i64 t, .int .i64 n]
abbrev ao (o f m t n : Int) : Obj := .cells #[.int .i64 o, .int .i64 f, .int .i64 m, .int .i64 t, .int .i64 n] 23
def okOne (a : Int) : Prop := 1 ≤ a ∧ a ≤ 4294967294
def okMac (m : Int) : Prop := 1 ≤ m ∧ m ≤ 65534
def okA (o f m t n : Int) : Prop := okOne f ∧ okOne t ∧ okMac m ∧ ((o = 1 ∧ n = 0) ∨ (o = 2 ∧ okMac n))
instance (a : Int) : Decidable (okOne a) := by unfold okOne; infer_instance
instance (m : Int) : Decidable (okMac m) := by unfold okMac; infer_instance
instance (o f m t n : Int) : Decidable (okA o f m t n) := by unfold okA; infer_instance

theorem rones_any (a : Int) (w : World) :
    Calls Try.prog 42 #[.int .i64 a] w fun e w' => e = .returned (.bool (decide (okOne a))) ∧ w = w' := by
  go_enter Try.func42, Try.ntmps42
  go_wp2
  all_goals go_ret
  all_goals refine ⟨ret_bool ?_, rfl⟩
  all_goals first
    | exact (decide_eq_false (by unfold okOne; omega)).symm
    | (rw [decide_eq_decide]; unfold okOne; omega)
theorem rlink_any (a : Int) (w : World) :
    Calls Try.prog 43 #[.int .i64 a] w fun e w' => e = .returned (.bool (decide (okMac a))) ∧ w = w' := by
  go_enter Try.func43, Try.ntmps43
  go_wp2
  all_goals go_ret
  all_goals refine ⟨ret_bool ?_, rfl⟩
  all_goals first
    | exact (decide_eq_false (by unfold okMac; omega)).symm
    | (rw [decide_eq_decide]; unfold okMac; omega)

theorem raddr_any (n : Int) (w : World) (h1 : -9223372036854775808 ≤ n) (h2 : n ≤ 9223372036854775807) :
    Calls Try.prog 24 #[.int .i64 n] w fun e w' => e = .returned (.int .i64 (10 + pickZ n 24)) ∧ w = w' := by
  have hp := pickZ_bd n 24 (by decide)
  go_enter Try.func24, Try.ntmps24
  go_wp2_with fail
  refine (pick_any _ _ _ h1 h2 (by decide) (by decide)).mono ?_
  rintro e w' ⟨rfl, rfl⟩
  go_wp2
  go_ret
  exact ⟨rfl, rfl⟩

theorem rputA_any (n b : Int) (w : World) (hb1 : 1 ≤ b) (hb2 : b ≤ 4) (h1 : 0 ≤ n) (h2 : n < 256 ^ b.toNat) :
    Calls Try.prog 39 #[.int .i64 n, .int .i64 b] w fun e w' => e = .returned (.string (beS b n)) ∧ Below w.heap.size w w' := by
  have H := refPut_R n b
  unfold putS putE at H
  rw [if_pos ⟨hb1, hb2, h1, h2⟩, if_pos ⟨hb1, hb2, h1, h2⟩] at H
  go_enter Try.func39, Try.ntmps39
  go_wp2_with fail
  refine (H _).mono ?_
  rintro e w1 ⟨rfl, hb⟩
  clear H
  go_wp2
  go_ret
  exact ⟨rfl, hb⟩
end Go.Proofs.Ytpkfjlbjahghgaa
