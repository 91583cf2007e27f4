/- Contracts of link.Valid, link.AddressedTo, and the reference's. -/
import Derived.Test.YtgfldbllokbnaaaDoorPick
import Derived.Below
import Derived.Handy
namespace Go.Proofs.YtgfldbllokbnaaaDoor
open Go.RowKit
attribute [local go_sem] Oper.semAt_some

/-- a frame -/
abbrev fv (a b c : Int) (s : ByteArray) : Value := .agg #[.int .i64 a, .int .i64 b, .int .i64 c, .string s]
/-- its cells in memory -/
abbrev fo (a b c : Int) (s : ByteArray) : Obj := .cells #[.int .i64 a, .int .i64 b, .int .i64 c, .string s] 23
/-- what makes a frame valid -/
def okF (a b c : Int) (n : Nat) : Prop := 1 ≤ a ∧ a ≤ 65535 ∧ 1 ≤ b ∧ b ≤ 65534 ∧ (c = 1 ∨ c = 2) ∧ n ≤ 1024
instance (a b c : Int) (n : Nat) : Decidable (okF a b c n) := by unfold okF; infer_instance
/-- who takes a frame -/
def toB (a b m : Int) : Bool := decide ((a = m ∨ a = 65535) ∧ b ≠ m)

set_option maxHeartbeats 1600000 in
theorem valid_any (a b c : Int) (s : ByteArray) (w : World) :
    Calls Tryd.prog 15 #[fv a b c s] w fun e w' => e = .returned (.bool (decide (okF a b c s.size))) ∧ w' = w.alloc (fo a b c s) := by
  go_enter Tryd.func15, Tryd.ntmps15
  go_wp2
  all_goals go_ret
  all_goals (try subst_vars)
  all_goals refine ⟨ret_bool ?_, rfl⟩
  all_goals first
    | exact (decide_eq_false (by unfold okF; omega)).symm
    | (rw [decide_eq_decide]; unfold okF; omega)

set_option maxHeartbeats 1600000 in
theorem refValid_any (a b c : Int) (s : ByteArray) (w : World) :
    Calls Tryd.prog 16 #[fv a b c s] w fun e w' => e = .returned (.bool (decide (okF a b c s.size))) ∧ w' = w.alloc (fo a b c s) := by
  go_enter Tryd.func16, Tryd.ntmps16
  go_wp2
  all_goals go_ret
  all_goals (try subst_vars)
  all_goals refine ⟨ret_bool ?_, rfl⟩
  all_goals first
    | exact (decide_eq_false (by unfold okF; omega)).symm
    | (rw [decide_eq_decide]; unfold okF; omega)

set_option maxHeartbeats 1600000 in
theorem to_any (a b c : Int) (s : ByteArray) (m : Int) (w : World) :
    Calls Tryd.prog 17 #[fv a b c s, .int .i64 m] w fun e w' => e = .returned (.bool (toB a b m)) ∧ w' = w.alloc (fo a b c s) := by
  go_enter Tryd.func17, Tryd.ntmps17
  go_wp2
  all_goals go_ret
  all_goals (try subst_vars)
  all_goals refine ⟨ret_bool ?_, rfl⟩
  all_goals unfold toB
  all_goals first
    | (rw [Bool.eq_iff_iff]; simp; done)
    | (rw [Bool.eq_iff_iff]; simp; omega)
    | skip

set_option maxHeartbeats 1600000 in
theorem refTo_any (a b c : Int) (s : ByteArray) (m : Int) (w : World) :
    Calls Tryd.prog 18 #[fv a b c s, .int .i64 m] w fun e w' => e = .returned (.bool (toB a b m)) ∧ w' = w.alloc (fo a b c s) := by
  go_enter Tryd.func18, Tryd.ntmps18
  go_wp2
  all_goals go_ret
  all_goals (try subst_vars)
  all_goals refine ⟨ret_bool ?_, rfl⟩
  all_goals unfold toB
  all_goals first
    | (rw [Bool.eq_iff_iff]; simp; done)
    | (rw [Bool.eq_iff_iff]; simp; omega)
    | skip
end Go.Proofs.YtgfldbllokbnaaaDoor
