/- Contracts of the small functions of layer 1: validWidth, split, join. -/
import Derived.Test.YtobcecnmeepjpaaDoorRows
import Derived.WalkKit
import Derived.WalkLawsBesides
import Derived.WalkSpells
import Derived.IntWalk
import Derived.Lib.Hide
import Derived.Outline
import Derived.RowKit3
namespace Go.Proofs.YtobcecnmeepjpaaDoor.wr
open Go.RowKit

theorem ret_int {k : IntKind} {a b : Int} (h : a = b) : Ending.returned (.int k a) = .returned (.int k b) := by rw [h]

theorem ret_bool {a b : Bool} (h : a = b) : Ending.returned (.bool a) = .returned (.bool b) := by rw [h]

theorem validWidth_yes (b : Int) (w : World) (h1 : 1 ≤ b) (h2 : b ≤ 4) :
    Calls Tryd.prog 41 #[.int .i64 b] w fun e w' => e = .returned (.bool true) ∧ w = w' := by
  go_enter Tryd.func41, Tryd.ntmps41
  go_wp2
  go_ret
  exact ⟨rfl, rfl⟩
theorem validWidth_no (b : Int) (w : World) (h : b < 1 ∨ 4 < b) :
    Calls Tryd.prog 41 #[.int .i64 b] w fun e w' => e = .returned (.bool false) ∧ w = w' := by
  rcases h with h | h
  · go_enter Tryd.func41, Tryd.ntmps41
    go_wp2
    go_ret
    exact ⟨rfl, rfl⟩
  · go_enter Tryd.func41, Tryd.ntmps41
    go_wp2
    go_ret
    exact ⟨ret_bool (by simpa using h), rfl⟩
end Go.Proofs.YtobcecnmeepjpaaDoor.wr
