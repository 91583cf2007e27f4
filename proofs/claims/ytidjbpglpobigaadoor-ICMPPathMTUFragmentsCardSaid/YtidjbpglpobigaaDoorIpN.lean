/- Contracts of the reader's next and rest. -/
import Derived.Test.YtidjbpglpobigaaDoorIpC
import Derived.Test.YtidjbpglpobigaaDoorGet
import Derived.Test.YtidjbpglpobigaaDoorRefGet
import Derived.BigRegion
import Derived.Deep.RegionHeld3
namespace Go.Proofs.YtidjbpglpobigaaDoor
open Go.RowKit
set_option linter.unusedVariables false
attribute [local go_sem] Oper.semAt_some

set_option maxRecDepth 20000 in
theorem next_any (s : ByteArray) (k b R : Nat) (w : World) (c0 : w.cell? ⟨R, 0, none⟩ = some (.string s)) (c1 : w.cell? ⟨R, 1, none⟩ = some (.int .i64 (k : Int))) (f1 : w.frozen? ⟨R, 1, none⟩ = false) (hk : k + b ≤ 1000000) (hs : s.size ≤ maxLen) :
    Calls Tryd.prog 93 #[.pointer (some ⟨R, 0, none⟩), .int .i64 (b : Int)] w fun e w' => e = .returned (.int .i64 (getV s k b)) ∧
      ∃ w1, Below w.heap.size w w1 ∧ w' = w1.setCell ⟨R, 1, none⟩ (.int .i64 ((k + b : Nat) : Int)) := by
  have hRl : R < w.heap.size := cell_lt c0
  unfold maxLen at hs
  go_enter Tryd.func93, Tryd.ntmps93
  go_wp2
  go_region_held3 (fun w' => w'.cell? ⟨R, 0, none⟩ = some (.string s) ∧ w'.cell? ⟨R, 1, none⟩ = some (.int .i64 (k : Int)))
    (first | exact ⟨c0, c1⟩ | exact ⟨(hb.cell (p := ⟨R, 0, none⟩) hRl).trans c0, (hb.cell (p := ⟨R, 1, none⟩) hRl).trans c1⟩)
    ((go_at_call 92; refine (get_R s k b _ (by unfold maxLen; omega)).mono ?_; rintro e w2 ⟨rfl, hb⟩))
  have hB2 : Below w.heap.size w w2 := (Below.refl _ w).drew.trans hb
  have d1 := (hB2.cell (p := ⟨R, 1, none⟩) hRl).trans c1
  have g1 := (hB2.frozen (p := ⟨R, 1, none⟩) hRl).trans f1
  go_wp2
  go_ret
  exact ⟨rfl, w2, hB2, by simp⟩

theorem rest_any (s : ByteArray) (k R : Nat) (w : World) (c0 : w.cell? ⟨R, 0, none⟩ = some (.string s)) (c1 : w.cell? ⟨R, 1, none⟩ = some (.int .i64 (k : Int))) (hk : k ≤ s.size) (hs : s.size ≤ maxLen) :
    Calls Tryd.prog 94 #[.pointer (some ⟨R, 0, none⟩)] w fun e w' => e = .returned (.string (s.extract k s.size)) ∧ w' = w.drew := by
  go_enter Tryd.func94, Tryd.ntmps94
  go_wp2
  go_region
  go_wp2
  go_ret
  exact ⟨rfl, rfl⟩
end Go.Proofs.YtidjbpglpobigaaDoor
