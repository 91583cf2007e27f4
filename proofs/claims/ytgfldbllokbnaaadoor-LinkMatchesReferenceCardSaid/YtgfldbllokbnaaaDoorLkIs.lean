/- Contracts of errors.Is against the variable errFrame: the same error, and nil. -/
import Derived.Test.YtgfldbllokbnaaaDoorLkMem
import Derived.LaidEql
import Derived.Stop.Asserts
import Derived.RowKitTokens
namespace Go.Proofs.YtgfldbllokbnaaaDoor
open Go.RowKit Go.Extern.Stop Go.Stop Go.Extern

/-- the library's variable that the package compares with -/
def Env (w : World) (a : Addr) : Prop := w.cell? ⟨0, 0, none⟩ = some (.iface 93 (.pointer (some a)))
theorem Env.stay {w w' : World} {a : Addr} (E : Env w a) (hb : Below w.heap.size w w') : Env w' a := (hb.cell (World.block_lt_of_cell? _ _ E)).trans E

theorem isComp : (Tryd.prog.info? 93).map (·.comparable) = some true := by kernel_rfl
theorem isSize : (Tryd.prog.info? 118).map (·.size) = some 1 := by kernel_rfl

theorem callTypeOf (v : Value) (w : World) : (callFunc 39 #[.iface 93 v]).run Tryd.prog w = .ok (.value (.iface 83 (.agg #[.pointer (some ⟨1, 93, none⟩)]))) w := by kernel_rfl
theorem callComparable (w : World) : (callFunc 63 #[.agg #[.pointer (some ⟨1, 93, none⟩)]]).run Tryd.prog w = .ok (.value (.bool true)) w := by kernel_rfl

/-- errors.Is(nil, x) -/
theorem is_nil (b : Addr) (w : World) :
    Calls Tryd.prog 28 #[.nilIface, .iface 93 (.pointer (some b))] w fun e w' => e = .returned (.bool false) ∧ w' = w := by
  have hn := run_eql_iface_nil_left (P := Tryd.prog) w 93 (.pointer (some b)) Tryd.underlying57
  go_enter Tryd.func28, Tryd.ntmps28
  go_wp2
  go_ret
  exact ⟨rfl, rfl⟩

set_option maxHeartbeats 800000 in
/-- errors.Is(x, x) -/
theorem is_same (a : Addr) (w : World) :
    Calls Tryd.prog 28 #[.iface 93 (.pointer (some a)), .iface 93 (.pointer (some a))] w fun e w' => e = .returned (.bool true) ∧ w' = w := by
  obtain ⟨i, hi, hcmp⟩ := Option.map_eq_some_iff.1 isComp
  obtain ⟨j, hj, hjs⟩ := Option.map_eq_some_iff.1 isSize
  have h8 := callTypeOf
  have h32 := callComparable
  have heq := run_eql_iface_ptr_same (P := Tryd.prog) w a Tryd.underlying57 Tryd.underlying93 hi hcmp hj
  go_enter Tryd.func28, Tryd.ntmps28
  go_wp2
  refine wp_loop_rounds 1 ?_
  rw [rounds_succ]
  go_wp2
  go_ret
  exact ⟨rfl, rfl⟩
end Go.Proofs.YtgfldbllokbnaaaDoor
