/- The walk of ICMPQuotesDatagram: the four kinds. -/
import Derived.Test.YtidjbpglpobigaaDoorImW6a
import Derived.Test.YtidjbpglpobigaaDoorImW6b
namespace Go.Proofs.YtidjbpglpobigaaDoor
open Go.RowKit
set_option linter.unusedVariables false

theorem walk_ICMPQuotesDatagram (x : Rw) (which : Int) (w : World) (hx : x.ok) (l1 : -9223372036854775808 ≤ which) (u1 : which ≤ 9223372036854775807) (E : ∃ ea, Env w ea) :
    Calls Tryd.prog 8 #[rv x, .int .i64 which] w fun e w' => e = .returned (.bool true) ∧ Below w.heap.size w w' := by
  obtain ⟨ea, E⟩ := E
  obtain ⟨b1, b2⟩ := pickZ_bd which 4 (by decide)
  obtain h | h | h | h : pickZ which 4 = 0 ∨ pickZ which 4 = 1 ∨ pickZ which 4 = 2 ∨ pickZ which 4 = 3 := by omega
  · exact quo_0 x which w hx l1 u1 ea E h
  · exact quo_1 x which w hx l1 u1 ea E h
  · exact quo_2 x which w hx l1 u1 ea E h
  · exact quo_3 x which w hx l1 u1 ea E h
end Go.Proofs.YtidjbpglpobigaaDoor
