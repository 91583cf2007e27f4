/- The walk of AddrPrefixHalves, both ways. -/
import Derived.Test.YtobcecnmeepjpaaDoorHalf
namespace Go.Proofs.YtobcecnmeepjpaaDoor
open Go.RowKit
set_option linter.unusedVariables false

set_option maxRecDepth 20000 in
set_option maxHeartbeats 8000000 in
theorem half_top (na nb a : Int) (w : World) (lna : -9223372036854775808 ≤ na) (una : na ≤ 9223372036854775807) (lnb : -9223372036854775808 ≤ nb) (unb : nb ≤ 9223372036854775807) (la : -9223372036854775808 ≤ a) (ua : a ≤ 9223372036854775807) (E : Env w) (hB : netB nb = 32) :
    Calls Tryd.prog 8 #[.agg #[.int .i64 na, .int .i64 nb], .int .i64 a] w fun e w' => e = .returned (.bool true) ∧ Below w.heap.size w w' := by
  obtain ⟨A, B, -, hBe, hv, NE⟩ := net_dom na nb lna una lnb unb
  obtain rfl : B = 32 := hBe.symm.trans hB
  have hl := last_bd hv
  have LA := last_yes hv
  rw [show A + (szZ 32 - 1) = A by rw [show szZ 32 = 1 from by decide]; omega] at LA
  have EX := fun w E => Lib.hid (ex_any w E)
  have HE := Lib.hid E
  clear E hv hBe hB
  go_enter Tryd.func8, Tryd.ntmps8
  go_wp2_with fail
  have hb0 := (Below.refl w.heap.size w).alloc (Nat.le_refl _) (.cells #[.int .i64 na, .int .i64 nb] 23)
  have p0 : (w.alloc (.cells #[.int .i64 na, .int .i64 nb] 23)).cell? ⟨w.heap.size, 0, none⟩ = some (.int .i64 na) := by simp
  have p1 : (w.alloc (.cells #[.int .i64 na, .int .i64 nb] 23)).cell? ⟨w.heap.size, 1, none⟩ = some (.int .i64 nb) := by simp
  refine (EX _ (HE.out.stay hb0)).out.mono ?_
  rintro e w1 ⟨rfl, hb1⟩
  obtain ⟨h1, q0, q1⟩ := keepN ⟨hb0, p0, p1⟩ hb1
  clear hb0 p0 p1 hb1
  go_wp2_with fail
  refine (NE _).out.mono ?_
  rintro e w2 ⟨rfl, hb2⟩
  replace hb2 := h1.trans (hb2.mono h1.size)
  obtain ⟨h2, q0, q1⟩ := keepN0 hb2 (.int .i64 A) (.int .i64 32) 23
  clear h1 hb2
  obtain ⟨N, hN⟩ : ∃ N, w2.heap.size = N := ⟨_, rfl⟩
  rw [hN] at q0 q1
  have HN := Lib.hid hN
  clear hN
  go_wp2_with fail
  rw [HN.out]
  refine (LA _).out.mono ?_
  rintro e w3 ⟨rfl, hb3⟩
  obtain ⟨h3, q0, q1⟩ := keepN ⟨h2, q0, q1⟩ hb3
  clear h2 hb3
  go_wp2_with fail
  go_ret
  exact ⟨rfl, h3⟩

theorem half_walk (na nb a : Int) (w : World) (lna : -9223372036854775808 ≤ na) (una : na ≤ 9223372036854775807) (lnb : -9223372036854775808 ≤ nb) (unb : nb ≤ 9223372036854775807) (la : -9223372036854775808 ≤ a) (ua : a ≤ 9223372036854775807) (E : Env w) :
    Calls Tryd.prog 8 #[.agg #[.int .i64 na, .int .i64 nb], .int .i64 a] w fun e w' => e = .returned (.bool true) ∧ Below w.heap.size w w' := by
  have h := net_bits nb
  rcases Int.lt_or_le 31 (netB nb) with h1 | h1
  · exact half_top na nb a w lna una lnb unb la ua E (by omega)
  · exact half_go na nb a w lna una lnb unb la ua E h1
end Go.Proofs.YtobcecnmeepjpaaDoor
