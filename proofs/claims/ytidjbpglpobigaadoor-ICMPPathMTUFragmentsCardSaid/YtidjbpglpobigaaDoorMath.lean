/- Plain facts on numbers, bits and bytes; no program. -/
import Derived.WalkKit
import Derived.IntWalk
import Derived.Laws.BitsLemmas
import Derived.Laws.BitsAllLaws
import Derived.Below
namespace Go.Proofs.YtidjbpglpobigaaDoor
open Go.RowKit

theorem wraps_i64 (n : Int) (h₀ : 0 ≤ n) (h₁ : n < 2 ^ 62) : IntKind.i64.wrap n = n := by rw [IntKind.wrap_i64]; omega
theorem or0_i64 (y : Int) (hy : 0 ≤ y) (hy2 : y < 4611686018427387904) : bits .or .i64 0 y = y := by
  have := bits_join .i64 62 (by decide) wraps_i64 62 0 y (by decide) (by decide) (by decide) hy (by omega) (by omega)
  rwa [Int.zero_add] at this
theorem or8_i64 (x y : Int) (hx : 0 ≤ x) (hx2 : x < 281474976710656) (hy : 0 ≤ y) (hy2 : y < 256) : bits .or .i64 (x * 256) y = x * 256 + y :=
  bits_join .i64 62 (by decide) wraps_i64 8 (x * 256) y (by omega) (by omega) (by omega) hy (by omega) (by omega)
theorem and16_i64 (x : Int) (hx : 0 ≤ x) (hx2 : x < 4611686018427387904) : bits .and .i64 x 65535 = x % 65536 := by
  have := bits_mask .i64 62 (by decide) wraps_i64 16 (by decide) x hx (by omega)
  simpa using this
theorem wrap64_id (n : Int) (h : 0 ≤ n) (h2 : n < 4611686018427387904) : wrap64 n = n := IntWalk.wrap64_in n ⟨by omega, by omega⟩

/-- what join gives, as the walk spells it -/
theorem join_math (a b c d : Int) (a0 : 0 ≤ a) (a1 : a ≤ 255) (b0 : 0 ≤ b) (b1 : b ≤ 255) (c0 : 0 ≤ c) (c1 : c ≤ 255) (d0 : 0 ≤ d) (d1 : d ≤ 255) :
    bits .or .i64 (wrap64 (bits .or .i64 (wrap64 (bits .or .i64 (wrap64 (bits .or .i64 0 a * 256)) b * 256)) c * 256)) d = a * 16777216 + b * 65536 + c * 256 + d := by
  rw [or0_i64 a a0 (by omega), wrap64_id (a * 256) (by omega) (by omega), or8_i64 a b a0 (by omega) b0 (by omega), wrap64_id ((a * 256 + b) * 256) (by omega) (by omega),
    or8_i64 (a * 256 + b) c (by omega) (by omega) c0 (by omega), wrap64_id (((a * 256 + b) * 256 + c) * 256) (by omega) (by omega), or8_i64 ((a * 256 + b) * 256 + c) d (by omega) (by omega) d0 (by omega)]
  omega
end Go.Proofs.YtidjbpglpobigaaDoor
