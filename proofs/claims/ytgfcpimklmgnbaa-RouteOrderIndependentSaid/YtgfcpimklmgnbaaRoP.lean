/- Powers of two; pick; what stays of a box. -/
import Derived.Test.YtgfcpimklmgnbaaCont
import Derived.Handy
namespace Go.Proofs.Ytgfcpimklmgnbaa
open Go.RowKit
set_option linter.unusedVariables false
theorem keep2n (w : World) (a b : Value) (t : TypeId) :
    Below w.heap.size w (w.alloc (.cells #[a, b] t)) ∧ (w.alloc (.cells #[a, b] t)).cell? ⟨w.heap.size, 0, none⟩ = some a ∧ (w.alloc (.cells #[a, b] t)).cell? ⟨w.heap.size, 1, none⟩ = some b :=
  ⟨(Below.refl _ _).alloc (Nat.le_refl _) _, by simp, by simp⟩
theorem keep2d {w W : World} {a b : Value} (h : Below w.heap.size w W ∧ W.cell? ⟨w.heap.size, 0, none⟩ = some a ∧ W.cell? ⟨w.heap.size, 1, none⟩ = some b) :
    Below w.heap.size w W.drew ∧ W.drew.cell? ⟨w.heap.size, 0, none⟩ = some a ∧ W.drew.cell? ⟨w.heap.size, 1, none⟩ = some b := ⟨h.1.drew, h.2.1, h.2.2⟩

def pickQ (c n : Int) : Int := (if c < 0 then -(c + 1) else c) % n
theorem pickQ_neg {c n : Int} (h : c < 0) : pickQ c n = (-(c + 1)) % n := by rw [pickQ, if_pos h]
theorem pickQ_pos {c n : Int} (h : 0 ≤ c) : pickQ c n = c % n := by rw [pickQ, if_neg (by omega)]
theorem pickQ_bd (c n : Int) (h : 1 ≤ n) : 0 ≤ pickQ c n ∧ pickQ c n < n := by
  unfold pickQ; exact ⟨Int.emod_nonneg _ (by omega), Int.emod_lt_of_pos _ (by omega)⟩
theorem pickQ_any (c n : Int) (w : World) (h1 : -9223372036854775808 ≤ c) (h2 : c ≤ 9223372036854775807) (hn : 1 ≤ n) (hn2 : n ≤ 9223372036854775807) :
    Calls Try.prog 11 #[.int .i64 c, .int .i64 n] w fun e w' => e = .returned (.int .i64 (pickQ c n)) ∧ w = w' := by
  by_cases hc : c < 0
  · go_enter Try.func11, Try.ntmps11
    go_wp2
    go_ret
    exact ⟨ret_int (by rw [pickQ_neg hc, ← Int.neg_tmod, Int.tmod_eq_emod_of_nonneg (by omega)]), rfl⟩
  · have hc' : 0 ≤ c := by omega
    go_enter Try.func11, Try.ntmps11
    go_wp2
    go_ret
    exact ⟨ret_int (by rw [pickQ_pos hc']), rfl⟩
def pw (m : Nat) : Int := ((2 ^ m : Nat) : Int)
theorem pw_succ (m : Nat) : 2 * pw m = pw (m + 1) := by unfold pw; rw [Nat.pow_succ]; omega
theorem pw_bd (m : Nat) (h : m ≤ 32) : 1 ≤ pw m ∧ pw m ≤ 4294967296 :=
  ⟨by unfold pw; have := Nat.pos_of_ne_zero (n := 2 ^ m) (by simp); omega, by unfold pw; have := Nat.pow_le_pow_right (n := 2) (by omega) h; omega⟩
theorem pw_sz (b : Int) : pw (32 - b.toNat) = szZ b := rfl
end Go.Proofs.Ytgfcpimklmgnbaa
