/- Contracts of the statements' own net and To. -/
import Derived.Test.YtgfcpimklmgnbaaRoH
namespace Go.Proofs.Ytgfcpimklmgnbaa
open Go.RowKit
set_option linter.unusedVariables false

/-- the first address of the network of that length around a -/
def netZ (a b : Int) : Int := a - a % szZ b
def okB (b : Int) : Prop := b = 0 ∨ b = 7 ∨ b = 8 ∨ b = 13 ∨ b = 16 ∨ b = 23 ∨ b = 24 ∨ b = 28 ∨ b = 32
theorem okB_bd {b : Int} (h : okB b) : 0 ≤ b ∧ b ≤ 32 := by unfold okB at h; omega
theorem netZ_bd {a b : Int} (ha : 0 ≤ a) (hb : okB b) : 0 ≤ netZ a b ∧ netZ a b ≤ a := by
  have h := sz_bd b (okB_bd hb).1 (okB_bd hb).2
  have h1 := Int.emod_nonneg a (b := szZ b) (by omega)
  have h2 : a % szZ b ≤ a := by
    have := Int.mul_ediv_add_emod a (szZ b)
    have := Int.mul_nonneg (show 0 ≤ szZ b by omega) (Int.ediv_nonneg ha (show 0 ≤ szZ b by omega))
    omega
  unfold netZ; omega
theorem netZ_at {a b s : Int} (hs : szZ b = s) : netZ a b = a - a % s := by unfold netZ; rw [hs]

theorem net0 (a : Int) (w : World) (ha : 0 ≤ a) (ha2 : a ≤ 4294967295) :
    Calls Try.prog 23 #[.int .i64 a, .int .i64 0] w fun e w' => e = .returned (.agg #[.int .i64 (netZ a 0), .int .i64 0]) ∧ Below w.heap.size w w' := by
  rw [netZ_at (s := 4294967296) (by decide)]
  go_enter Try.func23, Try.ntmps23
  go_wp2
  go_returns
  exact ⟨by rw [show a - a % 4294967296 = a / 4294967296 * 4294967296 by omega], (Below.refl _ w).alloc (Nat.le_refl _) _⟩

theorem net7 (a : Int) (w : World) (ha : 0 ≤ a) (ha2 : a ≤ 4294967295) :
    Calls Try.prog 23 #[.int .i64 a, .int .i64 7] w fun e w' => e = .returned (.agg #[.int .i64 (netZ a 7), .int .i64 7]) ∧ Below w.heap.size w w' := by
  rw [netZ_at (s := 33554432) (by decide)]
  go_enter Try.func23, Try.ntmps23
  go_wp2
  go_returns
  exact ⟨by rw [show a - a % 33554432 = a / 33554432 * 33554432 by omega], (Below.refl _ w).alloc (Nat.le_refl _) _⟩

theorem net8 (a : Int) (w : World) (ha : 0 ≤ a) (ha2 : a ≤ 4294967295) :
    Calls Try.prog 23 #[.int .i64 a, .int .i64 8] w fun e w' => e = .returned (.agg #[.int .i64 (netZ a 8), .int .i64 8]) ∧ Below w.heap.size w w' := by
  rw [netZ_at (s := 16777216) (by decide)]
  go_enter Try.func23, Try.ntmps23
  go_wp2
  go_returns
  exact ⟨by rw [show a - a % 16777216 = a / 16777216 * 16777216 by omega], (Below.refl _ w).alloc (Nat.le_refl _) _⟩

theorem net13 (a : Int) (w : World) (ha : 0 ≤ a) (ha2 : a ≤ 4294967295) :
    Calls Try.prog 23 #[.int .i64 a, .int .i64 13] w fun e w' => e = .returned (.agg #[.int .i64 (netZ a 13), .int .i64 13]) ∧ Below w.heap.size w w' := by
  rw [netZ_at (s := 524288) (by decide)]
  go_enter Try.func23, Try.ntmps23
  go_wp2
  go_returns
  exact ⟨by rw [show a - a % 524288 = a / 524288 * 524288 by omega], (Below.refl _ w).alloc (Nat.le_refl _) _⟩

theorem net16 (a : Int) (w : World) (ha : 0 ≤ a) (ha2 : a ≤ 4294967295) :
    Calls Try.prog 23 #[.int .i64 a, .int .i64 16] w fun e w' => e = .returned (.agg #[.int .i64 (netZ a 16), .int .i64 16]) ∧ Below w.heap.size w w' := by
  rw [netZ_at (s := 65536) (by decide)]
  go_enter Try.func23, Try.ntmps23
  go_wp2
  go_returns
  exact ⟨by rw [show a - a % 65536 = a / 65536 * 65536 by omega], (Below.refl _ w).alloc (Nat.le_refl _) _⟩

theorem net23 (a : Int) (w : World) (ha : 0 ≤ a) (ha2 : a ≤ 4294967295) :
    Calls Try.prog 23 #[.int .i64 a, .int .i64 23] w fun e w' => e = .returned (.agg #[.int .i64 (netZ a 23), .int .i64 23]) ∧ Below w.heap.size w w' := by
  rw [netZ_at (s := 512) (by decide)]
  go_enter Try.func23, Try.ntmps23
  go_wp2
  go_returns
  exact ⟨by rw [show a - a % 512 = a / 512 * 512 by omega], (Below.refl _ w).alloc (Nat.le_refl _) _⟩

theorem net24 (a : Int) (w : World) (ha : 0 ≤ a) (ha2 : a ≤ 4294967295) :
    Calls Try.prog 23 #[.int .i64 a, .int .i64 24] w fun e w' => e = .returned (.agg #[.int .i64 (netZ a 24), .int .i64 24]) ∧ Below w.heap.size w w' := by
  rw [netZ_at (s := 256) (by decide)]
  go_enter Try.func23, Try.ntmps23
  go_wp2
  go_returns
  exact ⟨by rw [show a - a % 256 = a / 256 * 256 by omega], (Below.refl _ w).alloc (Nat.le_refl _) _⟩

theorem net28 (a : Int) (w : World) (ha : 0 ≤ a) (ha2 : a ≤ 4294967295) :
    Calls Try.prog 23 #[.int .i64 a, .int .i64 28] w fun e w' => e = .returned (.agg #[.int .i64 (netZ a 28), .int .i64 28]) ∧ Below w.heap.size w w' := by
  rw [netZ_at (s := 16) (by decide)]
  go_enter Try.func23, Try.ntmps23
  go_wp2
  go_returns
  exact ⟨by rw [show a - a % 16 = a / 16 * 16 by omega], (Below.refl _ w).alloc (Nat.le_refl _) _⟩

theorem net32 (a : Int) (w : World) (ha : 0 ≤ a) (ha2 : a ≤ 4294967295) :
    Calls Try.prog 23 #[.int .i64 a, .int .i64 32] w fun e w' => e = .returned (.agg #[.int .i64 (netZ a 32), .int .i64 32]) ∧ Below w.heap.size w w' := by
  rw [netZ_at (s := 1) (by decide)]
  go_enter Try.func23, Try.ntmps23
  go_wp2
  go_returns
  exact ⟨by rw [show a - a % 1 = a by omega], (Below.refl _ w).alloc (Nat.le_refl _) _⟩

theorem net_any (a b : Int) (w : World) (ha : 0 ≤ a) (ha2 : a ≤ 4294967295) (hb : okB b) :
    Calls Try.prog 23 #[.int .i64 a, .int .i64 b] w fun e w' => e = .returned (.agg #[.int .i64 (netZ a b), .int .i64 b]) ∧ Below w.heap.size w w' := by
  unfold okB at hb
  rcases hb with rfl | rfl | rfl | rfl | rfl | rfl | rfl | rfl | rfl
  · exact net0 a w ha ha2
  · exact net7 a w ha ha2
  · exact net8 a w ha ha2
  · exact net13 a w ha ha2
  · exact net16 a w ha ha2
  · exact net23 a w ha ha2
  · exact net24 a w ha ha2
  · exact net28 a w ha ha2
  · exact net32 a w ha ha2

theorem tdiv_bd {n k : Int} (h : InI n) (hk : 1 ≤ k) : InI (n.tdiv k) := by
  unfold InI at *
  rcases Int.lt_or_le n 0 with hn | hn
  · have e : n.tdiv k = -((-n) / k) := by rw [← Int.tdiv_eq_ediv_of_nonneg (by omega : (0 : Int) ≤ -n), Int.neg_tdiv, Int.neg_neg]
    have h1 : 0 ≤ (-n) / k := Int.ediv_nonneg (by omega) (by omega)
    have h2 : (-n) / k ≤ -n := Int.ediv_le_self _ (by omega)
    omega
  · have e : n.tdiv k = n / k := Int.tdiv_eq_ediv_of_nonneg hn
    have h1 : 0 ≤ n / k := Int.ediv_nonneg hn (by omega)
    have h2 : n / k ≤ n := Int.ediv_le_self _ hn
    omega

set_option maxHeartbeats 1600000 in
theorem to_any (n : Int) (w : World) (h : InI n) :
    Calls Try.prog 14 #[.int .i64 n] w fun e w' => (∃ a, e = .returned (.int .i64 a) ∧ InI a) ∧ w = w' := by
  have b1 := tdiv_bd h (k := 4096) (by decide)
  have b2 := tdiv_bd h (k := 64) (by decide)
  have P1 := Lib.hid (pickQ_any (n.tdiv 4096) 8 · b1.1 b1.2 (by decide) (by decide))
  have P2 := Lib.hid (pickQ_any (n.tdiv 64) 16 · b2.1 b2.2 (by decide) (by decide))
  have P3 := Lib.hid (pickQ_any n 64 · h.1 h.2 (by decide) (by decide))
  have q1 := pickQ_bd (n.tdiv 4096) 8 (by decide)
  have q2 := pickQ_bd (n.tdiv 64) 16 (by decide)
  have q3 := pickQ_bd n 64 (by decide)
  generalize pickQ (n.tdiv 4096) 8 = p1 at *
  generalize pickQ (n.tdiv 64) 16 = p2 at *
  generalize pickQ n 64 = p3 at *
  have k1 : wrap64 (n.tdiv 4096) = n.tdiv 4096 := IntWalk.wrap64_in _ b1
  have k2 : wrap64 (n.tdiv 64) = n.tdiv 64 := IntWalk.wrap64_in _ b2
  by_cases h7 : n.tmod 7 = 0
  · have h7' : (n.tmod 7 == 0) = true := by simpa using h7
    have HI := Lib.hid h
    clear b1 b2 h
    go_enter Try.func14, Try.ntmps14
    go_wp2_with fail
    go_ret
    exact ⟨⟨_, rfl, HI.out⟩, rfl⟩
  · have h7' : (n.tmod 7 == 0) = false := by simpa using h7
    clear b1 b2 h h7
    go_enter Try.func14, Try.ntmps14
    go_wp2_with fail
    refine (P1.out _).mono ?_
    rintro e w1 ⟨rfl, rfl⟩
    go_wp2_with fail
    refine (P2.out _).mono ?_
    rintro e w1 ⟨rfl, rfl⟩
    go_wp2_with fail
    refine (P3.out _).mono ?_
    rintro e w1 ⟨rfl, rfl⟩
    go_wp2_with fail
    go_ret
    exact ⟨⟨_, rfl, by unfold InI; omega⟩, rfl⟩
end Go.Proofs.Ytgfcpimklmgnbaa
