/- Contracts of layer 3's functions on prefixes: no text is made here. -/
import Derived.Test.YtgfcpimklmgnbaaRows
import Derived.WalkKit
import Derived.WalkLawsBesides
import Derived.WalkSpells
import Derived.IntWalk
import Derived.Lib.Hide
import Derived.Outline
import Derived.RowKit3
import Derived.Below
import Derived.Deep.RegionHeld3
import Derived.BigRegion
import Derived.Deep.QuietTactic
import Derived.BigQuiet
import Derived.StillTactics
import Derived.Laws.Pointers
import Derived.Laws.BitsAllLaws
namespace Go.Proofs.Ytgfcpimklmgnbaa
open Go.RowKit
set_option linter.unusedVariables false

theorem ret_int {k : IntKind} {a b : Int} (h : a = b) : Ending.returned (.int k a) = .returned (.int k b) := by rw [h]
theorem ret_bool {a b : Bool} (h : a = b) : Ending.returned (.bool a) = .returned (.bool b) := by rw [h]

theorem below_drewN {n : Nat} {w w2 : World} {k : Nat} (h : Below n w w2) : Below n w (w2.drewN k) := ⟨h.1, h.2, h.3, h.4, h.5⟩

def validZ (a : Int) : Bool := decide (0 ≤ a) && decide (a ≤ 4294967295)
theorem valid_any (a : Int) (w : World) (la : -9223372036854775808 ≤ a) (ua : a ≤ 9223372036854775807) :
    Calls Try.prog 37 #[.int .i64 a] w fun e w' => e = .returned (.bool (validZ a)) ∧ w = w' := by
  by_cases h : 0 ≤ a
  · go_enter Try.func37, Try.ntmps37
    go_wp2
    go_ret
    exact ⟨ret_bool (by simp [validZ, h]), rfl⟩
  · have h' : a < 0 := by omega
    go_enter Try.func37, Try.ntmps37
    go_wp2
    go_ret
    exact ⟨ret_bool (by have : decide (0 ≤ a) = false := decide_eq_false (by omega); simp only [validZ, this, Bool.false_and]), rfl⟩

theorem ofInt_i64 (a : Nat) (ha : a < 9223372036854775808) : (BitVec.ofInt 64 (a : Int)).toNat = a := by
  rw [BitVec.ofInt_natCast, BitVec.toNat_ofNat]; exact Nat.mod_eq_of_lt (by omega)
theorem wrap_i64_small (a : Nat) (ha : a < 9223372036854775808) : IntKind.i64.wrap (a : Int) = a := by
  simp [IntKind.wrap, IntKind.bits, IntKind.signed]; omega
theorem i64_and_nat (a b : Nat) (ha : a < 9223372036854775808) (hb : b < 9223372036854775808) : bits .and .i64 (a : Int) (b : Int) = ((a &&& b : Nat) : Int) := by
  have hx : a &&& b < 2 ^ 63 := Nat.and_lt_two_pow _ (by omega)
  show IntKind.i64.wrap ((BitVec.ofInt 64 (a : Int) &&& BitVec.ofInt 64 (b : Int)).toNat : Int) = _
  rw [BitVec.toNat_and, ofInt_i64 a ha, ofInt_i64 b hb, wrap_i64_small _ (by omega)]
theorem i64_or_nat (a b : Nat) (ha : a < 9223372036854775808) (hb : b < 9223372036854775808) : bits .or .i64 (a : Int) (b : Int) = ((a ||| b : Nat) : Int) := by
  have hx : a ||| b < 2 ^ 63 := Nat.or_lt_two_pow (by omega) (by omega)
  show IntKind.i64.wrap ((BitVec.ofInt 64 (a : Int) ||| BitVec.ofInt 64 (b : Int)).toNat : Int) = _
  rw [BitVec.toNat_or, ofInt_i64 a ha, ofInt_i64 b hb, wrap_i64_small _ (by omega)]

/-- how many addresses share the first b bits -/
def szZ (b : Int) : Int := ((2 ^ (32 - b.toNat) : Nat) : Int)
def maskZ (b : Int) : Int := 4294967295 / 2 ^ min b.toNat 64
theorem cases33 {P : Int → Prop} (h : ∀ n : Nat, n < 33 → P (n : Int)) (b : Int) (l : 0 ≤ b) (u : b ≤ 32) : P b := by
  have := h b.toNat (by omega)
  rwa [Int.toNat_of_nonneg l] at this
theorem mask_sz (b : Int) (l : 0 ≤ b) (u : b ≤ 32) : maskZ b = szZ b - 1 :=
  cases33 (P := fun b => maskZ b = szZ b - 1) (by decide +kernel) b l u
theorem sz_bd (b : Int) (l : 0 ≤ b) (u : b ≤ 32) : 1 ≤ szZ b ∧ szZ b ≤ 4294967296 :=
  cases33 (P := fun b => 1 ≤ szZ b ∧ szZ b ≤ 4294967296) (by decide +kernel) b l u
theorem sz_dvd (b : Int) (l : 0 ≤ b) (u : b ≤ 32) : 4294967296 % szZ b = 0 :=
  cases33 (P := fun b => 4294967296 % szZ b = 0) (by decide +kernel) b l u
theorem and_mask (a b : Int) (l : 0 ≤ b) (u : b ≤ 32) (la : 0 ≤ a) (ua : a ≤ 4294967295) : bits .and .i64 a (maskZ b) = a % szZ b := by
  obtain ⟨n, rfl⟩ := Int.eq_ofNat_of_zero_le la
  obtain ⟨k, rfl⟩ := Int.eq_ofNat_of_zero_le l
  have hb := sz_bd k l u
  have hm : maskZ (k : Int) = ((2 ^ (32 - k) - 1 : Nat) : Int) := by rw [mask_sz _ l u]; unfold szZ at hb ⊢; simp only [Int.toNat_natCast] at hb ⊢; omega
  rw [hm]
  unfold szZ
  simp only [Int.toNat_natCast]
  have hk : 2 ^ (32 - k) - 1 < 4294967296 := by unfold szZ at hb; simp only [Int.toNat_natCast] at hb; omega
  have e : bits .and .i64 (n : Int) ((2 ^ (32 - k) - 1 : Nat) : Int) = ((n &&& (2 ^ (32 - k) - 1) : Nat) : Int) :=
    i64_and_nat _ _ (by omega) (by omega)
  rw [e, Nat.and_two_pow_sub_one_eq_mod]
  simp

theorem hb_any (b : Int) (w : World) (lb : 0 ≤ b) (ub : b ≤ 9223372036854775807) :
    Calls Try.prog 38 #[.int .i64 b] w fun e w' => e = .returned (.func (Fn.func 42) #[] #[.pointer (some ⟨w.heap.size, 0, none⟩)]) ∧ w' = w.alloc (.cells #[.int .i64 (maskZ b)] 3) := by
  go_enter Try.func38, Try.ntmps38
  go_wp2
  go_ret
  exact ⟨rfl, rfl⟩

theorem cl_any (a b : Int) (k : Addr) (w : World) (l : 0 ≤ b) (u : b ≤ 32) (la : 0 ≤ a) (ua : a ≤ 4294967295) (hc : w.cell? k = some (.int .i64 (maskZ b))) :
    Calls Try.prog 42 #[.int .i64 a, .pointer (some k)] w fun e w' => e = .returned (.int .i64 (a % szZ b)) ∧ w' = w := by
  go_enter Try.func42, Try.ntmps42
  go_wp2
  go_ret
  exact ⟨ret_int (and_mask a b l u la ua), rfl⟩

def vpZ (a b : Int) : Bool := validZ a && (decide (0 ≤ b) && (decide (b ≤ 32) && (a % szZ b == 0)))
theorem vpZ_in {a b : Int} (h1 : 0 ≤ a) (h2 : a ≤ 4294967295) (h3 : 0 ≤ b) (h4 : b ≤ 32) : vpZ a b = (a % szZ b == 0) := by simp [vpZ, validZ, h1, h2, h3, h4]
theorem vpZ_out {a b : Int} (h : ¬ (0 ≤ a ∧ a ≤ 4294967295 ∧ 0 ≤ b ∧ b ≤ 32)) : vpZ a b = false := by
  simp only [vpZ, validZ, Bool.and_eq_false_iff, decide_eq_false_iff_not]; omega

set_option maxHeartbeats 2000000 in
theorem vprefix_in (a b : Int) (w : World) (h1 : 0 ≤ a) (h2 : a ≤ 4294967295) (h3 : 0 ≤ b) (h4 : b ≤ 32) :
    Calls Try.prog 36 #[.agg #[.int .i64 a, .int .i64 b]] w fun e w' => e = .returned (.bool (a % szZ b == 0)) ∧ Below w.heap.size w w' := by
  have V := Lib.hid (valid_any a · (by omega) (by omega))
  rw [show validZ a = true by simp [validZ, h1, h2]] at V
  have Hb := Lib.hid (hb_any b · (by omega) (by omega))
  have Hc := Lib.hid (cl_any a b · · h3 h4 h1 h2)
  go_enter Try.func36, Try.ntmps36
  go_wp2
  go_region_held3 (fun w' => w'.cell? ⟨w.heap.size, 0, none⟩ = some (.int .i64 a) ∧ w'.cell? ⟨w.heap.size, 1, none⟩ = some (.int .i64 b)) (go_keep)
    (first
      | (go_at_call 37; refine (V.out _).mono ?_; rintro e w' ⟨rfl, rfl⟩)
      | (go_at_call 38; refine (Hb.out _).mono ?_; rintro e w' ⟨rfl, rfl⟩)
      | (go_at_call 42; refine (Hc.out _ _ (by simp)).mono ?_; rintro e w' ⟨rfl, rfl⟩))
  all_goals
    go_wp2
    go_ret
    exact ⟨rfl, by repeat (first | exact Below.refl _ _ | refine Below.drew ?_ | refine Below.alloc ?_ (by simp) _)⟩

theorem vprefix_a (a b : Int) (w : World) (la : -9223372036854775808 ≤ a) (ua : a ≤ 9223372036854775807) (h : validZ a = false) :
    Calls Try.prog 36 #[.agg #[.int .i64 a, .int .i64 b]] w fun e w' => e = .returned (.bool false) ∧ Below w.heap.size w w' := by
  have V := Lib.hid (valid_any a · la ua)
  rw [h] at V
  go_enter Try.func36, Try.ntmps36
  go_wp2
  go_quiet (first | (go_at_call 37; refine Calls.quiet_of_same ((V.out _).mono fun _ _ ⟨h1, h2⟩ => ⟨h1, h2.symm⟩)))
  go_wp2
  go_ret
  exact ⟨rfl, by repeat (first | exact Below.refl _ _ | refine below_drewN ?_ | refine Below.drew ?_ | refine Below.alloc ?_ (by simp) _)⟩

theorem vprefix_b (a b : Int) (w : World) (la : -9223372036854775808 ≤ a) (ua : a ≤ 9223372036854775807) (h : validZ a = true) (hb : b < 0) :
    Calls Try.prog 36 #[.agg #[.int .i64 a, .int .i64 b]] w fun e w' => e = .returned (.bool false) ∧ Below w.heap.size w w' := by
  have V := Lib.hid (valid_any a · la ua)
  rw [h] at V
  have hd : decide (0 ≤ b) = false := decide_eq_false (by omega)
  go_enter Try.func36, Try.ntmps36
  go_wp2
  go_quiet (first | (go_at_call 37; refine Calls.quiet_of_same ((V.out _).mono fun _ _ ⟨h1, h2⟩ => ⟨h1, h2.symm⟩)))
  go_wp2
  go_ret
  exact ⟨rfl, by repeat (first | exact Below.refl _ _ | refine below_drewN ?_ | refine Below.drew ?_ | refine Below.alloc ?_ (by simp) _)⟩

theorem vprefix_c (a b : Int) (w : World) (la : -9223372036854775808 ≤ a) (ua : a ≤ 9223372036854775807) (h : validZ a = true) (hb : 32 < b) (ub : b ≤ 9223372036854775807) :
    Calls Try.prog 36 #[.agg #[.int .i64 a, .int .i64 b]] w fun e w' => e = .returned (.bool false) ∧ Below w.heap.size w w' := by
  have V := Lib.hid (valid_any a · la ua)
  rw [h] at V
  have hd : decide (0 ≤ b) = true := decide_eq_true (by omega)
  have hd2 : decide (b ≤ 32) = false := decide_eq_false (by omega)
  go_enter Try.func36, Try.ntmps36
  go_wp2
  go_quiet (first | (go_at_call 37; refine Calls.quiet_of_same ((V.out _).mono fun _ _ ⟨h1, h2⟩ => ⟨h1, h2.symm⟩)))
  go_wp2
  go_ret
  exact ⟨rfl, by repeat (first | exact Below.refl _ _ | refine below_drewN ?_ | refine Below.drew ?_ | refine Below.alloc ?_ (by simp) _)⟩

theorem vprefix_any (a b : Int) (w : World) (la : -9223372036854775808 ≤ a) (ua : a ≤ 9223372036854775807) (lb : -9223372036854775808 ≤ b) (ub : b ≤ 9223372036854775807) :
    Calls Try.prog 36 #[.agg #[.int .i64 a, .int .i64 b]] w fun e w' => e = .returned (.bool (vpZ a b)) ∧ Below w.heap.size w w' := by
  by_cases h : 0 ≤ a ∧ a ≤ 4294967295 ∧ 0 ≤ b ∧ b ≤ 32
  · rw [vpZ_in h.1 h.2.1 h.2.2.1 h.2.2.2]
    exact vprefix_in a b w h.1 h.2.1 h.2.2.1 h.2.2.2
  · rw [vpZ_out h]
    cases hv : validZ a
    · exact vprefix_a a b w la ua hv
    · simp only [validZ, Bool.and_eq_true, decide_eq_true_eq] at hv
      rcases Int.lt_or_le b 0 with hb | hb
      · exact vprefix_b a b w la ua (by simp [validZ, hv]) hb
      · exact vprefix_c a b w la ua (by simp [validZ, hv]) (by omega) ub
end Go.Proofs.Ytgfcpimklmgnbaa
