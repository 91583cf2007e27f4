/- The CRC-32's register as a plain function on numbers: linear, and one to one. No program. -/
import Derived.Test.YtpkfjlbjahghgaaMath
import Derived.Laws.Shifts
namespace Go.Proofs.Ytpkfjlbjahghgaa
open Go.RowKit

/-- one shift of the register -/
def stepN (c : Nat) : Nat := c / 2 ^^^ (if c % 2 = 1 then 3988292384 else 0)
/-- k shifts -/
def it : Nat → Nat → Nat
  | 0, c => c
  | k + 1, c => stepN (it k c)
/-- one byte -/
def byteN (c : Nat) (b : UInt8) : Nat := it 8 (c ^^^ b.toNat)
def regN (c : Nat) (l : List UInt8) : Nat := l.foldl byteN c
def crcN (l : List UInt8) : Nat := 4294967295 ^^^ regN 4294967295 l

theorem stepN_lt {c : Nat} (h : c < 4294967296) : stepN c < 4294967296 := by
  unfold stepN
  have h1 : c / 2 < 2 ^ 32 := by omega
  have h2 : (if c % 2 = 1 then 3988292384 else 0) < 2 ^ 32 := by split <;> omega
  exact Nat.xor_lt_two_pow h1 h2
theorem it_lt {c : Nat} (h : c < 4294967296) : ∀ k, it k c < 4294967296
  | 0 => h
  | k + 1 => stepN_lt (it_lt h k)
theorem xor_lt32 {a b : Nat} (h1 : a < 4294967296) (h2 : b < 4294967296) : a ^^^ b < 4294967296 := Nat.xor_lt_two_pow (n := 32) h1 h2
theorem u8_lt32 (b : UInt8) : b.toNat < 4294967296 := by have := b.toNat_lt; omega
theorem byteN_lt {c : Nat} (h : c < 4294967296) (b : UInt8) : byteN c b < 4294967296 := it_lt (xor_lt32 h (u8_lt32 b)) 8
theorem regN_lt : ∀ (l : List UInt8) {c : Nat}, c < 4294967296 → regN c l < 4294967296
  | [], _, h => h
  | b :: l, _, h => regN_lt l (byteN_lt h b)
theorem crcN_lt (l : List UInt8) : crcN l < 4294967296 := xor_lt32 (by decide) (regN_lt l (by decide))

/-- the register's shift as the program writes it -/
theorem step_go (c : Nat) (h : c < 4294967296) :
    bits .xor .u32 ((c : Int) / 2) (bits .and .u32 3988292384 ((-(bits .and .u32 (c : Int) 1)) % 4294967296)) = ((stepN c : Nat) : Int) := by
  have h1 : bits .and .u32 (c : Int) 1 = ((c % 2 : Nat) : Int) := by
    have := u32_and_nat c 1 h (by decide)
    rw [nat_mask1] at this
    exact this
  rw [h1]
  have hd : (c : Int) / 2 = ((c / 2 : Nat) : Int) := by omega
  rw [hd]
  unfold stepN
  rcases Nat.mod_two_eq_zero_or_one c with h2 | h2
  · rw [h2]
    have e : (-((0 : Nat) : Int)) % 4294967296 = ((0 : Nat) : Int) := by decide
    rw [e]
    have := u32_and_nat 3988292384 0 (by decide) (by decide)
    rw [Nat.and_zero] at this
    rw [show (3988292384 : Int) = ((3988292384 : Nat) : Int) from rfl, this, u32_xor_nat _ _ (by omega) (by decide)]
    simp
  · rw [h2]
    have e : (-((1 : Nat) : Int)) % 4294967296 = ((4294967295 : Nat) : Int) := by decide
    rw [e]
    have := u32_and_nat 3988292384 4294967295 (by decide) (by decide)
    rw [show (3988292384 &&& 4294967295 : Nat) = 3988292384 by decide] at this
    rw [show (3988292384 : Int) = ((3988292384 : Nat) : Int) from rfl, this, u32_xor_nat _ _ (by omega) (by decide)]
    simp

/-! the register is linear -/
theorem stepN_xor (a b : Nat) : stepN (a ^^^ b) = stepN a ^^^ stepN b := by
  unfold stepN
  have hd : (a ^^^ b) / 2 = a / 2 ^^^ b / 2 := by
    have := Nat.shiftRight_xor_distrib (a := a) (b := b) (i := 1)
    simpa [Nat.shiftRight_succ] using this
  have hm : (a ^^^ b) % 2 = 1 ↔ ¬ (a % 2 = 1 ↔ b % 2 = 1) := Nat.xor_mod_two_eq_one
  rw [hd]
  rcases Nat.mod_two_eq_zero_or_one a with ha | ha <;> rcases Nat.mod_two_eq_zero_or_one b with hb | hb
  · rw [if_neg (by omega), if_neg (by omega), if_neg (by omega)]; simp
  · rw [if_pos (by omega), if_neg (by omega), if_pos (by omega)]; simp [Nat.xor_assoc]
  · rw [if_pos (by omega), if_pos (by omega), if_neg (by omega)]
    simp only [Nat.xor_zero]; rw [Nat.xor_assoc, Nat.xor_assoc, Nat.xor_comm (b / 2)]
  · rw [if_neg (by omega), if_pos (by omega), if_pos (by omega)]
    rw [Nat.xor_zero, Nat.xor_assoc, ← Nat.xor_assoc 3988292384, Nat.xor_comm 3988292384, Nat.xor_assoc (b / 2), Nat.xor_self, Nat.xor_zero]
theorem it_xor (a b : Nat) : ∀ k, it k (a ^^^ b) = it k a ^^^ it k b
  | 0 => rfl
  | k + 1 => by simp only [it, it_xor a b k, stepN_xor]

/-! the register is one to one -/
theorem stepN_zero {c : Nat} (h : c < 4294967296) (h0 : stepN c = 0) : c = 0 := by
  unfold stepN at h0
  rcases Nat.mod_two_eq_zero_or_one c with h2 | h2
  · rw [if_neg (by omega), Nat.xor_zero] at h0; omega
  · rw [if_pos h2] at h0
    have e : c / 2 = 3988292384 := by
      have := congrArg (· ^^^ 3988292384) h0
      simpa [Nat.xor_assoc] using this
    omega
theorem it_zero {c : Nat} (h : c < 4294967296) : ∀ k, it k c = 0 → c = 0
  | 0, e => e
  | k + 1, e => it_zero h k (stepN_zero (it_lt h k) e)
theorem xor_eq_zero' {a b : Nat} (h : a ^^^ b = 0) : a = b := by
  have := congrArg (· ^^^ b) h
  simpa [Nat.xor_assoc] using this
theorem it_inj {a b : Nat} (ha : a < 4294967296) (hb : b < 4294967296) (k : Nat) (h : it k a = it k b) : a = b :=
  xor_eq_zero' (it_zero (xor_lt32 ha hb) k (by rw [it_xor, h, Nat.xor_self]))
end Go.Proofs.Ytpkfjlbjahghgaa
