/- The walk of the statement WireCRCDetects. -/
import Derived.Test.YtolohjinjpegmaaRefSum
import Derived.Deep.DeepCutAuto
import Derived.StillTailTactics
import Derived.OwnWalk
import Derived.Laws.OwnMore
namespace Go.Proofs.Ytolohjinjpegmaa
open Go.RowKit

theorem xor_swap (a b c : Nat) : a ^^^ (b ^^^ c) = b ^^^ (a ^^^ c) := by rw [← Nat.xor_assoc, Nat.xor_comm a b, Nat.xor_assoc]
theorem xor_six (r s t x y z : Nat) : r ^^^ s ^^^ t ^^^ (x ^^^ y ^^^ z) = r ^^^ x ^^^ (s ^^^ y) ^^^ (t ^^^ z) := by
  simp only [Nat.xor_assoc]
  rw [xor_swap t x, xor_swap s x, xor_swap t y]
/-- the bytewise XOR of three strings -/
def xl : List UInt8 → List UInt8 → List UInt8 → List UInt8
  | a :: A, b :: B, c :: C => (a ^^^ b ^^^ c) :: xl A B C
  | _, _, _ => []
theorem xl_snoc (a b c : UInt8) : ∀ (A B C : List UInt8), A.length = B.length → B.length = C.length → xl (A ++ [a]) (B ++ [b]) (C ++ [c]) = xl A B C ++ [a ^^^ b ^^^ c]
  | [], [], [], _, _ => rfl
  | x :: A, y :: B, z :: C, h1, h2 => by
    simp only [List.cons_append, xl]
    rw [xl_snoc a b c A B C (by simpa using h1) (by simpa using h2)]
  | [], _ :: _, _, h, _ => by simp at h
  | _ :: _, [], _, h, _ => by simp at h
  | [], [], _ :: _, _, h => by simp at h
  | _ :: _, _ :: _, [], _, h => by simp at h
theorem xl_length : ∀ (A B C : List UInt8), A.length = B.length → B.length = C.length → (xl A B C).length = A.length
  | [], [], [], _, _ => rfl
  | x :: A, y :: B, z :: C, h1, h2 => by
    simp only [xl, List.length_cons]
    rw [xl_length A B C (by simpa using h1) (by simpa using h2)]
  | [], _ :: _, _, h, _ => by simp at h
  | _ :: _, [], _, h, _ => by simp at h
  | [], [], _ :: _, _, h => by simp at h
  | _ :: _, _ :: _, [], _, h => by simp at h
theorem regN_xl : ∀ (A B C : List UInt8) (r s t : Nat), A.length = B.length → B.length = C.length → regN (r ^^^ s ^^^ t) (xl A B C) = regN r A ^^^ regN s B ^^^ regN t C
  | [], [], [], r, s, t, _, _ => rfl
  | x :: A, y :: B, z :: C, r, s, t, h1, h2 => by
    have e : byteN (r ^^^ s ^^^ t) (x ^^^ y ^^^ z) = byteN r x ^^^ byteN s y ^^^ byteN t z := by
      unfold byteN
      rw [← it_xor, ← it_xor]
      congr 1
      rw [UInt8.toNat_xor, UInt8.toNat_xor]
      exact xor_six _ _ _ _ _ _
    show regN (byteN (r ^^^ s ^^^ t) (x ^^^ y ^^^ z)) (xl A B C) = regN (byteN r x) A ^^^ regN (byteN s y) B ^^^ regN (byteN t z) C
    rw [e, regN_xl A B C _ _ _ (by simpa using h1) (by simpa using h2)]
  | [], _ :: _, _, _, _, _, h, _ => by simp at h
  | _ :: _, [], _, _, _, _, h, _ => by simp at h
  | [], [], _ :: _, _, _, _, _, h => by simp at h
  | _ :: _, _ :: _, [], _, _, _, _, h => by simp at h
theorem crcN_xl (A B C : List UInt8) (h1 : A.length = B.length) (h2 : B.length = C.length) : crcN (xl A B C) = crcN A ^^^ crcN B ^^^ crcN C := by
  have h := regN_xl A B C 4294967295 4294967295 4294967295 h1 h2
  rw [show (4294967295 ^^^ 4294967295 ^^^ 4294967295 : Nat) = 4294967295 by decide] at h
  unfold crcN
  rw [h]
  have e : ∀ p q r s : Nat, p ^^^ (q ^^^ r ^^^ s) = (p ^^^ q) ^^^ (p ^^^ r) ^^^ (p ^^^ s) := by
    intro p q r s
    rw [← xor_six p p p q r s, Nat.xor_self, Nat.zero_xor]
  exact e _ _ _ _

/-- the register is one to one in what lies ahead of a string -/
theorem regN_inj : ∀ (l : List UInt8) (a b : Nat), a < 4294967296 → b < 4294967296 → regN a l = regN b l → a = b
  | [], _, _, _, _, h => h
  | x :: l, a, b, ha, hb, h => by
    have h1 := regN_inj l (byteN a x) (byteN b x) (byteN_lt ha x) (byteN_lt hb x) h
    have h2 := it_inj (xor_lt32 ha (u8_lt32 x)) (xor_lt32 hb (u8_lt32 x)) 8 h1
    have := congrArg (· ^^^ x.toNat) h2
    simpa [Nat.xor_assoc] using this
theorem byteN_inj {c : Nat} (hc : c < 4294967296) {x y : UInt8} (h : byteN c x = byteN c y) : x = y := by
  have h2 := it_inj (xor_lt32 hc (u8_lt32 x)) (xor_lt32 hc (u8_lt32 y)) 8 h
  have := congrArg (c ^^^ ·) h2
  simp only [← Nat.xor_assoc, Nat.xor_self, Nat.zero_xor] at this
  exact UInt8.toNat_inj.1 this
/-- one byte turned: the CRC tells -/
theorem crc_one (P Q : List UInt8) (x y : UInt8) : crcN (P ++ x :: Q) = crcN (P ++ y :: Q) ↔ x = y := by
  constructor
  · intro h
    unfold crcN at h
    have h1 : regN 4294967295 (P ++ x :: Q) = regN 4294967295 (P ++ y :: Q) := by
      have := congrArg (4294967295 ^^^ ·) h
      simpa [← Nat.xor_assoc] using this
    have e : ∀ z, regN 4294967295 (P ++ z :: Q) = regN (byteN (regN 4294967295 P) z) Q := fun z => by
      unfold regN; rw [List.foldl_append, List.foldl_cons]
    rw [e, e] at h1
    have hp := regN_lt P (c := 4294967295) (by decide)
    exact byteN_inj hp (regN_inj Q _ _ (byteN_lt hp x) (byteN_lt hp y) h1)
  · rintro rfl; rfl
theorem u8_xor3 (a b c : UInt8) : bits .xor .u8 (bits .xor .u8 (a.toNat : Int) (b.toNat : Int)) (c.toNat : Int) = (((a ^^^ b ^^^ c).toNat : Nat) : Int) := by
  have ha := a.toNat_lt
  have hb := b.toNat_lt
  have hc := c.toNat_lt
  rw [u8_xor_nat _ _ (by omega) (by omega), u8_xor_nat _ _ (Nat.xor_lt_two_pow (n := 8) (by omega) (by omega)) (by omega), UInt8.toNat_xor, UInt8.toNat_xor]
end Go.Proofs.Ytolohjinjpegmaa
