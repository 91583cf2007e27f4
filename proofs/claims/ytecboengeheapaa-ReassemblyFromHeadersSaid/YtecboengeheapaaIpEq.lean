/- Two datagrams compared. -/
import Derived.Test.YtecboengeheapaaIpM
import Derived.Test.YtecboengeheapaaPick
import Derived.Test.YtecboengeheapaaIpPay
namespace Go.Proofs.Ytecboengeheapaa
open Go.RowKit
set_option linter.unusedVariables false
attribute [local go_sem] Oper.semAt_some

def pkEq (p q : Pk) : Bool := p.fr == q.fr && p.to == q.to && p.pr == q.pr && p.tt == q.tt && p.id == q.id && p.df == q.df && p.mf == q.mf && p.off == q.off && p.s.toList == q.s.toList
theorem run_pkEq (p q : Pk) (w : World) : (Op.equalIn 10000 26 (pv p) (pv q)).run Try.prog w = .ok (pkEq p q) w := by
  rw [run_equalIn_struct w 9999 _ _ _ (by kernel_rfl) (by kernel_rfl)]
  simp [go_sem]
  unfold pkEq
  repeat' split
  all_goals simp [*]
theorem pkEq_iff (p q : Pk) : pkEq p q = true ↔ p = q := by
  obtain ⟨a0, a1, a2, a3, a4, a5, a6, a7, a8⟩ := p
  obtain ⟨b0, b1, b2, b3, b4, b5, b6, b7, b8⟩ := q
  have h : a8.toList = b8.toList ↔ a8 = b8 := ⟨fun e => ba_ext (by rw [← Lib.toList_data, ← Lib.toList_data, e]), fun e => by rw [e]⟩
  simp [pkEq, h, and_assoc]
theorem run_ne {p q : Pk} (h : p ≠ q) (w : World) : (Op.equalIn 10000 26 (pv p) (pv q)).run Try.prog w = .ok false w := by
  rw [run_pkEq, show pkEq p q = false from by
    cases hb : pkEq p q
    · rfl
    · exact absurd ((pkEq_iff p q).1 hb) h]
theorem run_eq (p : Pk) (w : World) : (Op.equalIn 10000 26 (pv p) (pv p)).run Try.prog w = .ok true w := by
  rw [run_pkEq, (pkEq_iff p p).2 rfl]
theorem xor_u8 (a : UInt8) (d : Nat) (h1 : 1 ≤ d) (h2 : d ≤ 255) : ∃ z : UInt8, bits .xor .u8 (a.toNat : Int) (d : Int) = (z.toNat : Int) ∧ z ≠ a := by
  have ha := a.toNat_lt
  have hx : a.toNat ^^^ d < 256 := Nat.xor_lt_two_pow (n := 8) ha (by omega)
  refine ⟨UInt8.ofNat (a.toNat ^^^ d), ?_, ?_⟩
  · have h : bits .xor .u8 (a.toNat : Int) (d : Int) = ((a.toNat ^^^ d : Nat) : Int) := by
      have e : ∀ c : Nat, c < 256 → (BitVec.ofInt 8 (c : Int)).toNat = c := fun c hc => by
        rw [BitVec.ofInt_natCast, BitVec.toNat_ofNat]; exact Nat.mod_eq_of_lt (by omega)
      show IntKind.u8.wrap ((BitVec.ofInt 8 (a.toNat : Int) ^^^ BitVec.ofInt 8 (d : Int)).toNat : Int) = _
      rw [BitVec.toNat_xor, e _ (by omega), e d (by omega), IntKind.wrap_u8]
      omega
    rw [h, UInt8.toNat_ofNat', Nat.mod_eq_of_lt hx]
  · intro e
    have e2 : a.toNat ^^^ d = a.toNat := by
      have := congrArg UInt8.toNat e
      rwa [UInt8.toNat_ofNat', Nat.mod_eq_of_lt hx] at this
    have e3 : a.toNat ^^^ (a.toNat ^^^ d) = a.toNat ^^^ a.toNat := by rw [e2]
    rw [← Nat.xor_assoc, Nat.xor_self, Nat.zero_xor] at e3
    omega
end Go.Proofs.Ytecboengeheapaa
