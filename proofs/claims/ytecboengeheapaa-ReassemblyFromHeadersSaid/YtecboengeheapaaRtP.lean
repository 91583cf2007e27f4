/- What Put makes of an incomplete datagram, as plain values. -/
import Derived.Test.YtecboengeheapaaRtA
namespace Go.Proofs.Ytecboengeheapaa
open Go.RowKit
set_option linter.unusedVariables false

def endN (p : Pk) : Nat := p.off.toNat + p.s.size
def differ (x : Dg) (p : Pk) (i : Nat) : Bool := x.rcv.getD i false && (x.txt.getD i 0 != p.s.data.toList.getD (i - p.off.toNat) 0)
def clash (x : Dg) (p : Pk) : Bool := (x.fin && decide (x.txt.length < endN p)) || (!p.mf && decide (endN p < x.txt.length)) || (List.range (min (endN p) x.txt.length - p.off.toNat)).any fun i => differ x p (p.off.toNat + i)
def putT (t : List UInt8) (o : Nat) (s : List UInt8) : List UInt8 := (List.range (max t.length (o + s.length))).map fun i => if o ≤ i ∧ i < o + s.length then s.getD (i - o) 0 else t.getD i 0
def putR (r : List Bool) (o n : Nat) : List Bool := (List.range (max r.length (o + n))).map fun i => if o ≤ i ∧ i < o + n then true else r.getD i false
def storeD (x : Dg) (p : Pk) : Dg := { x with fst := if p.off = 0 ∧ begun x = false then p else x.fst, fin := x.fin || !p.mf, txt := putT x.txt p.off.toNat p.s.data.toList, rcv := putR x.rcv p.off.toNat p.s.size }
def compD (x : Dg) : Bool := x.fin && !(x.rcv.contains false)
def wholeD (x : Dg) : Pk := { x.fst with mf := false, s := ⟨x.txt.toArray⟩ }
def cnt : List Bool → Nat
  | [] => 0
  | b :: r => (if b then 1 else 0) + cnt r
theorem cnt_le (r : List Bool) : cnt r ≤ r.length := by
  induction r with
  | nil => simp [cnt]
  | cons b r ih => simp only [cnt, List.length_cons]; split <;> omega
theorem cnt_take (r : List Bool) (k : Nat) (h : k < r.length) : cnt (r.take (k + 1)) = cnt (r.take k) + (if r[k] then 1 else 0) := by
  induction r generalizing k with
  | nil => simp at h
  | cons b r ih =>
    cases k with
    | zero => simp [cnt]
    | succ k =>
      simp only [List.take_succ_cons, cnt, List.getElem_cons_succ]
      rw [ih k (by simpa using h)]
      omega
end Go.Proofs.Ytecboengeheapaa
