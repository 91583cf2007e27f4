/- Contracts of ip.Valid, ip.headerOf. -/
import Derived.Test.YtidjbpglpobigaaDoorIpV
namespace Go.Proofs.YtidjbpglpobigaaDoor
open Go.RowKit
set_option linter.unusedVariables false
attribute [local go_sem] Oper.semAt_some

theorem valid_any (p : Pk) (hs : p.s.size ≤ maxLen) (w : World) :
    Calls Tryd.prog 53 #[pv p] w fun e w' => e = .returned (.bool (decide (okW p p.s.size))) ∧ Below w.heap.size w w' := by
  unfold maxLen at hs
  go_enter Tryd.func53, Tryd.ntmps53
  go_wp2_with fail
  refine (validW_any p (p.s.size : Int) (by omega) (by omega) _).mono ?_
  rintro e w2 ⟨rfl, rfl⟩
  go_wp2
  go_ret
  exact ⟨rfl, ((Below.refl _ w).alloc (Nat.le_refl _) _).alloc (by simp) _⟩

def flg (p : Pk) : Int := (if p.df then 1 else 0) + (if p.mf then 2 else 0)
set_option maxRecDepth 20000 in
set_option maxHeartbeats 1600000 in
theorem headerOf_any (p : Pk) (hs : p.s.size ≤ maxLen) (ho : 0 ≤ p.off) (ho2 : p.off ≤ 4000) (w : World) :
    Calls Tryd.prog 54 #[pv p] w fun e w' => e = .returned (hv p 4 (flg p) (p.off / 8) p.s.size 0) ∧ Below w.heap.size w w' := by
  unfold maxLen at hs
  obtain ⟨fr, dst, pr, tt, id, df, mf, off, s⟩ := p
  simp only at hs ho ho2
  have htd : wrap64 (off.tdiv 8) = off / 8 := by
    rw [Int.tdiv_eq_ediv_of_nonneg ho]; exact IntWalk.wrap64_in _ ⟨by omega, by omega⟩
  go_enter Tryd.func54, Tryd.ntmps54
  cases df <;> cases mf
  all_goals go_wp2
  all_goals go_returns
  all_goals refine ⟨rfl, ?_⟩
  all_goals go_grown
end Go.Proofs.YtidjbpglpobigaaDoor
