/- Contracts of addr.Valid, ip.unicast, ip.validWith, ip.Valid, ip.headerOf. -/
import Derived.Test.YtidjbpglpobigaaDoorIpM
import Derived.Deep.DeepCutAuto
import Derived.BigRegion
namespace Go.Proofs.YtidjbpglpobigaaDoor
open Go.RowKit
set_option linter.unusedVariables false
attribute [local go_sem] Oper.semAt_some

theorem uni_any (a : Int) (w : World) :
    Calls Tryd.prog 96 #[.int .i64 a] w fun e w' => e = .returned (.bool (decide (okU a))) ∧ w = w' := by
  go_enter Tryd.func96, Tryd.ntmps96
  go_wp2
  all_goals go_ret
  all_goals refine ⟨ret_bool ?_, rfl⟩
  all_goals (try (exact (decide_eq_false (by unfold okU; omega)).symm))
  all_goals (rw [Bool.eq_iff_iff, decide_eq_true_iff]; simp [okU]; omega)

theorem okW_bool (p : Pk) (n : Int) : ((decide (okU p.fr ∧ (okU p.to ∨ p.to = 4294967295)) && decide (okN p) && decide (okP p n)) && (decide (p.mf = false ∧ p.off = 0) || decide (p.df = false ∧ 0 < n ∧ (n % 8 = 0 ∨ p.mf = false)))) = decide (okW p n) := by
  rw [Bool.eq_iff_iff, decide_eq_true_iff (p := okW p n)]
  unfold okW
  simp only [Bool.and_eq_true, Bool.or_eq_true, decide_eq_true_eq, okD, and_assoc]

theorem tmod8 (x : Int) (h : 0 ≤ x) : x.tmod 8 = x % 8 := Int.tmod_eq_emod_of_nonneg h

set_option maxRecDepth 20000 in
set_option maxHeartbeats 3200000 in
theorem validW_any (p : Pk) (n : Int) (hn : -4611686018427387904 ≤ n) (hn2 : n ≤ 9223372036854775807) (w : World) :
    Calls Tryd.prog 81 #[pv p, .int .i64 n] w fun e w' => e = .returned (.bool (decide (okW p n))) ∧ w' = w.alloc (po p) := by
  obtain ⟨fr, dst, pr, tt, id, df, mf, off, s⟩ := p
  go_enter Tryd.func81, Tryd.ntmps81
  go_upto_region 1 with fail
  go_cut [5] (fun v wx => ∃ b : Bool, v = .bool b ∧ Hid (b = decide (okU fr ∧ (okU dst ∨ dst = 4294967295))) ∧ wx = w.alloc (po ⟨fr, dst, pr, tt, id, df, mf, off, s⟩))
  case first =>
    go_wp2_with (first | (go_at_call 96; refine (uni_any _ _).mono ?_; rintro e w2 ⟨rfl, rfl⟩))
    all_goals go_meet
    all_goals refine ⟨_, rfl, Lib.hid ?_, rfl⟩
    all_goals (rw [Bool.eq_iff_iff, decide_eq_true_iff]; simp [*])
  case rest =>
    obtain ⟨b1, rfl, hb1, rfl⟩ := hcut
    go_upto_region 2 with fail
    go_cut [6] (fun v wx => ∃ b : Bool, v = .bool b ∧ Hid (b = decide (okN ⟨fr, dst, pr, tt, id, df, mf, off, s⟩)) ∧ wx = w.alloc (po ⟨fr, dst, pr, tt, id, df, mf, off, s⟩))
    case first =>
      go_wp2
      all_goals go_meet
      all_goals refine ⟨_, rfl, Lib.hid ?_, rfl⟩
      all_goals first
        | exact (decide_eq_false (by unfold okN; simp only; omega)).symm
        | exact decide_eq_decide.2 (by unfold okN; simp only; omega)
    case rest =>
      obtain ⟨b2, rfl, hb2, rfl⟩ := hcut
      go_upto_region 3 with fail
      have wr : wrap64 (4000 - n) = 4000 - n := IntWalk.wrap64_in _ ⟨by omega, by omega⟩
      go_cut [7] (fun v wx => ∃ b : Bool, v = .bool b ∧ Hid (b = decide (okP ⟨fr, dst, pr, tt, id, df, mf, off, s⟩ n)) ∧ wx = w.alloc (po ⟨fr, dst, pr, tt, id, df, mf, off, s⟩))
      case first =>
        go_wp2
        all_goals go_meet
        all_goals refine ⟨_, rfl, Lib.hid ?_, rfl⟩
        all_goals first
          | exact (decide_eq_false (by unfold okP; simp only; omega)).symm
          | (rw [Bool.eq_iff_iff, decide_eq_true_iff, beq_iff_eq]; unfold okP; simp only; omega)
      case rest =>
        obtain ⟨b3, rfl, hb3, rfl⟩ := hcut
        go_upto_region 4 with fail
        go_cut [8] (fun v wx => ∃ b : Bool, v = .bool b ∧ Hid (b = decide (mf = false ∧ off = 0)) ∧ wx = w.alloc (po ⟨fr, dst, pr, tt, id, df, mf, off, s⟩))
        case first =>
          cases mf
          all_goals go_wp2
          all_goals go_meet
          all_goals refine ⟨_, rfl, Lib.hid ?_, rfl⟩
          all_goals (rw [Bool.eq_iff_iff, decide_eq_true_iff]; simp)
        case rest =>
          obtain ⟨b4, rfl, hb4, rfl⟩ := hcut
          go_upto_region 5 with fail
          go_cut [9] (fun v wx => ∃ b : Bool, v = .bool b ∧ Hid (b = decide (df = false ∧ 0 < n ∧ (n % 8 = 0 ∨ mf = false))) ∧ wx = w.alloc (po ⟨fr, dst, pr, tt, id, df, mf, off, s⟩))
          case first =>
            cases mf <;> cases df
            all_goals go_wp2
            all_goals go_meet
            all_goals refine ⟨_, rfl, Lib.hid ?_, rfl⟩
            all_goals (rw [Bool.eq_iff_iff, decide_eq_true_iff]; simp <;> omega)
          case rest =>
            obtain ⟨b5, rfl, hb5, rfl⟩ := hcut
            have HB := okW_bool ⟨fr, dst, pr, tt, id, df, mf, off, s⟩ n
            simp only at HB
            rw [← hb1.out, ← hb2.out, ← hb3.out, ← hb4.out, ← hb5.out] at HB
            clear hb1 hb2 hb3 hb4 hb5
            have HC := Lib.hid HB
            clear HB
            cases b1 <;> cases b2 <;> cases b3 <;> cases b4
            all_goals go_wp2
            all_goals go_ret
            all_goals exact ⟨ret_bool HC.out, rfl⟩
end Go.Proofs.YtidjbpglpobigaaDoor
