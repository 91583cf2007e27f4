/- The walk of ICMPPathMTUExpires. -/
import Derived.Test.YtidjbpglpobigaaDoorImPk
namespace Go.Proofs.YtidjbpglpobigaaDoor
open Go.RowKit
set_option linter.unusedVariables false
attribute [local go_sem] Oper.semAt_some

set_option maxRecDepth 100000 in
set_option maxHeartbeats 3200000 in
theorem exp_go (now a b n m later : Int) (w : World) (hnow : -9223372036854775808 ≤ now ∧ now ≤ 9223372036854775807) (ha : -9223372036854775808 ≤ a ∧ a ≤ 9223372036854775807) (hb : -9223372036854775808 ≤ b ∧ b ≤ 9223372036854775807) (hn : -9223372036854775808 ≤ n ∧ n ≤ 9223372036854775807) (hm : -9223372036854775808 ≤ m ∧ m ≤ 9223372036854775807) (hl : -9223372036854775808 ≤ later ∧ later ≤ 9223372036854775807) (ea : Addr) (E : Env w ea) (ne lo : Bool)
    (hne : (1 + pickZ a 1000 != 1 + pickZ b 1000) = ne) (hlo : decide (600 ≤ pickZ later 701) = lo) :
    Calls Tryd.prog 11 #[.int .i64 now, .int .i64 a, .int .i64 b, .int .i64 n, .int .i64 m, .int .i64 later] w fun e w' => e = .returned (.bool true) ∧ Below w.heap.size w w' := by
  have z0 := pickZ_bd now 1000000000 (by omega)
  have z1 := pickZ_bd a 1000 (by omega)
  have z2 := pickZ_bd b 1000 (by omega)
  have z3 := pickZ_bd n 957 (by omega)
  have z4 := pickZ_bd m 957 (by omega)
  have z5 := pickZ_bd later 701 (by omega)
  have HP0 := Lib.hid (fun w => pick8_any now 1000000000 w hnow.1 hnow.2 (by omega) (by omega))
  have HP1 := Lib.hid (fun w => pick8_any a 1000 w ha.1 ha.2 (by omega) (by omega))
  have HP2 := Lib.hid (fun w => pick8_any b 1000 w hb.1 hb.2 (by omega) (by omega))
  have HP3 := Lib.hid (fun w => pick8_any n 957 w hn.1 hn.2 (by omega) (by omega))
  have HP4 := Lib.hid (fun w => pick8_any m 957 w hm.1 hm.2 (by omega) (by omega))
  have HP5 := Lib.hid (fun w => pick8_any later 701 w hl.1 hl.2 (by omega) (by omega))
  clear hnow ha hb hn hm hl
  generalize pickZ now 1000000000 = T at *
  generalize pickZ a 1000 = A at *
  generalize pickZ b 1000 = B at *
  generalize pickZ n 957 = N at *
  generalize pickZ m 957 = M at *
  generalize pickZ later 701 = L at *
  go_enter Tryd.func11, Tryd.ntmps11
  go_wp2_with fail
  refine (msane_any _ ea E).mono ?_
  rintro e w1 ⟨rfl, hB⟩
  go_wp2_with fail
  refine (HP0.out _).mono ?_
  rintro e w2 ⟨rfl, rfl⟩
  go_wp2_with fail
  refine (HP1.out _).mono ?_
  rintro e w2 ⟨rfl, rfl⟩
  go_wp2_with fail
  refine (HP2.out _).mono ?_
  rintro e w2 ⟨rfl, rfl⟩
  go_wp2_with fail
  refine (HP3.out _).mono ?_
  rintro e w2 ⟨rfl, rfl⟩
  go_wp2_with fail
  refine (HP4.out _).mono ?_
  rintro e w2 ⟨rfl, rfl⟩
  go_wp2_with fail
  refine (HP5.out _).mono ?_
  rintro e w2 ⟨rfl, rfl⟩
  clear HP0 HP1 HP2 HP3 HP4 HP5
  go_wp2_with fail
  refine (pnew_any _).mono ?_
  rintro e w3 ⟨P, rfl, hPl, hT, hb3⟩
  have hwz := hB.size
  have hb8 := hb3.size
  replace hB := hB.trans (hb3.mono hB.size)
  clear hb3
  generalize w1.heap.size = b8 at *
  go_wp2_with fail
  refine (lower_add b8 P (.slice none 0 0) [] T (1 + A) (68 + N) _ hT hb8 (by decide) (fun x hx => by cases hx) rfl (by omega) (by omega) (by omega) (by omega) (by omega) (by omega)).mono ?_
  rintro e w4 ⟨rfl, ⟨v1, hT4⟩, ht4⟩
  replace hB := hB.trans (ht4.below (Nat.le_trans hwz hb8) (fun k h => by rcases h with h | h; omega; cases h))
  have hb4 := Nat.le_trans hb8 ht4.size
  clear hT ht4
  have hz : ∀ (LL : List Pe) (W : World) (v : Value), TabM b8 W P v LL → LL.length ≤ 100 → lookT LL (1 + A) = ⟨1 + A, 68 + N, T⟩ → Calls Tryd.prog 33 #[.pointer (some ⟨P, 0, none⟩), .int .i64 (T + L), .int .i64 (1 + A), .int .i64 1024] W fun e w' => e = .returned (.int .i64 (if L < 600 then 68 + N else 1024)) ∧ Below W.heap.size W w' := fun LL W v h1 h2 h3 => by
    have := psize_go b8 P v LL (T + L) (1 + A) 1024 W h1 h2 (1 + A) (68 + N) T h3 (.inr (by omega)) (by omega) (by omega)
    rw [show (if 68 + N ≠ 0 ∧ T + L < T + 600 then min 1024 (68 + N) else 1024) = (if L < 600 then 68 + N else 1024) from by
      by_cases h : L < 600
      · rw [if_pos ⟨by omega, by omega⟩, if_pos h]; omega
      · rw [if_neg (fun h2 => h (by omega)), if_neg h]] at this
    exact this
  have HZ := Lib.hid hz
  clear hz
  have hw1 : wrap64 (T + L) = T + L := IntWalk.wrap64_in _ ⟨by omega, by omega⟩
  cases ne
  · obtain rfl : A = B := by simpa using hne
    clear hne
    cases lo
    all_goals (
      have hlo2 := hlo
      simp only [decide_eq_true_eq, decide_eq_false_iff_not] at hlo2
      go_wp2_with fail
      refine (HZ.out _ _ v1 hT4 (Nat.le_of_ble_eq_true rfl) (if_pos rfl)).mono ?_
      rintro e w6 ⟨rfl, hb6⟩
      first | rw [if_pos (show L < 600 by omega)] | rw [if_neg (show ¬ L < 600 by omega)]
      go_wp2
      go_ret
      exact ⟨rfl, hB.trans (hb6.mono hB.size)⟩)
  · have hab : ¬ B = A := fun e => by subst e; simp at hne
    go_wp2_with fail
    have hk1 : lookT [⟨1 + A, 68 + N, T⟩] (1 + B) = ⟨0, 0, 0⟩ := by
      rw [lookT, if_neg (show ¬ (1 + A = 1 + B) by omega)]; rfl
    have hO1 : OkT [⟨1 + A, 68 + N, T⟩] T := fun x hx => by rw [List.mem_singleton] at hx; subst hx; simp only; omega
    rw [List.nil_append] at hT4
    refine (lower_add b8 P v1 [⟨1 + A, 68 + N, T⟩] T (1 + B) (68 + M) _ hT4 hb4 (Nat.le_of_ble_eq_true rfl) hO1 hk1 (by omega) (by omega) (by omega) (by omega) (by omega) (by omega)).mono ?_
    rintro e w5 ⟨rfl, ⟨v2, hT5⟩, ht5⟩
    replace hB := hB.trans (ht5.below (Nat.le_trans hwz hb4) (fun k h => by rcases h with h | h; omega; exact Nat.le_trans hwz (row_cells hT4.2 h).1))
    clear hT4 ht5
    cases lo
    all_goals (
      have hlo2 := hlo
      simp only [decide_eq_true_eq, decide_eq_false_iff_not] at hlo2
      go_wp2_with fail
      refine (HZ.out _ _ v2 hT5 (Nat.le_of_ble_eq_true rfl) (if_pos rfl)).mono ?_
      rintro e w6 ⟨rfl, hb6⟩
      first | rw [if_pos (show L < 600 by omega)] | rw [if_neg (show ¬ L < 600 by omega)]
      go_wp2
      go_ret
      exact ⟨rfl, hB.trans (hb6.mono hB.size)⟩)

theorem walk_ICMPPathMTUExpires (a0 a1 a2 a3 a4 a5 : Int) (w : World) (l0 : -9223372036854775808 ≤ a0) (u0 : a0 ≤ 9223372036854775807) (l1 : -9223372036854775808 ≤ a1) (u1 : a1 ≤ 9223372036854775807) (l2 : -9223372036854775808 ≤ a2) (u2 : a2 ≤ 9223372036854775807) (l3 : -9223372036854775808 ≤ a3) (u3 : a3 ≤ 9223372036854775807) (l4 : -9223372036854775808 ≤ a4) (u4 : a4 ≤ 9223372036854775807) (l5 : -9223372036854775808 ≤ a5) (u5 : a5 ≤ 9223372036854775807) (E : ∃ ea, Env w ea) :
    Calls Tryd.prog 11 #[.int .i64 a0, .int .i64 a1, .int .i64 a2, .int .i64 a3, .int .i64 a4, .int .i64 a5] w fun e w' => e = .returned (.bool true) ∧ Below w.heap.size w w' := by
  obtain ⟨ea, E⟩ := E
  exact exp_go a0 a1 a2 a3 a4 a5 w ⟨l0, u0⟩ ⟨l1, u1⟩ ⟨l2, u2⟩ ⟨l3, u3⟩ ⟨l4, u4⟩ ⟨l5, u5⟩ ea E _ _ rfl rfl
end Go.Proofs.YtidjbpglpobigaaDoor
