/- The contract of the reference's Number. -/
import Derived.Test.YtobcecnmeepjpaaDoorRnum
namespace Go.Proofs.YtobcecnmeepjpaaDoor
open Go.RowKit
set_option linter.unusedVariables false

set_option maxRecDepth 20000 in
set_option maxHeartbeats 4000000 in
theorem rnum_any (s : ByteArray) (m : Int) (w : World) (hs : s.size ≤ 4294967280) (hm : m = 255 ∨ m = 32) :
    Calls Tryd.prog 35 #[.string s, .int .i64 m] w fun e w' => e = .returned (.int .i64 ((numZ s.data.toList m).getD (-1))) ∧ Below w.heap.size w w' := by
  have D := fun n w h h2 => Lib.hid (dig_any n w h h2)
  have HN := Lib.hid (numZ_ref m hm s.data.toList)
  have m0 : 0 ≤ m := by omega
  have m1 : m ≤ 255 := by omega
  clear hm
  go_enter Tryd.func35, Tryd.ntmps35
  go_wp2_with fail
  go_loop [5, 6] (fun nv i => ∃ (k : Nat) (n : Int), k ≤ s.size ∧ Hid (refN m (s.data.toList.take k) 0 = some n) ∧ 0 ≤ n ∧ n ≤ 2559 ∧ nv = .int .i64 n ∧ i = .int .i64 k) (fun _ i => s.size - (intOf i).toNat)
  case atStart => exact ⟨0, 0, by omega, Lib.hid rfl, by omega, by omega, rfl, rfl⟩
  case round =>
    obtain ⟨k, n, hk, hr, hn0, hn1, rfl, rfl⟩ := hrel
    by_cases h : k < s.size
    · have hy := s[k].toNat_lt
      have hT := refN_take m s k h n hr.out
      have hst := fun h => refN_stop m s (k + 1) h
      simp only [refN] at hT
      by_cases c1 : s[k].toNat < 48
      · rw [if_pos (.inl c1)] at hT
        have HZ : Hid (numZ s.data.toList m = none) := Lib.hid (by rw [HN.out, hst hT])
        clear hT hst HN hr D
        go_wp2_with fail
        go_ret
        exact ⟨by rw [HZ.out]; rfl, Below.refl _ _⟩
      · by_cases c2 : 57 < s[k].toNat
        · rw [if_pos (.inr (.inl c2))] at hT
          have HZ : Hid (numZ s.data.toList m = none) := Lib.hid (by rw [HN.out, hst hT])
          clear hT hst HN hr D
          go_wp2_with fail
          go_ret
          exact ⟨by rw [HZ.out]; rfl, Below.refl _ _⟩
        · by_cases c3 : m < n
          · rw [if_pos (.inr (.inr c3))] at hT
            have HZ : Hid (numZ s.data.toList m = none) := Lib.hid (by rw [HN.out, hst hT])
            clear hT hst HN hr D
            go_wp2_with fail
            go_ret
            exact ⟨by rw [HZ.out]; rfl, Below.refl _ _⟩
          · rw [if_neg (by omega)] at hT
            have HT := Lib.hid hT
            clear hT hst hr D
            go_wp2_with fail
            go_round
            case rel => exact ⟨k + 1, 10 * n + ((s[k].toNat : Int) - 48), by omega, HT, by omega, by omega, by go_num, by go_num⟩
            case measure => simp [intOf]; omega
    · obtain rfl : k = s.size := by omega
      have hr2 := hr.out
      rw [List.take_of_length_le (by rw [Array.length_toList]; exact Nat.le_refl _)] at hr2
      have hN := HN.out
      rw [hr2] at hN
      simp only at hN
      clear hr hr2 HN hk h
      by_cases c1 : s = ⟨#[]⟩
      · rw [if_neg (by rintro ⟨h, -⟩; exact h (by rw [c1]))] at hN
        have HZ := Lib.hid hN
        clear hN D
        subst c1
        go_wp2_with fail
        go_ret
        exact ⟨by rw [HZ.out]; rfl, Below.refl _ _⟩
      · have hne1 : ¬ s.toList = [] := fun h => c1 (str_inj (by rw [← Lib.toList_data, h]))
        have hne : s.toList.isEmpty = false := by rw [List.isEmpty_eq_false_iff]; exact hne1
        by_cases c2 : m < n
        · rw [if_neg (by rintro ⟨-, -, h, -⟩; omega)] at hN
          have HZ := Lib.hid hN
          clear hN D
          go_wp2_with fail
          go_ret
          exact ⟨by rw [HZ.out]; rfl, Below.refl _ _⟩
        · have J := D n w hn0 (by omega)
          clear D
          obtain ⟨z, hz⟩ : ∃ z : ByteArray, ⟨(Lib.itoa n).toArray⟩ = z := ⟨_, rfl⟩
          rw [hz] at J
          by_cases c3 : z = s
          · rw [if_pos ⟨fun h => c1 (str_inj h), hn0, by omega, by rw [← c3, ← hz]⟩] at hN
            have HZ := Lib.hid hN
            subst c3
            clear hN c1 hz
            go_wp2_with fail
            refine J.out.mono ?_
            rintro e w2 ⟨rfl, hb2⟩
            go_wp2_with fail
            go_ret
            exact ⟨by rw [HZ.out]; rfl, hb2⟩
          · rw [if_neg (by rintro ⟨_, _, _, h4⟩; exact c3 (by rw [← hz, h4]))] at hN
            have HZ := Lib.hid hN
            have hne2 := str_ne c3
            clear hN c1 c3 hz
            go_wp2_with fail
            refine J.out.mono ?_
            rintro e w2 ⟨rfl, hb2⟩
            go_wp2_with fail
            go_ret
            exact ⟨by rw [HZ.out]; rfl, hb2⟩
end Go.Proofs.YtobcecnmeepjpaaDoor
