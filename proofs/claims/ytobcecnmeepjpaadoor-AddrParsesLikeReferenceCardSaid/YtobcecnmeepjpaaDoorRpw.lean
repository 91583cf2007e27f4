/- The contract of the reference's Parse. -/
import Derived.Test.YtobcecnmeepjpaaDoorRnw
import Derived.Test.YtobcecnmeepjpaaDoorRscan
namespace Go.Proofs.YtobcecnmeepjpaaDoor
open Go.RowKit
set_option linter.unusedVariables false

theorem u8_46 (x : UInt8) (h : x.toNat = 46) : x = 46 := by
  apply UInt8.toNat_inj.1; rw [h]; rfl
theorem step_bd (a v : Int) (mn : Nat) (h0 : 0 ≤ a) (h1 : a < 256 ^ mn) (v0 : 0 ≤ v) (v1 : v ≤ 255) : 0 ≤ 256 * a + v ∧ 256 * a + v < 256 ^ (mn + 1) := by
  have e : (256 : Int) ^ (mn + 1) = 256 ^ mn * 256 := Int.pow_succ _ _
  omega
theorem small_bd (a : Int) (mn : Nat) (h : mn ≤ 3) (h1 : a < 256 ^ mn) : a < 16777216 := by
  have hp : (256 : Int) ^ mn ≤ 16777216 := by
    have hj4 : mn = 0 ∨ mn = 1 ∨ mn = 2 ∨ mn = 3 := by omega
    rcases hj4 with e | e | e | e <;> rw [e] <;> decide
  omega
theorem four_bd (a : Int) (mn : Nat) (h : mn ≤ 4) (h1 : a < 256 ^ mn) : a < 4294967296 := by
  have hp : (256 : Int) ^ mn ≤ 4294967296 := by
    have hj4 : mn = 0 ∨ mn = 1 ∨ mn = 2 ∨ mn = 3 ∨ mn = 4 := by omega
    rcases hj4 with e | e | e | e | e <;> rw [e] <;> decide
  omega

set_option maxRecDepth 20000 in
set_option maxHeartbeats 8000000 in
theorem rparse_go (s : ByteArray) (w : World) (R : Option Int) (hs : s.size ≤ 4294967280) (hR : parseL s = R) :
    Calls Tryd.prog 17 #[.string s] w fun e w' => e = .returned (.tuple #[.int .i64 (R.getD 0), .int .i64 (if R.isSome then 0 else 30)]) ∧ Below w.heap.size w w' := by
  have NUM := fun (z : ByteArray) w h => Lib.hid (rnum_any z 255 w h (.inl rfl))
  have HA := Lib.hid (at_start s)
  rw [hR] at HA
  clear hR
  go_enter Tryd.func17, Tryd.ntmps17
  go_wp2_with fail
  go_loopw [4, 5, 6, 7] (fun av mv fv iv wr => ∃ (k f mn : Nat) (a : Int), k ≤ s.size + 1 ∧ f ≤ k ∧ mn ≤ 4 ∧ 0 ≤ a ∧ Hid (a < 256 ^ mn) ∧ av = .int .i64 a ∧ mv = .int .i64 mn ∧ fv = .int .i64 f ∧ iv = .int .i64 k ∧ Hid (At s k f mn a R) ∧ Below w.heap.size w wr) (fun _ _ _ i _ => s.size + 1 - (intOf i).toNat)
  case atStart => exact ⟨0, 0, 0, 0, by omega, by omega, by omega, by omega, Lib.hid (by decide), rfl, rfl, rfl, rfl, HA, Below.refl _ _⟩
  case round =>
    obtain ⟨k, f, mn, a, hk, hf, hmn, ha, hab, rfl, rfl, rfl, rfl, hAt, hB⟩ := hrel
    clear HA
    by_cases h : k < s.size
    · have hy := s[k].toNat_lt
      by_cases c : s[k].toNat = 46
      · have hc : ∀ hk : k < s.size, s[k]'hk = 46 := fun _ => u8_46 _ c
        have hz : (s.extract f k).size ≤ 4294967280 := by rw [ByteArray.size_extract]; omega
        have J := fun w => NUM (s.extract f k) w hz
        obtain ⟨q, hq⟩ : ∃ q, s.extract f k = q := ⟨_, rfl⟩
        cases hn : numZ (s.extract f k).data.toList 255 with
        | none =>
          have hE := at_none hAt.out (by omega) hc hn
          rw [hn] at J
          rw [hq] at J
          clear hAt NUM hn hc hab hz
          subst hE
          go_wp2_with fail
          refine (J _).out.mono ?_
          rintro e w2 ⟨rfl, hb2⟩
          go_wp2_with fail
          go_ret2
          exact ⟨rfl, hB.trans (hb2.mono hB.size)⟩
        | some v =>
          obtain ⟨v0, v1, -⟩ := numZ_bd hn
          rw [hn] at J
          rw [hq] at J
          by_cases c4 : mn = 4
          · subst c4
            have hE := at_four hAt.out (by omega) hc hn
            clear hAt NUM hn hc hab hz
            subst hE
            go_wp2_with fail
            refine (J _).out.mono ?_
            rintro e w2 ⟨rfl, hb2⟩
            go_wp2_with fail
            go_ret2
            exact ⟨rfl, hB.trans (hb2.mono hB.size)⟩
          · have hNext := Lib.hid (at_field hAt.out (by omega) c4 hc hn)
            have hm4 : ((mn : Int) == 4) = false := by rw [beq_eq_false_iff_ne]; omega
            have hm5 : ¬ (mn : Int) = 4 := by omega
            have hsb := step_bd a v mn ha hab.out v0 v1
            have hab2 := Lib.hid hsb.2
            have ha2 := hsb.1
            have ha3 := small_bd a mn (by omega) hab.out
            clear hAt NUM hn hc hab hz hsb
            go_wp2_with fail
            refine (J _).out.mono ?_
            rintro e w2 ⟨rfl, hb2⟩
            go_wp2_with fail
            go_round
            case rel => exact ⟨k + 1, k + 1, mn + 1, 256 * a + v, by omega, by omega, by omega, ha2, hab2, rfl, by go_num, by go_num, by go_num, hNext, hB.trans (hb2.mono hB.size)⟩
            case measure => simp [intOf]; omega
      · have hNext := Lib.hid (at_byte hAt.out h hf (fun e => c (by rw [e]; rfl)))
        clear hAt NUM
        go_wp2_with fail
        go_round
        case rel => exact ⟨k + 1, f, mn, a, by omega, by omega, hmn, ha, hab, rfl, rfl, rfl, by go_num, hNext, hB⟩
        case measure => simp [intOf]; omega
    · by_cases h2 : k = s.size
      · subst h2
        have hc : ∀ hk : s.size < s.size, s[s.size]'hk = 46 := fun hk => absurd hk (by omega)
        have hz : (s.extract f s.size).size ≤ 4294967280 := by rw [ByteArray.size_extract]; omega
        have J := fun w => NUM (s.extract f s.size) w hz
        obtain ⟨q, hq⟩ : ∃ q, s.extract f s.size = q := ⟨_, rfl⟩
        cases hn : numZ (s.extract f s.size).data.toList 255 with
        | none =>
          have hE := at_none hAt.out (by omega) hc hn
          rw [hn] at J
          rw [hq] at J
          clear hAt NUM hn hc hab hz
          subst hE
          go_wp2_with fail
          refine (J _).out.mono ?_
          rintro e w2 ⟨rfl, hb2⟩
          go_wp2_with fail
          go_ret2
          exact ⟨rfl, hB.trans (hb2.mono hB.size)⟩
        | some v =>
          obtain ⟨v0, v1, -⟩ := numZ_bd hn
          rw [hn] at J
          rw [hq] at J
          by_cases c4 : mn = 4
          · subst c4
            have hE := at_four hAt.out (by omega) hc hn
            clear hAt NUM hn hc hab hz
            subst hE
            go_wp2_with fail
            refine (J _).out.mono ?_
            rintro e w2 ⟨rfl, hb2⟩
            go_wp2_with fail
            go_ret2
            exact ⟨rfl, hB.trans (hb2.mono hB.size)⟩
          · have hNext := Lib.hid (at_field hAt.out (by omega) c4 hc hn)
            have hm4 : ((mn : Int) == 4) = false := by rw [beq_eq_false_iff_ne]; omega
            have hm5 : ¬ (mn : Int) = 4 := by omega
            have hsb := step_bd a v mn ha hab.out v0 v1
            have hab2 := Lib.hid hsb.2
            have ha2 := hsb.1
            have ha3 := small_bd a mn (by omega) hab.out
            clear hAt NUM hn hc hab hz hsb
            go_wp2_with fail
            refine (J _).out.mono ?_
            rintro e w2 ⟨rfl, hb2⟩
            go_wp2_with fail
            go_round
            case rel => exact ⟨s.size + 1, s.size + 1, mn + 1, 256 * a + v, by omega, by omega, by omega, ha2, hab2, rfl, by go_num, by go_num, by go_num, hNext, hB.trans (hb2.mono hB.size)⟩
            case measure => simp [intOf]
      · obtain rfl : k = s.size + 1 := by omega
        have hE := at_end hAt.out
        have ha4 := four_bd a mn hmn hab.out
        clear hAt NUM hab
        by_cases c4 : mn = 4
        · subst c4
          rw [if_pos rfl] at hE
          subst hE
          go_wp2_with fail
          go_ret2
          exact ⟨rfl, hB⟩
        · rw [if_neg c4] at hE
          subst hE
          go_wp2_with fail
          go_ret2
          exact ⟨rfl, hB⟩
end Go.Proofs.YtobcecnmeepjpaaDoor
