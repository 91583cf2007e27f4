/- The walk of the statement WireMatchesReference. -/
import Derived.Test.YtolohjinjpegmaaRefSum
namespace Go.Proofs.Ytolohjinjpegmaa
open Go.RowKit

/-- an integer of 64 bits in a cell -/
def Num (w : World) (b j : Nat) : Prop := ∃ v : Int, w.cell? ⟨b, j, none⟩ = some (.int .i64 v) ∧ -9223372036854775808 ≤ v ∧ v ≤ 9223372036854775807
theorem Num.keep {w w' : World} {b j : Nat} (h : Num w b j) (hb : Below w.heap.size w w') : Num w' b j := by
  obtain ⟨v, hc, h1, h2⟩ := h
  exact ⟨v, (hb.cell (p := ⟨b, j, none⟩) (by
    rcases Nat.lt_or_ge b w.heap.size with hl | hl
    · exact hl
    · rw [World.cell?, Array.getElem?_eq_none hl] at hc; cases hc)).trans hc, h1, h2⟩
def Nums (w : World) (b n : Nat) : Prop := ∀ j, j < n → Num w b j
theorem Nums.keep {w w' : World} {b n : Nat} (h : Nums w b n) (hb : Below w.heap.size w w') : Nums w' b n := fun j hj => (h j hj).keep hb
theorem nums2 (w : World) (x y : Int) (t : TypeId) (x1 : -9223372036854775808 ≤ x) (x2 : x ≤ 9223372036854775807) (y1 : -9223372036854775808 ≤ y) (y2 : y ≤ 9223372036854775807) :
    Nums (w.alloc (.cells #[.int .i64 x, .int .i64 y] t)) w.heap.size 2 := by
  intro j hj
  have hj' : j = 0 ∨ j = 1 := by omega
  rcases hj' with rfl | rfl
  · exact ⟨x, by rw [World.cell?_alloc_new]; rfl, x1, x2⟩
  · exact ⟨y, by rw [World.cell?_alloc_new]; rfl, y1, y2⟩
theorem nums3 (w : World) (x y z : Int) (t : TypeId) (x1 : -9223372036854775808 ≤ x) (x2 : x ≤ 9223372036854775807) (y1 : -9223372036854775808 ≤ y) (y2 : y ≤ 9223372036854775807)
    (z1 : -9223372036854775808 ≤ z) (z2 : z ≤ 9223372036854775807) :
    Nums (w.alloc (.cells #[.int .i64 x, .int .i64 y, .int .i64 z] t)) w.heap.size 3 := by
  intro j hj
  have hj' : j = 0 ∨ j = 1 ∨ j = 2 := by omega
  rcases hj' with rfl | rfl | rfl
  · exact ⟨x, by rw [World.cell?_alloc_new]; rfl, x1, x2⟩
  · exact ⟨y, by rw [World.cell?_alloc_new]; rfl, y1, y2⟩
  · exact ⟨z, by rw [World.cell?_alloc_new]; rfl, z1, z2⟩

set_option maxRecDepth 100000 in
set_option maxHeartbeats 4000000 in
theorem match_walk (a0 a1 : Int) (a2 : ByteArray) (a3 : Int) (w0 : (Lit.int .i64 a0).wf = true) (w1 : (Lit.int .i64 a1).wf = true) (w2 : a2.size ≤ maxLen) (w3 : (Lit.int .i64 a3).wf = true) (w : World) :
    Calls Try.prog 3 #[.int .i64 a0, .int .i64 a1, .string a2, .int .i64 a3] w fun e w' => e = .returned (.bool true) ∧ Below w.heap.size w w' := by
  unfold maxLen at w2
  obtain ⟨l0, u0⟩ := i64_bd w0
  obtain ⟨l1, u1⟩ := i64_bd w1
  obtain ⟨l3, u3⟩ := i64_bd w3
  clear w0 w1 w3
  rcases cut_cases a2 500 with ⟨hA, t, ht, hts⟩ | ⟨hA, t, ht, hts⟩
  all_goals
    go_enter Try.func3, Try.ntmps3
    go_wp2_with fail
    refine (sanity_any _).mono ?_
    rintro e w1 ⟨rfl, hb1⟩
    go_wp2_with fail
    refine (pick_any _ _ _ l1 u1 (by omega) (by omega)).mono ?_
    rintro e w' ⟨rfl, rfl⟩
    obtain ⟨p1, p2⟩ := pickZ_bd a1 4 (by decide)
    have hN := nums2 w1 a1 (1 + pickZ a1 4) 3 l1 u1 (by omega) (by omega)
    have hB := hb1.alloc hb1.size (.cells #[.int .i64 a1, .int .i64 (1 + pickZ a1 4)] 3)
    go_wp2_with fail
    obtain ⟨B1, hB1⟩ : ∃ B1, B1 = w1.heap.size := ⟨_, rfl⟩
    have HB1 := Lib.hid hB1
    rw [← hB1] at hN ⊢
    clear hB1
    go_loopw [37] (fun i wr => ∃ j : Nat, j ≤ 2 ∧ i = .int .i64 j ∧ Nums wr B1 2 ∧ Below w.heap.size w wr) (fun i _ => 2 - (intOf i).toNat)
    case atStart => exact ⟨0, by omega, rfl, hN, hB⟩
    case round =>
      obtain ⟨j, hj, rfl, hNr, hBr⟩ := hrel
      by_cases hj2 : j < 2
      · obtain ⟨b, hbc, b1, b2⟩ := hNr j hj2
        go_wp2_with fail
        refine (pick_any _ _ _ l0 u0 (by omega) (by omega)).mono ?_
        rintro e w' ⟨rfl, rfl⟩
        go_wp2_with fail
        refine (pick_any _ _ _ l0 u0 (by omega) (by omega)).mono ?_
        rintro e w' ⟨rfl, rfl⟩
        obtain ⟨q1, q2⟩ := pickZ_bd a0 4294967296 (by decide)
        obtain ⟨r1, r2⟩ := pickZ_bd a0 300 (by decide)
        have hM := nums3 wr a0 (pickZ a0 4294967296) (pickZ a0 300) 3 l0 u0 (by omega) (by omega) (by omega) (by omega)
        have hBm := hBr.alloc hBr.size (.cells #[.int .i64 a0, .int .i64 (pickZ a0 4294967296), .int .i64 (pickZ a0 300)] 3)
        have hNm := hNr.keep ((Below.refl wr.heap.size wr).alloc (Nat.le_refl _) (.cells #[.int .i64 a0, .int .i64 (pickZ a0 4294967296), .int .i64 (pickZ a0 300)] 3))
        go_wp2_with fail
        obtain ⟨B2, hB2⟩ : ∃ B2, B2 = wr.heap.size := ⟨_, rfl⟩
        have HB2 := Lib.hid hB2
        rw [← hB2] at hM ⊢
        clear hB2 hbc
        obtain ⟨wo, rfl⟩ : ∃ wo : World, wo = wr := ⟨_, rfl⟩
        go_loopw [48] (fun i wr => ∃ k : Nat, k ≤ 3 ∧ i = .int .i64 k ∧ Nums wr B2 3 ∧ Nums wr B1 2 ∧ Below w.heap.size w wr) (fun i _ => 3 - (intOf i).toNat)
        case atStart => exact ⟨0, by omega, rfl, hM, hNm, hBm⟩
        case round =>
          obtain ⟨k, hk, rfl, hMr, hNr2, hBr2⟩ := hrel
          by_cases hk3 : k < 3
          · obtain ⟨m, hmc, m1, m2⟩ := hMr k hk3
            go_wp2_with fail
            refine (put_R _ _ _ m2).mono ?_
            rintro e w5 ⟨rfl, hb5⟩
            have hM5 := hMr.keep hb5
            have hN5 := hNr2.keep hb5
            have hB5 := hBr2.trans (hb5.mono hBr2.size)
            clear hmc
            go_wp2_with fail
            refine (refPut_R _ _ _).mono ?_
            rintro e w6 ⟨rfl, hb6⟩
            have hM6 := hM5.keep hb6
            have hN6 := hN5.keep hb6
            have hB6 := hB5.trans (hb6.mono hB5.size)
            go_wp2_with fail
            go_roundw
            case rel => exact ⟨k + 1, by omega, by go_num, hM6, hN6, hB6⟩
            case measure => simp [intOf]; omega
          · obtain rfl : k = 3 := by omega
            clear hk3
            go_wp2_with fail
            refine (pick_any _ _ _ l3 u3 (by omega) (by omega)).mono ?_
            rintro e w' ⟨rfl, rfl⟩
            obtain ⟨s1, s2⟩ := pickZ_bd a3 ((t.size : Int) + 1) (by omega)
            obtain ⟨pk, hpk⟩ : ∃ pk, pickZ a3 ((t.size : Int) + 1) = pk := ⟨_, rfl⟩
            rw [hpk] at s1 s2
            have hG := nums2 wr a3 pk 3 l3 u3 (by omega) (by omega)
            have hBg := hBr2.alloc hBr2.size (.cells #[.int .i64 a3, .int .i64 pk] 3)
            have hNg := hNr2.keep ((Below.refl wr.heap.size wr).alloc (Nat.le_refl _) (.cells #[.int .i64 a3, .int .i64 pk] 3))
            go_wp2_with fail
            obtain ⟨B3, hB3⟩ : ∃ B3, B3 = wr.heap.size := ⟨_, rfl⟩
            have HB3 := Lib.hid hB3
            rw [← hB3] at hG ⊢
            clear hB3
            obtain ⟨wi, rfl⟩ : ∃ wi : World, wi = wr := ⟨_, rfl⟩
            go_loopw [81] (fun i wr => ∃ k : Nat, k ≤ 2 ∧ i = .int .i64 k ∧ Nums wr B3 2 ∧ Nums wr B1 2 ∧ Below w.heap.size w wr) (fun i _ => 2 - (intOf i).toNat)
            case atStart => exact ⟨0, by omega, rfl, hG, hNg, hBg⟩
            case round =>
              obtain ⟨k, hk, rfl, hMr, hNr2, hBr2⟩ := hrel
              by_cases hk3 : k < 2
              · obtain ⟨m, hmc, m1, m2⟩ := hMr k hk3
                go_wp2_with fail
                refine (get_R _ _ _ _ (by unfold maxLen; omega)).mono ?_
                rintro e w5 ⟨rfl, hb5⟩
                have hM5 := hMr.keep hb5
                have hN5 := hNr2.keep hb5
                have hB5 := hBr2.trans (hb5.mono hBr2.size)
                clear hmc
                go_wp2_with fail
                refine (refGet_R _ _ _ _ (by unfold maxLen; omega)).mono ?_
                rintro e w6 ⟨rfl, rfl⟩
                go_wp2_with fail
                go_roundw
                case rel => exact ⟨k + 1, by omega, by go_num, hM5, hN5, hB5⟩
                case measure => simp [intOf]; omega
              · obtain rfl : k = 2 := by omega
                clear hk3
                go_wp2_with fail
                go_roundw
                case rel => exact ⟨j + 1, by omega, by go_num, hNr2, hBr2⟩
                case measure => simp [intOf]; omega
      · obtain rfl : j = 2 := by omega
        clear hj2
        go_wp2_with fail
        refine (sum_any t (by omega) _).mono ?_
        rintro e w5 ⟨rfl, hb5⟩
        have hB5 := hBr.trans (hb5.mono hBr.size)
        go_wp2_with fail
        refine (refSum_any t (by omega) _).mono ?_
        rintro e w6 ⟨rfl, rfl⟩
        go_wp2_with fail
        refine (crc_any t (by unfold maxLen; omega) _).mono ?_
        rintro e w7 ⟨rfl, hb7⟩
        have hB7 := hB5.trans (hb7.mono hB5.size)
        go_wp2_with fail
        refine (refCrc_any t (by unfold maxLen; omega) _).mono ?_
        rintro e w8 ⟨rfl, rfl⟩
        go_wp2_with fail
        go_ret
        exact ⟨rfl, hB7⟩
end Go.Proofs.Ytolohjinjpegmaa
