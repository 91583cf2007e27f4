/- The reference's FormatPrefix; told: both agree. -/
import Derived.Test.YtobcecnmeepjpaaDoorRefC
namespace Go.Proofs.YtobcecnmeepjpaaDoor
open Go.RowKit
set_option linter.unusedVariables false

theorem rfp_no (a b : Int) (w : World) (la : -9223372036854775808 ≤ a) (ua : a ≤ 9223372036854775807) (lb : -9223372036854775808 ≤ b) (ub : b ≤ 9223372036854775807) (h : vpZ a b = false) :
    Calls Tryd.prog 15 #[.agg #[.int .i64 a, .int .i64 b]] w fun e w' => e = .returned (.tuple #[.string ⟨#[]⟩, .int .i64 30]) ∧ Below w.heap.size w w' := by
  have V := Lib.hid (rvp_any a b · la ua lb ub)
  rw [h] at V
  go_enter Tryd.func15, Tryd.ntmps15
  go_wp2_with fail
  refine (V.out _).mono ?_
  rintro e w' ⟨rfl, hb⟩
  go_wp2_with fail
  go_ret2
  exact ⟨rfl, (keep2 (keep2n w _ _ _) hb).1⟩

set_option maxRecDepth 20000 in
theorem rfp_in (a b : Int) (w : World) (la : -9223372036854775808 ≤ a) (ua : a ≤ 9223372036854775807) (lb : -9223372036854775808 ≤ b) (ub : b ≤ 9223372036854775807) (h : vpZ a b = true) :
    Calls Tryd.prog 15 #[.agg #[.int .i64 a, .int .i64 b]] w fun e w' => e = .returned (.tuple #[.string ⟨(fmtPL a b).toArray⟩, .int .i64 0]) ∧ Below w.heap.size w w' := by
  obtain ⟨h1, h2, h3, h4⟩ := vpZ_bd h
  have V := Lib.hid (rvp_any a b · la ua lb ub)
  rw [h] at V
  have F := fun w => Lib.hid (rfmt_in a w h1 h2)
  have I := fun w => Lib.hid (dig_any b w (by omega) (by omega))
  obtain ⟨d, hd⟩ : ∃ d : ByteArray, ⟨(fmtL a).toArray⟩ = d := ⟨_, rfl⟩
  obtain ⟨c, hc⟩ : ∃ c : ByteArray, ⟨(Lib.itoa b).toArray⟩ = c := ⟨_, rfl⟩
  obtain ⟨r, hr⟩ : ∃ r : ByteArray, ⟨(fmtPL a b).toArray⟩ = r := ⟨_, rfl⟩
  have hds : d.size ≤ 15 := by rw [← hd, size_mk]; exact fmtL_len a h1 h2
  have hcs : c.size ≤ 3 := by rw [← hc, size_mk]; exact (itoa_len b h3 (by omega)).2
  have hs1 : (d ++ ⟨#[47]⟩).size = d.size + 1 := by rw [ByteArray.size_append]; rfl
  have hre : d ++ ⟨#[47]⟩ ++ c = r := by
    apply str_inj
    rw [← hr, ← hd, ← hc]
    simp [fmtPL, ByteArray.data_append]
  have HR := Lib.hid hre
  simp only [hd] at F
  simp only [hc] at I
  rw [hr]
  clear hd hc hr hre h1 h2 h3 h4 h
  go_enter Tryd.func15, Tryd.ntmps15
  go_wp2_with fail
  refine (V.out _).mono ?_
  rintro e w' ⟨rfl, hb⟩
  have hk := keep2 (keep2n w _ _ _) hb
  obtain ⟨hk1, hk2, hk3⟩ := hk
  go_wp2_with fail
  refine (F _).out.mono ?_
  rintro e w2 ⟨rfl, hb2⟩
  obtain ⟨hj1, hj2, hj3⟩ := keep2 ⟨hk1, hk2, hk3⟩ hb2
  clear hk2 hk3 hb hb2
  go_wp2_with fail
  refine (I _).out.mono ?_
  rintro e w3 ⟨rfl, hb3⟩
  go_wp2_with fail
  go_ret2
  exact ⟨by rw [HR.out]; rfl, hj1.trans (hb3.mono hj1.size)⟩
theorem rfpre_any (a b : Int) (w : World) (la : -9223372036854775808 ≤ a) (ua : a ≤ 9223372036854775807) (lb : -9223372036854775808 ≤ b) (ub : b ≤ 9223372036854775807) :
    Calls Tryd.prog 15 #[.agg #[.int .i64 a, .int .i64 b]] w fun e w' => e = .returned (.tuple #[.string (fpS a b), .int .i64 (fpE a b)]) ∧ Below w.heap.size w w' := by
  unfold fpS fpE
  cases h : vpZ a b with
  | true => exact rfp_in a b w la ua lb ub h
  | false => exact rfp_no a b w la ua lb ub h
end Go.Proofs.YtobcecnmeepjpaaDoor
