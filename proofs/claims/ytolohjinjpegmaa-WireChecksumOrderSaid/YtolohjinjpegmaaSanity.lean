/- The statements' fixed examples. -/
import Derived.Test.YtolohjinjpegmaaGet
import Derived.Test.YtolohjinjpegmaaCrc
import Derived.Test.YtolohjinjpegmaaSum
namespace Go.Proofs.Ytolohjinjpegmaa
open Go.RowKit

theorem put_258 (w : World) : Calls Try.prog 10 #[.int .i64 258, .int .i64 2] w fun e w' => e = .returned (.tuple #[.string ⟨#[1, 2]⟩, .int .i64 0]) ∧ Below w.heap.size w w' :=
  (put_any 258 2 w (by decide) (by decide) (by decide) (by decide)).mono fun _ _ ⟨h1, h2⟩ => ⟨by rw [h1, show beS 2 258 = ⟨#[1, 2]⟩ by decide +kernel], h2⟩
theorem put_65536 (w : World) : Calls Try.prog 10 #[.int .i64 65536, .int .i64 2] w fun e w' => e = .returned (.tuple #[.string ⟨#[]⟩, .int .i64 10]) ∧ w = w' :=
  put_no 65536 2 w (by decide) (by decide)
theorem put_10 (w : World) : Calls Try.prog 10 #[.int .i64 1, .int .i64 0] w fun e w' => e = .returned (.tuple #[.string ⟨#[]⟩, .int .i64 10]) ∧ w = w' :=
  put_no 1 0 w (by decide) (by decide)
theorem get_a12 (w : World) : Calls Try.prog 12 #[.string ⟨#[97, 1, 2]⟩, .int .i64 1, .int .i64 2] w fun e w' => e = .returned (.tuple #[.int .i64 258, .int .i64 0]) ∧ Below w.heap.size w w' :=
  (get_any ⟨#[97, 1, 2]⟩ 1 2 w (by decide) (by decide) (by decide) (by decide) (by decide)).mono fun _ _ ⟨h1, h2⟩ => ⟨by rw [h1]; exact ret2_int (by decide +kernel), h2⟩
theorem get_12 (w : World) : Calls Try.prog 12 #[.string ⟨#[1, 2]⟩, .int .i64 1, .int .i64 2] w fun e w' => e = .returned (.tuple #[.int .i64 0, .int .i64 10]) ∧ w = w' :=
  get_no ⟨#[1, 2]⟩ 1 2 w (by decide) (by decide)
theorem sum_ex (w : World) : Calls Try.prog 14 #[.string ⟨#[0, 1, 242, 3, 244, 245, 246, 247]⟩] w fun e w' => e = .returned (.int .i64 8717) ∧ Below w.heap.size w w' :=
  (sum_any ⟨#[0, 1, 242, 3, 244, 245, 246, 247]⟩ (by decide) w).mono fun _ _ ⟨h1, h2⟩ => ⟨by rw [h1]; exact ret_int (by decide +kernel), h2⟩
theorem crc_ex (w : World) : Calls Try.prog 16 #[.string ⟨#[49, 50, 51, 52, 53, 54, 55, 56, 57]⟩] w fun e w' => e = .returned (.int .i64 3421780262) ∧ Below w.heap.size w w' :=
  (crc_any ⟨#[49, 50, 51, 52, 53, 54, 55, 56, 57]⟩ (by decide) w).mono fun _ _ ⟨h1, h2⟩ => ⟨by rw [h1]; exact ret_int (by decide +kernel), h2⟩

set_option maxHeartbeats 1000000 in
theorem sanity_any (w : World) : Calls Try.prog 8 #[] w fun e w' => e = .returned (.bool true) ∧ Below w.heap.size w w' := by
  go_enter Try.func8, Try.ntmps8
  go_wp2_with fail
  refine (put_258 _).mono ?_
  rintro e w1 ⟨rfl, hb1⟩
  go_wp2_with fail
  refine (get_a12 _).mono ?_
  rintro e w2 ⟨rfl, hb2⟩
  go_wp2_with fail
  refine (put_65536 _).mono ?_
  rintro e w3 ⟨rfl, rfl⟩
  go_wp2_with fail
  refine (get_12 _).mono ?_
  rintro e w3 ⟨rfl, rfl⟩
  go_wp2_with fail
  refine (put_10 _).mono ?_
  rintro e w3 ⟨rfl, rfl⟩
  go_wp2_with fail
  refine (sum_ex _).mono ?_
  rintro e w3 ⟨rfl, hb3⟩
  go_wp2_with fail
  refine (crc_ex _).mono ?_
  rintro e w4 ⟨rfl, hb4⟩
  go_wp2_with fail
  go_ret
  have hb12 := hb1.trans (hb2.mono hb1.size)
  have hb13 := hb12.trans (hb3.mono hb12.size)
  exact ⟨rfl, hb13.trans (hb4.mono hb13.size)⟩
end Go.Proofs.Ytolohjinjpegmaa
