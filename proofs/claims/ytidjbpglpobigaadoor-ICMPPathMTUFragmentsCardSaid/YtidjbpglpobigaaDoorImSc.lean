/- Constants of the statements' own sane. No program here. -/
import Derived.Test.YtidjbpglpobigaaDoorImMa
import Derived.Test.YtidjbpglpobigaaDoorImQ
namespace Go.Proofs.YtidjbpglpobigaaDoor
open Go.RowKit
set_option linter.unusedVariables false

abbrev sm1 : Ms := ⟨1, 0, 7, ⟨#[97]⟩⟩
abbrev sS1 : ByteArray := ⟨#[1, 0, 157, 248, 0, 0, 0, 7, 97]⟩
set_option maxRecDepth 100000
theorem sane_1 : encM sm1 = sS1 := by decide +kernel
theorem sane_2 : okM sm1 := by decide
theorem sane_3 : ¬ decM (sS1 ++ ⟨#[98]⟩) := by decide +kernel
abbrev sp0 : Pk := ⟨1, 2, 17, 9, 0, false, false, 0, ⟨#[48, 49, 50, 51, 52, 53, 54, 55, 56, 57]⟩⟩
theorem sane_4 : neO 3 4 0 sp0 := by decide +kernel
theorem sane_5 : (neM 3 4 0 sp0).s.size = 28 := by decide +kernel
theorem sane_6 : okE (neM 3 4 0 sp0) := sane_4.2.2.2.2
theorem sane_7 : mkP (neM 3 4 0 sp0).s = { sp0 with s := ⟨#[48, 49, 50, 51, 52, 53, 54, 55]⟩ } ∧ decL (neM 3 4 0 sp0).s := by
  have h := enc_cut sp0 sane_4.1 28 (by decide) (by decide)
  exact h
theorem sane_8 (T : ByteArray) (h : T = encM (neM 3 4 0 sp0)) : ¬ neO 3 4 0 ⟨2, 1, 1, 9, 0, false, false, 0, T⟩ := fun hn => hn.2.2.2.1 ⟨rfl, by rw [h, encM_size]; omega, by
  show errK (fb T)
  rw [h, fb_enc _ sane_6.2]
  exact .inl rfl⟩
end Go.Proofs.YtidjbpglpobigaaDoor
