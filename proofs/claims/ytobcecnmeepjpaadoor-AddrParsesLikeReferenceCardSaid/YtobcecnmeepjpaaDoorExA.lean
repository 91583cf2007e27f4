/- The chapter's examples, reckoned. -/
import Derived.Test.YtobcecnmeepjpaaDoorText
namespace Go.Proofs.YtobcecnmeepjpaaDoor
open Go.RowKit
set_option linter.unusedVariables false

theorem v1 : fS 167772161 = ⟨#[49, 48, 46, 48, 46, 48, 46, 49]⟩ := by
  have h : fmtL 167772161 = [49, 48, 46, 48, 46, 48, 46, 49] := by decide +kernel
  unfold fS; rw [if_pos (by decide), h]
theorem v2 : parseL ⟨#[49, 48, 46, 48, 46, 48, 46, 49]⟩ = some 167772161 := by decide +kernel
theorem v3 : ppL ⟨#[49, 48, 46, 48, 46, 48, 46, 48, 47, 56]⟩ = some (167772160, 8) := by decide +kernel
theorem v4 : fpS 167772160 8 = ⟨#[49, 48, 46, 48, 46, 48, 46, 48, 47, 56]⟩ := by
  have h : fmtPL 167772160 8 = [49, 48, 46, 48, 46, 48, 46, 48, 47, 56] := by decide +kernel
  unfold fpS; rw [if_pos (by decide +kernel), h]
theorem v5 : ppL ⟨#[49, 48, 46, 48, 46, 48, 46, 49, 47, 56]⟩ = none := by decide +kernel
theorem v6 : parseL ⟨#[49, 46, 50, 46, 51]⟩ = none := by decide +kernel
theorem v7 : parseL ⟨#[48, 49, 46, 50, 46, 51, 46, 52]⟩ = none := by decide +kernel
theorem v8 : parseL ⟨#[49, 46, 50, 46, 51, 46, 50, 53, 54]⟩ = none := by decide +kernel
theorem v9 : contZ 167772160 8 167772161 = true := by decide +kernel
theorem v10 : contZ 167772160 8 184549376 = false := by decide +kernel
theorem v11 : lastZ 167772160 8 = 184549375 := by decide +kernel
theorem v12 : vpZ 167772160 8 = true := by decide +kernel
theorem v13 : vpZ 1 0 = false := by decide +kernel
end Go.Proofs.YtobcecnmeepjpaaDoor
