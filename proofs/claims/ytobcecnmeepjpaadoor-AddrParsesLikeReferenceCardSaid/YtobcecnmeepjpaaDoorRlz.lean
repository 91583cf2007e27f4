/- AddrParsesLikeReference returns true at every input. -/
import Derived.Test.YtobcecnmeepjpaaDoorRlw
namespace Go.Proofs.YtobcecnmeepjpaaDoor
open Go.RowKit
set_option linter.unusedVariables false

theorem pl_walk (s : ByteArray) (na nb at_ y0 : Int) (w : World) (hs : s.size ≤ maxLen) (lna : -9223372036854775808 ≤ na) (una : na ≤ 9223372036854775807) (lnb : -9223372036854775808 ≤ nb) (unb : nb ≤ 9223372036854775807)
    (la : -9223372036854775808 ≤ at_) (ua : at_ ≤ 9223372036854775807) (hy : (Lit.int .u8 y0).wf = true) (E : Env w) :
    Calls Tryd.prog 4 #[.string s, .agg #[.int .i64 na, .int .i64 nb], .int .i64 at_, .int .u8 y0] w fun e w' => e = .returned (.bool true) ∧ Below w.heap.size w w' := by
  obtain ⟨A, B, -, -, hv, NE⟩ := net_dom na nb lna una lnb unb
  obtain ⟨a0, a1, a2, a3, a4⟩ := last_bd hv
  have hA : A ≤ 4294967295 := by omega
  have l1 := fmtL_len A a0 hA
  have l2 := (itoa_len B (by omega) (by omega))
  obtain ⟨T, hT⟩ : ∃ T : ByteArray, ⟨(fmtL A).toArray⟩ = T := ⟨_, rfl⟩
  obtain ⟨U, hU⟩ : ∃ U : ByteArray, ⟨(fmtPL A B).toArray⟩ = U := ⟨_, rfl⟩
  have sT : T.size = (fmtL A).length := by rw [← hT, size_mk]
  have sU : U.size = (fmtL A).length + (Lib.itoa B).length + 1 := by
    rw [← hU, size_mk]; unfold fmtPL; simp only [List.length_append, List.length_cons]; omega
  have FT := fun w => Lib.hid (rfmt_in A w a0 hA)
  rw [hT] at FT
  have FU := fun w => Lib.hid (rfp_in A B w (by omega) (by omega) (by omega) (by omega) hv)
  rw [hU] at FU
  obtain ⟨x, -, ⟨x0, x1⟩, PK⟩ := pick_dom at_ (T.size + 1) la ua (by omega) (by omega)
  obtain ⟨kk, rfl⟩ := Int.eq_ofNat_of_zero_le x0
  exact pl_go at_ na nb A B y0 kk s T U _ w E rfl (by omega) (by omega) (by omega) (by omega) hs PK NE FT FU
end Go.Proofs.YtobcecnmeepjpaaDoor
