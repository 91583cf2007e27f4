/- The walk of AddrPrefixesNestOrDisjoint, every way. -/
import Derived.Test.YtobcecnmeepjpaaDoorNestW
namespace Go.Proofs.YtobcecnmeepjpaaDoor
open Go.RowKit
set_option linter.unusedVariables false

theorem cont_hid {A B z : Int} (h : vpZ A B = true) (l : -9223372036854775808 ≤ z) (u : z ≤ 9223372036854775807) (w : World) :
    Hid (Calls Tryd.prog 24 #[.agg #[.int .i64 A, .int .i64 B], .int .i64 z] w fun e w' => e = .returned (.bool (contZ A B z)) ∧ Below w.heap.size w w') := by
  have hl := last_bd h
  exact cont_any A B z w (by omega) (by omega) (by omega) (by omega) l u

theorem nest_walk (na nb ma mb : Int) (near : Bool) (w : World) (lna : -9223372036854775808 ≤ na) (una : na ≤ 9223372036854775807) (lnb : -9223372036854775808 ≤ nb) (unb : nb ≤ 9223372036854775807) (lma : -9223372036854775808 ≤ ma) (uma : ma ≤ 9223372036854775807) (lmb : -9223372036854775808 ≤ mb) (umb : mb ≤ 9223372036854775807) (E : Env w) :
    Calls Tryd.prog 7 #[.agg #[.int .i64 na, .int .i64 nb], .agg #[.int .i64 ma, .int .i64 mb], .bool near] w fun e w' => e = .returned (.bool true) ∧ Below w.heap.size w w' := by
  obtain ⟨A, B, -, -, hv, NE⟩ := net_dom na nb lna una lnb unb
  obtain ⟨C0, D0, -, -, kv0, NF⟩ := net_dom ma mb lma uma lmb umb
  have hl := last_bd hv
  have kl0 := last_bd kv0
  cases near with
  | true =>
    obtain ⟨k, -, hk, PK⟩ := pick_dom ma 300 lma uma (by decide) (by decide)
    obtain ⟨C, D, -, -, kv, NG⟩ := net_dom (A + k) mb (by omega) (by omega) lmb umb
    have kl := last_bd kv
    have e1 : IntKind.i64.wrap (A + k) = A + k := wrap_id (by omega) (by omega)
    rcases Int.lt_or_le D B with hBD | hBD
    · rcases nest kv hv (by omega) with h | h | h
      · exact nest_tc na nb ma mb A B C D (A + (szZ B - 1)) (C + (szZ D - 1)) k C0 D0 _ _ w E hBD NE NF PK NG e1 (cont_hid hv (by omega) (by omega)) (cont_hid hv (by omega) (by omega)) (cont_yes kv (by omega) (by omega)) (cont_yes kv (by omega) (by omega)) (last_yes kv) (last_yes hv)
      · exact nest_td na nb ma mb A B C D (A + (szZ B - 1)) (C + (szZ D - 1)) k C0 D0 w E hBD NE NF PK NG e1 (cont_not hv (by omega) (by omega) (by omega)) (cont_not hv (by omega) (by omega) (by omega)) (cont_not kv (by omega) (by omega) (by omega)) (cont_not kv (by omega) (by omega) (by omega)) (last_yes kv) (last_yes hv)
      · exact nest_td na nb ma mb A B C D (A + (szZ B - 1)) (C + (szZ D - 1)) k C0 D0 w E hBD NE NF PK NG e1 (cont_not hv (by omega) (by omega) (by omega)) (cont_not hv (by omega) (by omega) (by omega)) (cont_not kv (by omega) (by omega) (by omega)) (cont_not kv (by omega) (by omega) (by omega)) (last_yes kv) (last_yes hv)
    · rcases nest hv kv hBD with h | h | h
      · exact nest_ta na nb ma mb A B C D (A + (szZ B - 1)) (C + (szZ D - 1)) k C0 D0 _ _ w E hBD NE NF PK NG e1 (cont_yes hv (by omega) (by omega)) (cont_yes hv (by omega) (by omega)) (cont_hid kv (by omega) (by omega)) (cont_hid kv (by omega) (by omega)) (last_yes kv) (last_yes hv)
      · exact nest_tb na nb ma mb A B C D (A + (szZ B - 1)) (C + (szZ D - 1)) k C0 D0 w E hBD NE NF PK NG e1 (cont_not hv (by omega) (by omega) (by omega)) (cont_not hv (by omega) (by omega) (by omega)) (cont_not kv (by omega) (by omega) (by omega)) (cont_not kv (by omega) (by omega) (by omega)) (last_yes kv) (last_yes hv)
      · exact nest_tb na nb ma mb A B C D (A + (szZ B - 1)) (C + (szZ D - 1)) k C0 D0 w E hBD NE NF PK NG e1 (cont_not hv (by omega) (by omega) (by omega)) (cont_not hv (by omega) (by omega) (by omega)) (cont_not kv (by omega) (by omega) (by omega)) (cont_not kv (by omega) (by omega) (by omega)) (last_yes kv) (last_yes hv)
  | false =>
    rcases Int.lt_or_le D0 B with hBD | hBD
    · rcases nest kv0 hv (by omega) with h | h | h
      · exact nest_fc na nb ma mb A B C0 D0 (A + (szZ B - 1)) (C0 + (szZ D0 - 1)) 0 0 0 _ _ w E hBD NE NF (cont_hid hv (by omega) (by omega)) (cont_hid hv (by omega) (by omega)) (cont_yes kv0 (by omega) (by omega)) (cont_yes kv0 (by omega) (by omega)) (last_yes kv0) (last_yes hv)
      · exact nest_fd na nb ma mb A B C0 D0 (A + (szZ B - 1)) (C0 + (szZ D0 - 1)) 0 0 0 w E hBD NE NF (cont_not hv (by omega) (by omega) (by omega)) (cont_not hv (by omega) (by omega) (by omega)) (cont_not kv0 (by omega) (by omega) (by omega)) (cont_not kv0 (by omega) (by omega) (by omega)) (last_yes kv0) (last_yes hv)
      · exact nest_fd na nb ma mb A B C0 D0 (A + (szZ B - 1)) (C0 + (szZ D0 - 1)) 0 0 0 w E hBD NE NF (cont_not hv (by omega) (by omega) (by omega)) (cont_not hv (by omega) (by omega) (by omega)) (cont_not kv0 (by omega) (by omega) (by omega)) (cont_not kv0 (by omega) (by omega) (by omega)) (last_yes kv0) (last_yes hv)
    · rcases nest hv kv0 hBD with h | h | h
      · exact nest_fa na nb ma mb A B C0 D0 (A + (szZ B - 1)) (C0 + (szZ D0 - 1)) 0 0 0 _ _ w E hBD NE NF (cont_yes hv (by omega) (by omega)) (cont_yes hv (by omega) (by omega)) (cont_hid kv0 (by omega) (by omega)) (cont_hid kv0 (by omega) (by omega)) (last_yes kv0) (last_yes hv)
      · exact nest_fb na nb ma mb A B C0 D0 (A + (szZ B - 1)) (C0 + (szZ D0 - 1)) 0 0 0 w E hBD NE NF (cont_not hv (by omega) (by omega) (by omega)) (cont_not hv (by omega) (by omega) (by omega)) (cont_not kv0 (by omega) (by omega) (by omega)) (cont_not kv0 (by omega) (by omega) (by omega)) (last_yes kv0) (last_yes hv)
      · exact nest_fb na nb ma mb A B C0 D0 (A + (szZ B - 1)) (C0 + (szZ D0 - 1)) 0 0 0 w E hBD NE NF (cont_not hv (by omega) (by omega) (by omega)) (cont_not hv (by omega) (by omega) (by omega)) (cont_not kv0 (by omega) (by omega) (by omega)) (cont_not kv0 (by omega) (by omega) (by omega)) (last_yes kv0) (last_yes hv)
end Go.Proofs.YtobcecnmeepjpaaDoor
