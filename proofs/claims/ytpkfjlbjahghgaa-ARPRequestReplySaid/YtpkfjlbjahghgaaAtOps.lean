/- The operations on the program's table: look-up, the type switch, length; and Known. -/
import Derived.Test.YtpkfjlbjahghgaaAtTab
import Derived.WalkKit
import Derived.BigRegion
namespace Go.Proofs.Ytpkfjlbjahghgaa
open Go.RowKit Go.Maps
set_option linter.unusedVariables false
attribute [local go_sem] Oper.semAt_some

theorem law : Keyed Try.prog 3 := int_keyed Try.underlying3
theorem zeroEnt (w : World) : (zeroValue 87).run Try.prog w = .ok .nilIface w := by kernel_rfl
theorem keyI {a : Int} (h1 : -9223372036854775808 ≤ a) (h2 : a ≤ 9223372036854775807) : keyOf Try.prog 3 (.int .i64 a) = some (.int .i64 a) :=
  keyOf_int_mk Try.underlying3 (by have e1 : IntKind.i64.min = -9223372036854775808 := rfl; have e2 : IntKind.i64.max = 9223372036854775807 := rfl; simp [Lit.wf, e1, e2]; omega)
theorem tab_look {w : World} {base T mb : Nat} {own mac when : Int} {said : Bool} {R : List PE} (h : TabP w base T mb own mac said when R) {a : Int} (h1 : -9223372036854775808 ≤ a) (h2 : a ≤ 9223372036854775807) :
    (Instr.lookup 80 (.map (some mb)) (.int .i64 a) false).run Try.prog w = .ok (valOf (lookP R a)) w := by
  obtain ⟨v, ps, hrun, hv⟩ := h.map.lookup law Try.underlying80 (zeroEnt w) (zd := .held .nilIface) (zp := []) rfl (keyI h1 h2)
  rw [mapD_at] at hv
  unfold raw at hv
  cases hv
  exact hrun
theorem asRR (p : Value) (w : World) : (Instr.typeAssert (.iface 88 p) 87 88 true).run Try.prog w = .ok (.tuple #[p, .bool true]) w := by kernel_rfl
theorem asRI (p : Value) (w : World) : (Instr.typeAssert (.iface 91 p) 87 88 true).run Try.prog w = .ok (.tuple #[.pointer none, .bool false]) w := by kernel_rfl
theorem asRN (w : World) : (Instr.typeAssert .nilIface 87 88 true).run Try.prog w = .ok (.tuple #[.pointer none, .bool false]) w := by kernel_rfl
theorem asII (p : Value) (w : World) : (Instr.typeAssert (.iface 91 p) 87 91 true).run Try.prog w = .ok (.tuple #[p, .bool true]) w := by kernel_rfl
theorem asIR (p : Value) (w : World) : (Instr.typeAssert (.iface 88 p) 87 91 true).run Try.prog w = .ok (.tuple #[.pointer none, .bool false]) w := by kernel_rfl
theorem asIN (w : World) : (Instr.typeAssert .nilIface 87 91 true).run Try.prog w = .ok (.tuple #[.pointer none, .bool false]) w := by kernel_rfl
theorem tab_len {w : World} {base T mb : Nat} {own mac when : Int} {said : Bool} {R : List PE} (h : TabP w base T mb own mac said when R) (ty : TypeId) :
    (Builtin.len_ #[80] ty #[.map (some mb)]).run Try.prog w = .ok (.int .i64 (R.length : Int)) w := by
  have := h.map.len Try.underlying80 ty
  simpa [Maps.size, mapE] using this
theorem mb_of {w : World} {base T mb : Nat} {own mac when : Int} {said : Bool} {R : List PE} (h : TabP w base T mb own mac said when R) :
    w.cell? ⟨T, 0, none⟩ = some (.int .i64 own) ∧ w.cell? ⟨T, 1, none⟩ = some (.int .i64 mac) ∧ w.cell? ⟨T, 2, none⟩ = some (.map (some mb)) ∧ w.cell? ⟨T, 3, none⟩ = some (.bool said) ∧ w.cell? ⟨T, 4, none⟩ = some (.int .i64 when) :=
  ⟨(blk_cell (k := 0) h.blk rfl).1, (blk_cell (k := 1) h.blk rfl).1, (blk_cell (k := 2) h.blk rfl).1, (blk_cell (k := 3) h.blk rfl).1, (blk_cell (k := 4) h.blk rfl).1⟩

/-- the MAC that is known of an address -/
def knL (L : List En) (a : Int) : Int × Bool :=
  match lookE L a with
  | some x => if x.known then (x.mac, true) else (0, false)
  | none => (0, false)

theorem known_nil (a : Int) (w : World) :
    Calls Try.prog 35 #[.pointer none, .int .i64 a] w fun e w' => e = .returned (.tuple #[.int .i64 0, .bool false]) ∧ w = w' := by
  go_enter Try.func35, Try.ntmps35
  go_wp2
  go_ret2
  exact ⟨rfl, rfl⟩

set_option maxRecDepth 20000 in
set_option maxHeartbeats 1600000 in
theorem known_tab {w : World} {base T mb : Nat} {own mac when : Int} {said : Bool} {R : List PE} (h : TabP w base T mb own mac said when R) {a : Int} (h1 : -9223372036854775808 ≤ a) (h2 : a ≤ 9223372036854775807) :
    Calls Try.prog 35 #[.pointer (some ⟨T, 0, none⟩), .int .i64 a] w fun e w' => e = .returned (.tuple #[.int .i64 (knL (R.map (·.x)) a).1, .bool (knL (R.map (·.x)) a).2]) ∧ w = w' := by
  obtain ⟨-, -, x2, -, -⟩ := mb_of h
  have hl := tab_look h h1 h2
  have hm := lookP_map R a
  unfold knL
  rw [← hm]
  cases hp : lookP R a with
  | none =>
    rw [hp] at hl
    simp only [valOf, Option.map_none] at hl ⊢
    have hn := asRN w
    clear hm hp
    go_enter Try.func35, Try.ntmps35
    go_wp2
    go_ret2
    exact ⟨rfl, rfl⟩
  | some p =>
    rw [hp] at hl
    have he := h.ent p (lookP_some hp).1
    cases hk : p.x.known with
    | true =>
      simp only [valOf, entVal, hk, if_true, Option.map_some] at hl ⊢
      have hn := asRR (.pointer (some ⟨p.b, 0, none⟩)) w
      have hc := (blk_cell (k := 0) (he.res hk).1 rfl).1
      simp only [List.getElem_toArray, List.getElem_cons_zero] at hc
      clear hm hp he hk
      go_enter Try.func35, Try.ntmps35
      go_wp2
      go_ret2
      exact ⟨rfl, rfl⟩
    | false =>
      simp only [valOf, entVal, hk, Bool.false_eq_true, if_false, Option.map_some] at hl ⊢
      have hn := asRI (.pointer (some ⟨p.b, 0, none⟩)) w
      clear hm hp he hk
      go_enter Try.func35, Try.ntmps35
      go_wp2
      go_ret2
      exact ⟨rfl, rfl⟩
end Go.Proofs.Ytpkfjlbjahghgaa
