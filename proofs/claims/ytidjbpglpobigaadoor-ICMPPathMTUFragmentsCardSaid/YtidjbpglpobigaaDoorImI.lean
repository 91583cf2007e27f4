/- Contracts of errors.Is against the variable errShort: the same error, and nil. Contracts of the reader's next. The reader's state. -/
import Derived.Test.YtidjbpglpobigaaDoorIpM
import Derived.Test.YtidjbpglpobigaaDoorIpC
import Derived.LaidEql
import Derived.Stop.Asserts
import Derived.RowKitTokens
import Derived.Test.YtidjbpglpobigaaDoorImM
import Derived.Test.YtidjbpglpobigaaDoorGet
import Derived.Test.YtidjbpglpobigaaDoorRefGet
import Derived.Test.YtidjbpglpobigaaDoorRdv
import Derived.BigRegion
import Derived.Deep.RegionHeld3
import Derived.Test.YtidjbpglpobigaaDoorImE
import Derived.Test.YtidjbpglpobigaaDoorIpD
namespace Go.Proofs.YtidjbpglpobigaaDoor
section
open Go.RowKit Go.Extern.Stop Go.Stop Go.Extern

/-- the library's variable that the package compares with -/
def Env (w : World) (a : Addr) : Prop := w.cell? ⟨0, 0, none⟩ = some (.iface 170 (.pointer (some a)))
theorem Env.stay {w w' : World} {a : Addr} (E : Env w a) (hb : Below w.heap.size w w') : Env w' a := (hb.cell (World.block_lt_of_cell? _ _ E)).trans E

theorem isComp : (Tryd.prog.info? 170).map (·.comparable) = some true := by kernel_rfl
theorem isSize : (Tryd.prog.info? 194).map (·.size) = some 1 := by kernel_rfl

theorem callTypeOf (v : Value) (w : World) : (callFunc 71 #[.iface 170 v]).run Tryd.prog w = .ok (.value (.iface 152 (.agg #[.pointer (some ⟨1, 170, none⟩)]))) w := by kernel_rfl
theorem callComparable (w : World) : (callFunc 122 #[.agg #[.pointer (some ⟨1, 170, none⟩)]]).run Tryd.prog w = .ok (.value (.bool true)) w := by kernel_rfl

/-- errors.Is(nil, x) -/
theorem is_nil (b : Addr) (w : World) :
    Calls Tryd.prog 41 #[.nilIface, .iface 170 (.pointer (some b))] w fun e w' => e = .returned (.bool false) ∧ w' = w := by
  have hn := run_eql_iface_nil_left (P := Tryd.prog) w 170 (.pointer (some b)) Tryd.underlying80
  go_enter Tryd.func41, Tryd.ntmps41
  go_wp2
  go_ret
  exact ⟨rfl, rfl⟩

set_option maxHeartbeats 800000 in
/-- errors.Is(x, x) -/
theorem is_same (a : Addr) (w : World) :
    Calls Tryd.prog 41 #[.iface 170 (.pointer (some a)), .iface 170 (.pointer (some a))] w fun e w' => e = .returned (.bool true) ∧ w' = w := by
  obtain ⟨i, hi, hcmp⟩ := Option.map_eq_some_iff.1 isComp
  obtain ⟨j, hj, hjs⟩ := Option.map_eq_some_iff.1 isSize
  have h8 := callTypeOf
  have h32 := callComparable
  have heq := run_eql_iface_ptr_same (P := Tryd.prog) w a Tryd.underlying80 Tryd.underlying170 hi hcmp hj
  go_enter Tryd.func41, Tryd.ntmps41
  go_wp2
  refine wp_loop_rounds 1 ?_
  rw [rounds_succ]
  go_wp2
  go_ret
  exact ⟨rfl, rfl⟩
end
section
attribute [local go_sem] Oper.semAt_some
open Go.RowKit
set_option linter.unusedVariables false

set_option maxRecDepth 20000 in
theorem mnext_ok (s : ByteArray) (b R : Nat) (w : World) (c0 : w.cell? ⟨R, 0, none⟩ = some (.string s)) (f0 : w.frozen? ⟨R, 0, none⟩ = false) (hb1 : 1 ≤ b) (hb2 : b ≤ 4) (hk : b ≤ s.size) (hs : s.size ≤ maxLen) :
    Calls Tryd.prog 70 #[.pointer (some ⟨R, 0, none⟩), .int .i64 (b : Int)] w fun e w' => e = .returned (.tuple #[.int .i64 (rdV s 0 b), .nilIface]) ∧
      ∃ w1, Below w.heap.size w w1 ∧ w' = w1.setCell ⟨R, 0, none⟩ (.string (s.extract b s.size)) := by
  have hRl : R < w.heap.size := cell_lt c0
  have hG : ∀ w, Calls Tryd.prog 92 #[.string s, .int .i64 0, .int .i64 (b : Int)] w fun e w' => e = .returned (.tuple #[.int .i64 (rdV s 0 b), .int .i64 0]) ∧ Below w.heap.size w w' := fun w => get_any s 0 b w (by omega) (by omega) (by omega) (by omega) hs
  have HG := Lib.hid hG
  clear hG
  unfold maxLen at hs
  have hki : (b : Int) ≤ (s.size : Int) := by omega
  go_enter Tryd.func70, Tryd.ntmps70
  go_wp2_with fail
  refine (HG.out _).mono ?_
  rintro e w2 ⟨rfl, hb⟩
  have d0 := (hb.cell (p := ⟨R, 0, none⟩) hRl).trans c0
  have g0 := (hb.frozen (p := ⟨R, 0, none⟩) hRl).trans f0
  clear HG
  go_wp2
  go_ret2
  exact ⟨rfl, w2, hb, by simp⟩

set_option maxRecDepth 20000 in
theorem mnext_no (s : ByteArray) (b R : Nat) (w : World) (a : Addr) (E : Env w a) (c0 : w.cell? ⟨R, 0, none⟩ = some (.string s)) (hk : s.size < b) (hb2 : b ≤ 4) (hs : s.size ≤ maxLen) :
    Calls Tryd.prog 70 #[.pointer (some ⟨R, 0, none⟩), .int .i64 (b : Int)] w fun e w' => e = .returned (.tuple #[.int .i64 0, .iface 170 (.pointer (some a))]) ∧ Below w.heap.size w w' := by
  have hRl : R < w.heap.size := cell_lt c0
  have hG := fun w => get_no s 0 (b : Int) w hs (by omega)
  have HG := Lib.hid hG
  clear hG
  unfold maxLen at hs
  unfold Env at E
  go_enter Tryd.func70, Tryd.ntmps70
  go_wp2_with fail
  refine (HG.out _).mono ?_
  rintro e w2 ⟨rfl, rfl⟩
  clear HG
  go_wp2
  go_region
  go_wp2
  go_ret2
  exact ⟨rfl, (Below.refl _ w).drew⟩
end
section
attribute [local go_sem] Oper.semAt_some
open Go.RowKit Go.Shelf
set_option linter.unusedVariables false

def msetV (V : Fin 4 → Int) (x : Fin 4) (n : Int) : Fin 4 → Int := fun i => if i = x then n else V i
abbrev mst (t : ByteArray) (V : Fin 4 → Int) : Obj := mro t ⟨V 0, V 1, V 3, ⟨#[]⟩⟩ (V 2)
structure MS where
  pos : Nat
  V : Fin 4 → Int
def MS.step (s : ByteArray) (h : MS) (x : Fin 4) : MS := ⟨h.pos + mSzN x, msetV h.V x (rdV s h.pos (mSzN x))⟩
def mrun (s : ByteArray) (pre : List (Fin 4)) : MS := pre.foldl (MS.step s) ⟨0, fun _ => 0⟩
theorem mrun_snoc (s : ByteArray) (pre : List (Fin 4)) (x : Fin 4) : mrun s (pre ++ [x]) = MS.step s (mrun s pre) x := by simp [mrun]
theorem mrun_go (s : ByteArray) : ∀ (pre : List (Fin 4)) (h : MS), (pre.foldl (MS.step s) h).pos ≤ h.pos + 4 * pre.length
  | [], h => by simp
  | x :: t, h => by
    have h1 := mrun_go s t (h.step s x)
    have h2 : (h.step s x).pos = h.pos + mSzN x := rfl
    have h3 := (mSz_N x).2.2
    simp only [List.foldl_cons, List.length_cons]
    omega
theorem mrun_pos (s : ByteArray) (pre : List (Fin 4)) : (mrun s pre).pos ≤ 4 * pre.length := by have := mrun_go s pre ⟨0, fun _ => 0⟩; simpa [mrun] using this
/-- the numbers that a text begins with -/
def rdM (s : ByteArray) : Fin 4 → Int := fun i => match i with
  | 0 => rdV s 0 1
  | 1 => rdV s 1 1
  | 2 => rdV s 2 2
  | 3 => rdV s 4 4
theorem mrun_all (s : ByteArray) : (mrun s mAll).pos = 8 ∧ (mrun s mAll).V = rdM s := by
  refine ⟨rfl, funext fun i => ?_⟩
  obtain rfl | rfl | rfl | rfl := fin4 i
  all_goals rfl
theorem tail_list (s : ByteArray) (k : Nat) : (s.extract k s.size).data.toList = s.data.toList.drop k := by
  have h : (s.data.toList.drop k).length ≤ s.size - k := by rw [List.length_drop, size_toList]; omega
  rw [extract_list, List.take_of_length_le h]
theorem rdV_ext (s : ByteArray) (pos b : Nat) : rdV (s.extract pos s.size) 0 b = rdV s pos b := by
  unfold rdV
  rw [tail_list, List.drop_zero]
theorem ext_ext (s : ByteArray) (pos b : Nat) : (s.extract pos s.size).extract b (s.extract pos s.size).size = s.extract (pos + b) s.size := by
  refine ba_ext ?_
  rw [tail_list, tail_list, tail_list, List.drop_drop]
theorem mcell_at {W : World} {D : Nat} {t : ByteArray} {V : Fin 4 → Int} (h : W.heap[D]? = some (mst t V)) (x : Fin 4) : W.cell? (mAt D 1 x) = some (.int .i64 (V x)) ∧ W.frozen? (mAt D 1 x) = false := by
  obtain rfl | rfl | rfl | rfl := fin4 x
  · exact blk_cell (k := 1) h rfl
  · exact blk_cell (k := 2) h rfl
  · exact blk_cell (k := 5) h rfl
  · exact blk_cell (k := 3) h rfl
theorem mstore_at {W : World} {D : Nat} {t : ByteArray} {V : Fin 4 → Int} (h : W.heap[D]? = some (mst t V)) (x : Fin 4) (t' : ByteArray) (n : Int) :
    ((W.setCell ⟨D, 0, none⟩ (.string t')).setCell (mAt D 1 x) (.int .i64 n)).heap[D]? = some (mst t' (msetV V x n)) := by
  have h1 := blk_setc (k := 0) h (.string t')
  obtain rfl | rfl | rfl | rfl := fin4 x
  · exact blk_setc (k := 1) h1 _
  · exact blk_setc (k := 2) h1 _
  · exact blk_setc (k := 5) h1 _
  · exact blk_setc (k := 3) h1 _
theorem mstore_no {W : World} {D : Nat} {t : ByteArray} {V : Fin 4 → Int} (h : W.heap[D]? = some (mst t V)) (x : Fin 4) (n : Int) :
    (W.setCell (mAt D 1 x) (.int .i64 n)).heap[D]? = some (mst t (msetV V x n)) := by
  obtain rfl | rfl | rfl | rfl := fin4 x
  · exact blk_setc (k := 1) h _
  · exact blk_setc (k := 2) h _
  · exact blk_setc (k := 5) h _
  · exact blk_setc (k := 3) h _
end
end Go.Proofs.YtidjbpglpobigaaDoor
