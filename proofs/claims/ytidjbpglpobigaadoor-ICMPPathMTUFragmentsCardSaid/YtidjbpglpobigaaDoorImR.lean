/- Contract of icmp.rules: a map literal, written in a region of any order. Contracts of the rules' functions, icmp.Valid, icmp.validError. -/
import Derived.Test.YtidjbpglpobigaaDoorImM
import Derived.Test.YtidjbpglpobigaaDoorIpC
namespace Go.Proofs.YtidjbpglpobigaaDoor
section
attribute [local go_sem] Oper.semAt_some
open Go.RowKit Go.Maps
set_option linter.unusedVariables false

abbrev rulE : Value := .agg #[.func (.func 76) #[] #[], .int .i64 500, .bool false]
abbrev rulN (f : Nat) : Value := .agg #[.func (.func f) #[] #[], .int .i64 28, .bool true]
abbrev rul3 : Value := rulN 78
abbrev rul4 : Value := rulN 79
abbrev rul5 : Value := rulN 80
abbrev fQ : Value := .func (.func 77) #[] #[]
def bN (b : Bool) : Nat := if b then 1 else 0
def rlD (b2 b4 b7 b10 b13 : Bool) : DataW Value := .map ((if b2 then [(.int .i64 1, .held rulE)] else []) ++ ((if b4 then [(.int .i64 2, .held rulE)] else []) ++ ((if b7 then [(.int .i64 3, .held rul3)] else []) ++ ((if b10 then [(.int .i64 4, .held rul4)] else []) ++ (if b13 then [(.int .i64 5, .held rul5)] else [])))))
/-- the whole table of rules -/
abbrev rulesD : DataW Value := rlD true true true true true
def RW (w0 : World) (B mb : Nat) (b0 b2 b4 b7 b10 b13 b14 b15 : Bool) (W : World) : Prop :=
  Below w0.heap.size w0 W ∧ W.heap[B]? = some (.cells #[.func (.func 76) #[] #[], .int .i64 500, .bool false] 90 (0, 0)) ∧ w0.heap.size ≤ B ∧
    (if b0 then (w0.heap.size ≤ mb ∧ mb ≠ B ∧ W.ownsMap Tryd.prog 3 rawR mb (bN b2 + bN b4 + bN b7 + bN b10 + bN b13) (rlD b2 b4 b7 b10 b13)) else b2 = false ∧ b4 = false ∧ b7 = false ∧ b10 = false ∧ b13 = false ∧ b14 = false ∧ b15 = false)
def iv (b : Bool) (v : Value) : Value := if b then v else undef

def RI (w0 : World) (B : Nat) (l : Array Bool) (a : Act) (W : World) : Prop := ∃ (mb : Nat) (b0 b1 b2 b3 b4 b5 b6 b7 b8 b9 b10 b11 b12 b13 b14 b15 : Bool), l = #[b0, b1, b2, b3, b4, b5, b6, b7, b8, b9, b10, b11, b12, b13, b14, b15] ∧
  a = { tmps := #[if b15 then .map (some mb) else .map none, .pointer (some ⟨B, 0, none⟩), fQ, rulE, iv b0 (.map (some mb)), iv b1 rulE, iv b3 rulE, iv b5 fQ, iv b6 rul3, iv b8 fQ, iv b9 rul4, iv b11 fQ, iv b12 rul5, iv b14 (.map (some mb))], defers := [] } ∧ RW w0 B mb b0 b2 b4 b7 b10 b13 b14 b15 W

theorem map_of_blockR {w w' : World} {b n : Nat} {D : DataW Value} (h : w.ownsMap Tryd.prog 3 rawR b n D) (hk : w'.heap[b]? = w.heap[b]?) : w'.ownsMap Tryd.prog 3 rawR b n D := by
  obtain ⟨es, clock, hb, r⟩ := h
  exact ⟨es, clock, hk.trans hb, r⟩
theorem RW.below {w0 : World} {B mb : Nat} {b0 b2 b4 b7 b10 b13 b14 b15 : Bool} {W W' : World} (h : RW w0 B mb b0 b2 b4 b7 b10 b13 b14 b15 W) (hb : Below W.heap.size W W') : RW w0 B mb b0 b2 b4 b7 b10 b13 b14 b15 W' := by
  obtain ⟨h1, h2, h3, h4⟩ := h
  refine ⟨h1.trans (hb.mono h1.size), blk_below h2 hb (blk_lt h2), h3, ?_⟩
  cases b0
  · exact h4
  · rw [if_pos rfl] at h4 ⊢
    refine ⟨h4.1, h4.2.1, map_of_blockR h4.2.2 (hb.block _ ?_)⟩
    obtain ⟨es, clock, hh, _⟩ := h4.2.2
    exact (Array.getElem?_eq_some_iff.1 hh).1
theorem RW.made {w0 : World} {B mb : Nat} {b2 b4 b7 b10 b13 b14 b15 : Bool} {W : World} (h : RW w0 B mb false b2 b4 b7 b10 b13 b14 b15 W) : b14 = false ∧ b15 = false ∧ RW w0 B W.heap.size true b2 b4 b7 b10 b13 b14 b15 (W.alloc (.map #[] 0)) := by
  obtain ⟨h1, h2, h3, h4⟩ := h
  rw [if_neg (by decide)] at h4
  obtain ⟨rfl, rfl, rfl, rfl, rfl, rfl, rfl⟩ := h4
  refine ⟨rfl, rfl, h1.alloc h1.size _, blk_alloc h2 _, h3, ?_⟩
  rw [if_pos rfl]
  exact ⟨h1.size, by have := blk_lt h2; omega, World.ownsMap_made W Tryd.prog 3 rawR⟩
theorem RW.put {w0 : World} {B mb : Nat} {b2 b4 b7 b10 b13 b14 b15 : Bool} {c2 c4 c7 c10 c13 : Bool} {W : World} (h : RW w0 B mb true b2 b4 b7 b10 b13 b14 b15 W) (k : Int) (v : Value) (h1 : -9223372036854775808 ≤ k) (h2 : k ≤ 9223372036854775807)
    (hD : (rlD b2 b4 b7 b10 b13).put (.int .i64 k) (.held v) = rlD c2 c4 c7 c10 c13) (hN : bN b2 + bN b4 + bN b7 + bN b10 + bN b13 + 1 = bN c2 + bN c4 + bN c7 + bN c10 + bN c13) :
    ∃ W', (Instr.mapUpdate 92 (.map (some mb)) (.int .i64 k) v).run Tryd.prog W = .ok () W' ∧ RW w0 B mb true c2 c4 c7 c10 c13 b14 b15 W' := by
  obtain ⟨g1, g2, g3, g4⟩ := h
  rw [if_pos rfl] at g4
  obtain ⟨g4, g5, g6⟩ := g4
  have hn : bN b2 + bN b4 + bN b7 + bN b10 + bN b13 < maxLen := by
    unfold maxLen bN; split <;> split <;> split <;> split <;> split <;> omega
  obtain ⟨W', hrun, r1, r2⟩ := g6.update lawI Tryd.underlying92 hn (keyI h1 h2) (val := v) (d := .held v) (ps := []) rfl
  refine ⟨W', hrun, g1.grown r2 g1.size (fun k e => by cases e; omega), (r2.block _ (blk_lt g2) (by simp; omega)).trans g2, g3, ?_⟩
  rw [if_pos rfl, ← hN, ← hD]
  exact ⟨g4, g5, r1⟩

theorem rules2_any (f : Nat) (w : World) :
    Calls Tryd.prog 77 #[.func (.func f) #[] #[]] w fun e w' => e = .returned (rulN f) ∧ Below w.heap.size w w' := by
  go_enter Tryd.func77, Tryd.ntmps77
  go_wp2
  go_returns
  refine ⟨rfl, ?_⟩
  go_grown

set_option maxRecDepth 100000 in
set_option maxHeartbeats 6400000 in
theorem rules_any (w : World) :
    Calls Tryd.prog 47 #[] w fun e w' => ∃ mb, e = .returned (.map (some mb)) ∧ w'.ownsMap Tryd.prog 3 rawR mb 5 rulesD ∧ Below w.heap.size w w' := by
  go_enter Tryd.func47, Tryd.ntmps47
  go_wp2
  refine wp_region_inv (by kernel_rfl) (RI w w.heap.size) ?h0 ?hd ?hs
  case h0 =>
    refine ⟨0, false, false, false, false, false, false, false, false, false, false, false, false, false, false, false, false, rfl, rfl, ?_, ?_, Nat.le_refl _, ?_⟩
    · exact ((Below.refl _ w).alloc (Nat.le_refl _) _).drew
    · exact blk_new w _
    · rw [if_neg (by decide)]; exact ⟨rfl, rfl, rfl, rfl, rfl, rfl, rfl⟩
  case hd =>
    rintro l a W ⟨mb, b0, b1, b2, b3, b4, b5, b6, b7, b8, b9, b10, b11, b12, b13, b14, b15, rfl, rfl, hW⟩ hr
    obtain rfl : b0 = true := by simpa [Region.binds, Array.getD] using List.filter_eq_nil_iff.1 hr 0 (by simp)
    obtain rfl : b1 = true := by simpa [Region.binds, Array.getD] using List.filter_eq_nil_iff.1 hr 1 (by simp)
    obtain rfl : b2 = true := by simpa [Region.binds, Array.getD] using List.filter_eq_nil_iff.1 hr 2 (by simp)
    obtain rfl : b3 = true := by simpa [Region.binds, Array.getD] using List.filter_eq_nil_iff.1 hr 3 (by simp)
    obtain rfl : b4 = true := by simpa [Region.binds, Array.getD] using List.filter_eq_nil_iff.1 hr 4 (by simp)
    obtain rfl : b5 = true := by simpa [Region.binds, Array.getD] using List.filter_eq_nil_iff.1 hr 5 (by simp)
    obtain rfl : b6 = true := by simpa [Region.binds, Array.getD] using List.filter_eq_nil_iff.1 hr 6 (by simp)
    obtain rfl : b7 = true := by simpa [Region.binds, Array.getD] using List.filter_eq_nil_iff.1 hr 7 (by simp)
    obtain rfl : b8 = true := by simpa [Region.binds, Array.getD] using List.filter_eq_nil_iff.1 hr 8 (by simp)
    obtain rfl : b9 = true := by simpa [Region.binds, Array.getD] using List.filter_eq_nil_iff.1 hr 9 (by simp)
    obtain rfl : b10 = true := by simpa [Region.binds, Array.getD] using List.filter_eq_nil_iff.1 hr 10 (by simp)
    obtain rfl : b11 = true := by simpa [Region.binds, Array.getD] using List.filter_eq_nil_iff.1 hr 11 (by simp)
    obtain rfl : b12 = true := by simpa [Region.binds, Array.getD] using List.filter_eq_nil_iff.1 hr 12 (by simp)
    obtain rfl : b13 = true := by simpa [Region.binds, Array.getD] using List.filter_eq_nil_iff.1 hr 13 (by simp)
    obtain rfl : b14 = true := by simpa [Region.binds, Array.getD] using List.filter_eq_nil_iff.1 hr 14 (by simp)
    obtain rfl : b15 = true := by simpa [Region.binds, Array.getD] using List.filter_eq_nil_iff.1 hr 15 (by simp)
    unfold iv
    go_wp2
    go_ret
    refine ⟨mb, rfl, ?_, hW.1⟩
    have h4 := hW.2.2.2
    rw [if_pos rfl] at h4
    exact h4.2.2
  case hs =>
    rintro l a W i ⟨mb, b0, b1, b2, b3, b4, b5, b6, b7, b8, b9, b10, b11, b12, b13, b14, b15, rfl, rfl, hW⟩ hi
    have hi1 := (List.mem_filter.1 hi).1
    have hi2 := (List.mem_filter.1 hi).2
    clear hi
    rw [List.mem_range] at hi1
    simp only [List.size_toArray, List.length_cons, List.length_nil] at hi1
    rcases (by omega : i = 0 ∨ i = 1 ∨ i = 2 ∨ i = 3 ∨ i = 4 ∨ i = 5 ∨ i = 6 ∨ i = 7 ∨ i = 8 ∨ i = 9 ∨ i = 10 ∨ i = 11 ∨ i = 12 ∨ i = 13 ∨ i = 14 ∨ i = 15) with rfl | rfl | rfl | rfl | rfl | rfl | rfl | rfl | rfl | rfl | rfl | rfl | rfl | rfl | rfl | rfl
    · simp [Region.binds, Array.getD] at hi2
      obtain rfl := hi2
      refine wpOp_step rfl (fun K hK => ?_)
      obtain ⟨rfl, rfl, hW2⟩ := hW.made
      unfold iv
      go_simp
      exact hK _ _ ⟨_, true, b1, b2, b3, b4, b5, b6, b7, b8, b9, b10, b11, b12, b13, false, false, rfl, rfl, hW2⟩
    · simp [Region.binds, Array.getD] at hi2
      obtain rfl := hi2
      refine wpOp_step rfl (fun K hK => ?_)
      obtain ⟨e1, -⟩ := blk_cell (k := 0) hW.2.1 rfl
      obtain ⟨e2, -⟩ := blk_cell (k := 1) hW.2.1 rfl
      obtain ⟨e3, -⟩ := blk_cell (k := 2) hW.2.1 rfl
      simp only [List.getElem_toArray, List.getElem_cons_zero, List.getElem_cons_succ] at e1 e2 e3
      unfold iv
      go_simp
      exact hK _ _ ⟨mb, b0, true, b2, b3, b4, b5, b6, b7, b8, b9, b10, b11, b12, b13, b14, b15, rfl, rfl, hW⟩
    · simp [Region.binds, Array.getD] at hi2
      obtain ⟨rfl, rfl, rfl⟩ := hi2
      refine wpOp_step rfl (fun K hK => ?_)
      obtain ⟨W2, hrun, hW2⟩ := hW.put (c2 := true) (c4 := b4) (c7 := b7) (c10 := b10) (c13 := b13) 1 rulE (by omega) (by omega) (by cases b4 <;> cases b7 <;> cases b10 <;> cases b13 <;> rfl) (by simp [bN]; try omega)
      unfold iv
      go_simp
      exact hK _ _ ⟨mb, true, true, true, b3, b4, b5, b6, b7, b8, b9, b10, b11, b12, b13, b14, b15, rfl, rfl, hW2⟩
    · simp [Region.binds, Array.getD] at hi2
      obtain rfl := hi2
      refine wpOp_step rfl (fun K hK => ?_)
      obtain ⟨e1, -⟩ := blk_cell (k := 0) hW.2.1 rfl
      obtain ⟨e2, -⟩ := blk_cell (k := 1) hW.2.1 rfl
      obtain ⟨e3, -⟩ := blk_cell (k := 2) hW.2.1 rfl
      simp only [List.getElem_toArray, List.getElem_cons_zero, List.getElem_cons_succ] at e1 e2 e3
      unfold iv
      go_simp
      exact hK _ _ ⟨mb, b0, b1, b2, true, b4, b5, b6, b7, b8, b9, b10, b11, b12, b13, b14, b15, rfl, rfl, hW⟩
    · simp [Region.binds, Array.getD] at hi2
      obtain ⟨rfl, rfl, rfl⟩ := hi2
      refine wpOp_step rfl (fun K hK => ?_)
      obtain ⟨W2, hrun, hW2⟩ := hW.put (c2 := b2) (c4 := true) (c7 := b7) (c10 := b10) (c13 := b13) 2 rulE (by omega) (by omega) (by cases b2 <;> cases b7 <;> cases b10 <;> cases b13 <;> rfl) (by simp [bN]; try omega)
      unfold iv
      go_simp
      exact hK _ _ ⟨mb, true, b1, b2, true, true, b5, b6, b7, b8, b9, b10, b11, b12, b13, b14, b15, rfl, rfl, hW2⟩
    · simp [Region.binds, Array.getD] at hi2
      obtain rfl := hi2
      refine wpOp_step rfl (fun K hK => ?_)
      unfold iv
      go_simp
      exact hK _ _ ⟨mb, b0, b1, b2, b3, b4, true, b6, b7, b8, b9, b10, b11, b12, b13, b14, b15, rfl, rfl, hW⟩
    · simp [Region.binds, Array.getD] at hi2
      obtain ⟨rfl, rfl⟩ := hi2
      refine wpOp_step rfl (fun K hK => ?_)
      unfold iv
      go_simp
      refine (rules2_any _ _).mono ?_
      rintro e W2 ⟨rfl, hb2⟩
      exact hK _ _ ⟨mb, b0, b1, b2, b3, b4, true, true, b7, b8, b9, b10, b11, b12, b13, b14, b15, rfl, rfl, (hW.below hb2)⟩
    · simp [Region.binds, Array.getD] at hi2
      obtain ⟨rfl, rfl, rfl⟩ := hi2
      refine wpOp_step rfl (fun K hK => ?_)
      obtain ⟨W2, hrun, hW2⟩ := hW.put (c2 := b2) (c4 := b4) (c7 := true) (c10 := b10) (c13 := b13) 3 rul3 (by omega) (by omega) (by cases b2 <;> cases b4 <;> cases b10 <;> cases b13 <;> rfl) (by simp [bN]; try omega)
      unfold iv
      go_simp
      exact hK _ _ ⟨mb, true, b1, b2, b3, b4, b5, true, true, b8, b9, b10, b11, b12, b13, b14, b15, rfl, rfl, hW2⟩
    · simp [Region.binds, Array.getD] at hi2
      obtain rfl := hi2
      refine wpOp_step rfl (fun K hK => ?_)
      unfold iv
      go_simp
      exact hK _ _ ⟨mb, b0, b1, b2, b3, b4, b5, b6, b7, true, b9, b10, b11, b12, b13, b14, b15, rfl, rfl, hW⟩
    · simp [Region.binds, Array.getD] at hi2
      obtain ⟨rfl, rfl, rfl⟩ := hi2
      refine wpOp_step rfl (fun K hK => ?_)
      unfold iv
      go_simp
      refine (rules2_any _ _).mono ?_
      rintro e W2 ⟨rfl, hb2⟩
      exact hK _ _ ⟨mb, b0, b1, b2, b3, b4, b5, true, b7, true, true, b10, b11, b12, b13, b14, b15, rfl, rfl, (hW.below hb2)⟩
    · simp [Region.binds, Array.getD] at hi2
      obtain ⟨rfl, rfl, rfl⟩ := hi2
      refine wpOp_step rfl (fun K hK => ?_)
      obtain ⟨W2, hrun, hW2⟩ := hW.put (c2 := b2) (c4 := b4) (c7 := b7) (c10 := true) (c13 := b13) 4 rul4 (by omega) (by omega) (by cases b2 <;> cases b4 <;> cases b7 <;> cases b13 <;> rfl) (by simp [bN]; try omega)
      unfold iv
      go_simp
      exact hK _ _ ⟨mb, true, b1, b2, b3, b4, b5, b6, b7, b8, true, true, b11, b12, b13, b14, b15, rfl, rfl, hW2⟩
    · simp [Region.binds, Array.getD] at hi2
      obtain rfl := hi2
      refine wpOp_step rfl (fun K hK => ?_)
      unfold iv
      go_simp
      exact hK _ _ ⟨mb, b0, b1, b2, b3, b4, b5, b6, b7, b8, b9, b10, true, b12, b13, b14, b15, rfl, rfl, hW⟩
    · simp [Region.binds, Array.getD] at hi2
      obtain ⟨rfl, rfl, rfl⟩ := hi2
      refine wpOp_step rfl (fun K hK => ?_)
      unfold iv
      go_simp
      refine (rules2_any _ _).mono ?_
      rintro e W2 ⟨rfl, hb2⟩
      exact hK _ _ ⟨mb, b0, b1, b2, b3, b4, b5, b6, b7, b8, true, b10, true, true, b13, b14, b15, rfl, rfl, (hW.below hb2)⟩
    · simp [Region.binds, Array.getD] at hi2
      obtain ⟨rfl, rfl, rfl⟩ := hi2
      refine wpOp_step rfl (fun K hK => ?_)
      obtain ⟨W2, hrun, hW2⟩ := hW.put (c2 := b2) (c4 := b4) (c7 := b7) (c10 := b10) (c13 := true) 5 rul5 (by omega) (by omega) (by cases b2 <;> cases b4 <;> cases b7 <;> cases b10 <;> rfl) (by simp [bN]; try omega)
      unfold iv
      go_simp
      exact hK _ _ ⟨mb, true, b1, b2, b3, b4, b5, b6, b7, b8, b9, b10, b11, true, true, b14, b15, rfl, rfl, hW2⟩
    · simp [Region.binds, Array.getD] at hi2
      obtain ⟨rfl, rfl, rfl, rfl, rfl, rfl, rfl, rfl, rfl, rfl, rfl, rfl, rfl, rfl, rfl⟩ := hi2
      refine wpOp_step rfl (fun K hK => ?_)
      unfold iv
      go_simp
      exact hK _ _ ⟨mb, true, true, true, true, true, true, true, true, true, true, true, true, true, true, true, b15, rfl, rfl, hW⟩
    · simp [Region.binds, Array.getD] at hi2
      obtain ⟨rfl, rfl, rfl, rfl, rfl, rfl, rfl, rfl, rfl, rfl, rfl, rfl, rfl, rfl, rfl, -, rfl, -⟩ := hi2
      refine wpOp_step rfl (fun K hK => ?_)
      unfold iv
      go_simp
      exact hK _ _ ⟨mb, true, true, true, true, true, true, true, true, true, true, true, true, true, true, true, true, rfl, rfl, hW⟩
end
section
attribute [local go_sem] Oper.semAt_some
open Go.RowKit Go.Maps
set_option linter.unusedVariables false

theorem rules1_any (c n : Int) (w : World) :
    Calls Tryd.prog 76 #[.int .i64 c, .int .i64 n] w fun e w' => e = .returned (.bool (decide (c = 0 ∧ 0 ≤ n ∧ n ≤ 4294967295))) ∧ w = w' := by
  go_enter Tryd.func76, Tryd.ntmps76
  go_wp2_with (go_at_call 57; refine (within_any _ _ _ _).mono ?_; rintro e w2 ⟨rfl, rfl⟩)
  all_goals go_ret
  all_goals refine ⟨ret_bool ?_, rfl⟩
  all_goals (rw [Bool.eq_iff_iff, decide_eq_true_iff]; simp [*])
theorem rules3_any (c n : Int) (w : World) :
    Calls Tryd.prog 78 #[.int .i64 c, .int .i64 n] w fun e w' => e = .returned (.bool (decide (1 ≤ c ∧ c ≤ 4 ∧ n = 0))) ∧ w = w' := by
  go_enter Tryd.func78, Tryd.ntmps78
  go_wp2_with (go_at_call 57; refine (within_any _ _ _ _).mono ?_; rintro e w2 ⟨rfl, rfl⟩)
  all_goals go_ret
  all_goals refine ⟨ret_bool ?_, rfl⟩
  all_goals (rw [Bool.eq_iff_iff, decide_eq_true_iff]; simp <;> omega)
theorem rules4_any (c n : Int) (w : World) :
    Calls Tryd.prog 79 #[.int .i64 c, .int .i64 n] w fun e w' => e = .returned (.bool (decide (1 ≤ c ∧ c ≤ 2 ∧ n = 0))) ∧ w = w' := by
  go_enter Tryd.func79, Tryd.ntmps79
  go_wp2_with (go_at_call 57; refine (within_any _ _ _ _).mono ?_; rintro e w2 ⟨rfl, rfl⟩)
  all_goals go_ret
  all_goals refine ⟨ret_bool ?_, rfl⟩
  all_goals (rw [Bool.eq_iff_iff, decide_eq_true_iff]; simp <;> omega)
theorem rules5_any (c n : Int) (w : World) :
    Calls Tryd.prog 80 #[.int .i64 c, .int .i64 n] w fun e w' => e = .returned (.bool (decide (c = 0 ∧ 68 ≤ n ∧ n ≤ 1024))) ∧ w = w' := by
  go_enter Tryd.func80, Tryd.ntmps80
  go_wp2_with (go_at_call 57; refine (within_any _ _ _ _).mono ?_; rintro e w2 ⟨rfl, rfl⟩)
  all_goals go_ret
  all_goals refine ⟨ret_bool ?_, rfl⟩
  all_goals (rw [Bool.eq_iff_iff, decide_eq_true_iff]; simp [*])

abbrev rulZ : Value := .agg #[.nilFunc, .int .i64 0, .bool false]
def ruleOf (k : Int) : Value := if k = 1 ∨ k = 2 then rulE else if k = 3 then rul3 else if k = 4 then rul4 else if k = 5 then rul5 else rulZ
theorem zeroRule (w : World) : (zeroValue 90).run Tryd.prog w = .ok rulZ w := by kernel_rfl
theorem rl_at (k : Int) : rulesD.atKey (.int .i64 k) (.held rulZ) = .held (ruleOf k) := by
  unfold ruleOf rulesD rlD
  simp only [DataW.atKey, if_true, List.cons_append, List.nil_append, List.find?_cons, Lit.sameKey]
  by_cases h1 : k = 1
  · subst h1; rfl
  by_cases h2 : k = 2
  · subst h2; rfl
  by_cases h3 : k = 3
  · subst h3; rfl
  by_cases h4 : k = 4
  · subst h4; rfl
  by_cases h5 : k = 5
  · subst h5; rfl
  have e : ∀ j : Int, k ≠ j → decide (j = k) = false := fun j hj => decide_eq_false (fun h => hj h.symm)
  simp [h1, h2, h3, h4, h5]
  simp only [e 1 h1, e 2 h2, e 3 h3, e 4 h4, e 5 h5]
theorem rl_has (k : Int) : Maps.has rulesD (.int .i64 k) = decide (1 ≤ k ∧ k ≤ 5) := by
  unfold rulesD rlD
  simp only [if_true, List.cons_append, List.nil_append]
  by_cases h1 : k = 1
  · subst h1; rfl
  by_cases h2 : k = 2
  · subst h2; rfl
  by_cases h3 : k = 3
  · subst h3; rfl
  by_cases h4 : k = 4
  · subst h4; rfl
  by_cases h5 : k = 5
  · subst h5; rfl
  rw [decide_eq_false (by omega)]
  simp only [Maps.has, Lit.sameKey, List.any_cons, List.any_nil]
  simp
  omega
theorem rl_look {w : World} {mb : Nat} (h : w.ownsMap Tryd.prog 3 rawR mb 5 rulesD) (k : Int) (h1 : -9223372036854775808 ≤ k) (h2 : k ≤ 9223372036854775807) :
    (Instr.lookup 92 (.map (some mb)) (.int .i64 k) true).run Tryd.prog w = .ok (.tuple #[ruleOf k, .bool (decide (1 ≤ k ∧ k ≤ 5))]) w ∧
    (Instr.lookup 92 (.map (some mb)) (.int .i64 k) false).run Tryd.prog w = .ok (ruleOf k) w := by
  constructor
  · obtain ⟨v, ps, hrun, hv⟩ := h.look_ok lawI Tryd.underlying92 (zeroRule w) (zd := .held rulZ) (zp := []) rfl (keyI h1 h2)
    rw [rl_at] at hv
    simp only [rawR, Option.some.injEq, Prod.mk.injEq, DataW.held.injEq] at hv
    rw [hrun, hv.1, rl_has]
  · obtain ⟨v, ps, hrun, hv⟩ := h.lookup lawI Tryd.underlying92 (zeroRule w) (zd := .held rulZ) (zp := []) rfl (keyI h1 h2)
    rw [rl_at] at hv
    simp only [rawR, Option.some.injEq, Prod.mk.injEq, DataW.held.injEq] at hv
    rw [hrun, hv.1]
theorem kinds (k : Int) : k = 1 ∨ k = 2 ∨ k = 3 ∨ k = 4 ∨ k = 5 ∨ (k ≠ 1 ∧ k ≠ 2 ∧ k ≠ 3 ∧ k ≠ 4 ∧ k ≠ 5) := by omega
def b64i (a : Int) : Prop := -9223372036854775808 ≤ a ∧ a ≤ 9223372036854775807
theorem ruleOf_1 : ruleOf 1 = rulE := rfl
theorem ruleOf_2 : ruleOf 2 = rulE := rfl
theorem ruleOf_3 : ruleOf 3 = rul3 := rfl
theorem ruleOf_4 : ruleOf 4 = rul4 := rfl
theorem ruleOf_5 : ruleOf 5 = rul5 := rfl
theorem ruleOf_n {k : Int} (h : k ≠ 1 ∧ k ≠ 2 ∧ k ≠ 3 ∧ k ≠ 4 ∧ k ≠ 5) : ruleOf k = rulZ := by
  unfold ruleOf
  rw [if_neg (by omega), if_neg h.2.2.1, if_neg h.2.2.2.1, if_neg h.2.2.2.2]
end
end Go.Proofs.YtidjbpglpobigaaDoor
