/- Contract of icmp.Valid. -/
import Derived.Test.YtidjbpglpobigaaDoorImR
namespace Go.Proofs.YtidjbpglpobigaaDoor
open Go.RowKit Go.Maps
set_option linter.unusedVariables false
attribute [local go_sem] Oper.semAt_some

abbrev rulO (fv : Value) (room : Int) (e : Bool) : Obj := .cells #[fv, .int .i64 room, .bool e] 90
def VW (w0 : World) (m : Ms) (fv : Value) (room : Int) (e : Bool) (M mb r : Nat) (b0 b7 b8 : Bool) (W : World) : Prop :=
  Below w0.heap.size w0 W ∧ W.heap[M]? = some (mo m) ∧ w0.heap.size ≤ M ∧ (b0 = true → W.ownsMap Tryd.prog 3 rawR mb 5 rulesD) ∧
    (if b7 then W.heap[r]? = some (if b8 then rulO fv room e else rulO .nilFunc 0 false) ∧ w0.heap.size ≤ r ∧ r ≠ M else b8 = false)
theorem VW.below {w0 : World} {m : Ms} {fv : Value} {room : Int} {e : Bool} {M mb r : Nat} {b0 b7 b8 : Bool} {W W' : World} (h : VW w0 m fv room e M mb r b0 b7 b8 W) (hb : Below W.heap.size W W') : VW w0 m fv room e M mb r b0 b7 b8 W' := by
  obtain ⟨h1, h2, h3, h4, h5⟩ := h
  refine ⟨h1.trans (hb.mono h1.size), blk_below h2 hb (blk_lt h2), h3, fun e0 => ?_, ?_⟩
  · refine map_of_blockR (h4 e0) (hb.block _ ?_)
    obtain ⟨es, clock, hh, _⟩ := h4 e0
    exact (Array.getElem?_eq_some_iff.1 hh).1
  · cases b7
    · exact h5
    · rw [if_pos rfl] at h5 ⊢
      exact ⟨blk_below h5.1 hb (blk_lt h5.1), h5.2⟩
theorem VW.call {w0 : World} {m : Ms} {fv : Value} {room : Int} {e : Bool} {M mb mb' r : Nat} {b7 b8 : Bool} {W W' : World} (h : VW w0 m fv room e M mb r false b7 b8 W) (hb : Below W.heap.size W W') (ho : W'.ownsMap Tryd.prog 3 rawR mb' 5 rulesD) : VW w0 m fv room e M mb' r true b7 b8 W' := by
  obtain ⟨h1, h2, h3, h4, h5⟩ := VW.below h hb
  exact ⟨h1, h2, h3, fun _ => ho, h5⟩
theorem VW.made {w0 : World} {m : Ms} {fv : Value} {room : Int} {e : Bool} {M mb r : Nat} {b0 b8 : Bool} {W : World} (h : VW w0 m fv room e M mb r b0 false b8 W) : VW w0 m fv room e M mb W.heap.size b0 true b8 (W.alloc (rulO .nilFunc 0 false)) := by
  have h8 : b8 = false := h.2.2.2.2
  subst h8
  obtain ⟨h1, h2, h3, h4, h5⟩ := VW.below h ((Below.refl _ W).alloc (Nat.le_refl _) (rulO .nilFunc 0 false))
  refine ⟨h1, h2, h3, h4, ?_⟩
  rw [if_pos rfl]
  exact ⟨blk_new W _, h.1.size, by have := blk_lt h.2.1; omega⟩
theorem VW.set {w0 : World} {m : Ms} {fv : Value} {room : Int} {e : Bool} {M mb r : Nat} {b0 : Bool} {W : World} (h : VW w0 m fv room e M mb r b0 true false W) :
    VW w0 m fv room e M mb r b0 true true (((W.setCell ⟨r, 0, none⟩ fv).setCell ⟨r, 1, none⟩ (.int .i64 room)).setCell ⟨r, 2, none⟩ (.bool e)) := by
  obtain ⟨h1, h2, h3, h4, h5⟩ := h
  rw [if_pos rfl] at h5
  obtain ⟨h5, h6, h7⟩ := h5
  have hz := blk_setc (k := 2) (blk_setc (k := 1) (blk_setc (k := 0) h5 fv) (.int .i64 room)) (.bool e)
  refine ⟨((h1.setCell (p := ⟨r, 0, none⟩) h6 _).setCell (p := ⟨r, 1, none⟩) h6 _).setCell (p := ⟨r, 2, none⟩) h6 _, blk_set (blk_set (blk_set h2 ⟨r, 0, none⟩ h7 _) ⟨r, 1, none⟩ h7 _) ⟨r, 2, none⟩ h7 _, h3, fun e0 => ?_, ?_⟩
  · have hr : r ≠ mb := by
      rintro rfl
      obtain ⟨es, clock, hh, _⟩ := h4 e0
      rw [h5] at hh; cases hh
    exact (((h4 e0).setCell (a := ⟨r, 0, none⟩) (fun e => hr e.symm) _).setCell (a := ⟨r, 1, none⟩) (fun e => hr e.symm) _).setCell (a := ⟨r, 2, none⟩) (fun e => hr e.symm) _
  · rw [if_pos rfl]
    exact ⟨hz, h6, h7⟩
def VIs (fv : Value) (k : Int) (room : Int) (e : Bool) : Prop := ruleOf k = .agg #[fv, .int .i64 room, .bool e]

def VIg (w0 : World) (m : Ms) (f : Nat) (room : Int) (e : Bool) (M : Nat) (l : Array Bool) (a : Act) (W : World) : Prop := ∃ (mb r : Nat) (b0 b1 b2 b3 b4 b5 b6 b7 b8 b9 : Bool), l = #[b0, b1, b2, b3, b4, b5, b6, b7, b8, b9] ∧
  a = { tmps := #[mv m, .pointer (some ⟨M, 0, none⟩), .bool false, iv b7 (.pointer (some ⟨r, 0, none⟩)), iv b9 ((.bool true)), iv b4 (.tuple #[.agg #[(.func (.func f) #[] #[]), .int .i64 room, .bool e], (.bool true)]), iv b0 (.map (some mb)), iv b1 (.pointer (some ⟨M, 0, none⟩)), iv b2 (.int .i64 m.k), iv b3 (.tuple #[.agg #[(.func (.func f) #[] #[]), .int .i64 room, .bool e], (.bool true)]), iv b5 (.agg #[(.func (.func f) #[] #[]), .int .i64 room, .bool e]), iv b6 ((.bool true)), undef, undef, undef, undef, undef, undef, undef, undef, undef, undef, undef, undef, undef, undef, undef, undef, undef, undef], defers := [] } ∧ VW w0 m (.func (.func f) #[] #[]) room e M mb r b0 b7 b8 W

set_option maxRecDepth 100000 in
set_option maxHeartbeats 6400000 in
theorem mvalid_go (m : Ms) (hk : b64i m.k) (hs : m.s.size ≤ maxLen) (f : Nat) (room : Int) (e : Bool) (hr : ruleOf m.k = .agg #[(.func (.func f) #[] #[]), .int .i64 room, .bool e]) (hk5 : 1 ≤ m.k ∧ m.k ≤ 5) (hf : ∀ args w, (callFunc f args).run Tryd.prog w = .ok (.enter f args) w) (B : Bool) (hc : ∀ w, Calls Tryd.prog f #[.int .i64 m.c, .int .i64 m.n] w fun e9 w2 => e9 = .returned (.bool B) ∧ w = w2) (w : World) :
    Calls Tryd.prog 20 #[mv m] w fun e9 w' => e9 = .returned (.bool (B && decide ((m.s.size : Int) ≤ room))) ∧ Below w.heap.size w w' := by
  obtain ⟨hk1, hk2⟩ := hk
  unfold maxLen at hs
  have HK5 := Lib.hid (show decide (1 ≤ m.k ∧ m.k ≤ 5) = true from decide_eq_true hk5)
  clear hk5
  go_enter Tryd.func20, Tryd.ntmps20
  go_wp2_with fail
  refine wp_region_inv (by kernel_rfl) (VIg w m f room e w.heap.size) ?h0 ?hd ?hs
  case h0 =>
    refine ⟨0, 0, false, false, false, false, false, false, false, false, false, false, rfl, rfl, ?_, ?_, Nat.le_refl _, (fun h => by cases h), ?_⟩
    · exact ((Below.refl _ w).alloc (Nat.le_refl _) _).drew
    · exact blk_new w _
    · rw [if_neg (by decide)]
  case hd =>
    rintro l a W ⟨mb, r, b0, b1, b2, b3, b4, b5, b6, b7, b8, b9, rfl, rfl, hW⟩ hr9
    obtain rfl : b0 = true := by simpa [Region.binds, Array.getD] using List.filter_eq_nil_iff.1 hr9 0 (by simp)
    obtain rfl : b1 = true := by simpa [Region.binds, Array.getD] using List.filter_eq_nil_iff.1 hr9 1 (by simp)
    obtain rfl : b2 = true := by simpa [Region.binds, Array.getD] using List.filter_eq_nil_iff.1 hr9 2 (by simp)
    obtain rfl : b3 = true := by simpa [Region.binds, Array.getD] using List.filter_eq_nil_iff.1 hr9 3 (by simp)
    obtain rfl : b4 = true := by simpa [Region.binds, Array.getD] using List.filter_eq_nil_iff.1 hr9 4 (by simp)
    obtain rfl : b5 = true := by simpa [Region.binds, Array.getD] using List.filter_eq_nil_iff.1 hr9 5 (by simp)
    obtain rfl : b6 = true := by simpa [Region.binds, Array.getD] using List.filter_eq_nil_iff.1 hr9 6 (by simp)
    obtain rfl : b7 = true := by simpa [Region.binds, Array.getD] using List.filter_eq_nil_iff.1 hr9 7 (by simp)
    obtain rfl : b8 = true := by simpa [Region.binds, Array.getD] using List.filter_eq_nil_iff.1 hr9 8 (by simp)
    obtain rfl : b9 = true := by simpa [Region.binds, Array.getD] using List.filter_eq_nil_iff.1 hr9 9 (by simp)
    unfold iv
    clear hr9
    have hB := hW.1
    obtain ⟨s1, -⟩ := blk_cell (k := 1) hW.2.1 rfl
    obtain ⟨s2, -⟩ := blk_cell (k := 2) hW.2.1 rfl
    obtain ⟨s3, -⟩ := blk_cell (k := 3) hW.2.1 rfl
    have h5 := hW.2.2.2.2
    rw [if_pos rfl] at h5
    obtain ⟨g0, -⟩ := blk_cell (k := 0) h5.1 rfl
    obtain ⟨g1, -⟩ := blk_cell (k := 1) h5.1 rfl
    simp only [List.getElem_toArray, List.getElem_cons_zero, List.getElem_cons_succ] at s1 s2 s3 g0 g1
    clear h5 hW
    cases B
    all_goals go_wp2_with (first | (refine (hc _).mono ?_; rintro e9 w2 ⟨rfl, rfl⟩))
    all_goals go_ret
    all_goals exact ⟨ret_bool (by simp), hB⟩
  case hs =>
    rintro l a W i ⟨mb, r, b0, b1, b2, b3, b4, b5, b6, b7, b8, b9, rfl, rfl, hW⟩ hi
    have hi1 := (List.mem_filter.1 hi).1
    have hi2 := (List.mem_filter.1 hi).2
    clear hi
    rw [List.mem_range] at hi1
    simp only [List.size_toArray, List.length_cons, List.length_nil] at hi1
    rcases (by omega : i = 0 ∨ i = 1 ∨ i = 2 ∨ i = 3 ∨ i = 4 ∨ i = 5 ∨ i = 6 ∨ i = 7 ∨ i = 8 ∨ i = 9) with rfl | rfl | rfl | rfl | rfl | rfl | rfl | rfl | rfl | rfl
    · simp [Region.binds, Array.getD] at hi2
      obtain rfl := hi2
      refine wpOp_step rfl (fun K hK => ?_)
      unfold iv
      go_simp
      refine (rules_any _).mono ?_
      rintro e9 W2 ⟨mb2, rfl, hown, hb2⟩
      exact hK _ _ ⟨mb2, r, true, b1, b2, b3, b4, b5, b6, b7, b8, b9, rfl, rfl, (hW.call hb2 hown)⟩
    · simp [Region.binds, Array.getD] at hi2
      obtain rfl := hi2
      refine wpOp_step rfl (fun K hK => ?_)
      unfold iv
      go_simp
      exact hK _ _ ⟨mb, r, b0, true, b2, b3, b4, b5, b6, b7, b8, b9, rfl, rfl, hW⟩
    · simp [Region.binds, Array.getD] at hi2
      obtain ⟨rfl, rfl⟩ := hi2
      refine wpOp_step rfl (fun K hK => ?_)
      obtain ⟨e1, -⟩ := blk_cell (k := 0) hW.2.1 rfl
      simp only [List.getElem_toArray, List.getElem_cons_zero] at e1
      unfold iv
      go_simp
      exact hK _ _ ⟨mb, r, b0, true, true, b3, b4, b5, b6, b7, b8, b9, rfl, rfl, hW⟩
    · simp [Region.binds, Array.getD] at hi2
      obtain ⟨rfl, rfl, rfl⟩ := hi2
      refine wpOp_step rfl (fun K hK => ?_)
      have hl := (rl_look (hW.2.2.2.1 rfl) m.k hk1 hk2).1
      rw [hr, HK5.out] at hl
      unfold iv
      go_simp
      exact hK _ _ ⟨mb, r, true, b1, true, true, b4, b5, b6, b7, b8, b9, rfl, rfl, hW⟩
    · simp [Region.binds, Array.getD] at hi2
      obtain ⟨rfl, rfl⟩ := hi2
      refine wpOp_step rfl (fun K hK => ?_)
      unfold iv
      go_simp
      exact hK _ _ ⟨mb, r, b0, b1, b2, true, true, b5, b6, b7, b8, b9, rfl, rfl, hW⟩
    · simp [Region.binds, Array.getD] at hi2
      obtain ⟨rfl, rfl⟩ := hi2
      refine wpOp_step rfl (fun K hK => ?_)
      unfold iv
      go_simp
      exact hK _ _ ⟨mb, r, b0, b1, b2, b3, true, true, b6, b7, b8, b9, rfl, rfl, hW⟩
    · simp [Region.binds, Array.getD] at hi2
      obtain ⟨rfl, rfl⟩ := hi2
      refine wpOp_step rfl (fun K hK => ?_)
      unfold iv
      go_simp
      exact hK _ _ ⟨mb, r, b0, b1, b2, b3, true, b5, true, b7, b8, b9, rfl, rfl, hW⟩
    · simp [Region.binds, Array.getD] at hi2
      obtain rfl := hi2
      refine wpOp_step rfl (fun K hK => ?_)
      unfold iv
      go_simp
      exact hK _ _ ⟨mb, _, b0, b1, b2, b3, b4, b5, b6, true, b8, b9, rfl, rfl, hW.made⟩
    · simp [Region.binds, Array.getD] at hi2
      repeat (first | (obtain ⟨rfl, hi2⟩ := hi2) | (obtain ⟨-, hi2⟩ := hi2))
      (first | subst hi2 | skip)
      refine wpOp_step rfl (fun K hK => ?_)
      have h5 := hW.2.2.2.2
      rw [if_pos rfl] at h5
      obtain ⟨g0, f0⟩ := blk_cell (k := 0) h5.1 rfl
      obtain ⟨g1, f1⟩ := blk_cell (k := 1) h5.1 rfl
      obtain ⟨g2, f2⟩ := blk_cell (k := 2) h5.1 rfl
      simp only [List.getElem_toArray, List.getElem_cons_zero, List.getElem_cons_succ] at g0 g1 g2
      clear h5
      unfold iv
      go_simp
      exact hK _ _ ⟨mb, r, true, true, true, true, true, true, b6, true, true, b9, rfl, rfl, hW.set⟩
    · simp [Region.binds, Array.getD] at hi2
      repeat (first | (obtain ⟨rfl, hi2⟩ := hi2) | (obtain ⟨-, hi2⟩ := hi2))
      (first | subst hi2 | skip)
      refine wpOp_step rfl (fun K hK => ?_)
      unfold iv
      go_simp
      exact hK _ _ ⟨mb, r, true, true, true, true, true, true, true, true, true, true, rfl, rfl, hW⟩

def VIu (w0 : World) (m : Ms) (room : Int) (e : Bool) (M : Nat) (l : Array Bool) (a : Act) (W : World) : Prop := ∃ (mb r : Nat) (b0 b1 b2 b3 b4 b5 b6 b7 b8 b9 : Bool), l = #[b0, b1, b2, b3, b4, b5, b6, b7, b8, b9] ∧
  a = { tmps := #[mv m, .pointer (some ⟨M, 0, none⟩), .bool false, iv b7 (.pointer (some ⟨r, 0, none⟩)), iv b9 ((.bool false)), iv b4 (.tuple #[.agg #[.nilFunc, .int .i64 room, .bool e], (.bool false)]), iv b0 (.map (some mb)), iv b1 (.pointer (some ⟨M, 0, none⟩)), iv b2 (.int .i64 m.k), iv b3 (.tuple #[.agg #[.nilFunc, .int .i64 room, .bool e], (.bool false)]), iv b5 (.agg #[.nilFunc, .int .i64 room, .bool e]), iv b6 ((.bool false)), undef, undef, undef, undef, undef, undef, undef, undef, undef, undef, undef, undef, undef, undef, undef, undef, undef, undef], defers := [] } ∧ VW w0 m .nilFunc room e M mb r b0 b7 b8 W

set_option maxRecDepth 100000 in
set_option maxHeartbeats 6400000 in
theorem mvalid_un (m : Ms) (hk : b64i m.k) (hs : m.s.size ≤ maxLen) (room : Int) (e : Bool) (hr : ruleOf m.k = .agg #[.nilFunc, .int .i64 room, .bool e]) (hk5 : ¬ (1 ≤ m.k ∧ m.k ≤ 5)) (w : World) :
    Calls Tryd.prog 20 #[mv m] w fun e9 w' => e9 = .returned (.bool (false)) ∧ Below w.heap.size w w' := by
  obtain ⟨hk1, hk2⟩ := hk
  unfold maxLen at hs
  have HK5 := Lib.hid (show decide (1 ≤ m.k ∧ m.k ≤ 5) = false from decide_eq_false hk5)
  clear hk5
  go_enter Tryd.func20, Tryd.ntmps20
  go_wp2_with fail
  refine wp_region_inv (by kernel_rfl) (VIu w m room e w.heap.size) ?h0 ?hd ?hs
  case h0 =>
    refine ⟨0, 0, false, false, false, false, false, false, false, false, false, false, rfl, rfl, ?_, ?_, Nat.le_refl _, (fun h => by cases h), ?_⟩
    · exact ((Below.refl _ w).alloc (Nat.le_refl _) _).drew
    · exact blk_new w _
    · rw [if_neg (by decide)]
  case hd =>
    rintro l a W ⟨mb, r, b0, b1, b2, b3, b4, b5, b6, b7, b8, b9, rfl, rfl, hW⟩ hr9
    obtain rfl : b0 = true := by simpa [Region.binds, Array.getD] using List.filter_eq_nil_iff.1 hr9 0 (by simp)
    obtain rfl : b1 = true := by simpa [Region.binds, Array.getD] using List.filter_eq_nil_iff.1 hr9 1 (by simp)
    obtain rfl : b2 = true := by simpa [Region.binds, Array.getD] using List.filter_eq_nil_iff.1 hr9 2 (by simp)
    obtain rfl : b3 = true := by simpa [Region.binds, Array.getD] using List.filter_eq_nil_iff.1 hr9 3 (by simp)
    obtain rfl : b4 = true := by simpa [Region.binds, Array.getD] using List.filter_eq_nil_iff.1 hr9 4 (by simp)
    obtain rfl : b5 = true := by simpa [Region.binds, Array.getD] using List.filter_eq_nil_iff.1 hr9 5 (by simp)
    obtain rfl : b6 = true := by simpa [Region.binds, Array.getD] using List.filter_eq_nil_iff.1 hr9 6 (by simp)
    obtain rfl : b7 = true := by simpa [Region.binds, Array.getD] using List.filter_eq_nil_iff.1 hr9 7 (by simp)
    obtain rfl : b8 = true := by simpa [Region.binds, Array.getD] using List.filter_eq_nil_iff.1 hr9 8 (by simp)
    obtain rfl : b9 = true := by simpa [Region.binds, Array.getD] using List.filter_eq_nil_iff.1 hr9 9 (by simp)
    unfold iv
    clear hr9
    have hB := hW.1
    obtain ⟨s1, -⟩ := blk_cell (k := 1) hW.2.1 rfl
    obtain ⟨s2, -⟩ := blk_cell (k := 2) hW.2.1 rfl
    obtain ⟨s3, -⟩ := blk_cell (k := 3) hW.2.1 rfl
    have h5 := hW.2.2.2.2
    rw [if_pos rfl] at h5
    obtain ⟨g0, -⟩ := blk_cell (k := 0) h5.1 rfl
    obtain ⟨g1, -⟩ := blk_cell (k := 1) h5.1 rfl
    simp only [List.getElem_toArray, List.getElem_cons_zero, List.getElem_cons_succ] at s1 s2 s3 g0 g1
    clear h5 hW
    go_wp2
    go_ret
    exact ⟨rfl, hB⟩
  case hs =>
    rintro l a W i ⟨mb, r, b0, b1, b2, b3, b4, b5, b6, b7, b8, b9, rfl, rfl, hW⟩ hi
    have hi1 := (List.mem_filter.1 hi).1
    have hi2 := (List.mem_filter.1 hi).2
    clear hi
    rw [List.mem_range] at hi1
    simp only [List.size_toArray, List.length_cons, List.length_nil] at hi1
    rcases (by omega : i = 0 ∨ i = 1 ∨ i = 2 ∨ i = 3 ∨ i = 4 ∨ i = 5 ∨ i = 6 ∨ i = 7 ∨ i = 8 ∨ i = 9) with rfl | rfl | rfl | rfl | rfl | rfl | rfl | rfl | rfl | rfl
    · simp [Region.binds, Array.getD] at hi2
      obtain rfl := hi2
      refine wpOp_step rfl (fun K hK => ?_)
      unfold iv
      go_simp
      refine (rules_any _).mono ?_
      rintro e9 W2 ⟨mb2, rfl, hown, hb2⟩
      exact hK _ _ ⟨mb2, r, true, b1, b2, b3, b4, b5, b6, b7, b8, b9, rfl, rfl, (hW.call hb2 hown)⟩
    · simp [Region.binds, Array.getD] at hi2
      obtain rfl := hi2
      refine wpOp_step rfl (fun K hK => ?_)
      unfold iv
      go_simp
      exact hK _ _ ⟨mb, r, b0, true, b2, b3, b4, b5, b6, b7, b8, b9, rfl, rfl, hW⟩
    · simp [Region.binds, Array.getD] at hi2
      obtain ⟨rfl, rfl⟩ := hi2
      refine wpOp_step rfl (fun K hK => ?_)
      obtain ⟨e1, -⟩ := blk_cell (k := 0) hW.2.1 rfl
      simp only [List.getElem_toArray, List.getElem_cons_zero] at e1
      unfold iv
      go_simp
      exact hK _ _ ⟨mb, r, b0, true, true, b3, b4, b5, b6, b7, b8, b9, rfl, rfl, hW⟩
    · simp [Region.binds, Array.getD] at hi2
      obtain ⟨rfl, rfl, rfl⟩ := hi2
      refine wpOp_step rfl (fun K hK => ?_)
      have hl := (rl_look (hW.2.2.2.1 rfl) m.k hk1 hk2).1
      rw [hr, HK5.out] at hl
      unfold iv
      go_simp
      exact hK _ _ ⟨mb, r, true, b1, true, true, b4, b5, b6, b7, b8, b9, rfl, rfl, hW⟩
    · simp [Region.binds, Array.getD] at hi2
      obtain ⟨rfl, rfl⟩ := hi2
      refine wpOp_step rfl (fun K hK => ?_)
      unfold iv
      go_simp
      exact hK _ _ ⟨mb, r, b0, b1, b2, true, true, b5, b6, b7, b8, b9, rfl, rfl, hW⟩
    · simp [Region.binds, Array.getD] at hi2
      obtain ⟨rfl, rfl⟩ := hi2
      refine wpOp_step rfl (fun K hK => ?_)
      unfold iv
      go_simp
      exact hK _ _ ⟨mb, r, b0, b1, b2, b3, true, true, b6, b7, b8, b9, rfl, rfl, hW⟩
    · simp [Region.binds, Array.getD] at hi2
      obtain ⟨rfl, rfl⟩ := hi2
      refine wpOp_step rfl (fun K hK => ?_)
      unfold iv
      go_simp
      exact hK _ _ ⟨mb, r, b0, b1, b2, b3, true, b5, true, b7, b8, b9, rfl, rfl, hW⟩
    · simp [Region.binds, Array.getD] at hi2
      obtain rfl := hi2
      refine wpOp_step rfl (fun K hK => ?_)
      unfold iv
      go_simp
      exact hK _ _ ⟨mb, _, b0, b1, b2, b3, b4, b5, b6, true, b8, b9, rfl, rfl, hW.made⟩
    · simp [Region.binds, Array.getD] at hi2
      repeat (first | (obtain ⟨rfl, hi2⟩ := hi2) | (obtain ⟨-, hi2⟩ := hi2))
      (first | subst hi2 | skip)
      refine wpOp_step rfl (fun K hK => ?_)
      have h5 := hW.2.2.2.2
      rw [if_pos rfl] at h5
      obtain ⟨g0, f0⟩ := blk_cell (k := 0) h5.1 rfl
      obtain ⟨g1, f1⟩ := blk_cell (k := 1) h5.1 rfl
      obtain ⟨g2, f2⟩ := blk_cell (k := 2) h5.1 rfl
      simp only [List.getElem_toArray, List.getElem_cons_zero, List.getElem_cons_succ] at g0 g1 g2
      clear h5
      unfold iv
      go_simp
      exact hK _ _ ⟨mb, r, true, true, true, true, true, true, b6, true, true, b9, rfl, rfl, hW.set⟩
    · simp [Region.binds, Array.getD] at hi2
      repeat (first | (obtain ⟨rfl, hi2⟩ := hi2) | (obtain ⟨-, hi2⟩ := hi2))
      (first | subst hi2 | skip)
      refine wpOp_step rfl (fun K hK => ?_)
      unfold iv
      go_simp
      exact hK _ _ ⟨mb, r, true, true, true, true, true, true, true, true, true, true, rfl, rfl, hW⟩

theorem okM_bool (k c n : Int) (s : ByteArray) (p : Prop) [Decidable p] (room : Int) (h : numK k c n ↔ p) (hr : roomK k = room) : (decide p && decide ((s.size : Int) ≤ room)) = decide (okM ⟨k, c, n, s⟩) := by
  rw [Bool.eq_iff_iff, decide_eq_true_iff]
  unfold okM
  simp only [Bool.and_eq_true, decide_eq_true_eq, h, hr]
/-- icmp.Valid -/
theorem mvalid_any (m : Ms) (hk : b64i m.k) (hs : m.s.size ≤ maxLen) (w : World) :
    Calls Tryd.prog 20 #[mv m] w fun e w' => e = .returned (.bool (decide (okM m))) ∧ Below w.heap.size w w' := by
  obtain ⟨k, c, n, s⟩ := m
  simp only at hk hs
  obtain rfl | rfl | rfl | rfl | rfl | hn := kinds k
  · rw [← okM_bool 1 c n s (c = 0 ∧ 0 ≤ n ∧ n ≤ 4294967295) 500 (by unfold numK; omega) rfl]
    exact mvalid_go ⟨1, c, n, s⟩ hk hs 76 500 false rfl (by simp) (enters_of Tryd.func76 (by kernel_rfl) rfl) _ (fun w => rules1_any c n w) w
  · rw [← okM_bool 2 c n s (c = 0 ∧ 0 ≤ n ∧ n ≤ 4294967295) 500 (by unfold numK; omega) rfl]
    exact mvalid_go ⟨2, c, n, s⟩ hk hs 76 500 false rfl (by simp) (enters_of Tryd.func76 (by kernel_rfl) rfl) _ (fun w => rules1_any c n w) w
  · rw [← okM_bool 3 c n s (1 ≤ c ∧ c ≤ 4 ∧ n = 0) 28 (by unfold numK; omega) rfl]
    exact mvalid_go ⟨3, c, n, s⟩ hk hs 78 28 true rfl (by simp) (enters_of Tryd.func78 (by kernel_rfl) rfl) _ (fun w => rules3_any c n w) w
  · rw [← okM_bool 4 c n s (1 ≤ c ∧ c ≤ 2 ∧ n = 0) 28 (by unfold numK; omega) rfl]
    exact mvalid_go ⟨4, c, n, s⟩ hk hs 79 28 true rfl (by simp) (enters_of Tryd.func79 (by kernel_rfl) rfl) _ (fun w => rules4_any c n w) w
  · rw [← okM_bool 5 c n s (c = 0 ∧ 68 ≤ n ∧ n ≤ 1024) 28 (by unfold numK; omega) rfl]
    exact mvalid_go ⟨5, c, n, s⟩ hk hs 80 28 true rfl (by simp) (enters_of Tryd.func80 (by kernel_rfl) rfl) _ (fun w => rules5_any c n w) w
  · rw [show decide (okM ⟨k, c, n, s⟩) = false from decide_eq_false (by unfold okM numK; simp only; omega)]
    exact mvalid_un ⟨k, c, n, s⟩ hk hs 0 false (ruleOf_n hn) (by simp only; omega) w
end Go.Proofs.YtidjbpglpobigaaDoor
