/- Contract of the reader's frame. -/
import Derived.Test.YtgfldbllokbnaaaDoorLkHd
import Derived.BigRegion
namespace Go.Proofs.YtgfldbllokbnaaaDoor
open Go.RowKit Go.Shelf
attribute [local go_sem] Oper.semAt_some

/-- when a string is the encoding of a valid frame -/
def decC (s : ByteArray) : Prop := 7 ≤ s.size ∧ 7 + rdV s 5 2 = (s.size : Int) - 4 ∧ okF (rdV s 0 2) (rdV s 2 2) (rdV s 4 1) (s.size - 11) ∧ rdV s (s.size - 4) 4 = ((crcN (s.data.toList.take (s.size - 4)) : Nat) : Int)
instance (s : ByteArray) : Decidable (decC s) := by unfold decC; infer_instance

theorem Env.grown {w w' : World} {ea : Addr} {R : Nat} (E : Env w ea) (hg : w.grownBy w' (some R)) (h0 : R ≠ 0) : Env w' ea :=
  (World.cell?_of_block (hg.block _ (cell_lt E) (fun e => h0 (by cases e; rfl)))).trans E

abbrev set4 (W : World) (N : Nat) (a b c : Int) (s : ByteArray) : World := (((W.setCell ⟨N, 0, none⟩ (.int .i64 a)).setCell ⟨N, 1, none⟩ (.int .i64 b)).setCell ⟨N, 2, none⟩ (.int .i64 c)).setCell ⟨N, 3, none⟩ (.string s)
theorem set4_res {W : World} {N : Nat} {a0 b0 c0 : Int} {s0 : ByteArray} (h : W.heap[N]? = some (fo a0 b0 c0 s0)) (a b c : Int) (s : ByteArray) : (set4 W N a b c s).heap[N]? = some (fo a b c s) :=
  blk_setc (k := 3) (blk_setc (k := 2) (blk_setc (k := 1) (blk_setc (k := 0) h (.int .i64 a)) (.int .i64 b)) (.int .i64 c)) (.string s)
theorem set4_grown {w W : World} {N R : Nat} (hg : w.grownBy W (some R)) (hN : w.heap.size ≤ N) (a b c : Int) (s : ByteArray) : w.grownBy (set4 W N a b c s) (some R) :=
  (((hg.andThen (grown_set W ⟨N, 0, none⟩ (.int .i64 a)) (fun j ej => by cases ej; exact .inl hN)).andThen (grown_set _ ⟨N, 1, none⟩ (.int .i64 b)) (fun j ej => by cases ej; exact .inl hN)).andThen (grown_set _ ⟨N, 2, none⟩ (.int .i64 c)) (fun j ej => by cases ej; exact .inl hN)).andThen
    (grown_set _ ⟨N, 3, none⟩ (.string s)) (fun j ej => by cases ej; exact .inl hN)
theorem grown_drew {w W : World} {row : Option Nat} (h : w.grownBy W row) : w.grownBy W.drew row := ⟨h.os, h.tape, h.output, h.size, h.block⟩
theorem env_ne {w : World} {s : ByteArray} {R k : Nat} {ea : Addr} (E : Env w ea) (hR : w.heap[R]? = some (ro s k)) : R ≠ 0 := by
  rintro rfl
  have h1 := (blk_cell (k := 0) hR rfl).1
  unfold Env at E
  rw [E] at h1
  cases h1

set_option maxRecDepth 100000 in
set_option maxHeartbeats 1600000 in
theorem frame_short (s : ByteArray) (R : Nat) (w : World) (ea : Addr) (E : Env w ea) (hR : w.heap[R]? = some (ro s 0)) (hs : s.size ≤ maxLen) (h7 : s.size < 7) :
    Calls Tryd.prog 27 #[.pointer (some ⟨R, 0, none⟩)] w fun e w' => w.grownBy w' (some R) ∧ e = .returned (.tuple #[fv 0 0 0 ⟨#[]⟩, .iface 93 (.pointer (some ea))]) := by
  have E0 := env_ne E hR
  have hRl := blk_lt hR
  go_enter Tryd.func27, Tryd.ntmps27
  go_wp2_with fail
  have E1 : Env (w.alloc (fo 0 0 0 ⟨#[]⟩)) ea := cell_alloc E _
  refine (callsIn_wide.1 (header_in s R _ ea E1 (blk_alloc hR _) hs)).mono ?_
  rintro e w2 ⟨hg2, (⟨h, -⟩ | ⟨-, a, b, c, l, k, rfl, hR2⟩)⟩
  · exact absurd h (by omega)
  have hs2 := hs
  unfold maxLen at hs2
  have c0 : ∀ o, (w2.alloc o).cell? ⟨R, 0, none⟩ = some (.string s) := fun o => cell_alloc (blk_cell (k := 0) hR2 rfl).1 o
  have c1 : ∀ o, (w2.alloc o).cell? ⟨R, 1, none⟩ = some (.int .i64 (k : Int)) := fun o => cell_alloc (blk_cell (k := 1) hR2 rfl).1 o
  have hRs : R < w2.heap.size := blk_lt hR2
  go_wp2
  clear c0 c1 hRs
  have hN2 := (hg2.block w.heap.size (by simp) (fun e => by cases e; omega)).trans (blk_new w _)
  have hg : w.grownBy w2 (some R) := ((World.grownBy_alloc w (fo 0 0 0 ⟨#[]⟩) (some R))).trans hg2
  have E2 : Env w2 ea := E.grown hg E0
  have hg3 : w.grownBy (w2.alloc (.cells #[.int .i64 a, .int .i64 b, .int .i64 c, .string ⟨#[]⟩] 23)) (some R) := hg.trans (World.grownBy_alloc _ _ _)
  have hN3 := blk_alloc hN2 (.cells #[.int .i64 a, .int .i64 b, .int .i64 c, .string ⟨#[]⟩] 23)
  have hR3 := blk_alloc hR2 (.cells #[.int .i64 a, .int .i64 b, .int .i64 c, .string ⟨#[]⟩] 23)
  have hF3 := blk_new w2 (.cells #[.int .i64 a, .int .i64 b, .int .i64 c, .string ⟨#[]⟩] 23)
  have E3 : Env (w2.alloc (.cells #[.int .i64 a, .int .i64 b, .int .i64 c, .string ⟨#[]⟩] 23)) ea := cell_alloc E2 _
  have hz := hg3.size
  have hFN := blk_lt hN2
  have hRF := blk_lt hR2
  have hwR : w.heap.size ≠ R := by omega
  generalize hW3 : w2.alloc (.cells #[.int .i64 a, .int .i64 b, .int .i64 c, .string ⟨#[]⟩] 23) = W3 at hg3 hN3 hR3 hF3 E3 hz
  have c0 := (blk_cell (k := 0) hR3 rfl).1
  have c1 := (blk_cell (k := 1) hR3 rfl).1
  have n0 := blk_cell (k := 0) hN3 rfl
  have n1 := blk_cell (k := 1) hN3 rfl
  have n2 := blk_cell (k := 2) hN3 rfl
  have n3 := blk_cell (k := 3) hN3 rfl
  have m0 := blk_cell (k := 0) hF3 rfl
  have m1 := blk_cell (k := 1) hF3 rfl
  have m2 := blk_cell (k := 2) hF3 rfl
  have m3 := blk_cell (k := 3) hF3 rfl
  simp only [List.getElem_toArray, List.getElem_cons_zero, List.getElem_cons_succ] at c0 c1 n0 n1 n2 n3 m0 m1 m2 m3
  have E4 : W3.cell? ⟨0, 0, none⟩ = some (.iface 93 (.pointer (some ea))) := E3
  go_region
  go_wp2
  have q0 := set4_grown hg3 (Nat.le_refl w.heap.size) 0 0 0 ⟨#[]⟩
  have q1 := set4_res hN3 0 0 0 ⟨#[]⟩
  have g0 := (blk_cell (k := 0) q1 rfl).1
  have g1 := (blk_cell (k := 1) q1 rfl).1
  have g2 := (blk_cell (k := 2) q1 rfl).1
  have g3 := (blk_cell (k := 3) q1 rfl).1
  simp only [List.getElem_toArray, List.getElem_cons_zero, List.getElem_cons_succ] at g0 g1 g2 g3
  refine bodyPost_ret (v := .tuple #[fv 0 0 0 ⟨#[]⟩, .iface 93 (.pointer (some ea))]) (by simp [results, Tryd.results27, go_sem, g0, g1, g2, g3]; try rfl) rfl ?_
  exact ⟨grown_drew q0, rfl⟩

set_option maxRecDepth 100000 in
set_option maxHeartbeats 1600000 in
theorem frame_other (s : ByteArray) (R : Nat) (w : World) (ea : Addr) (E : Env w ea) (hR : w.heap[R]? = some (ro s 0)) (hs : s.size ≤ maxLen) (h7 : 7 ≤ s.size) (hl : 7 + rdV s 5 2 ≠ (s.size : Int) - 4) :
    Calls Tryd.prog 27 #[.pointer (some ⟨R, 0, none⟩)] w fun e w' => w.grownBy w' (some R) ∧ e = .returned (.tuple #[fv 0 0 0 ⟨#[]⟩, .iface 93 (.pointer (some ea))]) := by
  have E0 := env_ne E hR
  have hRl := blk_lt hR
  go_enter Tryd.func27, Tryd.ntmps27
  go_wp2_with fail
  have E1 : Env (w.alloc (fo 0 0 0 ⟨#[]⟩)) ea := cell_alloc E _
  refine (callsIn_wide.1 (header_in s R _ ea E1 (blk_alloc hR _) hs)).mono ?_
  rintro e w2 ⟨hg2, (⟨-, rfl, hR2⟩ | ⟨h, -⟩)⟩
  rotate_left
  · exact absurd h (by omega)
  obtain ⟨v1, v2⟩ := rdV_bd s 5 2 (by omega)
  have hs2 := hs
  unfold maxLen at hs2
  have c0 : ∀ o, (w2.alloc o).cell? ⟨R, 0, none⟩ = some (.string s) := fun o => cell_alloc (blk_cell (k := 0) hR2 rfl).1 o
  have c1 : ∀ o, (w2.alloc o).cell? ⟨R, 1, none⟩ = some (.int .i64 (7 : Int)) := fun o => cell_alloc (blk_cell (k := 1) hR2 rfl).1 o
  have hRs : R < w2.heap.size := blk_lt hR2
  go_wp2
  clear c0 c1 hRs
  have hN2 := (hg2.block w.heap.size (by simp) (fun e => by cases e; omega)).trans (blk_new w _)
  have hg : w.grownBy w2 (some R) := ((World.grownBy_alloc w (fo 0 0 0 ⟨#[]⟩) (some R))).trans hg2
  have E2 : Env w2 ea := E.grown hg E0
  have hg3 : w.grownBy (w2.alloc (.cells #[.int .i64 (rdV s 0 2), .int .i64 (rdV s 2 2), .int .i64 (rdV s 4 1), .string ⟨#[]⟩] 23)) (some R) := hg.trans (World.grownBy_alloc _ _ _)
  have hN3 := blk_alloc hN2 (.cells #[.int .i64 (rdV s 0 2), .int .i64 (rdV s 2 2), .int .i64 (rdV s 4 1), .string ⟨#[]⟩] 23)
  have hR3 := blk_alloc hR2 (.cells #[.int .i64 (rdV s 0 2), .int .i64 (rdV s 2 2), .int .i64 (rdV s 4 1), .string ⟨#[]⟩] 23)
  have hF3 := blk_new w2 (.cells #[.int .i64 (rdV s 0 2), .int .i64 (rdV s 2 2), .int .i64 (rdV s 4 1), .string ⟨#[]⟩] 23)
  have E3 : Env (w2.alloc (.cells #[.int .i64 (rdV s 0 2), .int .i64 (rdV s 2 2), .int .i64 (rdV s 4 1), .string ⟨#[]⟩] 23)) ea := cell_alloc E2 _
  have hz := hg3.size
  have hFN := blk_lt hN2
  have hRF := blk_lt hR2
  have hwR : w.heap.size ≠ R := by omega
  generalize hW3 : w2.alloc (.cells #[.int .i64 (rdV s 0 2), .int .i64 (rdV s 2 2), .int .i64 (rdV s 4 1), .string ⟨#[]⟩] 23) = W3 at hg3 hN3 hR3 hF3 E3 hz
  have c0 := (blk_cell (k := 0) hR3 rfl).1
  have c1 := (blk_cell (k := 1) hR3 rfl).1
  have n0 := blk_cell (k := 0) hN3 rfl
  have n1 := blk_cell (k := 1) hN3 rfl
  have n2 := blk_cell (k := 2) hN3 rfl
  have n3 := blk_cell (k := 3) hN3 rfl
  have m0 := blk_cell (k := 0) hF3 rfl
  have m1 := blk_cell (k := 1) hF3 rfl
  have m2 := blk_cell (k := 2) hF3 rfl
  have m3 := blk_cell (k := 3) hF3 rfl
  simp only [List.getElem_toArray, List.getElem_cons_zero, List.getElem_cons_succ] at c0 c1 n0 n1 n2 n3 m0 m1 m2 m3
  have E4 : W3.cell? ⟨0, 0, none⟩ = some (.iface 93 (.pointer (some ea))) := E3
  go_region
  go_wp2
  have q0 := set4_grown hg3 (Nat.le_refl w.heap.size) 0 0 0 ⟨#[]⟩
  have q1 := set4_res hN3 0 0 0 ⟨#[]⟩
  have g0 := (blk_cell (k := 0) q1 rfl).1
  have g1 := (blk_cell (k := 1) q1 rfl).1
  have g2 := (blk_cell (k := 2) q1 rfl).1
  have g3 := (blk_cell (k := 3) q1 rfl).1
  simp only [List.getElem_toArray, List.getElem_cons_zero, List.getElem_cons_succ] at g0 g1 g2 g3
  refine bodyPost_ret (v := .tuple #[fv 0 0 0 ⟨#[]⟩, .iface 93 (.pointer (some ea))]) (by simp [results, Tryd.results27, go_sem, g0, g1, g2, g3]; try rfl) rfl ?_
  exact ⟨grown_drew q0, rfl⟩

end Go.Proofs.YtgfldbllokbnaaaDoor
