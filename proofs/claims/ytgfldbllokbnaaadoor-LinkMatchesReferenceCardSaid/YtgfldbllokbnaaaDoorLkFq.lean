/- Contract of the reader's frame, where the lengths agree. -/
import Derived.Test.YtgfldbllokbnaaaDoorLkFr
import Derived.BigRegion
namespace Go.Proofs.YtgfldbllokbnaaaDoor
open Go.RowKit Go.Shelf
attribute [local go_sem] Oper.semAt_some

set_option maxRecDepth 100000 in
set_option maxHeartbeats 1600000 in
theorem frame_inv (s : ByteArray) (R : Nat) (w : World) (ea : Addr) (E : Env w ea) (hR : w.heap[R]? = some (ro s 0)) (hs : s.size ≤ maxLen) (e : Nat) (he : (s.size : Int) - 4 = (e : Int)) (hl : 7 + rdV s 5 2 = (e : Int)) (h7 : 7 ≤ s.size) (hv : ¬ okF (rdV s 0 2) (rdV s 2 2) (rdV s 4 1) (e - 7)) :
    Calls Tryd.prog 27 #[.pointer (some ⟨R, 0, none⟩)] w fun en w' => w.grownBy w' (some R) ∧ en = .returned (.tuple #[fv 0 0 0 ⟨#[]⟩, .iface 93 (.pointer (some ea))]) := by
  have E0 := env_ne E hR
  have hRl := blk_lt hR
  go_enter Tryd.func27, Tryd.ntmps27
  go_wp2_with fail
  have E1 : Env (w.alloc (fo 0 0 0 ⟨#[]⟩)) ea := cell_alloc E _
  refine (callsIn_wide.1 (header_in s R _ ea E1 (blk_alloc hR _) hs)).mono ?_
  rintro e w2 ⟨hg2, (⟨-, rfl, hR2⟩ | ⟨h, -⟩)⟩
  rotate_left
  · exact absurd h (by omega)
  obtain ⟨v1, v2⟩ := rdV_bd s 5 2 (by omega)
  have he7 : (7 : Int) ≤ (e : Int) := by omega
  have heS : e ≤ s.size := by omega
  have he4 : e + 4 = s.size := by omega
  have hs2 := hs
  unfold maxLen at hs2
  have c0 : ∀ o, (w2.alloc o).cell? ⟨R, 0, none⟩ = some (.string s) := fun o => cell_alloc (blk_cell (k := 0) hR2 rfl).1 o
  have c1 : ∀ o, (w2.alloc o).cell? ⟨R, 1, none⟩ = some (.int .i64 (7 : Int)) := fun o => cell_alloc (blk_cell (k := 1) hR2 rfl).1 o
  have hRs : R < w2.heap.size := blk_lt hR2
  go_wp2
  clear c0 c1 hRs
  have hN2 := (hg2.block w.heap.size (by simp) (fun e => by cases e; omega)).trans (blk_new w _)
  have hg : w.grownBy w2 (some R) := ((World.grownBy_alloc w (fo 0 0 0 ⟨#[]⟩) (some R))).trans hg2
  have E2 : Env w2 ea := E.grown hg E0
  have hg3 : w.grownBy (w2.alloc (.cells #[.int .i64 (rdV s 0 2), .int .i64 (rdV s 2 2), .int .i64 (rdV s 4 1), .string ⟨#[]⟩] 23)) (some R) := hg.trans (World.grownBy_alloc _ _ _)
  have hN3 := blk_alloc hN2 (.cells #[.int .i64 (rdV s 0 2), .int .i64 (rdV s 2 2), .int .i64 (rdV s 4 1), .string ⟨#[]⟩] 23)
  have hR3 := blk_alloc hR2 (.cells #[.int .i64 (rdV s 0 2), .int .i64 (rdV s 2 2), .int .i64 (rdV s 4 1), .string ⟨#[]⟩] 23)
  have hF3 := blk_new w2 (.cells #[.int .i64 (rdV s 0 2), .int .i64 (rdV s 2 2), .int .i64 (rdV s 4 1), .string ⟨#[]⟩] 23)
  have E3 : Env (w2.alloc (.cells #[.int .i64 (rdV s 0 2), .int .i64 (rdV s 2 2), .int .i64 (rdV s 4 1), .string ⟨#[]⟩] 23)) ea := cell_alloc E2 _
  have hz := hg3.size
  have hFN := blk_lt hN2
  have hRF := blk_lt hR2
  have hwR : w.heap.size ≠ R := by omega
  generalize hW3 : w2.alloc (.cells #[.int .i64 (rdV s 0 2), .int .i64 (rdV s 2 2), .int .i64 (rdV s 4 1), .string ⟨#[]⟩] 23) = W3 at hg3 hN3 hR3 hF3 E3 hz
  have c0 := (blk_cell (k := 0) hR3 rfl).1
  have c1 := (blk_cell (k := 1) hR3 rfl).1
  have n0 := blk_cell (k := 0) hN3 rfl
  have n1 := blk_cell (k := 1) hN3 rfl
  have n2 := blk_cell (k := 2) hN3 rfl
  have n3 := blk_cell (k := 3) hN3 rfl
  have m0 := blk_cell (k := 0) hF3 rfl
  have m1 := blk_cell (k := 1) hF3 rfl
  have m2 := blk_cell (k := 2) hF3 rfl
  have m3 := blk_cell (k := 3) hF3 rfl
  simp only [List.getElem_toArray, List.getElem_cons_zero, List.getElem_cons_succ] at c0 c1 n0 n1 n2 n3 m0 m1 m2 m3
  have E4 : W3.cell? ⟨0, 0, none⟩ = some (.iface 93 (.pointer (some ea))) := E3
  have hX : (s.extract 7 e).size = e - 7 := by rw [ByteArray.size_extract]; omega
  go_region
  have hg5 : w.grownBy ((W3.setCell ⟨w2.heap.size, 3, none⟩ (.string (s.extract 7 e))).drew) (some R) := grown_drew (hg3.andThen (grown_set W3 ⟨w2.heap.size, 3, none⟩ (.string (s.extract 7 e))) (fun j ej => by cases ej; left; exact (by omega : w.heap.size ≤ w2.heap.size)))
  have hN5 : ((W3.setCell ⟨w2.heap.size, 3, none⟩ (.string (s.extract 7 e))).drew).heap[w.heap.size]? = _ := blk_set hN3 ⟨w2.heap.size, 3, none⟩ (by show w2.heap.size ≠ w.heap.size; omega) _
  have hR5 : ((W3.setCell ⟨w2.heap.size, 3, none⟩ (.string (s.extract 7 e))).drew).heap[R]? = _ := blk_set hR3 ⟨w2.heap.size, 3, none⟩ (by show w2.heap.size ≠ R; omega) _
  have hF5 : ((W3.setCell ⟨w2.heap.size, 3, none⟩ (.string (s.extract 7 e))).drew).heap[w2.heap.size]? = some (fo (rdV s 0 2) (rdV s 2 2) (rdV s 4 1) (s.extract 7 e)) := blk_setc (k := 3) hF3 _
  have E5 : Env ((W3.setCell ⟨w2.heap.size, 3, none⟩ (.string (s.extract 7 e))).drew) ea := E.grown hg5 E0
  clear hN3 hR3 hF3 E3 E4 c0 c1 n0 n1 n2 n3 m0 m1 m2 m3
  revert hg5 hN5 hR5 hF5 E5
  generalize (W3.setCell ⟨w2.heap.size, 3, none⟩ (.string (s.extract 7 e))).drew = W5
  intro hg5 hN5 hR5 hF5 E5
  clear hW3 hg3 hz
  have c0 := (blk_cell (k := 0) hR5 rfl).1
  simp only [List.getElem_toArray, List.getElem_cons_zero] at c0
  go_wp2_with fail
  refine (number_ok s e 4 _ (by decide) (by decide) (by omega) hs).mono ?_
  rintro e6 w6 ⟨rfl, hb6⟩
  have hg6 : w.grownBy w6 (some R) := hg5.trans (grown_below hb6 _)
  have hN6 := blk_below hN5 hb6 (blk_lt hN5)
  have hR6 := blk_below hR5 hb6 (blk_lt hR5)
  have hF6 := blk_below hF5 hb6 (blk_lt hF5)
  clear c0 hN5 hR5 hF5
  have m0 := (blk_cell (k := 0) hF6 rfl).1
  have m1 := (blk_cell (k := 1) hF6 rfl).1
  have m2 := (blk_cell (k := 2) hF6 rfl).1
  have m3 := (blk_cell (k := 3) hF6 rfl).1
  simp only [List.getElem_toArray, List.getElem_cons_zero, List.getElem_cons_succ] at m0 m1 m2 m3
  go_wp2_with fail
  refine (valid_any _ _ _ _ _).mono ?_
  rintro e7 w7 ⟨rfl, rfl⟩
  rw [hX, decide_eq_false hv]
  go_wp2
  have hg3 : w.grownBy (w6.alloc (fo (rdV s 0 2) (rdV s 2 2) (rdV s 4 1) (s.extract 7 e))) (some R) := hg6.trans (World.grownBy_alloc _ _ _)
  have hN3 := blk_alloc hN6 (fo (rdV s 0 2) (rdV s 2 2) (rdV s 4 1) (s.extract 7 e))
  have n0 := blk_cell (k := 0) hN3 rfl
  have n1 := blk_cell (k := 1) hN3 rfl
  have n2 := blk_cell (k := 2) hN3 rfl
  have n3 := blk_cell (k := 3) hN3 rfl
  simp only [List.getElem_toArray, List.getElem_cons_zero, List.getElem_cons_succ] at n0 n1 n2 n3
  have E4 : Env (w6.alloc (fo (rdV s 0 2) (rdV s 2 2) (rdV s 4 1) (s.extract 7 e))) ea := E.grown hg3 E0
  unfold Env at E4
  go_region
  go_wp2
  have q0 := set4_grown hg3 (Nat.le_refl w.heap.size) 0 0 0 ⟨#[]⟩
  have q1 := set4_res hN3 0 0 0 ⟨#[]⟩
  have g0 := (blk_cell (k := 0) q1 rfl).1
  have g1 := (blk_cell (k := 1) q1 rfl).1
  have g2 := (blk_cell (k := 2) q1 rfl).1
  have g3 := (blk_cell (k := 3) q1 rfl).1
  simp only [List.getElem_toArray, List.getElem_cons_zero, List.getElem_cons_succ] at g0 g1 g2 g3
  refine bodyPost_ret (v := .tuple #[fv 0 0 0 ⟨#[]⟩, .iface 93 (.pointer (some ea))]) (by simp [results, Tryd.results27, go_sem, g0, g1, g2, g3]; try rfl) rfl ?_
  exact ⟨grown_drew q0, rfl⟩

set_option maxRecDepth 100000 in
set_option maxHeartbeats 1600000 in
theorem frame_crc (s : ByteArray) (R : Nat) (w : World) (ea : Addr) (E : Env w ea) (hR : w.heap[R]? = some (ro s 0)) (hs : s.size ≤ maxLen) (e : Nat) (he : (s.size : Int) - 4 = (e : Int)) (hl : 7 + rdV s 5 2 = (e : Int)) (h7 : 7 ≤ s.size) (hv : okF (rdV s 0 2) (rdV s 2 2) (rdV s 4 1) (e - 7)) (hc : rdV s e 4 ≠ ((crcN (s.data.toList.take e) : Nat) : Int)) :
    Calls Tryd.prog 27 #[.pointer (some ⟨R, 0, none⟩)] w fun en w' => w.grownBy w' (some R) ∧ en = .returned (.tuple #[fv 0 0 0 ⟨#[]⟩, .iface 93 (.pointer (some ea))]) := by
  have E0 := env_ne E hR
  have hRl := blk_lt hR
  go_enter Tryd.func27, Tryd.ntmps27
  go_wp2_with fail
  have E1 : Env (w.alloc (fo 0 0 0 ⟨#[]⟩)) ea := cell_alloc E _
  refine (callsIn_wide.1 (header_in s R _ ea E1 (blk_alloc hR _) hs)).mono ?_
  rintro e w2 ⟨hg2, (⟨-, rfl, hR2⟩ | ⟨h, -⟩)⟩
  rotate_left
  · exact absurd h (by omega)
  obtain ⟨v1, v2⟩ := rdV_bd s 5 2 (by omega)
  have he7 : (7 : Int) ≤ (e : Int) := by omega
  have heS : e ≤ s.size := by omega
  have he4 : e + 4 = s.size := by omega
  have hs2 := hs
  unfold maxLen at hs2
  have c0 : ∀ o, (w2.alloc o).cell? ⟨R, 0, none⟩ = some (.string s) := fun o => cell_alloc (blk_cell (k := 0) hR2 rfl).1 o
  have c1 : ∀ o, (w2.alloc o).cell? ⟨R, 1, none⟩ = some (.int .i64 (7 : Int)) := fun o => cell_alloc (blk_cell (k := 1) hR2 rfl).1 o
  have hRs : R < w2.heap.size := blk_lt hR2
  go_wp2
  clear c0 c1 hRs
  have hN2 := (hg2.block w.heap.size (by simp) (fun e => by cases e; omega)).trans (blk_new w _)
  have hg : w.grownBy w2 (some R) := ((World.grownBy_alloc w (fo 0 0 0 ⟨#[]⟩) (some R))).trans hg2
  have E2 : Env w2 ea := E.grown hg E0
  have hg3 : w.grownBy (w2.alloc (.cells #[.int .i64 (rdV s 0 2), .int .i64 (rdV s 2 2), .int .i64 (rdV s 4 1), .string ⟨#[]⟩] 23)) (some R) := hg.trans (World.grownBy_alloc _ _ _)
  have hN3 := blk_alloc hN2 (.cells #[.int .i64 (rdV s 0 2), .int .i64 (rdV s 2 2), .int .i64 (rdV s 4 1), .string ⟨#[]⟩] 23)
  have hR3 := blk_alloc hR2 (.cells #[.int .i64 (rdV s 0 2), .int .i64 (rdV s 2 2), .int .i64 (rdV s 4 1), .string ⟨#[]⟩] 23)
  have hF3 := blk_new w2 (.cells #[.int .i64 (rdV s 0 2), .int .i64 (rdV s 2 2), .int .i64 (rdV s 4 1), .string ⟨#[]⟩] 23)
  have E3 : Env (w2.alloc (.cells #[.int .i64 (rdV s 0 2), .int .i64 (rdV s 2 2), .int .i64 (rdV s 4 1), .string ⟨#[]⟩] 23)) ea := cell_alloc E2 _
  have hz := hg3.size
  have hFN := blk_lt hN2
  have hRF := blk_lt hR2
  have hwR : w.heap.size ≠ R := by omega
  generalize hW3 : w2.alloc (.cells #[.int .i64 (rdV s 0 2), .int .i64 (rdV s 2 2), .int .i64 (rdV s 4 1), .string ⟨#[]⟩] 23) = W3 at hg3 hN3 hR3 hF3 E3 hz
  have c0 := (blk_cell (k := 0) hR3 rfl).1
  have c1 := (blk_cell (k := 1) hR3 rfl).1
  have n0 := blk_cell (k := 0) hN3 rfl
  have n1 := blk_cell (k := 1) hN3 rfl
  have n2 := blk_cell (k := 2) hN3 rfl
  have n3 := blk_cell (k := 3) hN3 rfl
  have m0 := blk_cell (k := 0) hF3 rfl
  have m1 := blk_cell (k := 1) hF3 rfl
  have m2 := blk_cell (k := 2) hF3 rfl
  have m3 := blk_cell (k := 3) hF3 rfl
  simp only [List.getElem_toArray, List.getElem_cons_zero, List.getElem_cons_succ] at c0 c1 n0 n1 n2 n3 m0 m1 m2 m3
  have E4 : W3.cell? ⟨0, 0, none⟩ = some (.iface 93 (.pointer (some ea))) := E3
  have hX : (s.extract 7 e).size = e - 7 := by rw [ByteArray.size_extract]; omega
  go_region
  have hg5 : w.grownBy ((W3.setCell ⟨w2.heap.size, 3, none⟩ (.string (s.extract 7 e))).drew) (some R) := grown_drew (hg3.andThen (grown_set W3 ⟨w2.heap.size, 3, none⟩ (.string (s.extract 7 e))) (fun j ej => by cases ej; left; exact (by omega : w.heap.size ≤ w2.heap.size)))
  have hN5 : ((W3.setCell ⟨w2.heap.size, 3, none⟩ (.string (s.extract 7 e))).drew).heap[w.heap.size]? = _ := blk_set hN3 ⟨w2.heap.size, 3, none⟩ (by show w2.heap.size ≠ w.heap.size; omega) _
  have hR5 : ((W3.setCell ⟨w2.heap.size, 3, none⟩ (.string (s.extract 7 e))).drew).heap[R]? = _ := blk_set hR3 ⟨w2.heap.size, 3, none⟩ (by show w2.heap.size ≠ R; omega) _
  have hF5 : ((W3.setCell ⟨w2.heap.size, 3, none⟩ (.string (s.extract 7 e))).drew).heap[w2.heap.size]? = some (fo (rdV s 0 2) (rdV s 2 2) (rdV s 4 1) (s.extract 7 e)) := blk_setc (k := 3) hF3 _
  have E5 : Env ((W3.setCell ⟨w2.heap.size, 3, none⟩ (.string (s.extract 7 e))).drew) ea := E.grown hg5 E0
  clear hN3 hR3 hF3 E3 E4 c0 c1 n0 n1 n2 n3 m0 m1 m2 m3
  revert hg5 hN5 hR5 hF5 E5
  generalize (W3.setCell ⟨w2.heap.size, 3, none⟩ (.string (s.extract 7 e))).drew = W5
  intro hg5 hN5 hR5 hF5 E5
  clear hW3 hg3 hz
  have c0 := (blk_cell (k := 0) hR5 rfl).1
  simp only [List.getElem_toArray, List.getElem_cons_zero] at c0
  go_wp2_with fail
  refine (number_ok s e 4 _ (by decide) (by decide) (by omega) hs).mono ?_
  rintro e6 w6 ⟨rfl, hb6⟩
  have hg6 : w.grownBy w6 (some R) := hg5.trans (grown_below hb6 _)
  have hN6 := blk_below hN5 hb6 (blk_lt hN5)
  have hR6 := blk_below hR5 hb6 (blk_lt hR5)
  have hF6 := blk_below hF5 hb6 (blk_lt hF5)
  clear c0 hN5 hR5 hF5
  have m0 := (blk_cell (k := 0) hF6 rfl).1
  have m1 := (blk_cell (k := 1) hF6 rfl).1
  have m2 := (blk_cell (k := 2) hF6 rfl).1
  have m3 := (blk_cell (k := 3) hF6 rfl).1
  simp only [List.getElem_toArray, List.getElem_cons_zero, List.getElem_cons_succ] at m0 m1 m2 m3
  go_wp2_with fail
  refine (valid_any _ _ _ _ _).mono ?_
  rintro e7 w7 ⟨rfl, rfl⟩
  have c0 : ∀ o, (w6.alloc o).cell? ⟨R, 0, none⟩ = some (.string s) := fun o => cell_alloc (blk_cell (k := 0) hR6 rfl).1 o
  rw [hX, decide_eq_true hv]
  go_wp2_with fail
  refine (sumOf_any s e _ heS hs).mono ?_
  rintro e8 w8 ⟨rfl, hb8⟩
  have hg8 : w.grownBy w8 (some R) := (hg6.trans (World.grownBy_alloc _ _ _)).trans (grown_below hb8 _)
  have hN8 := blk_below (blk_alloc hN6 (fo (rdV s 0 2) (rdV s 2 2) (rdV s 4 1) (s.extract 7 e))) hb8 (blk_lt (blk_alloc hN6 (fo (rdV s 0 2) (rdV s 2 2) (rdV s 4 1) (s.extract 7 e))))
  have hF8 := blk_below (blk_alloc hF6 (fo (rdV s 0 2) (rdV s 2 2) (rdV s 4 1) (s.extract 7 e))) hb8 (blk_lt (blk_alloc hF6 (fo (rdV s 0 2) (rdV s 2 2) (rdV s 4 1) (s.extract 7 e))))
  clear c0 m0 m1 m2 m3 hR6 hF6 hg6 hN6
  have hg3 := hg8
  have hN3 := hN8
  go_wp2
  have n0 := blk_cell (k := 0) hN3 rfl
  have n1 := blk_cell (k := 1) hN3 rfl
  have n2 := blk_cell (k := 2) hN3 rfl
  have n3 := blk_cell (k := 3) hN3 rfl
  simp only [List.getElem_toArray, List.getElem_cons_zero, List.getElem_cons_succ] at n0 n1 n2 n3
  have E4 : Env w8 ea := E.grown hg3 E0
  unfold Env at E4
  go_region
  go_wp2
  have q0 := set4_grown hg3 (Nat.le_refl w.heap.size) 0 0 0 ⟨#[]⟩
  have q1 := set4_res hN3 0 0 0 ⟨#[]⟩
  have g0 := (blk_cell (k := 0) q1 rfl).1
  have g1 := (blk_cell (k := 1) q1 rfl).1
  have g2 := (blk_cell (k := 2) q1 rfl).1
  have g3 := (blk_cell (k := 3) q1 rfl).1
  simp only [List.getElem_toArray, List.getElem_cons_zero, List.getElem_cons_succ] at g0 g1 g2 g3
  refine bodyPost_ret (v := .tuple #[fv 0 0 0 ⟨#[]⟩, .iface 93 (.pointer (some ea))]) (by simp [results, Tryd.results27, go_sem, g0, g1, g2, g3]; try rfl) rfl ?_
  exact ⟨grown_drew q0, rfl⟩

set_option maxRecDepth 100000 in
set_option maxHeartbeats 1600000 in
theorem frame_yes (s : ByteArray) (R : Nat) (w : World) (ea : Addr) (E : Env w ea) (hR : w.heap[R]? = some (ro s 0)) (hs : s.size ≤ maxLen) (e : Nat) (he : (s.size : Int) - 4 = (e : Int)) (hl : 7 + rdV s 5 2 = (e : Int)) (h7 : 7 ≤ s.size) (hv : okF (rdV s 0 2) (rdV s 2 2) (rdV s 4 1) (e - 7)) (hc : rdV s e 4 = ((crcN (s.data.toList.take e) : Nat) : Int)) :
    Calls Tryd.prog 27 #[.pointer (some ⟨R, 0, none⟩)] w fun en w' => w.grownBy w' (some R) ∧ en = .returned (.tuple #[fv (rdV s 0 2) (rdV s 2 2) (rdV s 4 1) (s.extract 7 e), .nilIface]) := by
  have E0 := env_ne E hR
  have hRl := blk_lt hR
  go_enter Tryd.func27, Tryd.ntmps27
  go_wp2_with fail
  have E1 : Env (w.alloc (fo 0 0 0 ⟨#[]⟩)) ea := cell_alloc E _
  refine (callsIn_wide.1 (header_in s R _ ea E1 (blk_alloc hR _) hs)).mono ?_
  rintro e w2 ⟨hg2, (⟨-, rfl, hR2⟩ | ⟨h, -⟩)⟩
  rotate_left
  · exact absurd h (by omega)
  obtain ⟨v1, v2⟩ := rdV_bd s 5 2 (by omega)
  have he7 : (7 : Int) ≤ (e : Int) := by omega
  have heS : e ≤ s.size := by omega
  have he4 : e + 4 = s.size := by omega
  have hs2 := hs
  unfold maxLen at hs2
  have c0 : ∀ o, (w2.alloc o).cell? ⟨R, 0, none⟩ = some (.string s) := fun o => cell_alloc (blk_cell (k := 0) hR2 rfl).1 o
  have c1 : ∀ o, (w2.alloc o).cell? ⟨R, 1, none⟩ = some (.int .i64 (7 : Int)) := fun o => cell_alloc (blk_cell (k := 1) hR2 rfl).1 o
  have hRs : R < w2.heap.size := blk_lt hR2
  go_wp2
  clear c0 c1 hRs
  have hN2 := (hg2.block w.heap.size (by simp) (fun e => by cases e; omega)).trans (blk_new w _)
  have hg : w.grownBy w2 (some R) := ((World.grownBy_alloc w (fo 0 0 0 ⟨#[]⟩) (some R))).trans hg2
  have E2 : Env w2 ea := E.grown hg E0
  have hg3 : w.grownBy (w2.alloc (.cells #[.int .i64 (rdV s 0 2), .int .i64 (rdV s 2 2), .int .i64 (rdV s 4 1), .string ⟨#[]⟩] 23)) (some R) := hg.trans (World.grownBy_alloc _ _ _)
  have hN3 := blk_alloc hN2 (.cells #[.int .i64 (rdV s 0 2), .int .i64 (rdV s 2 2), .int .i64 (rdV s 4 1), .string ⟨#[]⟩] 23)
  have hR3 := blk_alloc hR2 (.cells #[.int .i64 (rdV s 0 2), .int .i64 (rdV s 2 2), .int .i64 (rdV s 4 1), .string ⟨#[]⟩] 23)
  have hF3 := blk_new w2 (.cells #[.int .i64 (rdV s 0 2), .int .i64 (rdV s 2 2), .int .i64 (rdV s 4 1), .string ⟨#[]⟩] 23)
  have E3 : Env (w2.alloc (.cells #[.int .i64 (rdV s 0 2), .int .i64 (rdV s 2 2), .int .i64 (rdV s 4 1), .string ⟨#[]⟩] 23)) ea := cell_alloc E2 _
  have hz := hg3.size
  have hFN := blk_lt hN2
  have hRF := blk_lt hR2
  have hwR : w.heap.size ≠ R := by omega
  generalize hW3 : w2.alloc (.cells #[.int .i64 (rdV s 0 2), .int .i64 (rdV s 2 2), .int .i64 (rdV s 4 1), .string ⟨#[]⟩] 23) = W3 at hg3 hN3 hR3 hF3 E3 hz
  have c0 := (blk_cell (k := 0) hR3 rfl).1
  have c1 := (blk_cell (k := 1) hR3 rfl).1
  have n0 := blk_cell (k := 0) hN3 rfl
  have n1 := blk_cell (k := 1) hN3 rfl
  have n2 := blk_cell (k := 2) hN3 rfl
  have n3 := blk_cell (k := 3) hN3 rfl
  have m0 := blk_cell (k := 0) hF3 rfl
  have m1 := blk_cell (k := 1) hF3 rfl
  have m2 := blk_cell (k := 2) hF3 rfl
  have m3 := blk_cell (k := 3) hF3 rfl
  simp only [List.getElem_toArray, List.getElem_cons_zero, List.getElem_cons_succ] at c0 c1 n0 n1 n2 n3 m0 m1 m2 m3
  have E4 : W3.cell? ⟨0, 0, none⟩ = some (.iface 93 (.pointer (some ea))) := E3
  have hX : (s.extract 7 e).size = e - 7 := by rw [ByteArray.size_extract]; omega
  go_region
  have hg5 : w.grownBy ((W3.setCell ⟨w2.heap.size, 3, none⟩ (.string (s.extract 7 e))).drew) (some R) := grown_drew (hg3.andThen (grown_set W3 ⟨w2.heap.size, 3, none⟩ (.string (s.extract 7 e))) (fun j ej => by cases ej; left; exact (by omega : w.heap.size ≤ w2.heap.size)))
  have hN5 : ((W3.setCell ⟨w2.heap.size, 3, none⟩ (.string (s.extract 7 e))).drew).heap[w.heap.size]? = _ := blk_set hN3 ⟨w2.heap.size, 3, none⟩ (by show w2.heap.size ≠ w.heap.size; omega) _
  have hR5 : ((W3.setCell ⟨w2.heap.size, 3, none⟩ (.string (s.extract 7 e))).drew).heap[R]? = _ := blk_set hR3 ⟨w2.heap.size, 3, none⟩ (by show w2.heap.size ≠ R; omega) _
  have hF5 : ((W3.setCell ⟨w2.heap.size, 3, none⟩ (.string (s.extract 7 e))).drew).heap[w2.heap.size]? = some (fo (rdV s 0 2) (rdV s 2 2) (rdV s 4 1) (s.extract 7 e)) := blk_setc (k := 3) hF3 _
  have E5 : Env ((W3.setCell ⟨w2.heap.size, 3, none⟩ (.string (s.extract 7 e))).drew) ea := E.grown hg5 E0
  clear hN3 hR3 hF3 E3 E4 c0 c1 n0 n1 n2 n3 m0 m1 m2 m3
  revert hg5 hN5 hR5 hF5 E5
  generalize (W3.setCell ⟨w2.heap.size, 3, none⟩ (.string (s.extract 7 e))).drew = W5
  intro hg5 hN5 hR5 hF5 E5
  clear hW3 hg3 hz
  have c0 := (blk_cell (k := 0) hR5 rfl).1
  simp only [List.getElem_toArray, List.getElem_cons_zero] at c0
  go_wp2_with fail
  refine (number_ok s e 4 _ (by decide) (by decide) (by omega) hs).mono ?_
  rintro e6 w6 ⟨rfl, hb6⟩
  have hg6 : w.grownBy w6 (some R) := hg5.trans (grown_below hb6 _)
  have hN6 := blk_below hN5 hb6 (blk_lt hN5)
  have hR6 := blk_below hR5 hb6 (blk_lt hR5)
  have hF6 := blk_below hF5 hb6 (blk_lt hF5)
  clear c0 hN5 hR5 hF5
  have m0 := (blk_cell (k := 0) hF6 rfl).1
  have m1 := (blk_cell (k := 1) hF6 rfl).1
  have m2 := (blk_cell (k := 2) hF6 rfl).1
  have m3 := (blk_cell (k := 3) hF6 rfl).1
  simp only [List.getElem_toArray, List.getElem_cons_zero, List.getElem_cons_succ] at m0 m1 m2 m3
  go_wp2_with fail
  refine (valid_any _ _ _ _ _).mono ?_
  rintro e7 w7 ⟨rfl, rfl⟩
  have c0 : ∀ o, (w6.alloc o).cell? ⟨R, 0, none⟩ = some (.string s) := fun o => cell_alloc (blk_cell (k := 0) hR6 rfl).1 o
  rw [hX, decide_eq_true hv]
  go_wp2_with fail
  refine (sumOf_any s e _ heS hs).mono ?_
  rintro e8 w8 ⟨rfl, hb8⟩
  have hg8 : w.grownBy w8 (some R) := (hg6.trans (World.grownBy_alloc _ _ _)).trans (grown_below hb8 _)
  have hN8 := blk_below (blk_alloc hN6 (fo (rdV s 0 2) (rdV s 2 2) (rdV s 4 1) (s.extract 7 e))) hb8 (blk_lt (blk_alloc hN6 (fo (rdV s 0 2) (rdV s 2 2) (rdV s 4 1) (s.extract 7 e))))
  have hF8 := blk_below (blk_alloc hF6 (fo (rdV s 0 2) (rdV s 2 2) (rdV s 4 1) (s.extract 7 e))) hb8 (blk_lt (blk_alloc hF6 (fo (rdV s 0 2) (rdV s 2 2) (rdV s 4 1) (s.extract 7 e))))
  clear c0 m0 m1 m2 m3 hR6 hF6 hg6 hN6
  have hg3 := hg8
  have hN3 := hN8
  have m0 := (blk_cell (k := 0) hF8 rfl).1
  have m1 := (blk_cell (k := 1) hF8 rfl).1
  have m2 := (blk_cell (k := 2) hF8 rfl).1
  have m3 := (blk_cell (k := 3) hF8 rfl).1
  simp only [List.getElem_toArray, List.getElem_cons_zero, List.getElem_cons_succ] at m0 m1 m2 m3
  have n0 := blk_cell (k := 0) hN3 rfl
  have n1 := blk_cell (k := 1) hN3 rfl
  have n2 := blk_cell (k := 2) hN3 rfl
  have n3 := blk_cell (k := 3) hN3 rfl
  simp only [List.getElem_toArray, List.getElem_cons_zero, List.getElem_cons_succ] at n0 n1 n2 n3
  have hw28 : w.heap.size ≠ w2.heap.size := by omega
  go_wp2
  have q0 := set4_grown hg3 (Nat.le_refl w.heap.size) (rdV s 0 2) (rdV s 2 2) (rdV s 4 1) (s.extract 7 e)
  have q1 := set4_res hN3 (rdV s 0 2) (rdV s 2 2) (rdV s 4 1) (s.extract 7 e)
  have g0 := (blk_cell (k := 0) q1 rfl).1
  have g1 := (blk_cell (k := 1) q1 rfl).1
  have g2 := (blk_cell (k := 2) q1 rfl).1
  have g3 := (blk_cell (k := 3) q1 rfl).1
  simp only [List.getElem_toArray, List.getElem_cons_zero, List.getElem_cons_succ] at g0 g1 g2 g3
  refine bodyPost_ret (v := .tuple #[fv (rdV s 0 2) (rdV s 2 2) (rdV s 4 1) (s.extract 7 e), .nilIface]) (by simp [results, Tryd.results27, go_sem, g0, g1, g2, g3]; try rfl) rfl ?_
  exact ⟨q0, rfl⟩
end Go.Proofs.YtgfldbllokbnaaaDoor
