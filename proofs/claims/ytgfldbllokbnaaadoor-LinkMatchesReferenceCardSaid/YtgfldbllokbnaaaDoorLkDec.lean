/- Contract of link.Decode. -/
import Derived.Test.YtgfldbllokbnaaaDoorLkFq
namespace Go.Proofs.YtgfldbllokbnaaaDoor
open Go.RowKit Go.Shelf
attribute [local go_sem] Oper.semAt_some

theorem frame_no (s : ByteArray) (R : Nat) (w : World) (ea : Addr) (E : Env w ea) (hR : w.heap[R]? = some (ro s 0)) (hs : s.size ≤ maxLen) (hd : ¬ decC s) :
    Calls Tryd.prog 27 #[.pointer (some ⟨R, 0, none⟩)] w fun e w' => w.grownBy w' (some R) ∧ e = .returned (.tuple #[fv 0 0 0 ⟨#[]⟩, .iface 93 (.pointer (some ea))]) := by
  by_cases h7 : s.size < 7
  · exact frame_short s R w ea E hR hs h7
  by_cases hl : 7 + rdV s 5 2 = (s.size : Int) - 4
  · have hb := rdV_bd s 5 2 (by omega)
    obtain ⟨e, he⟩ : ∃ e : Nat, s.size = e + 4 := ⟨s.size - 4, by omega⟩
    have he' : (s.size : Int) - 4 = (e : Int) := by omega
    have h11 : s.size - 11 = e - 7 := by omega
    have h4 : s.size - 4 = e := by omega
    unfold decC at hd
    rw [h11, h4] at hd
    by_cases hv : okF (rdV s 0 2) (rdV s 2 2) (rdV s 4 1) (e - 7)
    · exact frame_crc s R w ea E hR hs e he' (hl.trans he') (by omega) hv (fun hc => hd ⟨by omega, hl, hv, hc⟩)
    · exact frame_inv s R w ea E hR hs e he' (hl.trans he') (by omega) hv
  · exact frame_other s R w ea E hR hs (by omega) hl
theorem frame_ok (s : ByteArray) (R : Nat) (w : World) (ea : Addr) (E : Env w ea) (hR : w.heap[R]? = some (ro s 0)) (hs : s.size ≤ maxLen) (hd : decC s) :
    Calls Tryd.prog 27 #[.pointer (some ⟨R, 0, none⟩)] w fun e w' => w.grownBy w' (some R) ∧ e = .returned (.tuple #[fv (rdV s 0 2) (rdV s 2 2) (rdV s 4 1) (s.extract 7 (s.size - 4)), .nilIface]) := by
  obtain ⟨h7, hl, hv, hc⟩ := hd
  have hb := rdV_bd s 5 2 (by omega)
  exact frame_yes s R w ea E hR hs (s.size - 4) (by omega) (by omega) h7 (by rw [show s.size - 4 - 7 = s.size - 11 by omega]; exact hv) hc

set_option maxRecDepth 100000 in
set_option maxHeartbeats 1600000 in
theorem decode_no (s : ByteArray) (w : World) (ea : Addr) (E : Env w ea) (hs : s.size ≤ maxLen) (hd : ¬ decC s) :
    Calls Tryd.prog 13 #[.string s] w fun e w' => e = .returned (.tuple #[fv 0 0 0 ⟨#[]⟩, .int .i64 40]) ∧ Below w.heap.size w w' := by
  have hEl := cell_lt E
  go_enter Tryd.func13, Tryd.ntmps13
  go_wp2_with fail
  have hR1 := blk_new (w.alloc (fo 0 0 0 ⟨#[]⟩)) (ro s 0)
  rw [World.size_alloc] at hR1
  have hN1 := blk_alloc (blk_new w (fo 0 0 0 ⟨#[]⟩)) (ro s 0)
  have E1 : Env ((w.alloc (fo 0 0 0 ⟨#[]⟩)).alloc (ro s 0)) ea := cell_alloc (cell_alloc E _) _
  have hB1 : Below w.heap.size w ((w.alloc (fo 0 0 0 ⟨#[]⟩)).alloc (ro s 0)) := ((Below.refl _ w).alloc (Nat.le_refl _) _).alloc (by simp) _
  refine (frame_no s (w.heap.size + 1) _ ea E1 hR1 hs hd).mono ?_
  rintro e w2 ⟨hg2, rfl⟩
  have hB2 : Below w.heap.size w w2 := hB1.grown hg2 hB1.size (fun k e => by simp at e; omega)
  have hN2 := (hg2.block w.heap.size (by simp; omega) (by simp)).trans hN1
  have E2 : Env w2 ea := E.stay hB2
  have E3 : ∀ o, (w2.alloc o).cell? ⟨0, 0, none⟩ = some (.iface 93 (.pointer (some ea))) := fun o => cell_alloc E2 o
  have hN3 := blk_alloc hN2 (fo 0 0 0 ⟨#[]⟩)
  have hF3 := blk_new w2 (fo 0 0 0 ⟨#[]⟩)
  have hB3 : Below w.heap.size w (w2.alloc (fo 0 0 0 ⟨#[]⟩)) := hB2.alloc hB2.size _
  have hNl := blk_lt hN2
  go_wp2_with fail
  refine (is_same ea _).mono ?_
  rintro e3 w3 ⟨rfl, hw3⟩
  rw [← hw3] at hN3 hF3 hB3
  have hz3 : w2.heap.size < w3.heap.size := blk_lt hF3
  clear hw3 hR1 hN1 E1 hB1 hg2 hN2 E3 E2
  have n0 := blk_cell (k := 0) hN3 rfl
  have n1 := blk_cell (k := 1) hN3 rfl
  have n2 := blk_cell (k := 2) hN3 rfl
  have n3 := blk_cell (k := 3) hN3 rfl
  have m0 := (blk_cell (k := 0) hF3 rfl).1
  have m1 := (blk_cell (k := 1) hF3 rfl).1
  have m2 := (blk_cell (k := 2) hF3 rfl).1
  have m3 := (blk_cell (k := 3) hF3 rfl).1
  have hne : w.heap.size ≠ w2.heap.size := by omega
  simp only [List.getElem_toArray, List.getElem_cons_zero, List.getElem_cons_succ] at n0 n1 n2 n3 m0 m1 m2 m3
  go_wp2
  have q1 := set4_res hN3 0 0 0 ⟨#[]⟩
  have g0 := (blk_cell (k := 0) q1 rfl).1
  have g1 := (blk_cell (k := 1) q1 rfl).1
  have g2 := (blk_cell (k := 2) q1 rfl).1
  have g3 := (blk_cell (k := 3) q1 rfl).1
  simp only [List.getElem_toArray, List.getElem_cons_zero, List.getElem_cons_succ] at g0 g1 g2 g3
  have q2 : Below w.heap.size w (set4 w3 w.heap.size 0 0 0 ⟨#[]⟩) := (((hB3.setCell (p := ⟨w.heap.size, 0, none⟩) (Nat.le_refl _) _).setCell (p := ⟨w.heap.size, 1, none⟩) (Nat.le_refl _) _).setCell (p := ⟨w.heap.size, 2, none⟩) (Nat.le_refl _) _).setCell (p := ⟨w.heap.size, 3, none⟩) (Nat.le_refl _) _
  refine bodyPost_ret (v := .tuple #[fv 0 0 0 ⟨#[]⟩, .int .i64 40]) (by simp [results, Tryd.results13, go_sem, g0, g1, g2, g3]; try rfl) rfl ?_
  exact ⟨rfl, q2⟩

set_option maxRecDepth 100000 in
set_option maxHeartbeats 1600000 in
theorem decode_ok (s : ByteArray) (w : World) (ea : Addr) (E : Env w ea) (hs : s.size ≤ maxLen) (hd : decC s) :
    Calls Tryd.prog 13 #[.string s] w fun e w' => e = .returned (.tuple #[fv (rdV s 0 2) (rdV s 2 2) (rdV s 4 1) (s.extract 7 (s.size - 4)), .int .i64 0]) ∧ Below w.heap.size w w' := by
  have hEl := cell_lt E
  go_enter Tryd.func13, Tryd.ntmps13
  go_wp2_with fail
  have hR1 := blk_new (w.alloc (fo 0 0 0 ⟨#[]⟩)) (ro s 0)
  rw [World.size_alloc] at hR1
  have hN1 := blk_alloc (blk_new w (fo 0 0 0 ⟨#[]⟩)) (ro s 0)
  have E1 : Env ((w.alloc (fo 0 0 0 ⟨#[]⟩)).alloc (ro s 0)) ea := cell_alloc (cell_alloc E _) _
  have hB1 : Below w.heap.size w ((w.alloc (fo 0 0 0 ⟨#[]⟩)).alloc (ro s 0)) := ((Below.refl _ w).alloc (Nat.le_refl _) _).alloc (by simp) _
  refine (frame_ok s (w.heap.size + 1) _ ea E1 hR1 hs hd).mono ?_
  rintro e w2 ⟨hg2, rfl⟩
  have hB2 : Below w.heap.size w w2 := hB1.grown hg2 hB1.size (fun k e => by simp at e; omega)
  have hN2 := (hg2.block w.heap.size (by simp; omega) (by simp)).trans hN1
  have E2 : Env w2 ea := E.stay hB2
  have E3 : ∀ o, (w2.alloc o).cell? ⟨0, 0, none⟩ = some (.iface 93 (.pointer (some ea))) := fun o => cell_alloc E2 o
  have hN3 := blk_alloc hN2 (fo (rdV s 0 2) (rdV s 2 2) (rdV s 4 1) (s.extract 7 (s.size - 4)))
  have hF3 := blk_new w2 (fo (rdV s 0 2) (rdV s 2 2) (rdV s 4 1) (s.extract 7 (s.size - 4)))
  have hB3 : Below w.heap.size w (w2.alloc (fo (rdV s 0 2) (rdV s 2 2) (rdV s 4 1) (s.extract 7 (s.size - 4)))) := hB2.alloc hB2.size _
  have hNl := blk_lt hN2
  go_wp2_with fail
  refine (is_nil ea _).mono ?_
  rintro e3 w3 ⟨rfl, hw3⟩
  rw [← hw3] at hN3 hF3 hB3
  have hz3 : w2.heap.size < w3.heap.size := blk_lt hF3
  clear hw3 hR1 hN1 E1 hB1 hg2 hN2 E3 E2
  have n0 := blk_cell (k := 0) hN3 rfl
  have n1 := blk_cell (k := 1) hN3 rfl
  have n2 := blk_cell (k := 2) hN3 rfl
  have n3 := blk_cell (k := 3) hN3 rfl
  have m0 := (blk_cell (k := 0) hF3 rfl).1
  have m1 := (blk_cell (k := 1) hF3 rfl).1
  have m2 := (blk_cell (k := 2) hF3 rfl).1
  have m3 := (blk_cell (k := 3) hF3 rfl).1
  have hne : w.heap.size ≠ w2.heap.size := by omega
  simp only [List.getElem_toArray, List.getElem_cons_zero, List.getElem_cons_succ] at n0 n1 n2 n3 m0 m1 m2 m3
  go_wp2
  have q1 := set4_res hN3 (rdV s 0 2) (rdV s 2 2) (rdV s 4 1) (s.extract 7 (s.size - 4))
  have g0 := (blk_cell (k := 0) q1 rfl).1
  have g1 := (blk_cell (k := 1) q1 rfl).1
  have g2 := (blk_cell (k := 2) q1 rfl).1
  have g3 := (blk_cell (k := 3) q1 rfl).1
  simp only [List.getElem_toArray, List.getElem_cons_zero, List.getElem_cons_succ] at g0 g1 g2 g3
  have q2 : Below w.heap.size w (set4 w3 w.heap.size (rdV s 0 2) (rdV s 2 2) (rdV s 4 1) (s.extract 7 (s.size - 4))) := (((hB3.setCell (p := ⟨w.heap.size, 0, none⟩) (Nat.le_refl _) _).setCell (p := ⟨w.heap.size, 1, none⟩) (Nat.le_refl _) _).setCell (p := ⟨w.heap.size, 2, none⟩) (Nat.le_refl _) _).setCell (p := ⟨w.heap.size, 3, none⟩) (Nat.le_refl _) _
  refine bodyPost_ret (v := .tuple #[fv (rdV s 0 2) (rdV s 2 2) (rdV s 4 1) (s.extract 7 (s.size - 4)), .int .i64 0]) (by simp [results, Tryd.results13, go_sem, g0, g1, g2, g3]; try rfl) rfl ?_
  exact ⟨rfl, q2⟩

end Go.Proofs.YtgfldbllokbnaaaDoor
