/- Contract of icmp.Decode. -/
import Derived.Test.YtidjbpglpobigaaDoorImJ
namespace Go.Proofs.YtidjbpglpobigaaDoor
open Go.RowKit Go.Shelf
set_option linter.unusedVariables false
attribute [local go_sem] Oper.semAt_some

def mkM (s : ByteArray) : Ms := ⟨rdM s 0, rdM s 1, rdM s 3, s.extract 8 s.size⟩
def decM (s : ByteArray) : Prop := 8 ≤ s.size ∧ okM (mkM s) ∧ rdM s 2 = ((ckM (mkM s) : Nat) : Int)
instance (s : ByteArray) : Decidable (decM s) := by unfold decM; infer_instance
theorem rdM_bd (s : ByteArray) (h : 8 ≤ s.size) : (0 ≤ rdM s 0 ∧ rdM s 0 < 256) ∧ (0 ≤ rdM s 1 ∧ rdM s 1 < 256) ∧ (0 ≤ rdM s 2 ∧ rdM s 2 < 65536) ∧ (0 ≤ rdM s 3 ∧ rdM s 3 < 4294967296) :=
  ⟨beVal_bd 1 _ (by rw [List.length_take, List.length_drop, size_toList]; omega), beVal_bd 1 _ (by rw [List.length_take, List.length_drop, size_toList]; omega), beVal_bd 2 _ (by rw [List.length_take, List.length_drop, size_toList]; omega), beVal_bd 4 _ (by rw [List.length_take, List.length_drop, size_toList]; omega)⟩

theorem read_any (s : ByteArray) (R : Nat) (w : World) (ea : Addr) (E : Env w ea) (hR : w.heap[R]? = some (mst s fun _ => 0)) (hs : s.size ≤ maxLen) :
    Calls Tryd.prog 40 #[.pointer (some ⟨R, 0, none⟩)] w fun e w' => w.grownBy w' (some R) ∧
      ((8 ≤ s.size ∧ e = .returned .nilIface ∧ w'.heap[R]? = some (mro (s.extract 8 s.size) ⟨rdM s 0, rdM s 1, rdM s 3, s.extract 8 s.size⟩ (rdM s 2))) ∨
       (s.size < 8 ∧ ∃ t m q, e = .returned (.iface 170 (.pointer (some ea))) ∧ w'.heap[R]? = some (mro t m q))) :=
  callsIn_wide.1 (read_in s R w ea E hR hs)

theorem set4m_res {W : World} {N : Nat} {q : Ms} (h : W.heap[N]? = some (mo q)) (p : Ms) :
    ((((W.setCell ⟨N, 0, none⟩ (.int .i64 p.k)).setCell ⟨N, 1, none⟩ (.int .i64 p.c)).setCell ⟨N, 2, none⟩ (.int .i64 p.n)).setCell ⟨N, 3, none⟩ (.string p.s)).heap[N]? = some (mo p) :=
  blk_setc (k := 3) (blk_setc (k := 2) (blk_setc (k := 1) (blk_setc (k := 0) h (.int .i64 p.k)) (.int .i64 p.c)) (.int .i64 p.n)) (.string p.s)

set_option maxRecDepth 100000 in
set_option maxHeartbeats 6400000 in
theorem mdecode_short (s : ByteArray) (w : World) (ea : Addr) (E : Env w ea) (hs : s.size ≤ maxLen) (h8 : s.size < 8) :
    Calls Tryd.prog 16 #[.string s] w fun e w' => e = .returned (.tuple #[mv mz, .int .i64 80]) ∧ Below w.heap.size w w' := by
  have hEl := cell_lt E
  go_enter Tryd.func16, Tryd.ntmps16
  have hR1 := blk_new (w.alloc (mo mz)) (mst s fun _ => 0)
  rw [World.size_alloc] at hR1
  have hN1 := blk_alloc (blk_new w (mo mz)) (mst s fun _ => 0)
  have E1 : Env ((w.alloc (mo mz)).alloc (mst s fun _ => 0)) ea := cell_alloc (cell_alloc E _) _
  have hB1 : Below w.heap.size w ((w.alloc (mo mz)).alloc (mst s fun _ => 0)) := ((Below.refl _ w).alloc (Nat.le_refl _) _).alloc (by simp) _
  go_wp2_with fail
  refine (read_any s (w.heap.size + 1) _ ea E1 hR1 hs).mono ?_
  rintro e w2 ⟨hg2, (⟨hx, -⟩ | ⟨-, t, m, q, rfl, hR2⟩)⟩
  · omega
  have hB2 : Below w.heap.size w w2 := hB1.grown hg2 hB1.size (fun k e => by simp at e; omega)
  have hN2 := (hg2.block w.heap.size (by simp; omega) (by simp)).trans hN1
  have E2 : w2.cell? ⟨0, 0, none⟩ = some (.iface 170 (.pointer (some ea))) := E.stay hB2
  clear hR1 hN1 E1 hB1 hg2
  have c1 := (blk_cell (k := 1) hR2 rfl).1
  have c2 := (blk_cell (k := 2) hR2 rfl).1
  have c3 := (blk_cell (k := 3) hR2 rfl).1
  have c4 := (blk_cell (k := 4) hR2 rfl).1
  have c5 := (blk_cell (k := 5) hR2 rfl).1
  simp only [List.getElem_toArray, List.getElem_cons_zero, List.getElem_cons_succ] at c1 c2 c3 c4 c5
  go_wp2_with fail
  have hX2 : (fun w' => w'.heap[w.heap.size]? = some (mo mz) ∧ w'.heap[w.heap.size + 1]? = some (mro t m q) ∧ w'.cell? ⟨w.heap.size + 1, 1, none⟩ = some (.int .i64 m.k) ∧ w'.cell? ⟨w.heap.size + 1, 2, none⟩ = some (.int .i64 m.c) ∧ w'.cell? ⟨w.heap.size + 1, 3, none⟩ = some (.int .i64 m.n) ∧ w'.cell? ⟨w.heap.size + 1, 4, none⟩ = some (.string m.s) ∧ w'.cell? ⟨w.heap.size + 1, 5, none⟩ = some (.int .i64 q) ∧ w'.cell? ⟨0, 0, none⟩ = some (.iface 170 (.pointer (some ea))) ∧ Below w.heap.size w w') w2.drew := ⟨hN2, hR2, c1, c2, c3, c4, c5, E2, hB2.drew⟩
  have HX2 := Lib.hid hX2
  have HKeep := Lib.hid (show ∀ W W' : World, Below W.heap.size W W' → (fun w' => w'.heap[w.heap.size]? = some (mo mz) ∧ w'.heap[w.heap.size + 1]? = some (mro t m q) ∧ w'.cell? ⟨w.heap.size + 1, 1, none⟩ = some (.int .i64 m.k) ∧ w'.cell? ⟨w.heap.size + 1, 2, none⟩ = some (.int .i64 m.c) ∧ w'.cell? ⟨w.heap.size + 1, 3, none⟩ = some (.int .i64 m.n) ∧ w'.cell? ⟨w.heap.size + 1, 4, none⟩ = some (.string m.s) ∧ w'.cell? ⟨w.heap.size + 1, 5, none⟩ = some (.int .i64 q) ∧ w'.cell? ⟨0, 0, none⟩ = some (.iface 170 (.pointer (some ea))) ∧ Below w.heap.size w w') W → (fun w' => w'.heap[w.heap.size]? = some (mo mz) ∧ w'.heap[w.heap.size + 1]? = some (mro t m q) ∧ w'.cell? ⟨w.heap.size + 1, 1, none⟩ = some (.int .i64 m.k) ∧ w'.cell? ⟨w.heap.size + 1, 2, none⟩ = some (.int .i64 m.c) ∧ w'.cell? ⟨w.heap.size + 1, 3, none⟩ = some (.int .i64 m.n) ∧ w'.cell? ⟨w.heap.size + 1, 4, none⟩ = some (.string m.s) ∧ w'.cell? ⟨w.heap.size + 1, 5, none⟩ = some (.int .i64 q) ∧ w'.cell? ⟨0, 0, none⟩ = some (.iface 170 (.pointer (some ea))) ∧ Below w.heap.size w w') W' from fun W W' hb h => ⟨blk_below h.1 hb (blk_lt h.1), blk_below h.2.1 hb (blk_lt h.2.1), keep_cell hb h.2.2.1, keep_cell hb h.2.2.2.1, keep_cell hb h.2.2.2.2.1, keep_cell hb h.2.2.2.2.2.1, keep_cell hb h.2.2.2.2.2.2.1, keep_cell hb h.2.2.2.2.2.2.2.1, h.2.2.2.2.2.2.2.2.trans (hb.mono h.2.2.2.2.2.2.2.2.size)⟩)
  clear hX2 hN2 hR2 c1 c2 c3 c4 c5 E2 hB2
  refine wp_region_noPanic ?_
  refine wp_region_held_drew (S := fun w' => w'.heap[w.heap.size]? = some (mo mz) ∧ w'.heap[w.heap.size + 1]? = some (mro t m q) ∧ w'.cell? ⟨w.heap.size + 1, 1, none⟩ = some (.int .i64 m.k) ∧ w'.cell? ⟨w.heap.size + 1, 2, none⟩ = some (.int .i64 m.c) ∧ w'.cell? ⟨w.heap.size + 1, 3, none⟩ = some (.int .i64 m.n) ∧ w'.cell? ⟨w.heap.size + 1, 4, none⟩ = some (.string m.s) ∧ w'.cell? ⟨w.heap.size + 1, 5, none⟩ = some (.int .i64 q) ∧ w'.cell? ⟨0, 0, none⟩ = some (.iface 170 (.pointer (some ea))) ∧ Below w.heap.size w w') (by kernel_rfl) (HX2.out) (fun hHeld => ?_)
  first
    | (refine wpAnyH_take (i := 0) (oi := ⟨some 9, _, _, _, _, _⟩) (v := ?v0) rfl (by kernel_rfl) (by kernel_rfl) (by kernel_rfl) (fun _ _ _ h => h) (Or.inl ⟨by rfl, ?hy0⟩) hHeld ?rr0
       case hy0 => (intro w hSw; (try dsimp only at hSw); go_simp; try with_reducible rfl))
    | (refine wpAnyH_take (i := 0) (oi := ⟨some 9, _, _, _, _, _⟩) (v := undef) rfl (by kernel_rfl) (by kernel_rfl) (by kernel_rfl) (fun _ _ _ h => h) (Or.inr ⟨by rfl, rfl⟩) hHeld ?rr0)
  try simp only [Act.put, List.setIfInBounds_toArray, List.set_cons_zero, List.set_cons_succ]
  first
    | (refine wpAnyH_take (i := 1) (oi := ⟨some 10, _, _, _, _, _⟩) (v := ?v1) rfl (by kernel_rfl) (by kernel_rfl) (by kernel_rfl) (fun _ _ _ h => h) (Or.inl ⟨by rfl, ?hy1⟩) hHeld ?rr1
       case hy1 => (intro w hSw; (try dsimp only at hSw); go_simp; try with_reducible rfl))
    | (refine wpAnyH_take (i := 1) (oi := ⟨some 10, _, _, _, _, _⟩) (v := undef) rfl (by kernel_rfl) (by kernel_rfl) (by kernel_rfl) (fun _ _ _ h => h) (Or.inr ⟨by rfl, rfl⟩) hHeld ?rr1)
  try simp only [Act.put, List.setIfInBounds_toArray, List.set_cons_zero, List.set_cons_succ]
  refine wpAnyH_ready (rs := [2]) (by kernel_rfl) (by simp) ?_
  refine AllReadyH.cons (o := ⟨some 11, _, _, _, _, _⟩) rfl (fun K hK => ?_) AllReadyH.nil
  go_simp
  refine (is_same ea _).mono ?_; rintro e w3 ⟨rfl, rfl⟩
  refine hK.out _ _ (hHeld) (fun hHeld2 => ?_)
  clear hK K hHeld
  have hHeld := hHeld2
  clear hHeld2
  try simp only [Act.put, List.setIfInBounds_toArray, List.set_cons_zero, List.set_cons_succ]
  first
    | (refine wpAnyH_take (i := 3) (oi := ⟨some 12, _, _, _, _, _⟩) (v := ?v3) rfl (by kernel_rfl) (by kernel_rfl) (by kernel_rfl) (fun _ _ _ h => h) (Or.inl ⟨by rfl, ?hy3⟩) hHeld ?rr3
       case hy3 => (intro w hSw; (try dsimp only at hSw); go_simp; try with_reducible rfl))
    | (refine wpAnyH_take (i := 3) (oi := ⟨some 12, _, _, _, _, _⟩) (v := undef) rfl (by kernel_rfl) (by kernel_rfl) (by kernel_rfl) (fun _ _ _ h => h) (Or.inr ⟨by rfl, rfl⟩) hHeld ?rr3)
  try simp only [Act.put, List.setIfInBounds_toArray, List.set_cons_zero, List.set_cons_succ]
  first
    | (refine wpAnyH_take (i := 4) (oi := ⟨some 13, _, _, _, _, _⟩) (v := ?v4) rfl (by kernel_rfl) (by kernel_rfl) (by kernel_rfl) (fun _ _ _ h => h) (Or.inl ⟨by rfl, ?hy4⟩) hHeld ?rr4
       case hy4 => (intro w hSw; (try dsimp only at hSw); go_simp; try with_reducible rfl))
    | (refine wpAnyH_take (i := 4) (oi := ⟨some 13, _, _, _, _, _⟩) (v := undef) rfl (by kernel_rfl) (by kernel_rfl) (by kernel_rfl) (fun _ _ _ h => h) (Or.inr ⟨by rfl, rfl⟩) hHeld ?rr4)
  try simp only [Act.put, List.setIfInBounds_toArray, List.set_cons_zero, List.set_cons_succ]
  first
    | (refine wpAnyH_take (i := 5) (oi := ⟨some 14, _, _, _, _, _⟩) (v := ?v5) rfl (by kernel_rfl) (by kernel_rfl) (by kernel_rfl) (fun _ _ _ h => h) (Or.inl ⟨by rfl, ?hy5⟩) hHeld ?rr5
       case hy5 => (intro w hSw; (try dsimp only at hSw); go_simp; try with_reducible rfl))
    | (refine wpAnyH_take (i := 5) (oi := ⟨some 14, _, _, _, _, _⟩) (v := undef) rfl (by kernel_rfl) (by kernel_rfl) (by kernel_rfl) (fun _ _ _ h => h) (Or.inr ⟨by rfl, rfl⟩) hHeld ?rr5)
  try simp only [Act.put, List.setIfInBounds_toArray, List.set_cons_zero, List.set_cons_succ]
  first
    | (refine wpAnyH_take (i := 6) (oi := ⟨some 15, _, _, _, _, _⟩) (v := ?v6) rfl (by kernel_rfl) (by kernel_rfl) (by kernel_rfl) (fun _ _ _ h => h) (Or.inl ⟨by rfl, ?hy6⟩) hHeld ?rr6
       case hy6 => (intro w hSw; (try dsimp only at hSw); go_simp; try with_reducible rfl))
    | (refine wpAnyH_take (i := 6) (oi := ⟨some 15, _, _, _, _, _⟩) (v := undef) rfl (by kernel_rfl) (by kernel_rfl) (by kernel_rfl) (fun _ _ _ h => h) (Or.inr ⟨by rfl, rfl⟩) hHeld ?rr6)
  try simp only [Act.put, List.setIfInBounds_toArray, List.set_cons_zero, List.set_cons_succ]
  first
    | (refine wpAnyH_take (i := 7) (oi := ⟨some 16, _, _, _, _, _⟩) (v := ?v7) rfl (by kernel_rfl) (by kernel_rfl) (by kernel_rfl) (fun _ _ _ h => h) (Or.inl ⟨by rfl, ?hy7⟩) hHeld ?rr7
       case hy7 => (intro w hSw; (try dsimp only at hSw); go_simp; try with_reducible rfl))
    | (refine wpAnyH_take (i := 7) (oi := ⟨some 16, _, _, _, _, _⟩) (v := undef) rfl (by kernel_rfl) (by kernel_rfl) (by kernel_rfl) (fun _ _ _ h => h) (Or.inr ⟨by rfl, rfl⟩) hHeld ?rr7)
  try simp only [Act.put, List.setIfInBounds_toArray, List.set_cons_zero, List.set_cons_succ]
  first
    | (refine wpAnyH_take (i := 8) (oi := ⟨some 17, _, _, _, _, _⟩) (v := ?v8) rfl (by kernel_rfl) (by kernel_rfl) (by kernel_rfl) (fun _ _ _ h => h) (Or.inl ⟨by rfl, ?hy8⟩) hHeld ?rr8
       case hy8 => (intro w hSw; (try dsimp only at hSw); go_simp; try with_reducible rfl))
    | (refine wpAnyH_take (i := 8) (oi := ⟨some 17, _, _, _, _, _⟩) (v := undef) rfl (by kernel_rfl) (by kernel_rfl) (by kernel_rfl) (fun _ _ _ h => h) (Or.inr ⟨by rfl, rfl⟩) hHeld ?rr8)
  try simp only [Act.put, List.setIfInBounds_toArray, List.set_cons_zero, List.set_cons_succ]
  first
    | (refine wpAnyH_take (i := 9) (oi := ⟨some 18, _, _, _, _, _⟩) (v := ?v9) rfl (by kernel_rfl) (by kernel_rfl) (by kernel_rfl) (fun _ _ _ h => h) (Or.inl ⟨by rfl, ?hy9⟩) hHeld ?rr9
       case hy9 => (intro w hSw; (try dsimp only at hSw); go_simp; try with_reducible rfl))
    | (refine wpAnyH_take (i := 9) (oi := ⟨some 18, _, _, _, _, _⟩) (v := undef) rfl (by kernel_rfl) (by kernel_rfl) (by kernel_rfl) (fun _ _ _ h => h) (Or.inr ⟨by rfl, rfl⟩) hHeld ?rr9)
  try simp only [Act.put, List.setIfInBounds_toArray, List.set_cons_zero, List.set_cons_succ]
  first
    | (refine wpAnyH_take (i := 10) (oi := ⟨some 19, _, _, _, _, _⟩) (v := ?v10) rfl (by kernel_rfl) (by kernel_rfl) (by kernel_rfl) (fun _ _ _ h => h) (Or.inl ⟨by rfl, ?hy10⟩) hHeld ?rr10
       case hy10 => (intro w hSw; (try dsimp only at hSw); go_simp; try with_reducible rfl))
    | (refine wpAnyH_take (i := 10) (oi := ⟨some 19, _, _, _, _, _⟩) (v := undef) rfl (by kernel_rfl) (by kernel_rfl) (by kernel_rfl) (fun _ _ _ h => h) (Or.inr ⟨by rfl, rfl⟩) hHeld ?rr10)
  try simp only [Act.put, List.setIfInBounds_toArray, List.set_cons_zero, List.set_cons_succ]
  first
    | (refine wpAnyH_take (i := 11) (oi := ⟨some 20, _, _, _, _, _⟩) (v := ?v11) rfl (by kernel_rfl) (by kernel_rfl) (by kernel_rfl) (fun _ _ _ h => h) (Or.inl ⟨by rfl, ?hy11⟩) hHeld ?rr11
       case hy11 => (intro w hSw; (try dsimp only at hSw); go_simp; try with_reducible rfl))
    | (refine wpAnyH_take (i := 11) (oi := ⟨some 20, _, _, _, _, _⟩) (v := undef) rfl (by kernel_rfl) (by kernel_rfl) (by kernel_rfl) (fun _ _ _ h => h) (Or.inr ⟨by rfl, rfl⟩) hHeld ?rr11)
  try simp only [Act.put, List.setIfInBounds_toArray, List.set_cons_zero, List.set_cons_succ]
  first
    | (refine wpAnyH_take (i := 12) (oi := ⟨some 21, _, _, _, _, _⟩) (v := ?v12) rfl (by kernel_rfl) (by kernel_rfl) (by kernel_rfl) (fun _ _ _ h => h) (Or.inl ⟨by rfl, ?hy12⟩) hHeld ?rr12
       case hy12 => (intro w hSw; (try dsimp only at hSw); go_simp; try with_reducible rfl))
    | (refine wpAnyH_take (i := 12) (oi := ⟨some 21, _, _, _, _, _⟩) (v := undef) rfl (by kernel_rfl) (by kernel_rfl) (by kernel_rfl) (fun _ _ _ h => h) (Or.inr ⟨by rfl, rfl⟩) hHeld ?rr12)
  try simp only [Act.put, List.setIfInBounds_toArray, List.set_cons_zero, List.set_cons_succ]
  first
    | (refine wpAnyH_take (i := 13) (oi := ⟨some 22, _, _, _, _, _⟩) (v := ?v13) rfl (by kernel_rfl) (by kernel_rfl) (by kernel_rfl) (fun _ _ _ h => h) (Or.inl ⟨by rfl, ?hy13⟩) hHeld ?rr13
       case hy13 => (intro w hSw; (try dsimp only at hSw); go_simp; try with_reducible rfl))
    | (refine wpAnyH_take (i := 13) (oi := ⟨some 22, _, _, _, _, _⟩) (v := undef) rfl (by kernel_rfl) (by kernel_rfl) (by kernel_rfl) (fun _ _ _ h => h) (Or.inr ⟨by rfl, rfl⟩) hHeld ?rr13)
  try simp only [Act.put, List.setIfInBounds_toArray, List.set_cons_zero, List.set_cons_succ]
  first
    | (refine wpAnyH_take (i := 14) (oi := ⟨some 23, _, _, _, _, _⟩) (v := ?v14) rfl (by kernel_rfl) (by kernel_rfl) (by kernel_rfl) (fun _ _ _ h => h) (Or.inl ⟨by rfl, ?hy14⟩) hHeld ?rr14
       case hy14 => (intro w hSw; (try dsimp only at hSw); go_simp; try with_reducible rfl))
    | (refine wpAnyH_take (i := 14) (oi := ⟨some 23, _, _, _, _, _⟩) (v := undef) rfl (by kernel_rfl) (by kernel_rfl) (by kernel_rfl) (fun _ _ _ h => h) (Or.inr ⟨by rfl, rfl⟩) hHeld ?rr14)
  try simp only [Act.put, List.setIfInBounds_toArray, List.set_cons_zero, List.set_cons_succ]
  first
    | (refine wpAnyH_take (i := 15) (oi := ⟨some 24, _, _, _, _, _⟩) (v := ?v15) rfl (by kernel_rfl) (by kernel_rfl) (by kernel_rfl) (fun _ _ _ h => h) (Or.inl ⟨by rfl, ?hy15⟩) hHeld ?rr15
       case hy15 => (intro w hSw; (try dsimp only at hSw); go_simp; try with_reducible rfl))
    | (refine wpAnyH_take (i := 15) (oi := ⟨some 24, _, _, _, _, _⟩) (v := undef) rfl (by kernel_rfl) (by kernel_rfl) (by kernel_rfl) (fun _ _ _ h => h) (Or.inr ⟨by rfl, rfl⟩) hHeld ?rr15)
  try simp only [Act.put, List.setIfInBounds_toArray, List.set_cons_zero, List.set_cons_succ]
  first
    | (refine wpAnyH_take (i := 16) (oi := ⟨some 25, _, _, _, _, _⟩) (v := ?v16) rfl (by kernel_rfl) (by kernel_rfl) (by kernel_rfl) (fun _ _ _ h => h) (Or.inl ⟨by rfl, ?hy16⟩) hHeld ?rr16
       case hy16 => (intro w hSw; (try dsimp only at hSw); go_simp; try with_reducible rfl))
    | (refine wpAnyH_take (i := 16) (oi := ⟨some 25, _, _, _, _, _⟩) (v := undef) rfl (by kernel_rfl) (by kernel_rfl) (by kernel_rfl) (fun _ _ _ h => h) (Or.inr ⟨by rfl, rfl⟩) hHeld ?rr16)
  try simp only [Act.put, List.setIfInBounds_toArray, List.set_cons_zero, List.set_cons_succ]
  first
    | (refine wpAnyH_take (i := 17) (oi := ⟨some 26, _, _, _, _, _⟩) (v := ?v17) rfl (by kernel_rfl) (by kernel_rfl) (by kernel_rfl) (fun _ _ _ h => h) (Or.inl ⟨by rfl, ?hy17⟩) hHeld ?rr17
       case hy17 => (intro w hSw; (try dsimp only at hSw); go_simp; try with_reducible rfl))
    | (refine wpAnyH_take (i := 17) (oi := ⟨some 26, _, _, _, _, _⟩) (v := undef) rfl (by kernel_rfl) (by kernel_rfl) (by kernel_rfl) (fun _ _ _ h => h) (Or.inr ⟨by rfl, rfl⟩) hHeld ?rr17)
  try simp only [Act.put, List.setIfInBounds_toArray, List.set_cons_zero, List.set_cons_succ]
  first
    | (refine wpAnyH_take (i := 18) (oi := ⟨some 27, _, _, _, _, _⟩) (v := ?v18) rfl (by kernel_rfl) (by kernel_rfl) (by kernel_rfl) (fun _ _ _ h => h) (Or.inl ⟨by rfl, ?hy18⟩) hHeld ?rr18
       case hy18 => (intro w hSw; (try dsimp only at hSw); go_simp; try with_reducible rfl))
    | (refine wpAnyH_take (i := 18) (oi := ⟨some 27, _, _, _, _, _⟩) (v := undef) rfl (by kernel_rfl) (by kernel_rfl) (by kernel_rfl) (fun _ _ _ h => h) (Or.inr ⟨by rfl, rfl⟩) hHeld ?rr18)
  try simp only [Act.put, List.setIfInBounds_toArray, List.set_cons_zero, List.set_cons_succ]
  refine wpAnyH_done (by kernel_rfl) ?_ _
  refine NoPanic.normal ?_
  obtain ⟨hN, hR, c1, c2, c3, c4, c5, -, hB⟩ := hHeld
  clear HX2 HKeep
  generalize w2.drew = w9 at hN hR c1 c2 c3 c4 c5 hB ⊢
  have n0 := blk_cell (k := 0) hN rfl
  have n1 := blk_cell (k := 1) hN rfl
  have n2 := blk_cell (k := 2) hN rfl
  have n3 := blk_cell (k := 3) hN rfl
  simp only [List.getElem_toArray, List.getElem_cons_zero, List.getElem_cons_succ] at n0 n1 n2 n3
  have HB := Lib.hid hB
  have HN := Lib.hid hN
  clear hB hN
  go_wp2
  have q1 := set4m_res HN.out mz
  have g0 := (blk_cell (k := 0) q1 rfl).1
  have g1 := (blk_cell (k := 1) q1 rfl).1
  have g2 := (blk_cell (k := 2) q1 rfl).1
  have g3 := (blk_cell (k := 3) q1 rfl).1
  simp only [List.getElem_toArray, List.getElem_cons_zero, List.getElem_cons_succ] at g0 g1 g2 g3
  have q2 := (((HB.out.setCell (p := ⟨w.heap.size, 0, none⟩) (Nat.le_refl _) (.int .i64 (mz).k)).setCell (p := ⟨w.heap.size, 1, none⟩) (Nat.le_refl _) (.int .i64 (mz).c)).setCell (p := ⟨w.heap.size, 2, none⟩) (Nat.le_refl _) (.int .i64 (mz).n)).setCell (p := ⟨w.heap.size, 3, none⟩) (Nat.le_refl _) (.string (mz).s)
  refine bodyPost_ret (v := .tuple #[mv mz, .int .i64 80]) (by simp [results, Tryd.results16, go_sem, g0, g1, g2, g3]; try rfl) rfl ?_
  exact ⟨rfl, q2⟩

set_option maxRecDepth 100000 in
set_option maxHeartbeats 6400000 in
theorem mdecode_inv (s : ByteArray) (w : World) (ea : Addr) (E : Env w ea) (hs : s.size ≤ maxLen) (h8 : 8 ≤ s.size) (hv : ¬ okM (mkM s)) :
    Calls Tryd.prog 16 #[.string s] w fun e w' => e = .returned (.tuple #[mv mz, .int .i64 80]) ∧ Below w.heap.size w w' := by
  have hbd := rdM_bd s h8
  have hk64 : b64i (mkM s).k := by unfold b64i; show -9223372036854775808 ≤ rdM s 0 ∧ rdM s 0 ≤ 9223372036854775807; omega
  have hms : (mkM s).s.size ≤ maxLen := by show (s.extract 8 s.size).size ≤ maxLen; rw [ByteArray.size_extract]; omega
  have hvd : decide (okM (mkM s)) = false := decide_eq_false hv
  have HV := Lib.hid (fun w => mvalid_any (mkM s) hk64 hms w)
  have HVD := Lib.hid hvd
  clear hvd hbd hk64 hms hv
  have hEl := cell_lt E
  go_enter Tryd.func16, Tryd.ntmps16
  have hR1 := blk_new (w.alloc (mo mz)) (mst s fun _ => 0)
  rw [World.size_alloc] at hR1
  have hN1 := blk_alloc (blk_new w (mo mz)) (mst s fun _ => 0)
  have E1 : Env ((w.alloc (mo mz)).alloc (mst s fun _ => 0)) ea := cell_alloc (cell_alloc E _) _
  have hB1 : Below w.heap.size w ((w.alloc (mo mz)).alloc (mst s fun _ => 0)) := ((Below.refl _ w).alloc (Nat.le_refl _) _).alloc (by simp) _
  go_wp2_with fail
  refine (read_any s (w.heap.size + 1) _ ea E1 hR1 hs).mono ?_
  rintro e w2 ⟨hg2, (⟨-, rfl, hR2⟩ | ⟨hx, -⟩)⟩
  rotate_left
  · omega
  replace hR2 : w2.heap[w.heap.size + 1]? = some (mro (s.extract 8 s.size) (mkM s) (rdM s 2)) := hR2
  have hB2 : Below w.heap.size w w2 := hB1.grown hg2 hB1.size (fun k e => by simp at e; omega)
  have hN2 := (hg2.block w.heap.size (by simp; omega) (by simp)).trans hN1
  have E2 : w2.cell? ⟨0, 0, none⟩ = some (.iface 170 (.pointer (some ea))) := E.stay hB2
  clear hR1 hN1 E1 hB1 hg2
  have c1 := (blk_cell (k := 1) hR2 rfl).1
  have c2 := (blk_cell (k := 2) hR2 rfl).1
  have c3 := (blk_cell (k := 3) hR2 rfl).1
  have c4 := (blk_cell (k := 4) hR2 rfl).1
  have c5 := (blk_cell (k := 5) hR2 rfl).1
  simp only [List.getElem_toArray, List.getElem_cons_zero, List.getElem_cons_succ] at c1 c2 c3 c4 c5
  go_wp2_with fail
  have hX2 : (fun w' => w'.heap[w.heap.size]? = some (mo mz) ∧ w'.heap[w.heap.size + 1]? = some (mro (s.extract 8 s.size) (mkM s) (rdM s 2)) ∧ w'.cell? ⟨w.heap.size + 1, 1, none⟩ = some (.int .i64 (mkM s).k) ∧ w'.cell? ⟨w.heap.size + 1, 2, none⟩ = some (.int .i64 (mkM s).c) ∧ w'.cell? ⟨w.heap.size + 1, 3, none⟩ = some (.int .i64 (mkM s).n) ∧ w'.cell? ⟨w.heap.size + 1, 4, none⟩ = some (.string (mkM s).s) ∧ w'.cell? ⟨w.heap.size + 1, 5, none⟩ = some (.int .i64 (rdM s 2)) ∧ w'.cell? ⟨0, 0, none⟩ = some (.iface 170 (.pointer (some ea))) ∧ Below w.heap.size w w') w2.drew := ⟨hN2, hR2, c1, c2, c3, c4, c5, E2, hB2.drew⟩
  have HX2 := Lib.hid hX2
  have HKeep := Lib.hid (show ∀ W W' : World, Below W.heap.size W W' → (fun w' => w'.heap[w.heap.size]? = some (mo mz) ∧ w'.heap[w.heap.size + 1]? = some (mro (s.extract 8 s.size) (mkM s) (rdM s 2)) ∧ w'.cell? ⟨w.heap.size + 1, 1, none⟩ = some (.int .i64 (mkM s).k) ∧ w'.cell? ⟨w.heap.size + 1, 2, none⟩ = some (.int .i64 (mkM s).c) ∧ w'.cell? ⟨w.heap.size + 1, 3, none⟩ = some (.int .i64 (mkM s).n) ∧ w'.cell? ⟨w.heap.size + 1, 4, none⟩ = some (.string (mkM s).s) ∧ w'.cell? ⟨w.heap.size + 1, 5, none⟩ = some (.int .i64 (rdM s 2)) ∧ w'.cell? ⟨0, 0, none⟩ = some (.iface 170 (.pointer (some ea))) ∧ Below w.heap.size w w') W → (fun w' => w'.heap[w.heap.size]? = some (mo mz) ∧ w'.heap[w.heap.size + 1]? = some (mro (s.extract 8 s.size) (mkM s) (rdM s 2)) ∧ w'.cell? ⟨w.heap.size + 1, 1, none⟩ = some (.int .i64 (mkM s).k) ∧ w'.cell? ⟨w.heap.size + 1, 2, none⟩ = some (.int .i64 (mkM s).c) ∧ w'.cell? ⟨w.heap.size + 1, 3, none⟩ = some (.int .i64 (mkM s).n) ∧ w'.cell? ⟨w.heap.size + 1, 4, none⟩ = some (.string (mkM s).s) ∧ w'.cell? ⟨w.heap.size + 1, 5, none⟩ = some (.int .i64 (rdM s 2)) ∧ w'.cell? ⟨0, 0, none⟩ = some (.iface 170 (.pointer (some ea))) ∧ Below w.heap.size w w') W' from fun W W' hb h => ⟨blk_below h.1 hb (blk_lt h.1), blk_below h.2.1 hb (blk_lt h.2.1), keep_cell hb h.2.2.1, keep_cell hb h.2.2.2.1, keep_cell hb h.2.2.2.2.1, keep_cell hb h.2.2.2.2.2.1, keep_cell hb h.2.2.2.2.2.2.1, keep_cell hb h.2.2.2.2.2.2.2.1, h.2.2.2.2.2.2.2.2.trans (hb.mono h.2.2.2.2.2.2.2.2.size)⟩)
  clear hX2 hN2 hR2 c1 c2 c3 c4 c5 E2 hB2
  refine wp_region_noPanic ?_
  refine wp_region_held_drew (S := fun w' => w'.heap[w.heap.size]? = some (mo mz) ∧ w'.heap[w.heap.size + 1]? = some (mro (s.extract 8 s.size) (mkM s) (rdM s 2)) ∧ w'.cell? ⟨w.heap.size + 1, 1, none⟩ = some (.int .i64 (mkM s).k) ∧ w'.cell? ⟨w.heap.size + 1, 2, none⟩ = some (.int .i64 (mkM s).c) ∧ w'.cell? ⟨w.heap.size + 1, 3, none⟩ = some (.int .i64 (mkM s).n) ∧ w'.cell? ⟨w.heap.size + 1, 4, none⟩ = some (.string (mkM s).s) ∧ w'.cell? ⟨w.heap.size + 1, 5, none⟩ = some (.int .i64 (rdM s 2)) ∧ w'.cell? ⟨0, 0, none⟩ = some (.iface 170 (.pointer (some ea))) ∧ Below w.heap.size w w') (by kernel_rfl) (HX2.out) (fun hHeld => ?_)
  first
    | (refine wpAnyH_take (i := 0) (oi := ⟨some 9, _, _, _, _, _⟩) (v := ?v0) rfl (by kernel_rfl) (by kernel_rfl) (by kernel_rfl) (fun _ _ _ h => h) (Or.inl ⟨by rfl, ?hy0⟩) hHeld ?rr0
       case hy0 => (intro w hSw; (try dsimp only at hSw); go_simp; try with_reducible rfl))
    | (refine wpAnyH_take (i := 0) (oi := ⟨some 9, _, _, _, _, _⟩) (v := undef) rfl (by kernel_rfl) (by kernel_rfl) (by kernel_rfl) (fun _ _ _ h => h) (Or.inr ⟨by rfl, rfl⟩) hHeld ?rr0)
  try simp only [Act.put, List.setIfInBounds_toArray, List.set_cons_zero, List.set_cons_succ]
  first
    | (refine wpAnyH_take (i := 1) (oi := ⟨some 10, _, _, _, _, _⟩) (v := ?v1) rfl (by kernel_rfl) (by kernel_rfl) (by kernel_rfl) (fun _ _ _ h => h) (Or.inl ⟨by rfl, ?hy1⟩) hHeld ?rr1
       case hy1 => (intro w hSw; (try dsimp only at hSw); go_simp; try with_reducible rfl))
    | (refine wpAnyH_take (i := 1) (oi := ⟨some 10, _, _, _, _, _⟩) (v := undef) rfl (by kernel_rfl) (by kernel_rfl) (by kernel_rfl) (fun _ _ _ h => h) (Or.inr ⟨by rfl, rfl⟩) hHeld ?rr1)
  try simp only [Act.put, List.setIfInBounds_toArray, List.set_cons_zero, List.set_cons_succ]
  refine wpAnyH_ready (rs := [2]) (by kernel_rfl) (by simp) ?_
  refine AllReadyH.cons (o := ⟨some 11, _, _, _, _, _⟩) rfl (fun K hK => ?_) AllReadyH.nil
  go_simp
  refine (is_nil ea _).mono ?_; rintro e w3 ⟨rfl, rfl⟩
  refine hK.out _ _ (hHeld) (fun hHeld2 => ?_)
  clear hK K hHeld
  have hHeld := hHeld2
  clear hHeld2
  try simp only [Act.put, List.setIfInBounds_toArray, List.set_cons_zero, List.set_cons_succ]
  first
    | (refine wpAnyH_take (i := 3) (oi := ⟨some 12, _, _, _, _, _⟩) (v := ?v3) rfl (by kernel_rfl) (by kernel_rfl) (by kernel_rfl) (fun _ _ _ h => h) (Or.inl ⟨by rfl, ?hy3⟩) hHeld ?rr3
       case hy3 => (intro w hSw; (try dsimp only at hSw); go_simp; try with_reducible rfl))
    | (refine wpAnyH_take (i := 3) (oi := ⟨some 12, _, _, _, _, _⟩) (v := undef) rfl (by kernel_rfl) (by kernel_rfl) (by kernel_rfl) (fun _ _ _ h => h) (Or.inr ⟨by rfl, rfl⟩) hHeld ?rr3)
  try simp only [Act.put, List.setIfInBounds_toArray, List.set_cons_zero, List.set_cons_succ]
  first
    | (refine wpAnyH_take (i := 4) (oi := ⟨some 13, _, _, _, _, _⟩) (v := ?v4) rfl (by kernel_rfl) (by kernel_rfl) (by kernel_rfl) (fun _ _ _ h => h) (Or.inl ⟨by rfl, ?hy4⟩) hHeld ?rr4
       case hy4 => (intro w hSw; (try dsimp only at hSw); go_simp; try with_reducible rfl))
    | (refine wpAnyH_take (i := 4) (oi := ⟨some 13, _, _, _, _, _⟩) (v := undef) rfl (by kernel_rfl) (by kernel_rfl) (by kernel_rfl) (fun _ _ _ h => h) (Or.inr ⟨by rfl, rfl⟩) hHeld ?rr4)
  try simp only [Act.put, List.setIfInBounds_toArray, List.set_cons_zero, List.set_cons_succ]
  first
    | (refine wpAnyH_take (i := 5) (oi := ⟨some 14, _, _, _, _, _⟩) (v := ?v5) rfl (by kernel_rfl) (by kernel_rfl) (by kernel_rfl) (fun _ _ _ h => h) (Or.inl ⟨by rfl, ?hy5⟩) hHeld ?rr5
       case hy5 => (intro w hSw; (try dsimp only at hSw); go_simp; try with_reducible rfl))
    | (refine wpAnyH_take (i := 5) (oi := ⟨some 14, _, _, _, _, _⟩) (v := undef) rfl (by kernel_rfl) (by kernel_rfl) (by kernel_rfl) (fun _ _ _ h => h) (Or.inr ⟨by rfl, rfl⟩) hHeld ?rr5)
  try simp only [Act.put, List.setIfInBounds_toArray, List.set_cons_zero, List.set_cons_succ]
  first
    | (refine wpAnyH_take (i := 6) (oi := ⟨some 15, _, _, _, _, _⟩) (v := ?v6) rfl (by kernel_rfl) (by kernel_rfl) (by kernel_rfl) (fun _ _ _ h => h) (Or.inl ⟨by rfl, ?hy6⟩) hHeld ?rr6
       case hy6 => (intro w hSw; (try dsimp only at hSw); go_simp; try with_reducible rfl))
    | (refine wpAnyH_take (i := 6) (oi := ⟨some 15, _, _, _, _, _⟩) (v := undef) rfl (by kernel_rfl) (by kernel_rfl) (by kernel_rfl) (fun _ _ _ h => h) (Or.inr ⟨by rfl, rfl⟩) hHeld ?rr6)
  try simp only [Act.put, List.setIfInBounds_toArray, List.set_cons_zero, List.set_cons_succ]
  refine wpAnyH_ready (rs := [7]) (by kernel_rfl) (by simp) ?_
  refine AllReadyH.cons (o := ⟨some 16, _, _, _, _, _⟩) rfl (fun K hK => ?_) AllReadyH.nil
  go_simp
  refine (HV.out _).mono ?_; rintro e w4 ⟨rfl, hb4⟩; rw [HVD.out]
  refine hK.out _ _ (HKeep.out _ _ hb4 hHeld) (fun hHeld2 => ?_)
  clear hK K hHeld
  have hHeld := hHeld2
  clear hHeld2
  try simp only [Act.put, List.setIfInBounds_toArray, List.set_cons_zero, List.set_cons_succ]
  first
    | (refine wpAnyH_take (i := 8) (oi := ⟨some 17, _, _, _, _, _⟩) (v := ?v8) rfl (by kernel_rfl) (by kernel_rfl) (by kernel_rfl) (fun _ _ _ h => h) (Or.inl ⟨by rfl, ?hy8⟩) hHeld ?rr8
       case hy8 => (intro w hSw; (try dsimp only at hSw); go_simp; try with_reducible rfl))
    | (refine wpAnyH_take (i := 8) (oi := ⟨some 17, _, _, _, _, _⟩) (v := undef) rfl (by kernel_rfl) (by kernel_rfl) (by kernel_rfl) (fun _ _ _ h => h) (Or.inr ⟨by rfl, rfl⟩) hHeld ?rr8)
  try simp only [Act.put, List.setIfInBounds_toArray, List.set_cons_zero, List.set_cons_succ]
  first
    | (refine wpAnyH_take (i := 9) (oi := ⟨some 18, _, _, _, _, _⟩) (v := ?v9) rfl (by kernel_rfl) (by kernel_rfl) (by kernel_rfl) (fun _ _ _ h => h) (Or.inl ⟨by rfl, ?hy9⟩) hHeld ?rr9
       case hy9 => (intro w hSw; (try dsimp only at hSw); go_simp; try with_reducible rfl))
    | (refine wpAnyH_take (i := 9) (oi := ⟨some 18, _, _, _, _, _⟩) (v := undef) rfl (by kernel_rfl) (by kernel_rfl) (by kernel_rfl) (fun _ _ _ h => h) (Or.inr ⟨by rfl, rfl⟩) hHeld ?rr9)
  try simp only [Act.put, List.setIfInBounds_toArray, List.set_cons_zero, List.set_cons_succ]
  first
    | (refine wpAnyH_take (i := 10) (oi := ⟨some 19, _, _, _, _, _⟩) (v := ?v10) rfl (by kernel_rfl) (by kernel_rfl) (by kernel_rfl) (fun _ _ _ h => h) (Or.inl ⟨by rfl, ?hy10⟩) hHeld ?rr10
       case hy10 => (intro w hSw; (try dsimp only at hSw); go_simp; try with_reducible rfl))
    | (refine wpAnyH_take (i := 10) (oi := ⟨some 19, _, _, _, _, _⟩) (v := undef) rfl (by kernel_rfl) (by kernel_rfl) (by kernel_rfl) (fun _ _ _ h => h) (Or.inr ⟨by rfl, rfl⟩) hHeld ?rr10)
  try simp only [Act.put, List.setIfInBounds_toArray, List.set_cons_zero, List.set_cons_succ]
  first
    | (refine wpAnyH_take (i := 11) (oi := ⟨some 20, _, _, _, _, _⟩) (v := ?v11) rfl (by kernel_rfl) (by kernel_rfl) (by kernel_rfl) (fun _ _ _ h => h) (Or.inl ⟨by rfl, ?hy11⟩) hHeld ?rr11
       case hy11 => (intro w hSw; (try dsimp only at hSw); go_simp; try with_reducible rfl))
    | (refine wpAnyH_take (i := 11) (oi := ⟨some 20, _, _, _, _, _⟩) (v := undef) rfl (by kernel_rfl) (by kernel_rfl) (by kernel_rfl) (fun _ _ _ h => h) (Or.inr ⟨by rfl, rfl⟩) hHeld ?rr11)
  try simp only [Act.put, List.setIfInBounds_toArray, List.set_cons_zero, List.set_cons_succ]
  first
    | (refine wpAnyH_take (i := 12) (oi := ⟨some 21, _, _, _, _, _⟩) (v := ?v12) rfl (by kernel_rfl) (by kernel_rfl) (by kernel_rfl) (fun _ _ _ h => h) (Or.inl ⟨by rfl, ?hy12⟩) hHeld ?rr12
       case hy12 => (intro w hSw; (try dsimp only at hSw); go_simp; try with_reducible rfl))
    | (refine wpAnyH_take (i := 12) (oi := ⟨some 21, _, _, _, _, _⟩) (v := undef) rfl (by kernel_rfl) (by kernel_rfl) (by kernel_rfl) (fun _ _ _ h => h) (Or.inr ⟨by rfl, rfl⟩) hHeld ?rr12)
  try simp only [Act.put, List.setIfInBounds_toArray, List.set_cons_zero, List.set_cons_succ]
  first
    | (refine wpAnyH_take (i := 13) (oi := ⟨some 22, _, _, _, _, _⟩) (v := ?v13) rfl (by kernel_rfl) (by kernel_rfl) (by kernel_rfl) (fun _ _ _ h => h) (Or.inl ⟨by rfl, ?hy13⟩) hHeld ?rr13
       case hy13 => (intro w hSw; (try dsimp only at hSw); go_simp; try with_reducible rfl))
    | (refine wpAnyH_take (i := 13) (oi := ⟨some 22, _, _, _, _, _⟩) (v := undef) rfl (by kernel_rfl) (by kernel_rfl) (by kernel_rfl) (fun _ _ _ h => h) (Or.inr ⟨by rfl, rfl⟩) hHeld ?rr13)
  try simp only [Act.put, List.setIfInBounds_toArray, List.set_cons_zero, List.set_cons_succ]
  first
    | (refine wpAnyH_take (i := 14) (oi := ⟨some 23, _, _, _, _, _⟩) (v := ?v14) rfl (by kernel_rfl) (by kernel_rfl) (by kernel_rfl) (fun _ _ _ h => h) (Or.inl ⟨by rfl, ?hy14⟩) hHeld ?rr14
       case hy14 => (intro w hSw; (try dsimp only at hSw); go_simp; try with_reducible rfl))
    | (refine wpAnyH_take (i := 14) (oi := ⟨some 23, _, _, _, _, _⟩) (v := undef) rfl (by kernel_rfl) (by kernel_rfl) (by kernel_rfl) (fun _ _ _ h => h) (Or.inr ⟨by rfl, rfl⟩) hHeld ?rr14)
  try simp only [Act.put, List.setIfInBounds_toArray, List.set_cons_zero, List.set_cons_succ]
  first
    | (refine wpAnyH_take (i := 15) (oi := ⟨some 24, _, _, _, _, _⟩) (v := ?v15) rfl (by kernel_rfl) (by kernel_rfl) (by kernel_rfl) (fun _ _ _ h => h) (Or.inl ⟨by rfl, ?hy15⟩) hHeld ?rr15
       case hy15 => (intro w hSw; (try dsimp only at hSw); go_simp; try with_reducible rfl))
    | (refine wpAnyH_take (i := 15) (oi := ⟨some 24, _, _, _, _, _⟩) (v := undef) rfl (by kernel_rfl) (by kernel_rfl) (by kernel_rfl) (fun _ _ _ h => h) (Or.inr ⟨by rfl, rfl⟩) hHeld ?rr15)
  try simp only [Act.put, List.setIfInBounds_toArray, List.set_cons_zero, List.set_cons_succ]
  first
    | (refine wpAnyH_take (i := 16) (oi := ⟨some 25, _, _, _, _, _⟩) (v := ?v16) rfl (by kernel_rfl) (by kernel_rfl) (by kernel_rfl) (fun _ _ _ h => h) (Or.inl ⟨by rfl, ?hy16⟩) hHeld ?rr16
       case hy16 => (intro w hSw; (try dsimp only at hSw); go_simp; try with_reducible rfl))
    | (refine wpAnyH_take (i := 16) (oi := ⟨some 25, _, _, _, _, _⟩) (v := undef) rfl (by kernel_rfl) (by kernel_rfl) (by kernel_rfl) (fun _ _ _ h => h) (Or.inr ⟨by rfl, rfl⟩) hHeld ?rr16)
  try simp only [Act.put, List.setIfInBounds_toArray, List.set_cons_zero, List.set_cons_succ]
  first
    | (refine wpAnyH_take (i := 17) (oi := ⟨some 26, _, _, _, _, _⟩) (v := ?v17) rfl (by kernel_rfl) (by kernel_rfl) (by kernel_rfl) (fun _ _ _ h => h) (Or.inl ⟨by rfl, ?hy17⟩) hHeld ?rr17
       case hy17 => (intro w hSw; (try dsimp only at hSw); go_simp; try with_reducible rfl))
    | (refine wpAnyH_take (i := 17) (oi := ⟨some 26, _, _, _, _, _⟩) (v := undef) rfl (by kernel_rfl) (by kernel_rfl) (by kernel_rfl) (fun _ _ _ h => h) (Or.inr ⟨by rfl, rfl⟩) hHeld ?rr17)
  try simp only [Act.put, List.setIfInBounds_toArray, List.set_cons_zero, List.set_cons_succ]
  first
    | (refine wpAnyH_take (i := 18) (oi := ⟨some 27, _, _, _, _, _⟩) (v := ?v18) rfl (by kernel_rfl) (by kernel_rfl) (by kernel_rfl) (fun _ _ _ h => h) (Or.inl ⟨by rfl, ?hy18⟩) hHeld ?rr18
       case hy18 => (intro w hSw; (try dsimp only at hSw); go_simp; try with_reducible rfl))
    | (refine wpAnyH_take (i := 18) (oi := ⟨some 27, _, _, _, _, _⟩) (v := undef) rfl (by kernel_rfl) (by kernel_rfl) (by kernel_rfl) (fun _ _ _ h => h) (Or.inr ⟨by rfl, rfl⟩) hHeld ?rr18)
  try simp only [Act.put, List.setIfInBounds_toArray, List.set_cons_zero, List.set_cons_succ]
  refine wpAnyH_done (by kernel_rfl) ?_ _
  refine NoPanic.normal ?_
  obtain ⟨hN, hR, c1, c2, c3, c4, c5, -, hB⟩ := hHeld
  have n0 := blk_cell (k := 0) hN rfl
  have n1 := blk_cell (k := 1) hN rfl
  have n2 := blk_cell (k := 2) hN rfl
  have n3 := blk_cell (k := 3) hN rfl
  simp only [List.getElem_toArray, List.getElem_cons_zero, List.getElem_cons_succ] at n0 n1 n2 n3
  have HB := Lib.hid hB
  have HN := Lib.hid hN
  clear HX2 HKeep hB hN
  go_wp2
  have q1 := set4m_res HN.out mz
  have g0 := (blk_cell (k := 0) q1 rfl).1
  have g1 := (blk_cell (k := 1) q1 rfl).1
  have g2 := (blk_cell (k := 2) q1 rfl).1
  have g3 := (blk_cell (k := 3) q1 rfl).1
  simp only [List.getElem_toArray, List.getElem_cons_zero, List.getElem_cons_succ] at g0 g1 g2 g3
  have q2 := (((HB.out.setCell (p := ⟨w.heap.size, 0, none⟩) (Nat.le_refl _) (.int .i64 (mz).k)).setCell (p := ⟨w.heap.size, 1, none⟩) (Nat.le_refl _) (.int .i64 (mz).c)).setCell (p := ⟨w.heap.size, 2, none⟩) (Nat.le_refl _) (.int .i64 (mz).n)).setCell (p := ⟨w.heap.size, 3, none⟩) (Nat.le_refl _) (.string (mz).s)
  refine bodyPost_ret (v := .tuple #[mv mz, .int .i64 80]) (by simp [results, Tryd.results16, go_sem, g0, g1, g2, g3]; try rfl) rfl ?_
  exact ⟨rfl, q2⟩

set_option maxRecDepth 100000 in
set_option maxHeartbeats 6400000 in
theorem mdecode_sum (s : ByteArray) (w : World) (ea : Addr) (E : Env w ea) (hs : s.size ≤ maxLen) (h8 : 8 ≤ s.size) (hv : okM (mkM s)) (hq : rdM s 2 ≠ ((ckM (mkM s) : Nat) : Int)) :
    Calls Tryd.prog 16 #[.string s] w fun e w' => e = .returned (.tuple #[mv mz, .int .i64 80]) ∧ Below w.heap.size w w' := by
  have hbd := rdM_bd s h8
  have hk64 : b64i (mkM s).k := by unfold b64i; show -9223372036854775808 ≤ rdM s 0 ∧ rdM s 0 ≤ 9223372036854775807; omega
  have hms : (mkM s).s.size ≤ maxLen := by show (s.extract 8 s.size).size ≤ maxLen; rw [ByteArray.size_extract]; omega
  have hvd : decide (okM (mkM s)) = true := decide_eq_true hv
  have HV := Lib.hid (fun w => mvalid_any (mkM s) hk64 hms w)
  have HVD := Lib.hid hvd
  have hrm := okM_room hv
  have HC := Lib.hid (fun w => mchecksum_any (mkM s) (rdM s 2) w (okM_in hv _ hbd.2.2.1) (by omega))
  have hqb : (rdM s 2 != ((ckM (mkM s) : Nat) : Int)) = true := by simp [hq]
  clear hrm
  clear hvd hbd hk64 hms hv hq
  have hEl := cell_lt E
  go_enter Tryd.func16, Tryd.ntmps16
  have hR1 := blk_new (w.alloc (mo mz)) (mst s fun _ => 0)
  rw [World.size_alloc] at hR1
  have hN1 := blk_alloc (blk_new w (mo mz)) (mst s fun _ => 0)
  have E1 : Env ((w.alloc (mo mz)).alloc (mst s fun _ => 0)) ea := cell_alloc (cell_alloc E _) _
  have hB1 : Below w.heap.size w ((w.alloc (mo mz)).alloc (mst s fun _ => 0)) := ((Below.refl _ w).alloc (Nat.le_refl _) _).alloc (by simp) _
  go_wp2_with fail
  refine (read_any s (w.heap.size + 1) _ ea E1 hR1 hs).mono ?_
  rintro e w2 ⟨hg2, (⟨-, rfl, hR2⟩ | ⟨hx, -⟩)⟩
  rotate_left
  · omega
  replace hR2 : w2.heap[w.heap.size + 1]? = some (mro (s.extract 8 s.size) (mkM s) (rdM s 2)) := hR2
  have hB2 : Below w.heap.size w w2 := hB1.grown hg2 hB1.size (fun k e => by simp at e; omega)
  have hN2 := (hg2.block w.heap.size (by simp; omega) (by simp)).trans hN1
  have E2 : w2.cell? ⟨0, 0, none⟩ = some (.iface 170 (.pointer (some ea))) := E.stay hB2
  clear hR1 hN1 E1 hB1 hg2
  have c1 := (blk_cell (k := 1) hR2 rfl).1
  have c2 := (blk_cell (k := 2) hR2 rfl).1
  have c3 := (blk_cell (k := 3) hR2 rfl).1
  have c4 := (blk_cell (k := 4) hR2 rfl).1
  have c5 := (blk_cell (k := 5) hR2 rfl).1
  simp only [List.getElem_toArray, List.getElem_cons_zero, List.getElem_cons_succ] at c1 c2 c3 c4 c5
  go_wp2_with fail
  have hX2 : (fun w' => w'.heap[w.heap.size]? = some (mo mz) ∧ w'.heap[w.heap.size + 1]? = some (mro (s.extract 8 s.size) (mkM s) (rdM s 2)) ∧ w'.cell? ⟨w.heap.size + 1, 1, none⟩ = some (.int .i64 (mkM s).k) ∧ w'.cell? ⟨w.heap.size + 1, 2, none⟩ = some (.int .i64 (mkM s).c) ∧ w'.cell? ⟨w.heap.size + 1, 3, none⟩ = some (.int .i64 (mkM s).n) ∧ w'.cell? ⟨w.heap.size + 1, 4, none⟩ = some (.string (mkM s).s) ∧ w'.cell? ⟨w.heap.size + 1, 5, none⟩ = some (.int .i64 (rdM s 2)) ∧ w'.cell? ⟨0, 0, none⟩ = some (.iface 170 (.pointer (some ea))) ∧ Below w.heap.size w w') w2.drew := ⟨hN2, hR2, c1, c2, c3, c4, c5, E2, hB2.drew⟩
  have HX2 := Lib.hid hX2
  have HKeep := Lib.hid (show ∀ W W' : World, Below W.heap.size W W' → (fun w' => w'.heap[w.heap.size]? = some (mo mz) ∧ w'.heap[w.heap.size + 1]? = some (mro (s.extract 8 s.size) (mkM s) (rdM s 2)) ∧ w'.cell? ⟨w.heap.size + 1, 1, none⟩ = some (.int .i64 (mkM s).k) ∧ w'.cell? ⟨w.heap.size + 1, 2, none⟩ = some (.int .i64 (mkM s).c) ∧ w'.cell? ⟨w.heap.size + 1, 3, none⟩ = some (.int .i64 (mkM s).n) ∧ w'.cell? ⟨w.heap.size + 1, 4, none⟩ = some (.string (mkM s).s) ∧ w'.cell? ⟨w.heap.size + 1, 5, none⟩ = some (.int .i64 (rdM s 2)) ∧ w'.cell? ⟨0, 0, none⟩ = some (.iface 170 (.pointer (some ea))) ∧ Below w.heap.size w w') W → (fun w' => w'.heap[w.heap.size]? = some (mo mz) ∧ w'.heap[w.heap.size + 1]? = some (mro (s.extract 8 s.size) (mkM s) (rdM s 2)) ∧ w'.cell? ⟨w.heap.size + 1, 1, none⟩ = some (.int .i64 (mkM s).k) ∧ w'.cell? ⟨w.heap.size + 1, 2, none⟩ = some (.int .i64 (mkM s).c) ∧ w'.cell? ⟨w.heap.size + 1, 3, none⟩ = some (.int .i64 (mkM s).n) ∧ w'.cell? ⟨w.heap.size + 1, 4, none⟩ = some (.string (mkM s).s) ∧ w'.cell? ⟨w.heap.size + 1, 5, none⟩ = some (.int .i64 (rdM s 2)) ∧ w'.cell? ⟨0, 0, none⟩ = some (.iface 170 (.pointer (some ea))) ∧ Below w.heap.size w w') W' from fun W W' hb h => ⟨blk_below h.1 hb (blk_lt h.1), blk_below h.2.1 hb (blk_lt h.2.1), keep_cell hb h.2.2.1, keep_cell hb h.2.2.2.1, keep_cell hb h.2.2.2.2.1, keep_cell hb h.2.2.2.2.2.1, keep_cell hb h.2.2.2.2.2.2.1, keep_cell hb h.2.2.2.2.2.2.2.1, h.2.2.2.2.2.2.2.2.trans (hb.mono h.2.2.2.2.2.2.2.2.size)⟩)
  clear hX2 hN2 hR2 c1 c2 c3 c4 c5 E2 hB2
  refine wp_region_noPanic ?_
  refine wp_region_held_drew (S := fun w' => w'.heap[w.heap.size]? = some (mo mz) ∧ w'.heap[w.heap.size + 1]? = some (mro (s.extract 8 s.size) (mkM s) (rdM s 2)) ∧ w'.cell? ⟨w.heap.size + 1, 1, none⟩ = some (.int .i64 (mkM s).k) ∧ w'.cell? ⟨w.heap.size + 1, 2, none⟩ = some (.int .i64 (mkM s).c) ∧ w'.cell? ⟨w.heap.size + 1, 3, none⟩ = some (.int .i64 (mkM s).n) ∧ w'.cell? ⟨w.heap.size + 1, 4, none⟩ = some (.string (mkM s).s) ∧ w'.cell? ⟨w.heap.size + 1, 5, none⟩ = some (.int .i64 (rdM s 2)) ∧ w'.cell? ⟨0, 0, none⟩ = some (.iface 170 (.pointer (some ea))) ∧ Below w.heap.size w w') (by kernel_rfl) (HX2.out) (fun hHeld => ?_)
  first
    | (refine wpAnyH_take (i := 0) (oi := ⟨some 9, _, _, _, _, _⟩) (v := ?v0) rfl (by kernel_rfl) (by kernel_rfl) (by kernel_rfl) (fun _ _ _ h => h) (Or.inl ⟨by rfl, ?hy0⟩) hHeld ?rr0
       case hy0 => (intro w hSw; (try dsimp only at hSw); go_simp; try with_reducible rfl))
    | (refine wpAnyH_take (i := 0) (oi := ⟨some 9, _, _, _, _, _⟩) (v := undef) rfl (by kernel_rfl) (by kernel_rfl) (by kernel_rfl) (fun _ _ _ h => h) (Or.inr ⟨by rfl, rfl⟩) hHeld ?rr0)
  try simp only [Act.put, List.setIfInBounds_toArray, List.set_cons_zero, List.set_cons_succ]
  first
    | (refine wpAnyH_take (i := 1) (oi := ⟨some 10, _, _, _, _, _⟩) (v := ?v1) rfl (by kernel_rfl) (by kernel_rfl) (by kernel_rfl) (fun _ _ _ h => h) (Or.inl ⟨by rfl, ?hy1⟩) hHeld ?rr1
       case hy1 => (intro w hSw; (try dsimp only at hSw); go_simp; try with_reducible rfl))
    | (refine wpAnyH_take (i := 1) (oi := ⟨some 10, _, _, _, _, _⟩) (v := undef) rfl (by kernel_rfl) (by kernel_rfl) (by kernel_rfl) (fun _ _ _ h => h) (Or.inr ⟨by rfl, rfl⟩) hHeld ?rr1)
  try simp only [Act.put, List.setIfInBounds_toArray, List.set_cons_zero, List.set_cons_succ]
  refine wpAnyH_ready (rs := [2]) (by kernel_rfl) (by simp) ?_
  refine AllReadyH.cons (o := ⟨some 11, _, _, _, _, _⟩) rfl (fun K hK => ?_) AllReadyH.nil
  go_simp
  refine (is_nil ea _).mono ?_; rintro e w3 ⟨rfl, rfl⟩
  refine hK.out _ _ (hHeld) (fun hHeld2 => ?_)
  clear hK K hHeld
  have hHeld := hHeld2
  clear hHeld2
  try simp only [Act.put, List.setIfInBounds_toArray, List.set_cons_zero, List.set_cons_succ]
  first
    | (refine wpAnyH_take (i := 3) (oi := ⟨some 12, _, _, _, _, _⟩) (v := ?v3) rfl (by kernel_rfl) (by kernel_rfl) (by kernel_rfl) (fun _ _ _ h => h) (Or.inl ⟨by rfl, ?hy3⟩) hHeld ?rr3
       case hy3 => (intro w hSw; (try dsimp only at hSw); go_simp; try with_reducible rfl))
    | (refine wpAnyH_take (i := 3) (oi := ⟨some 12, _, _, _, _, _⟩) (v := undef) rfl (by kernel_rfl) (by kernel_rfl) (by kernel_rfl) (fun _ _ _ h => h) (Or.inr ⟨by rfl, rfl⟩) hHeld ?rr3)
  try simp only [Act.put, List.setIfInBounds_toArray, List.set_cons_zero, List.set_cons_succ]
  first
    | (refine wpAnyH_take (i := 4) (oi := ⟨some 13, _, _, _, _, _⟩) (v := ?v4) rfl (by kernel_rfl) (by kernel_rfl) (by kernel_rfl) (fun _ _ _ h => h) (Or.inl ⟨by rfl, ?hy4⟩) hHeld ?rr4
       case hy4 => (intro w hSw; (try dsimp only at hSw); go_simp; try with_reducible rfl))
    | (refine wpAnyH_take (i := 4) (oi := ⟨some 13, _, _, _, _, _⟩) (v := undef) rfl (by kernel_rfl) (by kernel_rfl) (by kernel_rfl) (fun _ _ _ h => h) (Or.inr ⟨by rfl, rfl⟩) hHeld ?rr4)
  try simp only [Act.put, List.setIfInBounds_toArray, List.set_cons_zero, List.set_cons_succ]
  first
    | (refine wpAnyH_take (i := 5) (oi := ⟨some 14, _, _, _, _, _⟩) (v := ?v5) rfl (by kernel_rfl) (by kernel_rfl) (by kernel_rfl) (fun _ _ _ h => h) (Or.inl ⟨by rfl, ?hy5⟩) hHeld ?rr5
       case hy5 => (intro w hSw; (try dsimp only at hSw); go_simp; try with_reducible rfl))
    | (refine wpAnyH_take (i := 5) (oi := ⟨some 14, _, _, _, _, _⟩) (v := undef) rfl (by kernel_rfl) (by kernel_rfl) (by kernel_rfl) (fun _ _ _ h => h) (Or.inr ⟨by rfl, rfl⟩) hHeld ?rr5)
  try simp only [Act.put, List.setIfInBounds_toArray, List.set_cons_zero, List.set_cons_succ]
  first
    | (refine wpAnyH_take (i := 6) (oi := ⟨some 15, _, _, _, _, _⟩) (v := ?v6) rfl (by kernel_rfl) (by kernel_rfl) (by kernel_rfl) (fun _ _ _ h => h) (Or.inl ⟨by rfl, ?hy6⟩) hHeld ?rr6
       case hy6 => (intro w hSw; (try dsimp only at hSw); go_simp; try with_reducible rfl))
    | (refine wpAnyH_take (i := 6) (oi := ⟨some 15, _, _, _, _, _⟩) (v := undef) rfl (by kernel_rfl) (by kernel_rfl) (by kernel_rfl) (fun _ _ _ h => h) (Or.inr ⟨by rfl, rfl⟩) hHeld ?rr6)
  try simp only [Act.put, List.setIfInBounds_toArray, List.set_cons_zero, List.set_cons_succ]
  refine wpAnyH_ready (rs := [7]) (by kernel_rfl) (by simp) ?_
  refine AllReadyH.cons (o := ⟨some 16, _, _, _, _, _⟩) rfl (fun K hK => ?_) AllReadyH.nil
  go_simp
  refine (HV.out _).mono ?_; rintro e w4 ⟨rfl, hb4⟩; rw [HVD.out]
  refine hK.out _ _ (HKeep.out _ _ hb4 hHeld) (fun hHeld2 => ?_)
  clear hK K hHeld
  have hHeld := hHeld2
  clear hHeld2
  try simp only [Act.put, List.setIfInBounds_toArray, List.set_cons_zero, List.set_cons_succ]
  first
    | (refine wpAnyH_take (i := 8) (oi := ⟨some 17, _, _, _, _, _⟩) (v := ?v8) rfl (by kernel_rfl) (by kernel_rfl) (by kernel_rfl) (fun _ _ _ h => h) (Or.inl ⟨by rfl, ?hy8⟩) hHeld ?rr8
       case hy8 => (intro w hSw; (try dsimp only at hSw); go_simp; try with_reducible rfl))
    | (refine wpAnyH_take (i := 8) (oi := ⟨some 17, _, _, _, _, _⟩) (v := undef) rfl (by kernel_rfl) (by kernel_rfl) (by kernel_rfl) (fun _ _ _ h => h) (Or.inr ⟨by rfl, rfl⟩) hHeld ?rr8)
  try simp only [Act.put, List.setIfInBounds_toArray, List.set_cons_zero, List.set_cons_succ]
  first
    | (refine wpAnyH_take (i := 9) (oi := ⟨some 18, _, _, _, _, _⟩) (v := ?v9) rfl (by kernel_rfl) (by kernel_rfl) (by kernel_rfl) (fun _ _ _ h => h) (Or.inl ⟨by rfl, ?hy9⟩) hHeld ?rr9
       case hy9 => (intro w hSw; (try dsimp only at hSw); go_simp; try with_reducible rfl))
    | (refine wpAnyH_take (i := 9) (oi := ⟨some 18, _, _, _, _, _⟩) (v := undef) rfl (by kernel_rfl) (by kernel_rfl) (by kernel_rfl) (fun _ _ _ h => h) (Or.inr ⟨by rfl, rfl⟩) hHeld ?rr9)
  try simp only [Act.put, List.setIfInBounds_toArray, List.set_cons_zero, List.set_cons_succ]
  first
    | (refine wpAnyH_take (i := 10) (oi := ⟨some 19, _, _, _, _, _⟩) (v := ?v10) rfl (by kernel_rfl) (by kernel_rfl) (by kernel_rfl) (fun _ _ _ h => h) (Or.inl ⟨by rfl, ?hy10⟩) hHeld ?rr10
       case hy10 => (intro w hSw; (try dsimp only at hSw); go_simp; try with_reducible rfl))
    | (refine wpAnyH_take (i := 10) (oi := ⟨some 19, _, _, _, _, _⟩) (v := undef) rfl (by kernel_rfl) (by kernel_rfl) (by kernel_rfl) (fun _ _ _ h => h) (Or.inr ⟨by rfl, rfl⟩) hHeld ?rr10)
  try simp only [Act.put, List.setIfInBounds_toArray, List.set_cons_zero, List.set_cons_succ]
  first
    | (refine wpAnyH_take (i := 11) (oi := ⟨some 20, _, _, _, _, _⟩) (v := ?v11) rfl (by kernel_rfl) (by kernel_rfl) (by kernel_rfl) (fun _ _ _ h => h) (Or.inl ⟨by rfl, ?hy11⟩) hHeld ?rr11
       case hy11 => (intro w hSw; (try dsimp only at hSw); go_simp; try with_reducible rfl))
    | (refine wpAnyH_take (i := 11) (oi := ⟨some 20, _, _, _, _, _⟩) (v := undef) rfl (by kernel_rfl) (by kernel_rfl) (by kernel_rfl) (fun _ _ _ h => h) (Or.inr ⟨by rfl, rfl⟩) hHeld ?rr11)
  try simp only [Act.put, List.setIfInBounds_toArray, List.set_cons_zero, List.set_cons_succ]
  first
    | (refine wpAnyH_take (i := 12) (oi := ⟨some 21, _, _, _, _, _⟩) (v := ?v12) rfl (by kernel_rfl) (by kernel_rfl) (by kernel_rfl) (fun _ _ _ h => h) (Or.inl ⟨by rfl, ?hy12⟩) hHeld ?rr12
       case hy12 => (intro w hSw; (try dsimp only at hSw); go_simp; try with_reducible rfl))
    | (refine wpAnyH_take (i := 12) (oi := ⟨some 21, _, _, _, _, _⟩) (v := undef) rfl (by kernel_rfl) (by kernel_rfl) (by kernel_rfl) (fun _ _ _ h => h) (Or.inr ⟨by rfl, rfl⟩) hHeld ?rr12)
  try simp only [Act.put, List.setIfInBounds_toArray, List.set_cons_zero, List.set_cons_succ]
  first
    | (refine wpAnyH_take (i := 13) (oi := ⟨some 22, _, _, _, _, _⟩) (v := ?v13) rfl (by kernel_rfl) (by kernel_rfl) (by kernel_rfl) (fun _ _ _ h => h) (Or.inl ⟨by rfl, ?hy13⟩) hHeld ?rr13
       case hy13 => (intro w hSw; (try dsimp only at hSw); go_simp; try with_reducible rfl))
    | (refine wpAnyH_take (i := 13) (oi := ⟨some 22, _, _, _, _, _⟩) (v := undef) rfl (by kernel_rfl) (by kernel_rfl) (by kernel_rfl) (fun _ _ _ h => h) (Or.inr ⟨by rfl, rfl⟩) hHeld ?rr13)
  try simp only [Act.put, List.setIfInBounds_toArray, List.set_cons_zero, List.set_cons_succ]
  first
    | (refine wpAnyH_take (i := 14) (oi := ⟨some 23, _, _, _, _, _⟩) (v := ?v14) rfl (by kernel_rfl) (by kernel_rfl) (by kernel_rfl) (fun _ _ _ h => h) (Or.inl ⟨by rfl, ?hy14⟩) hHeld ?rr14
       case hy14 => (intro w hSw; (try dsimp only at hSw); go_simp; try with_reducible rfl))
    | (refine wpAnyH_take (i := 14) (oi := ⟨some 23, _, _, _, _, _⟩) (v := undef) rfl (by kernel_rfl) (by kernel_rfl) (by kernel_rfl) (fun _ _ _ h => h) (Or.inr ⟨by rfl, rfl⟩) hHeld ?rr14)
  try simp only [Act.put, List.setIfInBounds_toArray, List.set_cons_zero, List.set_cons_succ]
  first
    | (refine wpAnyH_take (i := 15) (oi := ⟨some 24, _, _, _, _, _⟩) (v := ?v15) rfl (by kernel_rfl) (by kernel_rfl) (by kernel_rfl) (fun _ _ _ h => h) (Or.inl ⟨by rfl, ?hy15⟩) hHeld ?rr15
       case hy15 => (intro w hSw; (try dsimp only at hSw); go_simp; try with_reducible rfl))
    | (refine wpAnyH_take (i := 15) (oi := ⟨some 24, _, _, _, _, _⟩) (v := undef) rfl (by kernel_rfl) (by kernel_rfl) (by kernel_rfl) (fun _ _ _ h => h) (Or.inr ⟨by rfl, rfl⟩) hHeld ?rr15)
  try simp only [Act.put, List.setIfInBounds_toArray, List.set_cons_zero, List.set_cons_succ]
  refine wpAnyH_ready (rs := [16]) (by kernel_rfl) (by simp) ?_
  refine AllReadyH.cons (o := ⟨some 25, _, _, _, _, _⟩) rfl (fun K hK => ?_) AllReadyH.nil
  go_simp
  refine (HC.out _).mono ?_; rintro e w5 ⟨rfl, hb5⟩
  refine hK.out _ _ (HKeep.out _ _ hb5 hHeld) (fun hHeld2 => ?_)
  clear hK K hHeld
  have hHeld := hHeld2
  clear hHeld2
  try simp only [Act.put, List.setIfInBounds_toArray, List.set_cons_zero, List.set_cons_succ]
  first
    | (refine wpAnyH_take (i := 17) (oi := ⟨some 26, _, _, _, _, _⟩) (v := ?v17) rfl (by kernel_rfl) (by kernel_rfl) (by kernel_rfl) (fun _ _ _ h => h) (Or.inl ⟨by rfl, ?hy17⟩) hHeld ?rr17
       case hy17 => (intro w hSw; (try dsimp only at hSw); go_simp; try with_reducible rfl))
    | (refine wpAnyH_take (i := 17) (oi := ⟨some 26, _, _, _, _, _⟩) (v := undef) rfl (by kernel_rfl) (by kernel_rfl) (by kernel_rfl) (fun _ _ _ h => h) (Or.inr ⟨by rfl, rfl⟩) hHeld ?rr17)
  try simp only [Act.put, List.setIfInBounds_toArray, List.set_cons_zero, List.set_cons_succ]
  first
    | (refine wpAnyH_take (i := 18) (oi := ⟨some 27, _, _, _, _, _⟩) (v := ?v18) rfl (by kernel_rfl) (by kernel_rfl) (by kernel_rfl) (fun _ _ _ h => h) (Or.inl ⟨by rfl, ?hy18⟩) hHeld ?rr18
       case hy18 => (intro w hSw; (try dsimp only at hSw); go_simp; try with_reducible rfl))
    | (refine wpAnyH_take (i := 18) (oi := ⟨some 27, _, _, _, _, _⟩) (v := undef) rfl (by kernel_rfl) (by kernel_rfl) (by kernel_rfl) (fun _ _ _ h => h) (Or.inr ⟨by rfl, rfl⟩) hHeld ?rr18)
  try simp only [Act.put, List.setIfInBounds_toArray, List.set_cons_zero, List.set_cons_succ]
  refine wpAnyH_done (by kernel_rfl) ?_ _
  refine NoPanic.normal ?_
  obtain ⟨hN, hR, c1, c2, c3, c4, c5, -, hB⟩ := hHeld
  have n0 := blk_cell (k := 0) hN rfl
  have n1 := blk_cell (k := 1) hN rfl
  have n2 := blk_cell (k := 2) hN rfl
  have n3 := blk_cell (k := 3) hN rfl
  simp only [List.getElem_toArray, List.getElem_cons_zero, List.getElem_cons_succ] at n0 n1 n2 n3
  have HB := Lib.hid hB
  have HN := Lib.hid hN
  clear HX2 HKeep hB hN
  go_wp2
  have q1 := set4m_res HN.out mz
  have g0 := (blk_cell (k := 0) q1 rfl).1
  have g1 := (blk_cell (k := 1) q1 rfl).1
  have g2 := (blk_cell (k := 2) q1 rfl).1
  have g3 := (blk_cell (k := 3) q1 rfl).1
  simp only [List.getElem_toArray, List.getElem_cons_zero, List.getElem_cons_succ] at g0 g1 g2 g3
  have q2 := (((HB.out.setCell (p := ⟨w.heap.size, 0, none⟩) (Nat.le_refl _) (.int .i64 (mz).k)).setCell (p := ⟨w.heap.size, 1, none⟩) (Nat.le_refl _) (.int .i64 (mz).c)).setCell (p := ⟨w.heap.size, 2, none⟩) (Nat.le_refl _) (.int .i64 (mz).n)).setCell (p := ⟨w.heap.size, 3, none⟩) (Nat.le_refl _) (.string (mz).s)
  refine bodyPost_ret (v := .tuple #[mv mz, .int .i64 80]) (by simp [results, Tryd.results16, go_sem, g0, g1, g2, g3]; try rfl) rfl ?_
  exact ⟨rfl, q2⟩

set_option maxRecDepth 100000 in
set_option maxHeartbeats 6400000 in
theorem mdecode_ok (s : ByteArray) (w : World) (ea : Addr) (E : Env w ea) (hs : s.size ≤ maxLen) (hd : decM s) :
    Calls Tryd.prog 16 #[.string s] w fun e w' => e = .returned (.tuple #[mv (mkM s), .int .i64 0]) ∧ Below w.heap.size w w' := by
  obtain ⟨h8, hv, hq⟩ := hd
  have hbd := rdM_bd s h8
  have hk64 : b64i (mkM s).k := by unfold b64i; show -9223372036854775808 ≤ rdM s 0 ∧ rdM s 0 ≤ 9223372036854775807; omega
  have hms : (mkM s).s.size ≤ maxLen := by show (s.extract 8 s.size).size ≤ maxLen; rw [ByteArray.size_extract]; omega
  have hvd : decide (okM (mkM s)) = true := decide_eq_true hv
  have HV := Lib.hid (fun w => mvalid_any (mkM s) hk64 hms w)
  have HVD := Lib.hid hvd
  have hrm := okM_room hv
  have HC := Lib.hid (fun w => mchecksum_any (mkM s) (rdM s 2) w (okM_in hv _ hbd.2.2.1) (by omega))
  have hqb : (rdM s 2 != ((ckM (mkM s) : Nat) : Int)) = false := by simp [hq]
  clear hrm
  clear hvd hbd hk64 hms hv hq
  have hEl := cell_lt E
  go_enter Tryd.func16, Tryd.ntmps16
  have hR1 := blk_new (w.alloc (mo mz)) (mst s fun _ => 0)
  rw [World.size_alloc] at hR1
  have hN1 := blk_alloc (blk_new w (mo mz)) (mst s fun _ => 0)
  have E1 : Env ((w.alloc (mo mz)).alloc (mst s fun _ => 0)) ea := cell_alloc (cell_alloc E _) _
  have hB1 : Below w.heap.size w ((w.alloc (mo mz)).alloc (mst s fun _ => 0)) := ((Below.refl _ w).alloc (Nat.le_refl _) _).alloc (by simp) _
  go_wp2_with fail
  refine (read_any s (w.heap.size + 1) _ ea E1 hR1 hs).mono ?_
  rintro e w2 ⟨hg2, (⟨-, rfl, hR2⟩ | ⟨hx, -⟩)⟩
  rotate_left
  · omega
  replace hR2 : w2.heap[w.heap.size + 1]? = some (mro (s.extract 8 s.size) (mkM s) (rdM s 2)) := hR2
  have hB2 : Below w.heap.size w w2 := hB1.grown hg2 hB1.size (fun k e => by simp at e; omega)
  have hN2 := (hg2.block w.heap.size (by simp; omega) (by simp)).trans hN1
  have E2 : w2.cell? ⟨0, 0, none⟩ = some (.iface 170 (.pointer (some ea))) := E.stay hB2
  clear hR1 hN1 E1 hB1 hg2
  have c1 := (blk_cell (k := 1) hR2 rfl).1
  have c2 := (blk_cell (k := 2) hR2 rfl).1
  have c3 := (blk_cell (k := 3) hR2 rfl).1
  have c4 := (blk_cell (k := 4) hR2 rfl).1
  have c5 := (blk_cell (k := 5) hR2 rfl).1
  simp only [List.getElem_toArray, List.getElem_cons_zero, List.getElem_cons_succ] at c1 c2 c3 c4 c5
  go_wp2_with fail
  have hX2 : (fun w' => w'.heap[w.heap.size]? = some (mo mz) ∧ w'.heap[w.heap.size + 1]? = some (mro (s.extract 8 s.size) (mkM s) (rdM s 2)) ∧ w'.cell? ⟨w.heap.size + 1, 1, none⟩ = some (.int .i64 (mkM s).k) ∧ w'.cell? ⟨w.heap.size + 1, 2, none⟩ = some (.int .i64 (mkM s).c) ∧ w'.cell? ⟨w.heap.size + 1, 3, none⟩ = some (.int .i64 (mkM s).n) ∧ w'.cell? ⟨w.heap.size + 1, 4, none⟩ = some (.string (mkM s).s) ∧ w'.cell? ⟨w.heap.size + 1, 5, none⟩ = some (.int .i64 (rdM s 2)) ∧ w'.cell? ⟨0, 0, none⟩ = some (.iface 170 (.pointer (some ea))) ∧ Below w.heap.size w w') w2.drew := ⟨hN2, hR2, c1, c2, c3, c4, c5, E2, hB2.drew⟩
  have HX2 := Lib.hid hX2
  have HKeep := Lib.hid (show ∀ W W' : World, Below W.heap.size W W' → (fun w' => w'.heap[w.heap.size]? = some (mo mz) ∧ w'.heap[w.heap.size + 1]? = some (mro (s.extract 8 s.size) (mkM s) (rdM s 2)) ∧ w'.cell? ⟨w.heap.size + 1, 1, none⟩ = some (.int .i64 (mkM s).k) ∧ w'.cell? ⟨w.heap.size + 1, 2, none⟩ = some (.int .i64 (mkM s).c) ∧ w'.cell? ⟨w.heap.size + 1, 3, none⟩ = some (.int .i64 (mkM s).n) ∧ w'.cell? ⟨w.heap.size + 1, 4, none⟩ = some (.string (mkM s).s) ∧ w'.cell? ⟨w.heap.size + 1, 5, none⟩ = some (.int .i64 (rdM s 2)) ∧ w'.cell? ⟨0, 0, none⟩ = some (.iface 170 (.pointer (some ea))) ∧ Below w.heap.size w w') W → (fun w' => w'.heap[w.heap.size]? = some (mo mz) ∧ w'.heap[w.heap.size + 1]? = some (mro (s.extract 8 s.size) (mkM s) (rdM s 2)) ∧ w'.cell? ⟨w.heap.size + 1, 1, none⟩ = some (.int .i64 (mkM s).k) ∧ w'.cell? ⟨w.heap.size + 1, 2, none⟩ = some (.int .i64 (mkM s).c) ∧ w'.cell? ⟨w.heap.size + 1, 3, none⟩ = some (.int .i64 (mkM s).n) ∧ w'.cell? ⟨w.heap.size + 1, 4, none⟩ = some (.string (mkM s).s) ∧ w'.cell? ⟨w.heap.size + 1, 5, none⟩ = some (.int .i64 (rdM s 2)) ∧ w'.cell? ⟨0, 0, none⟩ = some (.iface 170 (.pointer (some ea))) ∧ Below w.heap.size w w') W' from fun W W' hb h => ⟨blk_below h.1 hb (blk_lt h.1), blk_below h.2.1 hb (blk_lt h.2.1), keep_cell hb h.2.2.1, keep_cell hb h.2.2.2.1, keep_cell hb h.2.2.2.2.1, keep_cell hb h.2.2.2.2.2.1, keep_cell hb h.2.2.2.2.2.2.1, keep_cell hb h.2.2.2.2.2.2.2.1, h.2.2.2.2.2.2.2.2.trans (hb.mono h.2.2.2.2.2.2.2.2.size)⟩)
  clear hX2 hN2 hR2 c1 c2 c3 c4 c5 E2 hB2
  go_region_held3 (fun w' => w'.heap[w.heap.size]? = some (mo mz) ∧ w'.heap[w.heap.size + 1]? = some (mro (s.extract 8 s.size) (mkM s) (rdM s 2)) ∧ w'.cell? ⟨w.heap.size + 1, 1, none⟩ = some (.int .i64 (mkM s).k) ∧ w'.cell? ⟨w.heap.size + 1, 2, none⟩ = some (.int .i64 (mkM s).c) ∧ w'.cell? ⟨w.heap.size + 1, 3, none⟩ = some (.int .i64 (mkM s).n) ∧ w'.cell? ⟨w.heap.size + 1, 4, none⟩ = some (.string (mkM s).s) ∧ w'.cell? ⟨w.heap.size + 1, 5, none⟩ = some (.int .i64 (rdM s 2)) ∧ w'.cell? ⟨0, 0, none⟩ = some (.iface 170 (.pointer (some ea))) ∧ Below w.heap.size w w')
    (first | exact HX2.out | exact HX4 | exact HX3)
    (first
      | (go_at_call 41; refine (is_nil ea _).mono ?_; rintro e w3 ⟨rfl, rfl⟩)
      | (go_at_call 20; refine (HV.out _).mono ?_; rintro e w4 ⟨rfl, hb4⟩; rw [HVD.out]; have HX3 := HKeep.out _ _ hb4 HX2.out)
      | (go_at_call 36; refine (HC.out _).mono ?_; rintro e w5 ⟨rfl, hb5⟩; have HX4 := HKeep.out _ _ hb5 HX3))
  rename_i hHeld
  obtain ⟨hN, hR, c1, c2, c3, c4, c5, -, hB⟩ := hHeld
  have n0 := blk_cell (k := 0) hN rfl
  have n1 := blk_cell (k := 1) hN rfl
  have n2 := blk_cell (k := 2) hN rfl
  have n3 := blk_cell (k := 3) hN rfl
  simp only [List.getElem_toArray, List.getElem_cons_zero, List.getElem_cons_succ] at n0 n1 n2 n3
  have HB := Lib.hid hB
  have HN := Lib.hid hN
  clear HX2 HKeep hB hN
  go_wp2
  have q1 := set4m_res HN.out (mkM s)
  have g0 := (blk_cell (k := 0) q1 rfl).1
  have g1 := (blk_cell (k := 1) q1 rfl).1
  have g2 := (blk_cell (k := 2) q1 rfl).1
  have g3 := (blk_cell (k := 3) q1 rfl).1
  simp only [List.getElem_toArray, List.getElem_cons_zero, List.getElem_cons_succ] at g0 g1 g2 g3
  have q2 := (((HB.out.setCell (p := ⟨w.heap.size, 0, none⟩) (Nat.le_refl _) (.int .i64 (mkM s).k)).setCell (p := ⟨w.heap.size, 1, none⟩) (Nat.le_refl _) (.int .i64 (mkM s).c)).setCell (p := ⟨w.heap.size, 2, none⟩) (Nat.le_refl _) (.int .i64 (mkM s).n)).setCell (p := ⟨w.heap.size, 3, none⟩) (Nat.le_refl _) (.string (mkM s).s)
  refine bodyPost_ret (v := .tuple #[mv (mkM s), .int .i64 0]) (by simp [results, Tryd.results16, go_sem, g0, g1, g2, g3]; try rfl) rfl ?_
  exact ⟨rfl, q2⟩

/-- icmp.Decode -/
theorem mdecode_no (s : ByteArray) (w : World) (ea : Addr) (E : Env w ea) (hs : s.size ≤ maxLen) (hd : ¬ decM s) :
    Calls Tryd.prog 16 #[.string s] w fun e w' => e = .returned (.tuple #[mv mz, .int .i64 80]) ∧ Below w.heap.size w w' := by
  by_cases h8 : s.size < 8
  · exact mdecode_short s w ea E hs h8
  by_cases hv : okM (mkM s)
  · exact mdecode_sum s w ea E hs (by omega) hv (fun hq => hd ⟨by omega, hv, hq⟩)
  · exact mdecode_inv s w ea E hs (by omega) hv
end Go.Proofs.YtidjbpglpobigaaDoor
