/- Contracts of ip.Decode and ip.DecodeHeader. -/
import Derived.Test.YtidjbpglpobigaaDoorIpDec
namespace Go.Proofs.YtidjbpglpobigaaDoor
open Go.RowKit
set_option linter.unusedVariables false
attribute [local go_sem] Oper.semAt_some

theorem mkP_size (s : ByteArray) (h : 20 ≤ s.size) : (mkP s).s.size = s.size - 20 := by
  show (s.extract 20 s.size).size = _
  rw [ByteArray.size_extract]; omega
def dV (b : Prop) [Decidable b] (s : ByteArray) : Value := if b then pv (mkP s) else pv pz
def dE (b : Prop) [Decidable b] : Int := if b then 0 else 60
def decE (s : ByteArray) : Prop := decOk s ∧ (s.size : Int) = 20 + rdF s 8
def decL (s : ByteArray) : Prop := decOk s ∧ (s.size : Int) ≤ 20 + rdF s 8
instance (s : ByteArray) : Decidable (decE s) := by unfold decE; infer_instance
instance (s : ByteArray) : Decidable (decL s) := by unfold decL; infer_instance
abbrev set9 (W : World) (N : Nat) (p : Pk) : World := ((((((((W.setCell ⟨N, 0, none⟩ (.int .i64 p.fr)).setCell ⟨N, 1, none⟩ (.int .i64 p.to)).setCell ⟨N, 2, none⟩ (.int .i64 p.pr)).setCell ⟨N, 3, none⟩ (.int .i64 p.tt)).setCell ⟨N, 4, none⟩ (.int .i64 p.id)).setCell ⟨N, 5, none⟩ (.bool p.df)).setCell ⟨N, 6, none⟩ (.bool p.mf)).setCell ⟨N, 7, none⟩ (.int .i64 p.off)).setCell ⟨N, 8, none⟩ (.string p.s)
theorem set9_res {W : World} {N : Nat} {q : Pk} (h : W.heap[N]? = some (po q)) (p : Pk) : (set9 W N p).heap[N]? = some (po p) := by
  have h0 : (W.setCell ⟨N, 0, none⟩ (.int .i64 p.fr)).heap[N]? = some (.cells #[.int .i64 p.fr, .int .i64 q.to, .int .i64 q.pr, .int .i64 q.tt, .int .i64 q.id, .bool q.df, .bool q.mf, .int .i64 q.off, .string q.s] 31) := blk_setc (k := 0) h (.int .i64 p.fr)
  have h1 : ((W.setCell ⟨N, 0, none⟩ (.int .i64 p.fr)).setCell ⟨N, 1, none⟩ (.int .i64 p.to)).heap[N]? = some (.cells #[.int .i64 p.fr, .int .i64 p.to, .int .i64 q.pr, .int .i64 q.tt, .int .i64 q.id, .bool q.df, .bool q.mf, .int .i64 q.off, .string q.s] 31) := blk_setc (k := 1) h0 (.int .i64 p.to)
  have h2 : (((W.setCell ⟨N, 0, none⟩ (.int .i64 p.fr)).setCell ⟨N, 1, none⟩ (.int .i64 p.to)).setCell ⟨N, 2, none⟩ (.int .i64 p.pr)).heap[N]? = some (.cells #[.int .i64 p.fr, .int .i64 p.to, .int .i64 p.pr, .int .i64 q.tt, .int .i64 q.id, .bool q.df, .bool q.mf, .int .i64 q.off, .string q.s] 31) := blk_setc (k := 2) h1 (.int .i64 p.pr)
  have h3 : ((((W.setCell ⟨N, 0, none⟩ (.int .i64 p.fr)).setCell ⟨N, 1, none⟩ (.int .i64 p.to)).setCell ⟨N, 2, none⟩ (.int .i64 p.pr)).setCell ⟨N, 3, none⟩ (.int .i64 p.tt)).heap[N]? = some (.cells #[.int .i64 p.fr, .int .i64 p.to, .int .i64 p.pr, .int .i64 p.tt, .int .i64 q.id, .bool q.df, .bool q.mf, .int .i64 q.off, .string q.s] 31) := blk_setc (k := 3) h2 (.int .i64 p.tt)
  have h4 : (((((W.setCell ⟨N, 0, none⟩ (.int .i64 p.fr)).setCell ⟨N, 1, none⟩ (.int .i64 p.to)).setCell ⟨N, 2, none⟩ (.int .i64 p.pr)).setCell ⟨N, 3, none⟩ (.int .i64 p.tt)).setCell ⟨N, 4, none⟩ (.int .i64 p.id)).heap[N]? = some (.cells #[.int .i64 p.fr, .int .i64 p.to, .int .i64 p.pr, .int .i64 p.tt, .int .i64 p.id, .bool q.df, .bool q.mf, .int .i64 q.off, .string q.s] 31) := blk_setc (k := 4) h3 (.int .i64 p.id)
  have h5 : ((((((W.setCell ⟨N, 0, none⟩ (.int .i64 p.fr)).setCell ⟨N, 1, none⟩ (.int .i64 p.to)).setCell ⟨N, 2, none⟩ (.int .i64 p.pr)).setCell ⟨N, 3, none⟩ (.int .i64 p.tt)).setCell ⟨N, 4, none⟩ (.int .i64 p.id)).setCell ⟨N, 5, none⟩ (.bool p.df)).heap[N]? = some (.cells #[.int .i64 p.fr, .int .i64 p.to, .int .i64 p.pr, .int .i64 p.tt, .int .i64 p.id, .bool p.df, .bool q.mf, .int .i64 q.off, .string q.s] 31) := blk_setc (k := 5) h4 (.bool p.df)
  have h6 : (((((((W.setCell ⟨N, 0, none⟩ (.int .i64 p.fr)).setCell ⟨N, 1, none⟩ (.int .i64 p.to)).setCell ⟨N, 2, none⟩ (.int .i64 p.pr)).setCell ⟨N, 3, none⟩ (.int .i64 p.tt)).setCell ⟨N, 4, none⟩ (.int .i64 p.id)).setCell ⟨N, 5, none⟩ (.bool p.df)).setCell ⟨N, 6, none⟩ (.bool p.mf)).heap[N]? = some (.cells #[.int .i64 p.fr, .int .i64 p.to, .int .i64 p.pr, .int .i64 p.tt, .int .i64 p.id, .bool p.df, .bool p.mf, .int .i64 q.off, .string q.s] 31) := blk_setc (k := 6) h5 (.bool p.mf)
  have h7 : ((((((((W.setCell ⟨N, 0, none⟩ (.int .i64 p.fr)).setCell ⟨N, 1, none⟩ (.int .i64 p.to)).setCell ⟨N, 2, none⟩ (.int .i64 p.pr)).setCell ⟨N, 3, none⟩ (.int .i64 p.tt)).setCell ⟨N, 4, none⟩ (.int .i64 p.id)).setCell ⟨N, 5, none⟩ (.bool p.df)).setCell ⟨N, 6, none⟩ (.bool p.mf)).setCell ⟨N, 7, none⟩ (.int .i64 p.off)).heap[N]? = some (.cells #[.int .i64 p.fr, .int .i64 p.to, .int .i64 p.pr, .int .i64 p.tt, .int .i64 p.id, .bool p.df, .bool p.mf, .int .i64 p.off, .string q.s] 31) := blk_setc (k := 7) h6 (.int .i64 p.off)
  have h8 : (((((((((W.setCell ⟨N, 0, none⟩ (.int .i64 p.fr)).setCell ⟨N, 1, none⟩ (.int .i64 p.to)).setCell ⟨N, 2, none⟩ (.int .i64 p.pr)).setCell ⟨N, 3, none⟩ (.int .i64 p.tt)).setCell ⟨N, 4, none⟩ (.int .i64 p.id)).setCell ⟨N, 5, none⟩ (.bool p.df)).setCell ⟨N, 6, none⟩ (.bool p.mf)).setCell ⟨N, 7, none⟩ (.int .i64 p.off)).setCell ⟨N, 8, none⟩ (.string p.s)).heap[N]? = some (.cells #[.int .i64 p.fr, .int .i64 p.to, .int .i64 p.pr, .int .i64 p.tt, .int .i64 p.id, .bool p.df, .bool p.mf, .int .i64 p.off, .string p.s] 31) := blk_setc (k := 8) h7 (.string p.s)
  exact h8
theorem set9_below {w W : World} {N : Nat} (hb : Below w.heap.size w W) (hN : w.heap.size ≤ N) (p : Pk) : Below w.heap.size w (set9 W N p) :=
  ((((((((hb.setCell (p := ⟨N, 0, none⟩) hN _).setCell (p := ⟨N, 1, none⟩) hN _).setCell (p := ⟨N, 2, none⟩) hN _).setCell (p := ⟨N, 3, none⟩) hN _).setCell (p := ⟨N, 4, none⟩) hN _).setCell (p := ⟨N, 5, none⟩) hN _).setCell (p := ⟨N, 6, none⟩) hN _).setCell (p := ⟨N, 7, none⟩) hN _).setCell (p := ⟨N, 8, none⟩) hN _

set_option maxRecDepth 100000 in
set_option maxHeartbeats 3000000 in
theorem dhd_any (s : ByteArray) (hs : s.size ≤ maxLen) (w : World) :
    Calls Tryd.prog 44 #[.string s] w fun e w' => e = .returned (.tuple #[dV (decL s) s, .int .i64 (dE (decL s))]) ∧ Below w.heap.size w w' := by
  have hW1 : ((w.alloc (po pz)).alloc (.cells (dcs s 0 fun _ => 0) 132)).heap[w.heap.size + 1]? = some (.cells (dcs s 0 fun _ => 0) 132 (0, 0)) := by
    have := blk_new (w.alloc (po pz)) (.cells (dcs s 0 fun _ => 0) 132)
    simp only [World.size_alloc] at this; exact this
  have hZ1 : ((w.alloc (po pz)).alloc (.cells (dcs s 0 fun _ => 0) 132)).heap[w.heap.size]? = some (po pz) := blk_alloc (blk_new w (po pz)) _
  have hB1 : Below w.heap.size w ((w.alloc (po pz)).alloc (.cells (dcs s 0 fun _ => 0) 132)) := ((Below.refl _ w).alloc (Nat.le_refl _) _).alloc (by simp) _
  have hl1 : w.heap.size + 1 < ((w.alloc (po pz)).alloc (.cells (dcs s 0 fun _ => 0) 132)).heap.size := by simp
  go_enter Tryd.func44, Tryd.ntmps44
  by_cases h20 : s.size < 20
  · have hv : dV (decL s) s = pv pz := if_neg (fun h => by have := h.1.1; omega)
    have he : dE (decL s) = 60 := if_neg (fun h => by have := h.1.1; omega)
    have HV := Lib.hid hv
    have HE := Lib.hid he
    clear hv he
    go_wp2_with fail
    refine (decode_short s (w.heap.size + 1) _ hW1 h20).mono ?_
    rintro e w2 ⟨rfl, hg2⟩
    have hZ2 := (hg2.block w.heap.size (by simp; omega) (by simp)).trans hZ1
    have hB2 : Below w.heap.size w w2 := hB1.grown hg2 hB1.size (fun k e => by simp at e; omega)
    clear hg2 hZ1 hB1 hW1 hl1
    have z0 := blk_cell (k := 0) hZ2 rfl
    have z1 := blk_cell (k := 1) hZ2 rfl
    have z2 := blk_cell (k := 2) hZ2 rfl
    have z3 := blk_cell (k := 3) hZ2 rfl
    have z4 := blk_cell (k := 4) hZ2 rfl
    have z5 := blk_cell (k := 5) hZ2 rfl
    have z6 := blk_cell (k := 6) hZ2 rfl
    have z7 := blk_cell (k := 7) hZ2 rfl
    have z8 := blk_cell (k := 8) hZ2 rfl
    simp only [List.getElem_toArray, List.getElem_cons_zero, List.getElem_cons_succ] at z0 z1 z2 z3 z4 z5 z6 z7 z8
    go_wp2
    have q1 := set9_res hZ2 pz
    have q2 := set9_below hB2 (Nat.le_refl _) pz
    have g0 := (blk_cell (k := 0) q1 rfl).1
    have g1 := (blk_cell (k := 1) q1 rfl).1
    have g2 := (blk_cell (k := 2) q1 rfl).1
    have g3 := (blk_cell (k := 3) q1 rfl).1
    have g4 := (blk_cell (k := 4) q1 rfl).1
    have g5 := (blk_cell (k := 5) q1 rfl).1
    have g6 := (blk_cell (k := 6) q1 rfl).1
    have g7 := (blk_cell (k := 7) q1 rfl).1
    have g8 := (blk_cell (k := 8) q1 rfl).1
    simp only [List.getElem_toArray, List.getElem_cons_zero, List.getElem_cons_succ] at g0 g1 g2 g3 g4 g5 g6 g7 g8
    rw [HV.out, HE.out]
    refine bodyPost_ret (v := .tuple #[pv pz, .int .i64 60]) (by simp [results, Tryd.results44, go_sem, g0, g1, g2, g3, g4, g5, g6, g7, g8]; try rfl) rfl ?_
    exact ⟨rfl, q2⟩
  · have h20' : 20 ≤ s.size := by omega
    have hsz := mkP_size s h20'
    have hszI : ((mkP s).s.size : Int) = (s.size : Int) - 20 := by omega
    go_wp2_with fail
    refine (decode_long s (w.heap.size + 1) _ hW1 hs h20').mono ?_
    rintro e w2 ⟨rfl, hg2, hD2⟩
    have hZ2 := (hg2.block w.heap.size (by simp; omega) (by simp)).trans hZ1
    have hB2 : Below w.heap.size w w2 := hB1.grown hg2 hB1.size (fun k e => by simp at e; omega)
    clear hg2 hZ1 hB1 hW1 hl1
    by_cases hok : decOk s
    · rw [decide_eq_true hok]
      have d10 := (blk_cell (k := 10) hD2 rfl).1
      have d14 := (blk_cell (k := 14) hD2 rfl).1
      have d2 := (blk_cell (k := 2) hD2 rfl).1
      have d3 := (blk_cell (k := 3) hD2 rfl).1
      have d4 := (blk_cell (k := 4) hD2 rfl).1
      have d5 := (blk_cell (k := 5) hD2 rfl).1
      have d6 := (blk_cell (k := 6) hD2 rfl).1
      have d7 := (blk_cell (k := 7) hD2 rfl).1
      have d8 := (blk_cell (k := 8) hD2 rfl).1
      have d9 := (blk_cell (k := 9) hD2 rfl).1
      simp only [List.getElem_toArray, List.getElem_cons_zero, List.getElem_cons_succ] at d2 d3 d4 d5 d6 d7 d8 d9 d10 d14
      by_cases hc : ((mkP s).s.size : Int) ≤ rdF s 8
      · have hcb : (rdF s 8 < ((mkP s).s.size : Int)) = False := eq_false (by omega)
        have hv : dV (decL s) s = pv (mkP s) := if_pos ⟨hok, by omega⟩
        have he : dE (decL s) = 0 := if_pos ⟨hok, by omega⟩
        have HV := Lib.hid hv
        have HE := Lib.hid he
        clear hv he hok hsz hszI hc
        obtain ⟨P, hP⟩ : ∃ P, mkP s = P := ⟨_, rfl⟩
        rw [hP] at d2 d3 d4 d5 d6 d7 d8 d9 d10 HV hcb
        obtain ⟨L, hL⟩ : ∃ L, rdF s 8 = L := ⟨_, rfl⟩
        rw [hL] at d14 hcb
        clear hP hL hD2
        have z0 := blk_cell (k := 0) hZ2 rfl
        have z1 := blk_cell (k := 1) hZ2 rfl
        have z2 := blk_cell (k := 2) hZ2 rfl
        have z3 := blk_cell (k := 3) hZ2 rfl
        have z4 := blk_cell (k := 4) hZ2 rfl
        have z5 := blk_cell (k := 5) hZ2 rfl
        have z6 := blk_cell (k := 6) hZ2 rfl
        have z7 := blk_cell (k := 7) hZ2 rfl
        have z8 := blk_cell (k := 8) hZ2 rfl
        simp only [List.getElem_toArray, List.getElem_cons_zero, List.getElem_cons_succ] at z0 z1 z2 z3 z4 z5 z6 z7 z8
        go_wp2
        have q1 := set9_res hZ2 P
        have q2 := set9_below hB2 (Nat.le_refl _) P
        have g0 := (blk_cell (k := 0) q1 rfl).1
        have g1 := (blk_cell (k := 1) q1 rfl).1
        have g2 := (blk_cell (k := 2) q1 rfl).1
        have g3 := (blk_cell (k := 3) q1 rfl).1
        have g4 := (blk_cell (k := 4) q1 rfl).1
        have g5 := (blk_cell (k := 5) q1 rfl).1
        have g6 := (blk_cell (k := 6) q1 rfl).1
        have g7 := (blk_cell (k := 7) q1 rfl).1
        have g8 := (blk_cell (k := 8) q1 rfl).1
        simp only [List.getElem_toArray, List.getElem_cons_zero, List.getElem_cons_succ] at g0 g1 g2 g3 g4 g5 g6 g7 g8
        rw [HV.out, HE.out]
        refine bodyPost_ret (v := .tuple #[pv P, .int .i64 0]) (by simp [results, Tryd.results44, go_sem, g0, g1, g2, g3, g4, g5, g6, g7, g8]; try rfl) rfl ?_
        exact ⟨rfl, q2⟩
      · have hcb : (rdF s 8 < ((mkP s).s.size : Int)) = True := eq_true (by omega)
        have hv : dV (decL s) s = pv pz := if_neg (fun h => hc (by have := h.2; omega))
        have he : dE (decL s) = 60 := if_neg (fun h => hc (by have := h.2; omega))
        have HV := Lib.hid hv
        have HE := Lib.hid he
        clear hv he hok hsz hszI hc d2 d3 d4 d5 d6 d7 d8 d9
        obtain ⟨P, hP⟩ : ∃ P, mkP s = P := ⟨_, rfl⟩
        rw [hP] at d10 hcb
        obtain ⟨L, hL⟩ : ∃ L, rdF s 8 = L := ⟨_, rfl⟩
        rw [hL] at d14 hcb
        clear hP hL hD2
        have z0 := blk_cell (k := 0) hZ2 rfl
        have z1 := blk_cell (k := 1) hZ2 rfl
        have z2 := blk_cell (k := 2) hZ2 rfl
        have z3 := blk_cell (k := 3) hZ2 rfl
        have z4 := blk_cell (k := 4) hZ2 rfl
        have z5 := blk_cell (k := 5) hZ2 rfl
        have z6 := blk_cell (k := 6) hZ2 rfl
        have z7 := blk_cell (k := 7) hZ2 rfl
        have z8 := blk_cell (k := 8) hZ2 rfl
        simp only [List.getElem_toArray, List.getElem_cons_zero, List.getElem_cons_succ] at z0 z1 z2 z3 z4 z5 z6 z7 z8
        go_wp2
        have q1 := set9_res hZ2 pz
        have q2 := set9_below hB2 (Nat.le_refl _) pz
        have g0 := (blk_cell (k := 0) q1 rfl).1
        have g1 := (blk_cell (k := 1) q1 rfl).1
        have g2 := (blk_cell (k := 2) q1 rfl).1
        have g3 := (blk_cell (k := 3) q1 rfl).1
        have g4 := (blk_cell (k := 4) q1 rfl).1
        have g5 := (blk_cell (k := 5) q1 rfl).1
        have g6 := (blk_cell (k := 6) q1 rfl).1
        have g7 := (blk_cell (k := 7) q1 rfl).1
        have g8 := (blk_cell (k := 8) q1 rfl).1
        simp only [List.getElem_toArray, List.getElem_cons_zero, List.getElem_cons_succ] at g0 g1 g2 g3 g4 g5 g6 g7 g8
        rw [HV.out, HE.out]
        refine bodyPost_ret (v := .tuple #[pv pz, .int .i64 60]) (by simp [results, Tryd.results44, go_sem, g0, g1, g2, g3, g4, g5, g6, g7, g8]; try rfl) rfl ?_
        exact ⟨rfl, q2⟩
    · rw [decide_eq_false hok]
      have hv : dV (decL s) s = pv pz := if_neg (fun h => hok h.1)
      have he : dE (decL s) = 60 := if_neg (fun h => hok h.1)
      have HV := Lib.hid hv
      have HE := Lib.hid he
      clear hv he hok hD2
      have z0 := blk_cell (k := 0) hZ2 rfl
      have z1 := blk_cell (k := 1) hZ2 rfl
      have z2 := blk_cell (k := 2) hZ2 rfl
      have z3 := blk_cell (k := 3) hZ2 rfl
      have z4 := blk_cell (k := 4) hZ2 rfl
      have z5 := blk_cell (k := 5) hZ2 rfl
      have z6 := blk_cell (k := 6) hZ2 rfl
      have z7 := blk_cell (k := 7) hZ2 rfl
      have z8 := blk_cell (k := 8) hZ2 rfl
      simp only [List.getElem_toArray, List.getElem_cons_zero, List.getElem_cons_succ] at z0 z1 z2 z3 z4 z5 z6 z7 z8
      go_wp2
      have q1 := set9_res hZ2 pz
      have q2 := set9_below hB2 (Nat.le_refl _) pz
      have g0 := (blk_cell (k := 0) q1 rfl).1
      have g1 := (blk_cell (k := 1) q1 rfl).1
      have g2 := (blk_cell (k := 2) q1 rfl).1
      have g3 := (blk_cell (k := 3) q1 rfl).1
      have g4 := (blk_cell (k := 4) q1 rfl).1
      have g5 := (blk_cell (k := 5) q1 rfl).1
      have g6 := (blk_cell (k := 6) q1 rfl).1
      have g7 := (blk_cell (k := 7) q1 rfl).1
      have g8 := (blk_cell (k := 8) q1 rfl).1
      simp only [List.getElem_toArray, List.getElem_cons_zero, List.getElem_cons_succ] at g0 g1 g2 g3 g4 g5 g6 g7 g8
      rw [HV.out, HE.out]
      refine bodyPost_ret (v := .tuple #[pv pz, .int .i64 60]) (by simp [results, Tryd.results44, go_sem, g0, g1, g2, g3, g4, g5, g6, g7, g8]; try rfl) rfl ?_
      exact ⟨rfl, q2⟩
end Go.Proofs.YtidjbpglpobigaaDoor
