/- Contract of icmp.Quoted. -/
import Derived.Test.YtidjbpglpobigaaDoorImQ
namespace Go.Proofs.YtidjbpglpobigaaDoor
open Go.RowKit Go.Shelf
set_option linter.unusedVariables false
attribute [local go_sem] Oper.semAt_some
theorem dV_pos {b : Prop} [Decidable b] (h : b) (s : ByteArray) : dV b s = pv (mkP s) := by unfold dV; rw [if_pos h]
theorem dV_neg {b : Prop} [Decidable b] (h : ¬ b) (s : ByteArray) : dV b s = pv pz := by unfold dV; rw [if_neg h]
theorem dE_pos {b : Prop} [Decidable b] (h : b) : dE b = 0 := by unfold dE; rw [if_pos h]
theorem dE_neg {b : Prop} [Decidable b] (h : ¬ b) : dE b = 60 := by unfold dE; rw [if_neg h]

set_option maxRecDepth 100000 in
set_option maxHeartbeats 3200000 in
theorem mquoted_1 (m : Ms) (hk : b64i m.k) (hs : m.s.size ≤ maxLen) (h : ¬ okE m) (w : World) :
    Calls Tryd.prog 18 #[mv m] w fun e w' => e = .returned (.tuple #[pv pz, .bool false]) ∧ Below w.heap.size w w' := by
  have HVD := Lib.hid (decide_eq_false h)
  have hM1 := blk_alloc (blk_new w (mo m)) (po pz)
  have hN1 := blk_new (w.alloc (mo m)) (po pz)
  rw [World.size_alloc] at hN1
  have hB1 : Below w.heap.size w ((w.alloc (mo m)).alloc (po pz)) := ((Below.refl _ w).alloc (Nat.le_refl _) _).alloc (by simp) _
  go_enter Tryd.func18, Tryd.ntmps18
  go_wp2_with fail
  refine (mverr_any m hk hs _).mono ?_
  rintro e w2 ⟨rfl, hb2⟩
  rw [HVD.out]
  have hN2 := blk_below hN1 hb2 (blk_lt hN1)
  have hM2 := blk_below hM1 hb2 (blk_lt hM1)
  have hB2 := hB1.trans (hb2.mono hB1.size)
  clear hN1 hB1 hb2 hM1
  have n0 := blk_cell (k := 0) hN2 rfl
  have n1 := blk_cell (k := 1) hN2 rfl
  have n2 := blk_cell (k := 2) hN2 rfl
  have n3 := blk_cell (k := 3) hN2 rfl
  have n4 := blk_cell (k := 4) hN2 rfl
  have n5 := blk_cell (k := 5) hN2 rfl
  have n6 := blk_cell (k := 6) hN2 rfl
  have n7 := blk_cell (k := 7) hN2 rfl
  have n8 := blk_cell (k := 8) hN2 rfl
  simp only [List.getElem_toArray, List.getElem_cons_zero, List.getElem_cons_succ] at n0 n1 n2 n3 n4 n5 n6 n7 n8
  have HBx := Lib.hid hB2
  have HNx := Lib.hid hN2
  have hlt := blk_lt hN2
  clear hB2 hN2
  go_wp2
  have q1 := set9_res HNx.out pz
  have g0 := (blk_cell (k := 0) q1 rfl).1
  have g1 := (blk_cell (k := 1) q1 rfl).1
  have g2 := (blk_cell (k := 2) q1 rfl).1
  have g3 := (blk_cell (k := 3) q1 rfl).1
  have g4 := (blk_cell (k := 4) q1 rfl).1
  have g5 := (blk_cell (k := 5) q1 rfl).1
  have g6 := (blk_cell (k := 6) q1 rfl).1
  have g7 := (blk_cell (k := 7) q1 rfl).1
  have g8 := (blk_cell (k := 8) q1 rfl).1
  simp only [List.getElem_toArray, List.getElem_cons_zero, List.getElem_cons_succ] at g0 g1 g2 g3 g4 g5 g6 g7 g8
  have q2 := set9_below HBx.out (Nat.le_succ w.heap.size) pz
  refine bodyPost_ret (v := .tuple #[pv pz, .bool false]) (by simp [results, Tryd.results18, go_sem, g0, g1, g2, g3, g4, g5, g6, g7, g8]; try rfl) rfl ?_
  exact ⟨rfl, q2⟩

set_option maxRecDepth 100000 in
set_option maxHeartbeats 3200000 in
theorem mquoted_2 (m : Ms) (hk : b64i m.k) (hs : m.s.size ≤ maxLen) (h : okE m) (hd : ¬ decL m.s) (w : World) :
    Calls Tryd.prog 18 #[mv m] w fun e w' => e = .returned (.tuple #[pv pz, .bool false]) ∧ Below w.heap.size w w' := by
  have HVD := Lib.hid (decide_eq_true h)
  have hM1 := blk_alloc (blk_new w (mo m)) (po pz)
  have hN1 := blk_new (w.alloc (mo m)) (po pz)
  rw [World.size_alloc] at hN1
  have hB1 : Below w.heap.size w ((w.alloc (mo m)).alloc (po pz)) := ((Below.refl _ w).alloc (Nat.le_refl _) _).alloc (by simp) _
  go_enter Tryd.func18, Tryd.ntmps18
  go_wp2_with fail
  refine (mverr_any m hk hs _).mono ?_
  rintro e w2 ⟨rfl, hb2⟩
  rw [HVD.out]
  have hN2 := blk_below hN1 hb2 (blk_lt hN1)
  have hM2 := blk_below hM1 hb2 (blk_lt hM1)
  have hB2 := hB1.trans (hb2.mono hB1.size)
  clear hN1 hB1 hb2 hM1
  obtain ⟨m3, -⟩ := blk_cell (k := 3) hM2 rfl
  simp only [List.getElem_toArray, List.getElem_cons_zero, List.getElem_cons_succ] at m3
  go_wp2_with fail
  refine (dhd_any m.s hs _).mono ?_
  rintro e w3 ⟨rfl, hb3⟩
  have hN3 := blk_below hN2 hb3 (blk_lt hN2)
  have hB3 := hB2.trans (hb3.mono hB2.size)
  rw [dV_neg hd, dE_neg hd]
  clear hN2 hB2 hb3 hM2 m3 h hd
  have hN2 := hN3
  have hB2 := hB3
  have hNa := blk_alloc hN3 (po pz)
  have hBa := hB3.alloc hB3.size (po pz)
  clear hN3 hB3
  have hPa := blk_new w3 (po pz)
  have hlN := blk_lt hN2
  have hNe : w.heap.size + 1 ≠ w3.heap.size := by omega
  go_upto_region 4 with fail
  change Code.wp _ _ _ _ (w3.alloc (po pz))
  generalize w3.alloc (po pz) = w4 at hNa hBa hPa ⊢
  clear hN2 hB2 hlN
  obtain ⟨p0, -⟩ := blk_cell (k := 0) hPa rfl
  obtain ⟨p1, -⟩ := blk_cell (k := 1) hPa rfl
  obtain ⟨p2, -⟩ := blk_cell (k := 2) hPa rfl
  obtain ⟨p3, -⟩ := blk_cell (k := 3) hPa rfl
  obtain ⟨p4, -⟩ := blk_cell (k := 4) hPa rfl
  obtain ⟨p5, -⟩ := blk_cell (k := 5) hPa rfl
  obtain ⟨p6, -⟩ := blk_cell (k := 6) hPa rfl
  obtain ⟨p7, -⟩ := blk_cell (k := 7) hPa rfl
  obtain ⟨p8, -⟩ := blk_cell (k := 8) hPa rfl
  simp only [List.getElem_toArray, List.getElem_cons_zero, List.getElem_cons_succ] at p0 p1 p2 p3 p4 p5 p6 p7 p8
  have hN2 := hNa
  have hB2 := hBa
  clear hNa hBa
  have n0 := blk_cell (k := 0) hN2 rfl
  have n1 := blk_cell (k := 1) hN2 rfl
  have n2 := blk_cell (k := 2) hN2 rfl
  have n3 := blk_cell (k := 3) hN2 rfl
  have n4 := blk_cell (k := 4) hN2 rfl
  have n5 := blk_cell (k := 5) hN2 rfl
  have n6 := blk_cell (k := 6) hN2 rfl
  have n7 := blk_cell (k := 7) hN2 rfl
  have n8 := blk_cell (k := 8) hN2 rfl
  simp only [List.getElem_toArray, List.getElem_cons_zero, List.getElem_cons_succ] at n0 n1 n2 n3 n4 n5 n6 n7 n8
  have HBx := Lib.hid hB2
  have HNx := Lib.hid hN2
  have hlt := blk_lt hN2
  clear hB2 hN2 hPa
  go_wp2
  have q1 := set9_res HNx.out pz
  have g0 := (blk_cell (k := 0) q1 rfl).1
  have g1 := (blk_cell (k := 1) q1 rfl).1
  have g2 := (blk_cell (k := 2) q1 rfl).1
  have g3 := (blk_cell (k := 3) q1 rfl).1
  have g4 := (blk_cell (k := 4) q1 rfl).1
  have g5 := (blk_cell (k := 5) q1 rfl).1
  have g6 := (blk_cell (k := 6) q1 rfl).1
  have g7 := (blk_cell (k := 7) q1 rfl).1
  have g8 := (blk_cell (k := 8) q1 rfl).1
  simp only [List.getElem_toArray, List.getElem_cons_zero, List.getElem_cons_succ] at g0 g1 g2 g3 g4 g5 g6 g7 g8
  have q2 := set9_below HBx.out (Nat.le_succ w.heap.size) pz
  refine bodyPost_ret (v := .tuple #[pv pz, .bool false]) (by simp [results, Tryd.results18, go_sem, g0, g1, g2, g3, g4, g5, g6, g7, g8]; try rfl) rfl ?_
  exact ⟨rfl, q2⟩

set_option maxRecDepth 100000 in
set_option maxHeartbeats 3200000 in
theorem mquoted_yes (m : Ms) (hk : b64i m.k) (hs : m.s.size ≤ maxLen) (h : okE m) (hd : decL m.s) (w : World) :
    Calls Tryd.prog 18 #[mv m] w fun e w' => e = .returned (.tuple #[pv (mkP m.s), .bool true]) ∧ Below w.heap.size w w' := by
  have HVD := Lib.hid (decide_eq_true h)
  have hM1 := blk_alloc (blk_new w (mo m)) (po pz)
  have hN1 := blk_new (w.alloc (mo m)) (po pz)
  rw [World.size_alloc] at hN1
  have hB1 : Below w.heap.size w ((w.alloc (mo m)).alloc (po pz)) := ((Below.refl _ w).alloc (Nat.le_refl _) _).alloc (by simp) _
  go_enter Tryd.func18, Tryd.ntmps18
  go_wp2_with fail
  refine (mverr_any m hk hs _).mono ?_
  rintro e w2 ⟨rfl, hb2⟩
  rw [HVD.out]
  have hN2 := blk_below hN1 hb2 (blk_lt hN1)
  have hM2 := blk_below hM1 hb2 (blk_lt hM1)
  have hB2 := hB1.trans (hb2.mono hB1.size)
  clear hN1 hB1 hb2 hM1
  obtain ⟨m3, -⟩ := blk_cell (k := 3) hM2 rfl
  simp only [List.getElem_toArray, List.getElem_cons_zero, List.getElem_cons_succ] at m3
  go_wp2_with fail
  refine (dhd_any m.s hs _).mono ?_
  rintro e w3 ⟨rfl, hb3⟩
  have hN3 := blk_below hN2 hb3 (blk_lt hN2)
  have hB3 := hB2.trans (hb3.mono hB2.size)
  rw [dV_pos hd, dE_pos hd]
  obtain ⟨P, hP⟩ : ∃ P, mkP m.s = P := ⟨_, rfl⟩
  rw [hP]
  have HEq := Lib.hid hP
  clear hP
  clear hN2 hB2 hb3 hM2 m3 h hd
  have hN2 := hN3
  have hB2 := hB3
  have hNa := blk_alloc hN3 (po P)
  have hBa := hB3.alloc hB3.size (po P)
  clear hN3 hB3
  have hPa := blk_new w3 (po P)
  have hlN := blk_lt hN2
  have hNe : w.heap.size + 1 ≠ w3.heap.size := by omega
  go_upto_region 4 with fail
  change Code.wp _ _ _ _ (w3.alloc (po P))
  generalize w3.alloc (po P) = w4 at hNa hBa hPa ⊢
  clear hN2 hB2 hlN
  obtain ⟨p0, -⟩ := blk_cell (k := 0) hPa rfl
  obtain ⟨p1, -⟩ := blk_cell (k := 1) hPa rfl
  obtain ⟨p2, -⟩ := blk_cell (k := 2) hPa rfl
  obtain ⟨p3, -⟩ := blk_cell (k := 3) hPa rfl
  obtain ⟨p4, -⟩ := blk_cell (k := 4) hPa rfl
  obtain ⟨p5, -⟩ := blk_cell (k := 5) hPa rfl
  obtain ⟨p6, -⟩ := blk_cell (k := 6) hPa rfl
  obtain ⟨p7, -⟩ := blk_cell (k := 7) hPa rfl
  obtain ⟨p8, -⟩ := blk_cell (k := 8) hPa rfl
  simp only [List.getElem_toArray, List.getElem_cons_zero, List.getElem_cons_succ] at p0 p1 p2 p3 p4 p5 p6 p7 p8
  have hN2 := hNa
  have hB2 := hBa
  clear hNa hBa
  have n0 := blk_cell (k := 0) hN2 rfl
  have n1 := blk_cell (k := 1) hN2 rfl
  have n2 := blk_cell (k := 2) hN2 rfl
  have n3 := blk_cell (k := 3) hN2 rfl
  have n4 := blk_cell (k := 4) hN2 rfl
  have n5 := blk_cell (k := 5) hN2 rfl
  have n6 := blk_cell (k := 6) hN2 rfl
  have n7 := blk_cell (k := 7) hN2 rfl
  have n8 := blk_cell (k := 8) hN2 rfl
  simp only [List.getElem_toArray, List.getElem_cons_zero, List.getElem_cons_succ] at n0 n1 n2 n3 n4 n5 n6 n7 n8
  have HBx := Lib.hid hB2
  have HNx := Lib.hid hN2
  have hlt := blk_lt hN2
  clear hB2 hN2 hPa
  go_wp2
  have q1 := set9_res HNx.out P
  have g0 := (blk_cell (k := 0) q1 rfl).1
  have g1 := (blk_cell (k := 1) q1 rfl).1
  have g2 := (blk_cell (k := 2) q1 rfl).1
  have g3 := (blk_cell (k := 3) q1 rfl).1
  have g4 := (blk_cell (k := 4) q1 rfl).1
  have g5 := (blk_cell (k := 5) q1 rfl).1
  have g6 := (blk_cell (k := 6) q1 rfl).1
  have g7 := (blk_cell (k := 7) q1 rfl).1
  have g8 := (blk_cell (k := 8) q1 rfl).1
  simp only [List.getElem_toArray, List.getElem_cons_zero, List.getElem_cons_succ] at g0 g1 g2 g3 g4 g5 g6 g7 g8
  have q2 := set9_below HBx.out (Nat.le_succ w.heap.size) P
  refine bodyPost_ret (v := .tuple #[pv P, .bool true]) (by simp [results, Tryd.results18, go_sem, g0, g1, g2, g3, g4, g5, g6, g7, g8]; try rfl) rfl ?_
  exact ⟨by rw [HEq.out], q2⟩

theorem mquoted_no (m : Ms) (hk : b64i m.k) (hs : m.s.size ≤ maxLen) (h : ¬ (okE m ∧ decL m.s)) (w : World) :
    Calls Tryd.prog 18 #[mv m] w fun e w' => e = .returned (.tuple #[pv pz, .bool false]) ∧ Below w.heap.size w w' := by
  by_cases h1 : okE m
  · exact mquoted_2 m hk hs h1 (fun hd => h ⟨h1, hd⟩) w
  · exact mquoted_1 m hk hs h1 w
end Go.Proofs.YtidjbpglpobigaaDoor
