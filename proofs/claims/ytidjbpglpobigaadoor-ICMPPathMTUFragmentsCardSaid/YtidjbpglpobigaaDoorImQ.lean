/- Contracts of icmp.NewError, Quoted. -/
import Derived.Test.YtidjbpglpobigaaDoorImL
import Derived.Test.YtidjbpglpobigaaDoorImK
import Derived.Test.YtidjbpglpobigaaDoorIpQ
namespace Go.Proofs.YtidjbpglpobigaaDoor
open Go.RowKit Go.Shelf
set_option linter.unusedVariables false
attribute [local go_sem] Oper.semAt_some

/-- the error message about a datagram -/
def neM (k c n : Int) (p : Pk) : Ms := ⟨k, c, n, (encP p).extract 0 (min (20 + p.s.size) 28)⟩
def neO (k c n : Int) (p : Pk) : Prop := okW p p.s.size ∧ p.off = 0 ∧ p.to ≠ 4294967295 ∧ ¬ crE p ∧ okE (neM k c n p)
instance (k c n : Int) (p : Pk) : Decidable (neO k c n p) := by unfold neO; infer_instance
theorem neM_size (k c n : Int) (p : Pk) : (neM k c n p).s.size ≤ 28 := by
  show ((encP p).extract 0 _).size ≤ 28
  rw [ByteArray.size_extract]; omega

set_option maxRecDepth 100000 in
set_option maxHeartbeats 3200000 in
theorem mnew_1 (k c n : Int)  (p : Pk) (hs : p.s.size ≤ maxLen) (h : ¬ okW p p.s.size) (w : World) :
    Calls Tryd.prog 24 #[.int .i64 k, .int .i64 c, .int .i64 n, pv p] w fun e w' => e = .returned (.tuple #[mv mz, .bool false]) ∧ Below w.heap.size w w' := by
  go_enter Tryd.func24, Tryd.ntmps24
  have hP1 := blk_alloc (blk_new w (po p)) (mo mz)
  have hN1 := blk_new (w.alloc (po p)) (mo mz)
  have hB1 : Below w.heap.size w ((w.alloc (po p)).alloc (mo mz)) := ((Below.refl _ w).alloc (Nat.le_refl _) _).alloc (by simp) _
  rw [World.size_alloc] at hN1
  go_wp2_with fail
  refine (encode_no p hs h _).mono ?_
  rintro e w2 ⟨rfl, hb2⟩
  have hP2 := blk_below hP1 hb2 (blk_lt hP1)
  have hN2 := blk_below hN1 hb2 (blk_lt hN1)
  have hB2 := hB1.trans (hb2.mono hB1.size)
  clear hP1 hN1 hB1 hb2
  obtain ⟨c0, -⟩ := blk_cell (k := 0) hP2 rfl
  obtain ⟨c1, -⟩ := blk_cell (k := 1) hP2 rfl
  obtain ⟨c2, -⟩ := blk_cell (k := 2) hP2 rfl
  obtain ⟨c3, -⟩ := blk_cell (k := 3) hP2 rfl
  obtain ⟨c4, -⟩ := blk_cell (k := 4) hP2 rfl
  obtain ⟨c5, -⟩ := blk_cell (k := 5) hP2 rfl
  obtain ⟨c6, -⟩ := blk_cell (k := 6) hP2 rfl
  obtain ⟨c7, -⟩ := blk_cell (k := 7) hP2 rfl
  obtain ⟨c8, -⟩ := blk_cell (k := 8) hP2 rfl
  simp only [List.getElem_toArray, List.getElem_cons_zero, List.getElem_cons_succ] at c0 c1 c2 c3 c4 c5 c6 c7 c8
  have n0 := blk_cell (k := 0) hN2 rfl
  have n1 := blk_cell (k := 1) hN2 rfl
  have n2 := blk_cell (k := 2) hN2 rfl
  have n3 := blk_cell (k := 3) hN2 rfl
  simp only [List.getElem_toArray, List.getElem_cons_zero, List.getElem_cons_succ] at n0 n1 n2 n3
  have HBx := Lib.hid hB2
  have HNx := Lib.hid hN2
  clear hB2 hN2
  go_wp2
  have q1 := set4m_res HNx.out mz
  have g0 := (blk_cell (k := 0) q1 rfl).1
  have g1 := (blk_cell (k := 1) q1 rfl).1
  have g2 := (blk_cell (k := 2) q1 rfl).1
  have g3 := (blk_cell (k := 3) q1 rfl).1
  simp only [List.getElem_toArray, List.getElem_cons_zero, List.getElem_cons_succ] at g0 g1 g2 g3
  have q2 := (((HBx.out.setCell (p := ⟨w.heap.size + 1, 0, none⟩) (Nat.le_succ _) (.int .i64 (mz).k)).setCell (p := ⟨w.heap.size + 1, 1, none⟩) (Nat.le_succ _) (.int .i64 (mz).c)).setCell (p := ⟨w.heap.size + 1, 2, none⟩) (Nat.le_succ _) (.int .i64 (mz).n)).setCell (p := ⟨w.heap.size + 1, 3, none⟩) (Nat.le_succ _) (.string (mz).s)
  refine bodyPost_ret (v := .tuple #[mv mz, .bool false]) (by simp [results, Tryd.results24, go_sem, g0, g1, g2, g3]; try rfl) rfl ?_
  exact ⟨rfl, q2⟩

set_option maxRecDepth 100000 in
set_option maxHeartbeats 3200000 in
theorem mnew_2 (k c n : Int)  (p : Pk) (h : okW p p.s.size) (h0 : p.off ≠ 0) (w : World) :
    Calls Tryd.prog 24 #[.int .i64 k, .int .i64 c, .int .i64 n, pv p] w fun e w' => e = .returned (.tuple #[mv mz, .bool false]) ∧ Below w.heap.size w w' := by
  have hp4 : p.s.size ≤ 4000 := by have := h.2.2.2.1.2.1; have := h.2.2.2.1.1; omega
  have hs : p.s.size ≤ maxLen := by unfold maxLen; omega
  have hz := enc_size p
  have h7 : (p.off != 0) = true := by simp [h0]
  have HE := Lib.hid h
  have HS := Lib.hid hs
  clear h hs h0
  go_enter Tryd.func24, Tryd.ntmps24
  have hP1 := blk_alloc (blk_new w (po p)) (mo mz)
  have hN1 := blk_new (w.alloc (po p)) (mo mz)
  have hB1 : Below w.heap.size w ((w.alloc (po p)).alloc (mo mz)) := ((Below.refl _ w).alloc (Nat.le_refl _) _).alloc (by simp) _
  rw [World.size_alloc] at hN1
  go_wp2_with fail
  refine (encode_yes p HS.out HE.out _).mono ?_
  rintro e w2 ⟨rfl, hb2⟩
  have hP2 := blk_below hP1 hb2 (blk_lt hP1)
  have hN2 := blk_below hN1 hb2 (blk_lt hN1)
  have hB2 := hB1.trans (hb2.mono hB1.size)
  clear hP1 hN1 hB1 hb2
  obtain ⟨c0, -⟩ := blk_cell (k := 0) hP2 rfl
  obtain ⟨c1, -⟩ := blk_cell (k := 1) hP2 rfl
  obtain ⟨c2, -⟩ := blk_cell (k := 2) hP2 rfl
  obtain ⟨c3, -⟩ := blk_cell (k := 3) hP2 rfl
  obtain ⟨c4, -⟩ := blk_cell (k := 4) hP2 rfl
  obtain ⟨c5, -⟩ := blk_cell (k := 5) hP2 rfl
  obtain ⟨c6, -⟩ := blk_cell (k := 6) hP2 rfl
  obtain ⟨c7, -⟩ := blk_cell (k := 7) hP2 rfl
  obtain ⟨c8, -⟩ := blk_cell (k := 8) hP2 rfl
  simp only [List.getElem_toArray, List.getElem_cons_zero, List.getElem_cons_succ] at c0 c1 c2 c3 c4 c5 c6 c7 c8
  have n0 := blk_cell (k := 0) hN2 rfl
  have n1 := blk_cell (k := 1) hN2 rfl
  have n2 := blk_cell (k := 2) hN2 rfl
  have n3 := blk_cell (k := 3) hN2 rfl
  simp only [List.getElem_toArray, List.getElem_cons_zero, List.getElem_cons_succ] at n0 n1 n2 n3
  have HBx := Lib.hid hB2
  have HNx := Lib.hid hN2
  clear hB2 hN2
  go_wp2
  have q1 := set4m_res HNx.out mz
  have g0 := (blk_cell (k := 0) q1 rfl).1
  have g1 := (blk_cell (k := 1) q1 rfl).1
  have g2 := (blk_cell (k := 2) q1 rfl).1
  have g3 := (blk_cell (k := 3) q1 rfl).1
  simp only [List.getElem_toArray, List.getElem_cons_zero, List.getElem_cons_succ] at g0 g1 g2 g3
  have q2 := (((HBx.out.setCell (p := ⟨w.heap.size + 1, 0, none⟩) (Nat.le_succ _) (.int .i64 (mz).k)).setCell (p := ⟨w.heap.size + 1, 1, none⟩) (Nat.le_succ _) (.int .i64 (mz).c)).setCell (p := ⟨w.heap.size + 1, 2, none⟩) (Nat.le_succ _) (.int .i64 (mz).n)).setCell (p := ⟨w.heap.size + 1, 3, none⟩) (Nat.le_succ _) (.string (mz).s)
  refine bodyPost_ret (v := .tuple #[mv mz, .bool false]) (by simp [results, Tryd.results24, go_sem, g0, g1, g2, g3]; try rfl) rfl ?_
  exact ⟨rfl, q2⟩

set_option maxRecDepth 100000 in
set_option maxHeartbeats 3200000 in
theorem mnew_3 (k c n : Int)  (p : Pk) (h : okW p p.s.size) (h0 : p.off = 0) (h1 : p.to = 4294967295) (w : World) :
    Calls Tryd.prog 24 #[.int .i64 k, .int .i64 c, .int .i64 n, pv p] w fun e w' => e = .returned (.tuple #[mv mz, .bool false]) ∧ Below w.heap.size w w' := by
  have hp4 : p.s.size ≤ 4000 := by have := h.2.2.2.1.2.1; have := h.2.2.2.1.1; omega
  have hs : p.s.size ≤ maxLen := by unfold maxLen; omega
  have hz := enc_size p
  have h7 : (p.off != 0) = false := by simp [h0]
  have h8 : (p.to == 4294967295) = true := by simpa using h1
  clear h1
  have HE := Lib.hid h
  have HS := Lib.hid hs
  clear h hs h0
  go_enter Tryd.func24, Tryd.ntmps24
  have hP1 := blk_alloc (blk_new w (po p)) (mo mz)
  have hN1 := blk_new (w.alloc (po p)) (mo mz)
  have hB1 : Below w.heap.size w ((w.alloc (po p)).alloc (mo mz)) := ((Below.refl _ w).alloc (Nat.le_refl _) _).alloc (by simp) _
  rw [World.size_alloc] at hN1
  go_wp2_with fail
  refine (encode_yes p HS.out HE.out _).mono ?_
  rintro e w2 ⟨rfl, hb2⟩
  have hP2 := blk_below hP1 hb2 (blk_lt hP1)
  have hN2 := blk_below hN1 hb2 (blk_lt hN1)
  have hB2 := hB1.trans (hb2.mono hB1.size)
  clear hP1 hN1 hB1 hb2
  obtain ⟨c0, -⟩ := blk_cell (k := 0) hP2 rfl
  obtain ⟨c1, -⟩ := blk_cell (k := 1) hP2 rfl
  obtain ⟨c2, -⟩ := blk_cell (k := 2) hP2 rfl
  obtain ⟨c3, -⟩ := blk_cell (k := 3) hP2 rfl
  obtain ⟨c4, -⟩ := blk_cell (k := 4) hP2 rfl
  obtain ⟨c5, -⟩ := blk_cell (k := 5) hP2 rfl
  obtain ⟨c6, -⟩ := blk_cell (k := 6) hP2 rfl
  obtain ⟨c7, -⟩ := blk_cell (k := 7) hP2 rfl
  obtain ⟨c8, -⟩ := blk_cell (k := 8) hP2 rfl
  simp only [List.getElem_toArray, List.getElem_cons_zero, List.getElem_cons_succ] at c0 c1 c2 c3 c4 c5 c6 c7 c8
  have n0 := blk_cell (k := 0) hN2 rfl
  have n1 := blk_cell (k := 1) hN2 rfl
  have n2 := blk_cell (k := 2) hN2 rfl
  have n3 := blk_cell (k := 3) hN2 rfl
  simp only [List.getElem_toArray, List.getElem_cons_zero, List.getElem_cons_succ] at n0 n1 n2 n3
  have HBx := Lib.hid hB2
  have HNx := Lib.hid hN2
  clear hB2 hN2
  go_wp2
  have q1 := set4m_res HNx.out mz
  have g0 := (blk_cell (k := 0) q1 rfl).1
  have g1 := (blk_cell (k := 1) q1 rfl).1
  have g2 := (blk_cell (k := 2) q1 rfl).1
  have g3 := (blk_cell (k := 3) q1 rfl).1
  simp only [List.getElem_toArray, List.getElem_cons_zero, List.getElem_cons_succ] at g0 g1 g2 g3
  have q2 := (((HBx.out.setCell (p := ⟨w.heap.size + 1, 0, none⟩) (Nat.le_succ _) (.int .i64 (mz).k)).setCell (p := ⟨w.heap.size + 1, 1, none⟩) (Nat.le_succ _) (.int .i64 (mz).c)).setCell (p := ⟨w.heap.size + 1, 2, none⟩) (Nat.le_succ _) (.int .i64 (mz).n)).setCell (p := ⟨w.heap.size + 1, 3, none⟩) (Nat.le_succ _) (.string (mz).s)
  refine bodyPost_ret (v := .tuple #[mv mz, .bool false]) (by simp [results, Tryd.results24, go_sem, g0, g1, g2, g3]; try rfl) rfl ?_
  exact ⟨rfl, q2⟩

set_option maxRecDepth 100000 in
set_option maxHeartbeats 3200000 in
theorem mnew_4 (k c n : Int)  (p : Pk) (h : okW p p.s.size) (h0 : p.off = 0) (h1 : p.to ≠ 4294967295) (h2 : crE p) (w : World) :
    Calls Tryd.prog 24 #[.int .i64 k, .int .i64 c, .int .i64 n, pv p] w fun e w' => e = .returned (.tuple #[mv mz, .bool false]) ∧ Below w.heap.size w w' := by
  have hp4 : p.s.size ≤ 4000 := by have := h.2.2.2.1.2.1; have := h.2.2.2.1.1; omega
  have hs : p.s.size ≤ maxLen := by unfold maxLen; omega
  have hz := enc_size p
  have h7 : (p.off != 0) = false := by simp [h0]
  have h8 : (p.to == 4294967295) = false := by simpa using h1
  have HD := Lib.hid (decide_eq_true h2)
  have HE := Lib.hid h
  have HS := Lib.hid hs
  clear h h1 h2 hs h0
  go_enter Tryd.func24, Tryd.ntmps24
  have hP1 := blk_alloc (blk_new w (po p)) (mo mz)
  have hN1 := blk_new (w.alloc (po p)) (mo mz)
  have hB1 : Below w.heap.size w ((w.alloc (po p)).alloc (mo mz)) := ((Below.refl _ w).alloc (Nat.le_refl _) _).alloc (by simp) _
  rw [World.size_alloc] at hN1
  go_wp2_with fail
  refine (encode_yes p HS.out HE.out _).mono ?_
  rintro e w2 ⟨rfl, hb2⟩
  have hP2 := blk_below hP1 hb2 (blk_lt hP1)
  have hN2 := blk_below hN1 hb2 (blk_lt hN1)
  have hB2 := hB1.trans (hb2.mono hB1.size)
  clear hP1 hN1 hB1 hb2
  obtain ⟨c0, -⟩ := blk_cell (k := 0) hP2 rfl
  obtain ⟨c1, -⟩ := blk_cell (k := 1) hP2 rfl
  obtain ⟨c2, -⟩ := blk_cell (k := 2) hP2 rfl
  obtain ⟨c3, -⟩ := blk_cell (k := 3) hP2 rfl
  obtain ⟨c4, -⟩ := blk_cell (k := 4) hP2 rfl
  obtain ⟨c5, -⟩ := blk_cell (k := 5) hP2 rfl
  obtain ⟨c6, -⟩ := blk_cell (k := 6) hP2 rfl
  obtain ⟨c7, -⟩ := blk_cell (k := 7) hP2 rfl
  obtain ⟨c8, -⟩ := blk_cell (k := 8) hP2 rfl
  simp only [List.getElem_toArray, List.getElem_cons_zero, List.getElem_cons_succ] at c0 c1 c2 c3 c4 c5 c6 c7 c8
  go_wp2_with fail
  refine (mcarries_any p HS.out _).mono ?_
  rintro e w3 ⟨rfl, hb3⟩
  rw [HD.out]
  have hN3 := blk_below hN2 hb3 (blk_lt hN2)
  have hB3 := hB2.trans (hb3.mono hB2.size)
  clear hN2 hB2 hb3
  have n0 := blk_cell (k := 0) hN3 rfl
  have n1 := blk_cell (k := 1) hN3 rfl
  have n2 := blk_cell (k := 2) hN3 rfl
  have n3 := blk_cell (k := 3) hN3 rfl
  simp only [List.getElem_toArray, List.getElem_cons_zero, List.getElem_cons_succ] at n0 n1 n2 n3
  have HBx := Lib.hid hB3
  have HNx := Lib.hid hN3
  clear hB3 hN3
  go_wp2
  have q1 := set4m_res HNx.out mz
  have g0 := (blk_cell (k := 0) q1 rfl).1
  have g1 := (blk_cell (k := 1) q1 rfl).1
  have g2 := (blk_cell (k := 2) q1 rfl).1
  have g3 := (blk_cell (k := 3) q1 rfl).1
  simp only [List.getElem_toArray, List.getElem_cons_zero, List.getElem_cons_succ] at g0 g1 g2 g3
  have q2 := (((HBx.out.setCell (p := ⟨w.heap.size + 1, 0, none⟩) (Nat.le_succ _) (.int .i64 (mz).k)).setCell (p := ⟨w.heap.size + 1, 1, none⟩) (Nat.le_succ _) (.int .i64 (mz).c)).setCell (p := ⟨w.heap.size + 1, 2, none⟩) (Nat.le_succ _) (.int .i64 (mz).n)).setCell (p := ⟨w.heap.size + 1, 3, none⟩) (Nat.le_succ _) (.string (mz).s)
  refine bodyPost_ret (v := .tuple #[mv mz, .bool false]) (by simp [results, Tryd.results24, go_sem, g0, g1, g2, g3]; try rfl) rfl ?_
  exact ⟨rfl, q2⟩

set_option maxRecDepth 100000 in
set_option maxHeartbeats 3200000 in
theorem mnew_5a (k c n : Int) (hk : b64i k) (p : Pk) (h : okW p p.s.size) (h0 : p.off = 0) (h1 : p.to ≠ 4294967295) (h2 : ¬ crE p) (h3 : ¬ okE (neM k c n p)) (h4 : p.s.size ≤ 8) (w : World) :
    Calls Tryd.prog 24 #[.int .i64 k, .int .i64 c, .int .i64 n, pv p] w fun e w' => e = .returned (.tuple #[mv mz, .bool false]) ∧ Below w.heap.size w w' := by
  have hp4 : p.s.size ≤ 4000 := by have := h.2.2.2.1.2.1; have := h.2.2.2.1.1; omega
  have hs : p.s.size ≤ maxLen := by unfold maxLen; omega
  have hz := enc_size p
  have h7 : (p.off != 0) = false := by simp [h0]
  have h8 : (p.to == 4294967295) = false := by simpa using h1
  have HD := Lib.hid (decide_eq_false h2)
  have HE := Lib.hid h
  have HS := Lib.hid hs
  have hzz := neM_size k c n p
  obtain ⟨X, hX⟩ : ∃ X, (neM k c n p).s = X := ⟨_, rfl⟩
  have hM : neM k c n p = ⟨k, c, n, X⟩ := by rw [← hX]; rfl
  have hXl : (encP p).extract 0 (20 + (p.s.size : Int)).toNat = X := by rw [← hX]; show _ = (encP p).extract 0 (min (20 + p.s.size) 28); congr 1; omega
  rw [hX] at hzz
  rw [hM] at h3
  have HV := Lib.hid (fun w => mverr_any ⟨k, c, n, X⟩ hk (by unfold maxLen; show X.size ≤ _; omega) w)
  have HVD := Lib.hid (decide_eq_false h3)
  have HEnc := Lib.hid (fun w => encode_yes p hs h w)
  clear h h1 h2 h3 hs h0 hM hX hzz
  generalize encP p = S at *
  go_enter Tryd.func24, Tryd.ntmps24
  have hP1 := blk_alloc (blk_new w (po p)) (mo mz)
  have hN1 := blk_new (w.alloc (po p)) (mo mz)
  have hB1 : Below w.heap.size w ((w.alloc (po p)).alloc (mo mz)) := ((Below.refl _ w).alloc (Nat.le_refl _) _).alloc (by simp) _
  rw [World.size_alloc] at hN1
  go_wp2_with fail
  refine (HEnc.out _).mono ?_
  rintro e w2 ⟨rfl, hb2⟩
  have hP2 := blk_below hP1 hb2 (blk_lt hP1)
  have hN2 := blk_below hN1 hb2 (blk_lt hN1)
  have hB2 := hB1.trans (hb2.mono hB1.size)
  clear hP1 hN1 hB1 hb2
  obtain ⟨c0, -⟩ := blk_cell (k := 0) hP2 rfl
  obtain ⟨c1, -⟩ := blk_cell (k := 1) hP2 rfl
  obtain ⟨c2, -⟩ := blk_cell (k := 2) hP2 rfl
  obtain ⟨c3, -⟩ := blk_cell (k := 3) hP2 rfl
  obtain ⟨c4, -⟩ := blk_cell (k := 4) hP2 rfl
  obtain ⟨c5, -⟩ := blk_cell (k := 5) hP2 rfl
  obtain ⟨c6, -⟩ := blk_cell (k := 6) hP2 rfl
  obtain ⟨c7, -⟩ := blk_cell (k := 7) hP2 rfl
  obtain ⟨c8, -⟩ := blk_cell (k := 8) hP2 rfl
  simp only [List.getElem_toArray, List.getElem_cons_zero, List.getElem_cons_succ] at c0 c1 c2 c3 c4 c5 c6 c7 c8
  go_wp2_with fail
  refine (mcarries_any p HS.out _).mono ?_
  rintro e w3 ⟨rfl, hb3⟩
  rw [HD.out]
  have hN3 := blk_below hN2 hb3 (blk_lt hN2)
  have hB3 := hB2.trans (hb3.mono hB2.size)
  clear hN2 hB2 hb3 hP2 c0 c1 c2 c3 c4 c5 c6 c7 c8
  have hM4 := blk_new w3 (mo ⟨k, c, n, X⟩)
  have hN4 := blk_alloc hN3 (mo ⟨k, c, n, X⟩)
  have hB4 := hB3.alloc hB3.size (mo ⟨k, c, n, X⟩)
  have hlt := hB3.size
  have hNl := blk_lt hN3
  clear hN3 hB3
  go_wp2_with fail
  refine (HV.out _).mono ?_
  rintro e w5 ⟨rfl, hb5⟩
  rw [HVD.out]
  have hM5 := blk_below hM4 hb5 (blk_lt hM4)
  have hN5 := blk_below hN4 hb5 (blk_lt hN4)
  have hB5 := hB4.trans (hb5.mono hB4.size)
  clear hM4 hN4 hB4 hb5
  have m0 := (blk_cell (k := 0) hM5 rfl).1
  have m1 := (blk_cell (k := 1) hM5 rfl).1
  have m2 := (blk_cell (k := 2) hM5 rfl).1
  have m3 := (blk_cell (k := 3) hM5 rfl).1
  simp only [List.getElem_toArray, List.getElem_cons_zero, List.getElem_cons_succ] at m0 m1 m2 m3
  have n0 := blk_cell (k := 0) hN5 rfl
  have n1 := blk_cell (k := 1) hN5 rfl
  have n2 := blk_cell (k := 2) hN5 rfl
  have n3 := blk_cell (k := 3) hN5 rfl
  simp only [List.getElem_toArray, List.getElem_cons_zero, List.getElem_cons_succ] at n0 n1 n2 n3
  have HBx := Lib.hid hB5
  have HNx := Lib.hid hN5
  clear hB5 hN5
  go_wp2
  have q1 := set4m_res HNx.out mz
  have g0 := (blk_cell (k := 0) q1 rfl).1
  have g1 := (blk_cell (k := 1) q1 rfl).1
  have g2 := (blk_cell (k := 2) q1 rfl).1
  have g3 := (blk_cell (k := 3) q1 rfl).1
  simp only [List.getElem_toArray, List.getElem_cons_zero, List.getElem_cons_succ] at g0 g1 g2 g3
  have q2 := (((HBx.out.setCell (p := ⟨w.heap.size + 1, 0, none⟩) (Nat.le_succ _) (.int .i64 (mz).k)).setCell (p := ⟨w.heap.size + 1, 1, none⟩) (Nat.le_succ _) (.int .i64 (mz).c)).setCell (p := ⟨w.heap.size + 1, 2, none⟩) (Nat.le_succ _) (.int .i64 (mz).n)).setCell (p := ⟨w.heap.size + 1, 3, none⟩) (Nat.le_succ _) (.string (mz).s)
  refine bodyPost_ret (v := .tuple #[mv mz, .bool false]) (by simp [results, Tryd.results24, go_sem, g0, g1, g2, g3]; try rfl) rfl ?_
  exact ⟨rfl, q2⟩

set_option maxRecDepth 100000 in
set_option maxHeartbeats 3200000 in
theorem mnew_5b (k c n : Int) (hk : b64i k) (p : Pk) (h : okW p p.s.size) (h0 : p.off = 0) (h1 : p.to ≠ 4294967295) (h2 : ¬ crE p) (h3 : ¬ okE (neM k c n p)) (h4 : 8 < p.s.size) (w : World) :
    Calls Tryd.prog 24 #[.int .i64 k, .int .i64 c, .int .i64 n, pv p] w fun e w' => e = .returned (.tuple #[mv mz, .bool false]) ∧ Below w.heap.size w w' := by
  have hp4 : p.s.size ≤ 4000 := by have := h.2.2.2.1.2.1; have := h.2.2.2.1.1; omega
  have hs : p.s.size ≤ maxLen := by unfold maxLen; omega
  have hz := enc_size p
  have h7 : (p.off != 0) = false := by simp [h0]
  have h8 : (p.to == 4294967295) = false := by simpa using h1
  have HD := Lib.hid (decide_eq_false h2)
  have HE := Lib.hid h
  have HS := Lib.hid hs
  have hzz := neM_size k c n p
  obtain ⟨X, hX⟩ : ∃ X, (neM k c n p).s = X := ⟨_, rfl⟩
  have hM : neM k c n p = ⟨k, c, n, X⟩ := by rw [← hX]; rfl
  have hXl : (encP p).extract 0 28 = X := by rw [← hX]; show _ = (encP p).extract 0 (min (20 + p.s.size) 28); congr 1; omega
  rw [hX] at hzz
  rw [hM] at h3
  have HV := Lib.hid (fun w => mverr_any ⟨k, c, n, X⟩ hk (by unfold maxLen; show X.size ≤ _; omega) w)
  have HVD := Lib.hid (decide_eq_false h3)
  have HEnc := Lib.hid (fun w => encode_yes p hs h w)
  clear h h1 h2 h3 hs h0 hM hX hzz
  generalize encP p = S at *
  go_enter Tryd.func24, Tryd.ntmps24
  have hP1 := blk_alloc (blk_new w (po p)) (mo mz)
  have hN1 := blk_new (w.alloc (po p)) (mo mz)
  have hB1 : Below w.heap.size w ((w.alloc (po p)).alloc (mo mz)) := ((Below.refl _ w).alloc (Nat.le_refl _) _).alloc (by simp) _
  rw [World.size_alloc] at hN1
  go_wp2_with fail
  refine (HEnc.out _).mono ?_
  rintro e w2 ⟨rfl, hb2⟩
  have hP2 := blk_below hP1 hb2 (blk_lt hP1)
  have hN2 := blk_below hN1 hb2 (blk_lt hN1)
  have hB2 := hB1.trans (hb2.mono hB1.size)
  clear hP1 hN1 hB1 hb2
  obtain ⟨c0, -⟩ := blk_cell (k := 0) hP2 rfl
  obtain ⟨c1, -⟩ := blk_cell (k := 1) hP2 rfl
  obtain ⟨c2, -⟩ := blk_cell (k := 2) hP2 rfl
  obtain ⟨c3, -⟩ := blk_cell (k := 3) hP2 rfl
  obtain ⟨c4, -⟩ := blk_cell (k := 4) hP2 rfl
  obtain ⟨c5, -⟩ := blk_cell (k := 5) hP2 rfl
  obtain ⟨c6, -⟩ := blk_cell (k := 6) hP2 rfl
  obtain ⟨c7, -⟩ := blk_cell (k := 7) hP2 rfl
  obtain ⟨c8, -⟩ := blk_cell (k := 8) hP2 rfl
  simp only [List.getElem_toArray, List.getElem_cons_zero, List.getElem_cons_succ] at c0 c1 c2 c3 c4 c5 c6 c7 c8
  go_wp2_with fail
  refine (mcarries_any p HS.out _).mono ?_
  rintro e w3 ⟨rfl, hb3⟩
  rw [HD.out]
  have hN3 := blk_below hN2 hb3 (blk_lt hN2)
  have hB3 := hB2.trans (hb3.mono hB2.size)
  clear hN2 hB2 hb3 hP2 c0 c1 c2 c3 c4 c5 c6 c7 c8
  have hM4 := blk_new w3 (mo ⟨k, c, n, X⟩)
  have hN4 := blk_alloc hN3 (mo ⟨k, c, n, X⟩)
  have hB4 := hB3.alloc hB3.size (mo ⟨k, c, n, X⟩)
  have hlt := hB3.size
  have hNl := blk_lt hN3
  clear hN3 hB3
  go_wp2_with fail
  refine (HV.out _).mono ?_
  rintro e w5 ⟨rfl, hb5⟩
  rw [HVD.out]
  have hM5 := blk_below hM4 hb5 (blk_lt hM4)
  have hN5 := blk_below hN4 hb5 (blk_lt hN4)
  have hB5 := hB4.trans (hb5.mono hB4.size)
  clear hM4 hN4 hB4 hb5
  have m0 := (blk_cell (k := 0) hM5 rfl).1
  have m1 := (blk_cell (k := 1) hM5 rfl).1
  have m2 := (blk_cell (k := 2) hM5 rfl).1
  have m3 := (blk_cell (k := 3) hM5 rfl).1
  simp only [List.getElem_toArray, List.getElem_cons_zero, List.getElem_cons_succ] at m0 m1 m2 m3
  have n0 := blk_cell (k := 0) hN5 rfl
  have n1 := blk_cell (k := 1) hN5 rfl
  have n2 := blk_cell (k := 2) hN5 rfl
  have n3 := blk_cell (k := 3) hN5 rfl
  simp only [List.getElem_toArray, List.getElem_cons_zero, List.getElem_cons_succ] at n0 n1 n2 n3
  have HBx := Lib.hid hB5
  have HNx := Lib.hid hN5
  clear hB5 hN5
  go_wp2
  have q1 := set4m_res HNx.out mz
  have g0 := (blk_cell (k := 0) q1 rfl).1
  have g1 := (blk_cell (k := 1) q1 rfl).1
  have g2 := (blk_cell (k := 2) q1 rfl).1
  have g3 := (blk_cell (k := 3) q1 rfl).1
  simp only [List.getElem_toArray, List.getElem_cons_zero, List.getElem_cons_succ] at g0 g1 g2 g3
  have q2 := (((HBx.out.setCell (p := ⟨w.heap.size + 1, 0, none⟩) (Nat.le_succ _) (.int .i64 (mz).k)).setCell (p := ⟨w.heap.size + 1, 1, none⟩) (Nat.le_succ _) (.int .i64 (mz).c)).setCell (p := ⟨w.heap.size + 1, 2, none⟩) (Nat.le_succ _) (.int .i64 (mz).n)).setCell (p := ⟨w.heap.size + 1, 3, none⟩) (Nat.le_succ _) (.string (mz).s)
  refine bodyPost_ret (v := .tuple #[mv mz, .bool false]) (by simp [results, Tryd.results24, go_sem, g0, g1, g2, g3]; try rfl) rfl ?_
  exact ⟨rfl, q2⟩

set_option maxRecDepth 100000 in
set_option maxHeartbeats 3200000 in
theorem mnew_6a (k c n : Int) (hk : b64i k) (p : Pk) (h : okW p p.s.size) (h0 : p.off = 0) (h1 : p.to ≠ 4294967295) (h2 : ¬ crE p) (h3 : okE (neM k c n p)) (h4 : p.s.size ≤ 8) (w : World) :
    Calls Tryd.prog 24 #[.int .i64 k, .int .i64 c, .int .i64 n, pv p] w fun e w' => e = .returned (.tuple #[mv (neM k c n p), .bool true]) ∧ Below w.heap.size w w' := by
  have hp4 : p.s.size ≤ 4000 := by have := h.2.2.2.1.2.1; have := h.2.2.2.1.1; omega
  have hs : p.s.size ≤ maxLen := by unfold maxLen; omega
  have hz := enc_size p
  have h7 : (p.off != 0) = false := by simp [h0]
  have h8 : (p.to == 4294967295) = false := by simpa using h1
  have HD := Lib.hid (decide_eq_false h2)
  have HE := Lib.hid h
  have HS := Lib.hid hs
  have hzz := neM_size k c n p
  obtain ⟨X, hX⟩ : ∃ X, (neM k c n p).s = X := ⟨_, rfl⟩
  have hM : neM k c n p = ⟨k, c, n, X⟩ := by rw [← hX]; rfl
  have hXl : (encP p).extract 0 (20 + (p.s.size : Int)).toNat = X := by rw [← hX]; show _ = (encP p).extract 0 (min (20 + p.s.size) 28); congr 1; omega
  rw [hX] at hzz
  rw [hM] at h3
  rw [hM]
  have HV := Lib.hid (fun w => mverr_any ⟨k, c, n, X⟩ hk (by unfold maxLen; show X.size ≤ _; omega) w)
  have HVD := Lib.hid (decide_eq_true h3)
  have HEnc := Lib.hid (fun w => encode_yes p hs h w)
  clear h h1 h2 h3 hs h0 hM hX hzz
  generalize encP p = S at *
  go_enter Tryd.func24, Tryd.ntmps24
  have hP1 := blk_alloc (blk_new w (po p)) (mo mz)
  have hN1 := blk_new (w.alloc (po p)) (mo mz)
  have hB1 : Below w.heap.size w ((w.alloc (po p)).alloc (mo mz)) := ((Below.refl _ w).alloc (Nat.le_refl _) _).alloc (by simp) _
  rw [World.size_alloc] at hN1
  go_wp2_with fail
  refine (HEnc.out _).mono ?_
  rintro e w2 ⟨rfl, hb2⟩
  have hP2 := blk_below hP1 hb2 (blk_lt hP1)
  have hN2 := blk_below hN1 hb2 (blk_lt hN1)
  have hB2 := hB1.trans (hb2.mono hB1.size)
  clear hP1 hN1 hB1 hb2
  obtain ⟨c0, -⟩ := blk_cell (k := 0) hP2 rfl
  obtain ⟨c1, -⟩ := blk_cell (k := 1) hP2 rfl
  obtain ⟨c2, -⟩ := blk_cell (k := 2) hP2 rfl
  obtain ⟨c3, -⟩ := blk_cell (k := 3) hP2 rfl
  obtain ⟨c4, -⟩ := blk_cell (k := 4) hP2 rfl
  obtain ⟨c5, -⟩ := blk_cell (k := 5) hP2 rfl
  obtain ⟨c6, -⟩ := blk_cell (k := 6) hP2 rfl
  obtain ⟨c7, -⟩ := blk_cell (k := 7) hP2 rfl
  obtain ⟨c8, -⟩ := blk_cell (k := 8) hP2 rfl
  simp only [List.getElem_toArray, List.getElem_cons_zero, List.getElem_cons_succ] at c0 c1 c2 c3 c4 c5 c6 c7 c8
  go_wp2_with fail
  refine (mcarries_any p HS.out _).mono ?_
  rintro e w3 ⟨rfl, hb3⟩
  rw [HD.out]
  have hN3 := blk_below hN2 hb3 (blk_lt hN2)
  have hB3 := hB2.trans (hb3.mono hB2.size)
  clear hN2 hB2 hb3 hP2 c0 c1 c2 c3 c4 c5 c6 c7 c8
  have hM4 := blk_new w3 (mo ⟨k, c, n, X⟩)
  have hN4 := blk_alloc hN3 (mo ⟨k, c, n, X⟩)
  have hB4 := hB3.alloc hB3.size (mo ⟨k, c, n, X⟩)
  have hlt := hB3.size
  have hNl := blk_lt hN3
  clear hN3 hB3
  go_wp2_with fail
  refine (HV.out _).mono ?_
  rintro e w5 ⟨rfl, hb5⟩
  rw [HVD.out]
  have hM5 := blk_below hM4 hb5 (blk_lt hM4)
  have hN5 := blk_below hN4 hb5 (blk_lt hN4)
  have hB5 := hB4.trans (hb5.mono hB4.size)
  clear hM4 hN4 hB4 hb5
  have m0 := (blk_cell (k := 0) hM5 rfl).1
  have m1 := (blk_cell (k := 1) hM5 rfl).1
  have m2 := (blk_cell (k := 2) hM5 rfl).1
  have m3 := (blk_cell (k := 3) hM5 rfl).1
  simp only [List.getElem_toArray, List.getElem_cons_zero, List.getElem_cons_succ] at m0 m1 m2 m3
  have n0 := blk_cell (k := 0) hN5 rfl
  have n1 := blk_cell (k := 1) hN5 rfl
  have n2 := blk_cell (k := 2) hN5 rfl
  have n3 := blk_cell (k := 3) hN5 rfl
  simp only [List.getElem_toArray, List.getElem_cons_zero, List.getElem_cons_succ] at n0 n1 n2 n3
  have HBx := Lib.hid hB5
  have HNx := Lib.hid hN5
  clear hB5 hN5
  go_wp2
  have q1 := set4m_res HNx.out (⟨k, c, n, X⟩ : Ms)
  have g0 := (blk_cell (k := 0) q1 rfl).1
  have g1 := (blk_cell (k := 1) q1 rfl).1
  have g2 := (blk_cell (k := 2) q1 rfl).1
  have g3 := (blk_cell (k := 3) q1 rfl).1
  simp only [List.getElem_toArray, List.getElem_cons_zero, List.getElem_cons_succ] at g0 g1 g2 g3
  have q2 := (((HBx.out.setCell (p := ⟨w.heap.size + 1, 0, none⟩) (Nat.le_succ _) (.int .i64 ((⟨k, c, n, X⟩ : Ms)).k)).setCell (p := ⟨w.heap.size + 1, 1, none⟩) (Nat.le_succ _) (.int .i64 ((⟨k, c, n, X⟩ : Ms)).c)).setCell (p := ⟨w.heap.size + 1, 2, none⟩) (Nat.le_succ _) (.int .i64 ((⟨k, c, n, X⟩ : Ms)).n)).setCell (p := ⟨w.heap.size + 1, 3, none⟩) (Nat.le_succ _) (.string ((⟨k, c, n, X⟩ : Ms)).s)
  refine bodyPost_ret (v := .tuple #[mv (⟨k, c, n, X⟩ : Ms), .bool true]) (by simp [results, Tryd.results24, go_sem, g0, g1, g2, g3]; try rfl) rfl ?_
  exact ⟨rfl, q2⟩

set_option maxRecDepth 100000 in
set_option maxHeartbeats 3200000 in
theorem mnew_6b (k c n : Int) (hk : b64i k) (p : Pk) (h : okW p p.s.size) (h0 : p.off = 0) (h1 : p.to ≠ 4294967295) (h2 : ¬ crE p) (h3 : okE (neM k c n p)) (h4 : 8 < p.s.size) (w : World) :
    Calls Tryd.prog 24 #[.int .i64 k, .int .i64 c, .int .i64 n, pv p] w fun e w' => e = .returned (.tuple #[mv (neM k c n p), .bool true]) ∧ Below w.heap.size w w' := by
  have hp4 : p.s.size ≤ 4000 := by have := h.2.2.2.1.2.1; have := h.2.2.2.1.1; omega
  have hs : p.s.size ≤ maxLen := by unfold maxLen; omega
  have hz := enc_size p
  have h7 : (p.off != 0) = false := by simp [h0]
  have h8 : (p.to == 4294967295) = false := by simpa using h1
  have HD := Lib.hid (decide_eq_false h2)
  have HE := Lib.hid h
  have HS := Lib.hid hs
  have hzz := neM_size k c n p
  obtain ⟨X, hX⟩ : ∃ X, (neM k c n p).s = X := ⟨_, rfl⟩
  have hM : neM k c n p = ⟨k, c, n, X⟩ := by rw [← hX]; rfl
  have hXl : (encP p).extract 0 28 = X := by rw [← hX]; show _ = (encP p).extract 0 (min (20 + p.s.size) 28); congr 1; omega
  rw [hX] at hzz
  rw [hM] at h3
  rw [hM]
  have HV := Lib.hid (fun w => mverr_any ⟨k, c, n, X⟩ hk (by unfold maxLen; show X.size ≤ _; omega) w)
  have HVD := Lib.hid (decide_eq_true h3)
  have HEnc := Lib.hid (fun w => encode_yes p hs h w)
  clear h h1 h2 h3 hs h0 hM hX hzz
  generalize encP p = S at *
  go_enter Tryd.func24, Tryd.ntmps24
  have hP1 := blk_alloc (blk_new w (po p)) (mo mz)
  have hN1 := blk_new (w.alloc (po p)) (mo mz)
  have hB1 : Below w.heap.size w ((w.alloc (po p)).alloc (mo mz)) := ((Below.refl _ w).alloc (Nat.le_refl _) _).alloc (by simp) _
  rw [World.size_alloc] at hN1
  go_wp2_with fail
  refine (HEnc.out _).mono ?_
  rintro e w2 ⟨rfl, hb2⟩
  have hP2 := blk_below hP1 hb2 (blk_lt hP1)
  have hN2 := blk_below hN1 hb2 (blk_lt hN1)
  have hB2 := hB1.trans (hb2.mono hB1.size)
  clear hP1 hN1 hB1 hb2
  obtain ⟨c0, -⟩ := blk_cell (k := 0) hP2 rfl
  obtain ⟨c1, -⟩ := blk_cell (k := 1) hP2 rfl
  obtain ⟨c2, -⟩ := blk_cell (k := 2) hP2 rfl
  obtain ⟨c3, -⟩ := blk_cell (k := 3) hP2 rfl
  obtain ⟨c4, -⟩ := blk_cell (k := 4) hP2 rfl
  obtain ⟨c5, -⟩ := blk_cell (k := 5) hP2 rfl
  obtain ⟨c6, -⟩ := blk_cell (k := 6) hP2 rfl
  obtain ⟨c7, -⟩ := blk_cell (k := 7) hP2 rfl
  obtain ⟨c8, -⟩ := blk_cell (k := 8) hP2 rfl
  simp only [List.getElem_toArray, List.getElem_cons_zero, List.getElem_cons_succ] at c0 c1 c2 c3 c4 c5 c6 c7 c8
  go_wp2_with fail
  refine (mcarries_any p HS.out _).mono ?_
  rintro e w3 ⟨rfl, hb3⟩
  rw [HD.out]
  have hN3 := blk_below hN2 hb3 (blk_lt hN2)
  have hB3 := hB2.trans (hb3.mono hB2.size)
  clear hN2 hB2 hb3 hP2 c0 c1 c2 c3 c4 c5 c6 c7 c8
  have hM4 := blk_new w3 (mo ⟨k, c, n, X⟩)
  have hN4 := blk_alloc hN3 (mo ⟨k, c, n, X⟩)
  have hB4 := hB3.alloc hB3.size (mo ⟨k, c, n, X⟩)
  have hlt := hB3.size
  have hNl := blk_lt hN3
  clear hN3 hB3
  go_wp2_with fail
  refine (HV.out _).mono ?_
  rintro e w5 ⟨rfl, hb5⟩
  rw [HVD.out]
  have hM5 := blk_below hM4 hb5 (blk_lt hM4)
  have hN5 := blk_below hN4 hb5 (blk_lt hN4)
  have hB5 := hB4.trans (hb5.mono hB4.size)
  clear hM4 hN4 hB4 hb5
  have m0 := (blk_cell (k := 0) hM5 rfl).1
  have m1 := (blk_cell (k := 1) hM5 rfl).1
  have m2 := (blk_cell (k := 2) hM5 rfl).1
  have m3 := (blk_cell (k := 3) hM5 rfl).1
  simp only [List.getElem_toArray, List.getElem_cons_zero, List.getElem_cons_succ] at m0 m1 m2 m3
  have n0 := blk_cell (k := 0) hN5 rfl
  have n1 := blk_cell (k := 1) hN5 rfl
  have n2 := blk_cell (k := 2) hN5 rfl
  have n3 := blk_cell (k := 3) hN5 rfl
  simp only [List.getElem_toArray, List.getElem_cons_zero, List.getElem_cons_succ] at n0 n1 n2 n3
  have HBx := Lib.hid hB5
  have HNx := Lib.hid hN5
  clear hB5 hN5
  go_wp2
  have q1 := set4m_res HNx.out (⟨k, c, n, X⟩ : Ms)
  have g0 := (blk_cell (k := 0) q1 rfl).1
  have g1 := (blk_cell (k := 1) q1 rfl).1
  have g2 := (blk_cell (k := 2) q1 rfl).1
  have g3 := (blk_cell (k := 3) q1 rfl).1
  simp only [List.getElem_toArray, List.getElem_cons_zero, List.getElem_cons_succ] at g0 g1 g2 g3
  have q2 := (((HBx.out.setCell (p := ⟨w.heap.size + 1, 0, none⟩) (Nat.le_succ _) (.int .i64 ((⟨k, c, n, X⟩ : Ms)).k)).setCell (p := ⟨w.heap.size + 1, 1, none⟩) (Nat.le_succ _) (.int .i64 ((⟨k, c, n, X⟩ : Ms)).c)).setCell (p := ⟨w.heap.size + 1, 2, none⟩) (Nat.le_succ _) (.int .i64 ((⟨k, c, n, X⟩ : Ms)).n)).setCell (p := ⟨w.heap.size + 1, 3, none⟩) (Nat.le_succ _) (.string ((⟨k, c, n, X⟩ : Ms)).s)
  refine bodyPost_ret (v := .tuple #[mv (⟨k, c, n, X⟩ : Ms), .bool true]) (by simp [results, Tryd.results24, go_sem, g0, g1, g2, g3]; try rfl) rfl ?_
  exact ⟨rfl, q2⟩

/-- icmp.NewError -/
theorem mnew_no (k c n : Int) (hk : b64i k) (p : Pk) (hs : p.s.size ≤ maxLen) (h : ¬ neO k c n p) (w : World) :
    Calls Tryd.prog 24 #[.int .i64 k, .int .i64 c, .int .i64 n, pv p] w fun e w' => e = .returned (.tuple #[mv mz, .bool false]) ∧ Below w.heap.size w w' := by
  by_cases h1 : okW p p.s.size
  · by_cases h2 : p.off = 0
    · by_cases h3 : p.to = 4294967295
      · exact mnew_3 k c n p h1 h2 h3 w
      · by_cases h4 : crE p
        · exact mnew_4 k c n p h1 h2 h3 h4 w
        · have h5 : ¬ okE (neM k c n p) := fun h5 => h ⟨h1, h2, h3, h4, h5⟩
          by_cases h6 : p.s.size ≤ 8
          · exact mnew_5a k c n hk p h1 h2 h3 h4 h5 h6 w
          · exact mnew_5b k c n hk p h1 h2 h3 h4 h5 (by omega) w
    · exact mnew_2 k c n p h1 h2 w
  · exact mnew_1 k c n p hs h1 w
theorem mnew_yes (k c n : Int) (hk : b64i k) (p : Pk) (h : neO k c n p) (w : World) :
    Calls Tryd.prog 24 #[.int .i64 k, .int .i64 c, .int .i64 n, pv p] w fun e w' => e = .returned (.tuple #[mv (neM k c n p), .bool true]) ∧ Below w.heap.size w w' := by
  obtain ⟨h1, h2, h3, h4, h5⟩ := h
  by_cases h6 : p.s.size ≤ 8
  · exact mnew_6a k c n hk p h1 h2 h3 h4 h5 h6 w
  · exact mnew_6b k c n hk p h1 h2 h3 h4 h5 (by omega) w

end Go.Proofs.YtidjbpglpobigaaDoor
