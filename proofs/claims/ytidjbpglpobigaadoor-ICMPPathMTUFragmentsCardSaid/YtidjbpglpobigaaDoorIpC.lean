/- Contracts of (ip.header).checksum and ip.Encode. -/
import Derived.Test.YtidjbpglpobigaaDoorIpP
import Derived.Test.YtidjbpglpobigaaDoorSum
import Derived.BigRegion
namespace Go.Proofs.YtidjbpglpobigaaDoor
open Go.RowKit
set_option linter.unusedVariables false
attribute [local go_sem] Oper.semAt_some

theorem keep_cell {W W' : World} (hb : Below W.heap.size W W') {a : Addr} {v : Value} (h : W.cell? a = some v) : W'.cell? a = some v :=
  (World.cell?_of_block (hb.block a.block (cell_lt h))).trans h
theorem keep_below {W W' w : World} (hb : Below W.heap.size W W') (h : Below w.heap.size w W) : Below w.heap.size w W' := h.trans (hb.mono h.size)
theorem inR_mk (p : Pk) (v f u l c : Int) (h0 : 0 ≤ v ∧ v < 256) (h1 : 0 ≤ p.fr ∧ p.fr < 4294967296) (h2 : 0 ≤ p.to ∧ p.to < 4294967296) (h3 : 0 ≤ p.pr ∧ p.pr < 256) (h4 : 0 ≤ p.tt ∧ p.tt < 256) (h5 : 0 ≤ p.id ∧ p.id < 65536)
    (h6 : 0 ≤ f ∧ f < 256) (h7 : 0 ≤ u ∧ u < 65536) (h8 : 0 ≤ l ∧ l < 65536) (h9 : 0 ≤ c ∧ c < 65536) : inR (fV p v f u l c) := fun i => by
  obtain rfl | rfl | rfl | rfl | rfl | rfl | rfl | rfl | rfl | rfl := fin10 i
  · exact h0
  · exact h1
  · exact h2
  · exact h3
  · exact h4
  · exact h5
  · exact h6
  · exact h7
  · exact h8
  · exact h9
/-- the checksum that a header is to have -/
def ckF (p : Pk) (v f u l : Int) : Nat := sumN (hE (fV p v f u l 0)).data.toList
theorem ckF_bd (p : Pk) (v f u l : Int) : 0 ≤ ((ckF p v f u l : Nat) : Int) ∧ ((ckF p v f u l : Nat) : Int) < 65536 := by
  have := sumN_le (hE (fV p v f u l 0)).data.toList
  unfold ckF; omega
theorem inR_zero {p : Pk} {v f u l c : Int} (h : inR (fV p v f u l c)) (c' : Int) (h9 : 0 ≤ c' ∧ c' < 65536) : inR (fV p v f u l c') := fun i => by
  obtain rfl | rfl | rfl | rfl | rfl | rfl | rfl | rfl | rfl | rfl := fin10 i
  · exact h 0
  · exact h 1
  · exact h 2
  · exact h 3
  · exact h 4
  · exact h 5
  · exact h 6
  · exact h 7
  · exact h 8
  · exact h9

set_option maxRecDepth 20000 in
set_option maxHeartbeats 1600000 in
theorem checksum_any (p : Pk) (v f u l c : Int) (w : World) (hbd : inR (fV p v f u l c)) :
    Calls Tryd.prog 55 #[hv p v f u l c] w fun e w' => e = .returned (.int .i64 ((ckF p v f u l : Nat) : Int)) ∧ Below w.heap.size w w' := by
  have hz := inR_zero hbd 0 (by omega)
  have hsz := hE_size (fV p v f u l 0)
  have HZ := Lib.hid hz
  go_enter Tryd.func55, Tryd.ntmps55
  go_wp2_with fail
  refine (encoding_any p v f u l 0 _ HZ.out).mono ?_
  rintro e w2 ⟨rfl, hb2⟩
  go_wp2_with fail
  refine (sum_any _ (by rw [hsz]; decide) _).mono ?_
  rintro e w3 ⟨rfl, hb3⟩
  go_wp2_with fail
  go_ret
  have hb0 : Below w.heap.size w (w.alloc (ho p v f u l 0)) := (Below.refl _ w).alloc (Nat.le_refl _) _
  have hb1 := hb0.trans (hb2.mono hb0.size)
  exact ⟨rfl, hb1.trans (hb3.mono hb1.size)⟩

/-- an encoding -/
def ckP (p : Pk) : Nat := ckF p 4 (flg p) (p.off / 8) p.s.size
def hdP (p : Pk) : Fin 10 → Int := fV p 4 (flg p) (p.off / 8) p.s.size (ckP p)
def encP (p : Pk) : ByteArray := hE (hdP p) ++ p.s
theorem flg_bd (p : Pk) : 0 ≤ flg p ∧ flg p < 256 := by unfold flg; split <;> split <;> omega
theorem inR_ok (p : Pk) (h : okW p p.s.size) (c : Int) (hc : 0 ≤ c ∧ c < 65536) : inR (fV p 4 (flg p) (p.off / 8) p.s.size c) := by
  obtain ⟨h1, h2, h3, h4, h5⟩ := h
  unfold okU at h1 h2
  unfold okN at h3
  unfold okP at h4
  exact inR_mk p _ _ _ _ _ (by omega) (by omega) (by omega) (by omega) (by omega) (by omega) (flg_bd p) (by omega) (by omega) hc

set_option maxRecDepth 20000 in
set_option maxHeartbeats 1600000 in
theorem encode_no (p : Pk) (hs : p.s.size ≤ maxLen) (h : ¬ okW p p.s.size) (w : World) :
    Calls Tryd.prog 27 #[pv p] w fun e w' => e = .returned (.tuple #[.string ⟨#[]⟩, .int .i64 60]) ∧ Below w.heap.size w w' := by
  have hd : decide (okW p p.s.size) = false := decide_eq_false h
  go_enter Tryd.func27, Tryd.ntmps27
  go_wp2_with fail
  refine (valid_any p hs _).mono ?_
  rintro e w1 ⟨rfl, hb1⟩
  rw [hd]
  go_wp2
  go_ret2
  have hb0 : Below w.heap.size w (w.alloc (po p)) := (Below.refl _ w).alloc (Nat.le_refl _) _
  exact ⟨rfl, hb0.trans (hb1.mono hb0.size)⟩

set_option maxRecDepth 20000 in
set_option maxHeartbeats 1600000 in
theorem encode_yes (p : Pk) (hs : p.s.size ≤ maxLen) (h : okW p p.s.size) (w : World) :
    Calls Tryd.prog 27 #[pv p] w fun e w' => e = .returned (.tuple #[.string (encP p), .int .i64 0]) ∧ Below w.heap.size w w' := by
  have hd : decide (okW p p.s.size) = true := decide_eq_true h
  have ho1 : 0 ≤ p.off := h.2.2.2.1.1
  have ho2 : p.off ≤ 4000 := by have := h.2.2.2.1.2.1; omega
  have hsz := hE_size (fV p 4 (flg p) (p.off / 8) p.s.size (ckP p))
  have hps : p.s.size ≤ 4000 := by have := h.2.2.2.1.2.1; omega
  have hnb : (9223372036854775807 < 20 + p.s.size) = False := eq_false (by omega)
  have HI0 := Lib.hid (inR_ok p h 0 (by omega))
  have HIC := Lib.hid (inR_ok p h (ckP p) (ckF_bd _ _ _ _ _))
  go_enter Tryd.func27, Tryd.ntmps27
  go_wp2_with fail
  refine (valid_any p hs _).mono ?_
  rintro e w1 ⟨rfl, hb1⟩
  rw [hd]
  have hb0 : Below w.heap.size w (w.alloc (po p)) := (Below.refl _ w).alloc (Nat.le_refl _) _
  have hB1 := hb0.trans (hb1.mono hb0.size)
  have hP1 := blk_below (blk_new w (po p)) hb1 (by simp)
  clear hb0 hb1
  have c0 := (blk_cell (k := 0) hP1 rfl).1
  have c1 := (blk_cell (k := 1) hP1 rfl).1
  have c2 := (blk_cell (k := 2) hP1 rfl).1
  have c3 := (blk_cell (k := 3) hP1 rfl).1
  have c4 := (blk_cell (k := 4) hP1 rfl).1
  have c5 := (blk_cell (k := 5) hP1 rfl).1
  have c6 := (blk_cell (k := 6) hP1 rfl).1
  have c7 := (blk_cell (k := 7) hP1 rfl).1
  have c8 := (blk_cell (k := 8) hP1 rfl).1
  simp only [List.getElem_toArray, List.getElem_cons_zero, List.getElem_cons_succ] at c0 c1 c2 c3 c4 c5 c6 c7 c8
  go_wp2_with fail
  refine (headerOf_any p hs ho1 ho2 _).mono ?_
  rintro e w2 ⟨rfl, hb2⟩
  have hP2 := blk_below hP1 hb2 (blk_lt hP1)
  have hB2 := hB1.trans (hb2.mono hB1.size)
  clear hb2 hB1 hP1 c0 c1 c2 c3 c4 c5 c6 c7 c8
  have hP3 := blk_alloc hP2 (ho p 4 (flg p) (p.off / 8) p.s.size 0)
  have hH3 := blk_new w2 (ho p 4 (flg p) (p.off / 8) p.s.size 0)
  have hB3 := hB2.alloc hB2.size (ho p 4 (flg p) (p.off / 8) p.s.size 0)
  have hlt := hB2.size
  go_wp2_with fail
  refine (checksum_any p _ _ _ _ _ _ HI0.out).mono ?_
  rintro e w4 ⟨rfl, hb4⟩
  have hP4 := blk_below hP3 hb4 (blk_lt hP3)
  have hH4 := blk_below hH3 hb4 (blk_lt hH3)
  have hB4 := hB3.trans (hb4.mono hB3.size)
  have hPl := blk_lt hP2
  clear hb4 hP3 hH3 hB3 hP2
  obtain ⟨d13, f13⟩ := blk_cell (k := 13) hH4 rfl
  simp only [List.getElem_toArray, List.getElem_cons_zero, List.getElem_cons_succ] at d13
  rw [show ((ckF p 4 (flg p) (p.off / 8) (p.s.size : Int) : Nat) : Int) = ((ckP p : Nat) : Int) from rfl]
  have hP5 := blk_set hP4 ⟨w2.heap.size, 13, none⟩ (by show w2.heap.size ≠ w.heap.size; omega) (.int .i64 ((ckP p : Nat) : Int))
  have hH5 : (w4.setCell ⟨w2.heap.size, 13, none⟩ (.int .i64 ((ckP p : Nat) : Int))).heap[w2.heap.size]? = some (ho p 4 (flg p) (p.off / 8) p.s.size (ckP p)) := blk_setc (k := 13) hH4 _
  have hB5 := hB4.setCell (p := ⟨w2.heap.size, 13, none⟩) hlt (.int .i64 ((ckP p : Nat) : Int))
  go_wp2_with fail
  clear d13 f13 hP4 hH4 hB4
  generalize w4.setCell ⟨w2.heap.size, 13, none⟩ (.int .i64 ((ckP p : Nat) : Int)) = w5 at *
  have c0 := (blk_cell (k := 0) hH5 rfl).1
  have c1 := (blk_cell (k := 1) hH5 rfl).1
  have c2 := (blk_cell (k := 2) hH5 rfl).1
  have c3 := (blk_cell (k := 3) hH5 rfl).1
  have c4 := (blk_cell (k := 4) hH5 rfl).1
  have c5 := (blk_cell (k := 5) hH5 rfl).1
  have c6 := (blk_cell (k := 6) hH5 rfl).1
  have c7 := (blk_cell (k := 7) hH5 rfl).1
  have c8 := (blk_cell (k := 8) hH5 rfl).1
  have c9 := (blk_cell (k := 9) hH5 rfl).1
  have c10 := (blk_cell (k := 10) hH5 rfl).1
  have c11 := (blk_cell (k := 11) hH5 rfl).1
  have c12 := (blk_cell (k := 12) hH5 rfl).1
  have c13 := (blk_cell (k := 13) hH5 rfl).1
  have e8 := (blk_cell (k := 8) hP5 rfl).1
  simp only [List.getElem_toArray, List.getElem_cons_zero, List.getElem_cons_succ] at c0 c1 c2 c3 c4 c5 c6 c7 c8 c9 c10 c11 c12 c13 e8
  go_region_held3 (fun w' => w'.cell? ⟨w.heap.size, 8, none⟩ = some (.string p.s) ∧ (w'.cell? ⟨w2.heap.size, 0, none⟩ = some (.int .i64 p.fr) ∧ w'.cell? ⟨w2.heap.size, 1, none⟩ = some (.int .i64 p.to) ∧ w'.cell? ⟨w2.heap.size, 2, none⟩ = some (.int .i64 p.pr) ∧ w'.cell? ⟨w2.heap.size, 3, none⟩ = some (.int .i64 p.tt) ∧ w'.cell? ⟨w2.heap.size, 4, none⟩ = some (.int .i64 p.id) ∧ w'.cell? ⟨w2.heap.size, 5, none⟩ = some (.bool p.df) ∧ w'.cell? ⟨w2.heap.size, 6, none⟩ = some (.bool p.mf) ∧ w'.cell? ⟨w2.heap.size, 7, none⟩ = some (.int .i64 p.off) ∧ w'.cell? ⟨w2.heap.size, 8, none⟩ = some (.string p.s) ∧ w'.cell? ⟨w2.heap.size, 9, none⟩ = some (.int .i64 4) ∧ w'.cell? ⟨w2.heap.size, 10, none⟩ = some (.int .i64 (flg p)) ∧ w'.cell? ⟨w2.heap.size, 11, none⟩ = some (.int .i64 (p.off / 8)) ∧ w'.cell? ⟨w2.heap.size, 12, none⟩ = some (.int .i64 p.s.size) ∧ w'.cell? ⟨w2.heap.size, 13, none⟩ = some (.int .i64 ((ckP p : Nat) : Int))) ∧ Below w.heap.size w w')
    ((repeat' apply And.intro) <;> first | exact keep_cell (by assumption) (by assumption) | exact hB5.drew | exact hB5.drew.trans (Below.mono (by assumption) hB5.drew.size) | go_keep)
    ((go_at_call 56; refine (encoding_any p _ _ _ _ _ _ HIC.out).mono ?_; rintro e w' ⟨rfl, hb⟩))
  rename_i w6 hHeld
  have hB6 := hHeld.2.2
  clear hHeld c0 c1 c2 c3 c4 c5 c6 c7 c8 c9 c10 c11 c12 c13 e8
  go_wp2
  go_ret2
  exact ⟨rfl, hB6⟩
end Go.Proofs.YtidjbpglpobigaaDoor
