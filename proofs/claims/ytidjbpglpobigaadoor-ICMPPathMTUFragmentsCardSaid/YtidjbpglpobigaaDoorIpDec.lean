/- Contract of the decoder's decode. -/
import Derived.Test.YtidjbpglpobigaaDoorIpD
import Derived.WalkMore
import Derived.BigRegion
import Derived.Deep.DeepCutAuto
namespace Go.Proofs.YtidjbpglpobigaaDoor
open Go.RowKit Go.Shelf
set_option linter.unusedVariables false
attribute [local go_sem] Oper.semAt_some

theorem decode_short (s : ByteArray) (D : Nat) (w : World) (hD : w.heap[D]? = some (.cells (dcs s 0 fun _ => 0) 132 (0, 0))) (hs : s.size < 20) :
    Calls Tryd.prog 73 #[.pointer (some ⟨D, 0, none⟩)] w fun e w' => e = .returned (.bool false) ∧ w.grownBy w' (some D) := by
  have c0 := (blk_cell (k := 0) hD rfl).1
  simp only [List.getElem_toArray, List.getElem_cons_zero] at c0
  have d0 := cell_alloc c0 (.cells #[.pointer (some ⟨D, 0, none⟩)] 161)
  have hss : ((s.size : Int) < 20) = True := eq_true (by omega)
  go_enter Tryd.func73, Tryd.ntmps73
  go_wp2
  go_ret
  exact ⟨rfl, grown_below ((Below.refl _ w).alloc (Nat.le_refl _) _) _⟩

set_option maxRecDepth 100000 in
set_option maxHeartbeats 3000000 in
theorem decode_in (s : ByteArray) (D : Nat) (w : World) (hD : w.heap[D]? = some (.cells (dcs s 0 fun _ => 0) 132 (0, 0))) (hs : s.size ≤ maxLen) (h20 : 20 ≤ s.size) :
    CallsIn Fence.wide 3 Tryd.prog 73 #[.pointer (some ⟨D, 0, none⟩)] w fun e w' => e = .returned (.bool (decide (decOk s))) ∧ w.grownBy w' (some D) ∧ w'.heap[D]? = some (dfin s) := by
  have hro : Fence.wide.round = none := rfl
  have h1 : 1 ≤ 3 := by decide
  have hDl := blk_lt hD
  have c0 := (blk_cell (k := 0) hD rfl).1
  simp only [List.getElem_toArray, List.getElem_cons_zero] at c0
  have d0 := cell_alloc c0 (.cells #[.pointer (some ⟨D, 0, none⟩)] 161)
  have hss : ((s.size : Int) < 20) = False := eq_false (by omega)
  refine callsIn_of_wp_marks Tryd.func73 rfl trivial ?_ hro
  simp only [Tryd.ntmps73, List.size_toArray, List.length_cons, List.length_nil, Nat.reduceAdd, Nat.reduceSub, Array.replicate_succ, Array.replicate_zero, List.push_toArray, List.append_toArray, List.nil_append, List.cons_append]
  refine wpIn_wide.2 ?_
  go_wp2_with fail
  refine (callsIn_wide.1 (fields_in Fence.wide 2 trivial hro D 2 _)).mono ?_
  rintro e w5 ⟨rfl, hw5⟩
  have hX5 : w5.heap[w.heap.size]? = some (.cells #[.pointer (some ⟨D, 0, none⟩)] 161) := by rw [hw5]; exact blk_alloc (blk_new w _) _
  have hP5 : w5.heap[w.heap.size + 1]? = some (.cells #[.pointer (some ⟨D, 2, none⟩)] 163) := by
    rw [hw5]; have := blk_new (w.alloc (.cells #[.pointer (some ⟨D, 0, none⟩)] 161)) (.cells #[.pointer (some ⟨D, 2, none⟩)] 163)
    simp only [World.size_alloc] at this; exact this
  have hs5 : w5.heap.size = w.heap.size + 2 := by rw [hw5]; simp
  have hB5 : Below w.heap.size w w5 := by rw [hw5]; exact ((Below.refl _ w).alloc (Nat.le_refl _) _).alloc (by simp) _
  clear hw5 d0
  have hD5 := blk_below hD hB5 hDl
  have hG5 : w.grownBy w5 (some D) := grown_below hB5 _
  go_wp2
  refine (wpIn_wide (n := 3)).1 ?_
  refine wpIn_rangeFunc_ownF hro h1 (gf := 97) (lb := #[.pointer (some ⟨w.heap.size + 1, 0, none⟩)]) rfl trivial (enters_of Tryd.func97 (by kernel_rfl) rfl)
    (fields_stops Fence.wide _ trivial hro (by decide) (w.heap.size + 1) D 2 w5 (by omega) (blk_cell hP5 rfl).1)
    (fun h k => k.trans h)
    (fun W l o o' hl h _ _ => World.putObj_heap_other (by omega)) (Below.refl _ _) (fun _ => rfl)
    (fun pre W => ((W.heap[D]? = some (.cells (dcs s (drun s pre).pos (drun s pre).V) 132 (0, 0)) ∧ W.heap[w.heap.size]? = some (.cells #[.pointer (some ⟨D, 0, none⟩)] 161 (0, 0))) ∧
      W.heap[w.heap.size + 1]? = some (.cells #[.pointer (some ⟨D, 2, none⟩)] 163 (0, 0))) ∧ w.grownBy W (some D))
    (fun _ _ _ => False)
    (OwnFrom.and (OwnFrom.and (OwnFrom.and (Own.from (cells_own D (fun pre => dcs s (drun s pre).pos (drun s pre).V) _) _) (Own.from (cells_own _ (fun _ => _) _) _)) (Own.from (cells_own _ (fun _ => _) _) _)) (ownFrom_grown (by omega)))
    (fun _ _ _ _ _ hs _ _ => hs)
    ⟨⟨⟨hD5, hX5⟩, hP5⟩, hG5⟩
    (fun x => { tmps := #[.pointer (some ⟨D, 0, none⟩), .pointer (some ⟨w.heap.size, 0, none⟩), .bool false, .pointer (some (fAt D 2 x)), .int .i64 ((nSz x : Nat) : Int), undef, .pointer (some ⟨D, 0, none⟩), .pointer (some ⟨D, 0, none⟩), .pointer (some ⟨D, 0, none⟩), .pointer (some ⟨D, 0, none⟩), .string s, .int .i64 (s.size : Int), .bool false, .pointer (some ⟨D, 0, none⟩), .pointer (some ⟨D, 0, none⟩), .pointer (some ⟨D, 2, none⟩), .func (.func 97) #[] #[.pointer (some ⟨w.heap.size + 1, 0, none⟩)], .pointer (some (fAt D 2 x)), .int .i64 ((nSz x : Nat) : Int), undef, undef, undef, undef, undef, undef, undef, undef, undef, undef, undef, undef, undef, undef, undef, undef, undef, undef, undef, undef, undef, undef, undef, undef, undef, undef, undef, undef, undef, undef, undef, undef, undef, undef, undef, undef, undef, undef, undef, undef, undef, undef, undef, undef, undef, undef, undef, undef, undef, undef, undef, undef, undef, undef, undef, undef, undef, undef, undef, undef, undef, undef, undef, undef, undef, undef, undef, undef, undef, undef, undef, undef, undef, undef, undef, undef, undef, undef, undef, undef, undef, undef, undef, undef, undef, undef, undef, undef, undef, undef, undef, undef], defers := [] }) ?assign ?body ?done ?stop
  case assign =>
    intro l x W K hK
    unfold fenc
    rw [(nSz_bd x).2.2]
    gi_wp2
    exact hK
  case body =>
    rintro l pre x W ⟨⟨⟨hD0, hX⟩, hP⟩, hG⟩ hlt
    obtain ⟨n1, n2, -⟩ := nSz_bd x
    have hp8 := drun_pos s pre
    have hsn := Lib.hid (drun_snoc s pre x)
    have cX := (blk_cell (k := 0) hX rfl).1
    simp only [List.getElem_toArray, List.getElem_cons_zero] at cX
    generalize hDD : drun s pre = h at *
    obtain ⟨k0, -⟩ := blk_cell (k := 0) hD0 rfl
    obtain ⟨k1, kf⟩ := blk_cell (k := 1) hD0 rfl
    simp only [List.getElem_toArray, List.getElem_cons_zero, List.getElem_cons_succ] at k0 k1
    gi_wp2
    refine ⟨trivial, (CallsIn.inRound l (callsIn_wide.2 (next_any s h.pos (nSz x) D _ k0 k1 kf (by omega) hs))).mono ?_⟩
    rintro e w2 ⟨rfl, w1, hb1, hw2⟩
    have hD1 := blk_below hD0 hb1 (blk_lt hD0)
    have hD3 := store_at hD1 x (h.pos + nSz x) (getV s (h.pos : Int) (nSz x : Int))
    have hD2 : w2.heap[D]? = some (.cells (dcs s (h.pos + nSz x) h.V) 132 (0, 0)) := by rw [hw2]; exact blk_setc (k := 1) hD1 _
    rw [← hw2] at hD3
    obtain ⟨hu, hfu⟩ := cell_at hD2 x
    have hG2 : W.grownBy w2 (some D) := by rw [hw2]; exact (grown_below hb1 _).trans (grown_set _ _ _)
    have hG3 := hG2.trans (grown_set w2 (fAt D 2 x) (.int .i64 (getV s (h.pos : Int) (nSz x : Int))))
    have hko3 : KeepsOthers W (w2.setCell (fAt D 2 x) (.int .i64 (getV s (h.pos : Int) (nSz x : Int)))) := by
      rw [hw2]; exact ((keeps_below hb1).trans (KeepsOthers.setCell _ _ _)).trans (KeepsOthers.setCell _ _ _)
    have kX := (hG3.block w.heap.size (blk_lt hX) (by simp; omega)).trans hX
    have kP := hG3.block (w.heap.size + 1) (blk_lt hP) (by simp; omega)
    clear hw2 hD0 hD1 hD2
    generalize getV s (h.pos : Int) (nSz x : Int) = V at *
    gi_wp2
    refine ⟨hko3, kP, ⟨⟨⟨?_, kX⟩, kP.trans hP⟩, hG.trans hG3⟩⟩
    rw [hsn.out]; exact hD3
  case done =>
    rintro D' ys W hD' rfl ⟨⟨⟨hW, hX⟩, hP⟩, hG⟩ hK
    rw [drun_all s h20] at hW
    have HV : Hid (mkP s = ⟨rdF s 1, rdF s 2, rdF s 3, rdF s 4, rdF s 5, dfOf (rdF s 6), mfOf (rdF s 6), rdF s 7 * 8, s.extract 20 s.size⟩) := Lib.hid rfl
    have hin := rdF_in s h20
    obtain ⟨-, q0⟩ := hin 0
    obtain ⟨b7, q7⟩ := hin 7
    have cX := (blk_cell (k := 0) hX rfl).1
    obtain ⟨c0, -⟩ := blk_cell (k := 0) hW rfl
    obtain ⟨c1, -⟩ := blk_cell (k := 1) hW rfl
    obtain ⟨c12, -⟩ := blk_cell (k := 12) hW rfl
    obtain ⟨c7, f7⟩ := blk_cell (k := 7) hW rfl
    obtain ⟨c8, f8⟩ := blk_cell (k := 8) hW rfl
    simp only [List.getElem_toArray, List.getElem_cons_zero, List.getElem_cons_succ] at cX c0 c1 c12 c7 c8
    go_wp2
    go_cut [1] from 26 to 49 (fun v wx => v = .pointer (some ⟨w.heap.size, 0, none⟩) ∧ wx.heap[D]? = some (.cells #[.string s, .int .i64 20, .int .i64 (rdF s 1), .int .i64 (rdF s 2), .int .i64 (rdF s 3), .int .i64 (rdF s 4), .int .i64 (rdF s 5), .bool (dfOf (rdF s 6)), .bool (mfOf (rdF s 6)), .int .i64 0, .string ⟨#[]⟩, .int .i64 (rdF s 0), .int .i64 (rdF s 6), .int .i64 (rdF s 7), .int .i64 (rdF s 8), .int .i64 (rdF s 9)] 132 (0, 0)) ∧ wx.heap[w.heap.size]? = some (.cells #[.pointer (some ⟨D, 0, none⟩)] 161 (0, 0)) ∧ wx.heap[D']? = some (.deferred (some [])) ∧ w.grownBy wx (some D))
    case first =>
      -- REGION7
      refine wp_region_noPanic ?_
      refine wp_region_held_drew (S := fun w' => w'.cell? ⟨w.heap.size, 0, none⟩ = some (.pointer (some ⟨D, 0, none⟩)) ∧ w'.cell? ⟨D, 12, none⟩ = some (.int .i64 (rdF s 6))) (by kernel_rfl) (⟨cX, c12⟩) (fun hHeld => ?_)
      have hWx := Lib.hid hW
      have hXx := Lib.hid hX
      have hKx := Lib.hid hK
      have hGx := Lib.hid (grown_drew hG)
      obtain ⟨Wx, hWe⟩ : ∃ Wx, W.drew = Wx := ⟨_, rfl⟩
      have hWx : Wx.heap[D]? = some (.cells (dcs s 20 (rdF s)) 132 (0, 0)) := by rw [← hWe]; exact hW
      have hXx : Wx.heap[w.heap.size]? = some (.cells #[.pointer (some ⟨D, 0, none⟩)] 161 (0, 0)) := by rw [← hWe]; exact hX
      have hKx : Wx.heap[D']? = some (.deferred (some [])) := by rw [← hWe]; exact hK
      have hGx : w.grownBy Wx (some D) := by rw [← hWe]; exact grown_drew hG
      rw [hWe] at hHeld ⊢
      clear hW hX hK hG hWe cX c0 c1 c12 c7 f7 c8 f8
      have f7 : Wx.frozen? ⟨D, 7, none⟩ = false := (blk_cell (k := 7) hWx rfl).2
      have f8 : Wx.frozen? ⟨D, 8, none⟩ = false := (blk_cell (k := 8) hWx rfl).2
      have c7 : Wx.cell? ⟨D, 7, none⟩ = some (.bool false) := (blk_cell (k := 7) hWx rfl).1
      have c8 : Wx.cell? ⟨D, 8, none⟩ = some (.bool false) := (blk_cell (k := 8) hWx rfl).1
      have hXD : D ≠ w.heap.size := by omega
      have hDD : D ≠ D' := by omega
      have e7 : (bits .and .i64 (rdF s 6) 1 != 0) = dfOf (rdF s 6) := rfl
      have e8 : (bits .and .i64 (rdF s 6) 2 != 0) = mfOf (rdF s 6) := rfl
      refine wpAnyH_take (i := 0) (oi := ⟨some 26, _, _, _, _, _⟩) (v := ?va0) rfl (by kernel_rfl) (by kernel_rfl) (by kernel_rfl) (fun _ _ _ h => h) (Or.inl ⟨by rfl, ?hya0⟩) hHeld ?rra0
      case hya0 => (intro w hSw; (try dsimp only at hSw); go_simp; try with_reducible rfl)
      try simp only [Act.put, List.setIfInBounds_toArray, List.set_cons_zero, List.set_cons_succ]
      refine wpAnyH_take (i := 1) (oi := ⟨some 27, _, _, _, _, _⟩) (v := ?va1) rfl (by kernel_rfl) (by kernel_rfl) (by kernel_rfl) (fun _ _ _ h => h) (Or.inl ⟨by rfl, ?hya1⟩) hHeld ?rra1
      case hya1 => (intro w hSw; (try dsimp only at hSw); go_simp; try with_reducible rfl)
      try simp only [Act.put, List.setIfInBounds_toArray, List.set_cons_zero, List.set_cons_succ]
      refine wpAnyH_take (i := 2) (oi := ⟨some 28, _, _, _, _, _⟩) (v := ?va2) rfl (by kernel_rfl) (by kernel_rfl) (by kernel_rfl) (fun _ _ _ h => h) (Or.inl ⟨by rfl, ?hya2⟩) hHeld ?rra2
      case hya2 => (intro w hSw; (try dsimp only at hSw); go_simp; try with_reducible rfl)
      try simp only [Act.put, List.setIfInBounds_toArray, List.set_cons_zero, List.set_cons_succ]
      refine wpAnyH_take (i := 3) (oi := ⟨some 29, _, _, _, _, _⟩) (v := ?va3) rfl (by kernel_rfl) (by kernel_rfl) (by kernel_rfl) (fun _ _ _ h => h) (Or.inl ⟨by rfl, ?hya3⟩) hHeld ?rra3
      case hya3 => (intro w hSw; (try dsimp only at hSw); go_simp; try with_reducible rfl)
      try simp only [Act.put, List.setIfInBounds_toArray, List.set_cons_zero, List.set_cons_succ]
      refine wpAnyH_take (i := 4) (oi := ⟨some 30, _, _, _, _, _⟩) (v := ?va4) rfl (by kernel_rfl) (by kernel_rfl) (by kernel_rfl) (fun _ _ _ h => h) (Or.inl ⟨by rfl, ?hya4⟩) hHeld ?rra4
      case hya4 => (intro w hSw; (try dsimp only at hSw); go_simp; try with_reducible rfl)
      try simp only [Act.put, List.setIfInBounds_toArray, List.set_cons_zero, List.set_cons_succ]
      refine wpAnyH_take (i := 5) (oi := ⟨some 31, _, _, _, _, _⟩) (v := ?va5) rfl (by kernel_rfl) (by kernel_rfl) (by kernel_rfl) (fun _ _ _ h => h) (Or.inl ⟨by rfl, ?hya5⟩) hHeld ?rra5
      case hya5 => (intro w hSw; (try dsimp only at hSw); go_simp; try with_reducible rfl)
      try simp only [Act.put, List.setIfInBounds_toArray, List.set_cons_zero, List.set_cons_succ]
      refine wpAnyH_take (i := 6) (oi := ⟨some 32, _, _, _, _, _⟩) (v := ?va6) rfl (by kernel_rfl) (by kernel_rfl) (by kernel_rfl) (fun _ _ _ h => h) (Or.inl ⟨by rfl, ?hya6⟩) hHeld ?rra6
      case hya6 => (intro w hSw; (try dsimp only at hSw); go_simp; try with_reducible rfl)
      try simp only [Act.put, List.setIfInBounds_toArray, List.set_cons_zero, List.set_cons_succ]
      refine wpAnyH_take (i := 7) (oi := ⟨some 33, _, _, _, _, _⟩) (v := ?va7) rfl (by kernel_rfl) (by kernel_rfl) (by kernel_rfl) (fun _ _ _ h => h) (Or.inl ⟨by rfl, ?hya7⟩) hHeld ?rra7
      case hya7 => (intro w hSw; (try dsimp only at hSw); go_simp; try with_reducible rfl)
      try simp only [Act.put, List.setIfInBounds_toArray, List.set_cons_zero, List.set_cons_succ]
      refine wpAnyH_take (i := 8) (oi := ⟨some 34, _, _, _, _, _⟩) (v := ?va8) rfl (by kernel_rfl) (by kernel_rfl) (by kernel_rfl) (fun _ _ _ h => h) (Or.inl ⟨by rfl, ?hya8⟩) hHeld ?rra8
      case hya8 => (intro w hSw; (try dsimp only at hSw); go_simp; try with_reducible rfl)
      try simp only [Act.put, List.setIfInBounds_toArray, List.set_cons_zero, List.set_cons_succ]
      refine wpAnyH_take (i := 9) (oi := ⟨some 35, _, _, _, _, _⟩) (v := ?va9) rfl (by kernel_rfl) (by kernel_rfl) (by kernel_rfl) (fun _ _ _ h => h) (Or.inl ⟨by rfl, ?hya9⟩) hHeld ?rra9
      case hya9 => (intro w hSw; (try dsimp only at hSw); go_simp; try with_reducible rfl)
      try simp only [Act.put, List.setIfInBounds_toArray, List.set_cons_zero, List.set_cons_succ]
      refine wpAnyH_take (i := 10) (oi := ⟨some 36, _, _, _, _, _⟩) (v := ?va10) rfl (by kernel_rfl) (by kernel_rfl) (by kernel_rfl) (fun _ _ _ h => h) (Or.inl ⟨by rfl, ?hya10⟩) hHeld ?rra10
      case hya10 => (intro w hSw; (try dsimp only at hSw); go_simp; try with_reducible rfl)
      try simp only [Act.put, List.setIfInBounds_toArray, List.set_cons_zero, List.set_cons_succ]
      refine wpAnyH_take (i := 11) (oi := ⟨some 37, _, _, _, _, _⟩) (v := ?va11) rfl (by kernel_rfl) (by kernel_rfl) (by kernel_rfl) (fun _ _ _ h => h) (Or.inl ⟨by rfl, ?hya11⟩) hHeld ?rra11
      case hya11 => (intro w hSw; (try dsimp only at hSw); go_simp; try with_reducible rfl)
      try simp only [Act.put, List.setIfInBounds_toArray, List.set_cons_zero, List.set_cons_succ]
      refine wpAnyH_take (i := 12) (oi := ⟨some 38, _, _, _, _, _⟩) (v := ?va12) rfl (by kernel_rfl) (by kernel_rfl) (by kernel_rfl) (fun _ _ _ h => h) (Or.inl ⟨by rfl, ?hya12⟩) hHeld ?rra12
      case hya12 => (intro w hSw; (try dsimp only at hSw); go_simp; try with_reducible rfl)
      try simp only [Act.put, List.setIfInBounds_toArray, List.set_cons_zero, List.set_cons_succ]
      refine wpAnyH_take (i := 13) (oi := ⟨some 39, _, _, _, _, _⟩) (v := ?va13) rfl (by kernel_rfl) (by kernel_rfl) (by kernel_rfl) (fun _ _ _ h => h) (Or.inl ⟨by rfl, ?hya13⟩) hHeld ?rra13
      case hya13 => (intro w hSw; (try dsimp only at hSw); go_simp; try with_reducible rfl)
      try simp only [Act.put, List.setIfInBounds_toArray, List.set_cons_zero, List.set_cons_succ]
      refine wpAnyH_take (i := 14) (oi := ⟨some 40, _, _, _, _, _⟩) (v := ?va14) rfl (by kernel_rfl) (by kernel_rfl) (by kernel_rfl) (fun _ _ _ h => h) (Or.inl ⟨by rfl, ?hya14⟩) hHeld ?rra14
      case hya14 => (intro w hSw; (try dsimp only at hSw); go_simp; try with_reducible rfl)
      try simp only [Act.put, List.setIfInBounds_toArray, List.set_cons_zero, List.set_cons_succ]
      refine wpAnyH_take (i := 15) (oi := ⟨some 41, _, _, _, _, _⟩) (v := ?va15) rfl (by kernel_rfl) (by kernel_rfl) (by kernel_rfl) (fun _ _ _ h => h) (Or.inl ⟨by rfl, ?hya15⟩) hHeld ?rra15
      case hya15 => (intro w hSw; (try dsimp only at hSw); go_simp; try with_reducible rfl)
      try simp only [Act.put, List.setIfInBounds_toArray, List.set_cons_zero, List.set_cons_succ]
      refine wpAnyH_take (i := 16) (oi := ⟨some 42, _, _, _, _, _⟩) (v := ?va16) rfl (by kernel_rfl) (by kernel_rfl) (by kernel_rfl) (fun _ _ _ h => h) (Or.inl ⟨by rfl, ?hya16⟩) hHeld ?rra16
      case hya16 => (intro w hSw; (try dsimp only at hSw); go_simp; try with_reducible rfl)
      try simp only [Act.put, List.setIfInBounds_toArray, List.set_cons_zero, List.set_cons_succ]
      refine wpAnyH_take (i := 17) (oi := ⟨some 43, _, _, _, _, _⟩) (v := ?va17) rfl (by kernel_rfl) (by kernel_rfl) (by kernel_rfl) (fun _ _ _ h => h) (Or.inl ⟨by rfl, ?hya17⟩) hHeld ?rra17
      case hya17 => (intro w hSw; (try dsimp only at hSw); go_simp; try with_reducible rfl)
      try simp only [Act.put, List.setIfInBounds_toArray, List.set_cons_zero, List.set_cons_succ]
      refine wpAnyH_take (i := 18) (oi := ⟨some 44, _, _, _, _, _⟩) (v := ?va18) rfl (by kernel_rfl) (by kernel_rfl) (by kernel_rfl) (fun _ _ _ h => h) (Or.inl ⟨by rfl, ?hya18⟩) hHeld ?rra18
      case hya18 => (intro w hSw; (try dsimp only at hSw); go_simp; try with_reducible rfl)
      try simp only [Act.put, List.setIfInBounds_toArray, List.set_cons_zero, List.set_cons_succ]
      refine wpAnyH_take (i := 19) (oi := ⟨some 45, _, _, _, _, _⟩) (v := ?va19) rfl (by kernel_rfl) (by kernel_rfl) (by kernel_rfl) (fun _ _ _ h => h) (Or.inl ⟨by rfl, ?hya19⟩) hHeld ?rra19
      case hya19 => (intro w hSw; (try dsimp only at hSw); go_simp; try with_reducible rfl)
      try simp only [Act.put, List.setIfInBounds_toArray, List.set_cons_zero, List.set_cons_succ]
      have n8 : (Wx.setCell ⟨D, 7, none⟩ (.bool (dfOf (rdF s 6)))).cell? ⟨D, 8, none⟩ = some (.bool false) := (blk_cell (k := 8) (blk_setc (k := 7) hWx _) rfl).1
      have m8 : (Wx.setCell ⟨D, 7, none⟩ (.bool (dfOf (rdF s 6)))).frozen? ⟨D, 8, none⟩ = false := (blk_cell (k := 8) (blk_setc (k := 7) hWx _) rfl).2
      refine wpAnyH_ready (rs := [20]) (by kernel_rfl) (by simp) ?_
      refine AllReadyH.cons (o := ⟨none, _, _, _, _, _⟩) rfl (fun K hK => ?_) AllReadyH.nil
      go_simp
      refine hK.out _ _ (⟨(blk_cell (k := 0) (blk_set hXx ⟨D, 7, none⟩ hXD _) rfl).1, (blk_cell (k := 12) (blk_setc (k := 7) hWx _) rfl).1⟩) (fun hHeld2 => ?_)
      clear hK K hHeld
      have hHeld := hHeld2
      clear hHeld2
      try simp only [Act.put, List.setIfInBounds_toArray, List.set_cons_zero, List.set_cons_succ]
      refine wpAnyH_take (i := 21) (oi := ⟨some 46, _, _, _, _, _⟩) (v := ?va21) rfl (by kernel_rfl) (by kernel_rfl) (by kernel_rfl) (fun _ _ _ h => h) (Or.inl ⟨by rfl, ?hya21⟩) hHeld ?rra21
      case hya21 => (intro w hSw; (try dsimp only at hSw); go_simp; try with_reducible rfl)
      try simp only [Act.put, List.setIfInBounds_toArray, List.set_cons_zero, List.set_cons_succ]
      refine wpAnyH_take (i := 22) (oi := ⟨some 47, _, _, _, _, _⟩) (v := ?va22) rfl (by kernel_rfl) (by kernel_rfl) (by kernel_rfl) (fun _ _ _ h => h) (Or.inl ⟨by rfl, ?hya22⟩) hHeld ?rra22
      case hya22 => (intro w hSw; (try dsimp only at hSw); go_simp; try with_reducible rfl)
      try simp only [Act.put, List.setIfInBounds_toArray, List.set_cons_zero, List.set_cons_succ]
      refine wpAnyH_take (i := 23) (oi := ⟨some 48, _, _, _, _, _⟩) (v := ?va23) rfl (by kernel_rfl) (by kernel_rfl) (by kernel_rfl) (fun _ _ _ h => h) (Or.inl ⟨by rfl, ?hya23⟩) hHeld ?rra23
      case hya23 => (intro w hSw; (try dsimp only at hSw); go_simp; try with_reducible rfl)
      try simp only [Act.put, List.setIfInBounds_toArray, List.set_cons_zero, List.set_cons_succ]
      refine wpAnyH_take (i := 24) (oi := ⟨some 49, _, _, _, _, _⟩) (v := ?va24) rfl (by kernel_rfl) (by kernel_rfl) (by kernel_rfl) (fun _ _ _ h => h) (Or.inl ⟨by rfl, ?hya24⟩) hHeld ?rra24
      case hya24 => (intro w hSw; (try dsimp only at hSw); go_simp; try with_reducible rfl)
      try simp only [Act.put, List.setIfInBounds_toArray, List.set_cons_zero, List.set_cons_succ]
      refine wpAnyH_ready (rs := [25]) (by kernel_rfl) (by simp) ?_
      refine AllReadyH.cons (o := ⟨none, _, _, _, _, _⟩) rfl (fun K hK => ?_) AllReadyH.nil
      go_simp
      refine hK.out _ _ (⟨(blk_cell (k := 0) (blk_set (blk_set hXx ⟨D, 7, none⟩ hXD _) ⟨D, 8, none⟩ hXD _) rfl).1, (blk_cell (k := 12) (blk_setc (k := 8) (blk_setc (k := 7) hWx _) _) rfl).1⟩) (fun hHeld2 => ?_)
      clear hK K hHeld
      have hHeld := hHeld2
      clear hHeld2
      try simp only [Act.put, List.setIfInBounds_toArray, List.set_cons_zero, List.set_cons_succ]
      refine wpAnyH_done (by kernel_rfl) ?_ _
      refine NoPanic.normal ?_
      go_wp2_with fail
      go_meet
      exact ⟨rfl, blk_setc (k := 8) (blk_setc (k := 7) hWx _) _, blk_set (blk_set hXx ⟨D, 7, none⟩ hXD _) ⟨D, 8, none⟩ hXD _, blk_set (blk_set hKx ⟨D, 7, none⟩ hDD _) ⟨D, 8, none⟩ hDD _, (hGx.trans (grown_set _ ⟨D, 7, none⟩ _)).trans (grown_set _ ⟨D, 8, none⟩ _)⟩
      -- END REGION7
    case rest =>
      clear hX hW hK hG cX c0 c1 c12 c7 f7 c8 f8
      obtain ⟨rfl, hW, hX, hK, hG⟩ := hcut
      rename_i W9
      have q7' : rdF s 7 < 65536 := by simpa [fSz] using q7
      have hmul2 : IntKind.i64.wrap (rdF s 7 * 8) = rdF s 7 * 8 := wraps_i64 _ (by omega) (by omega)
      have hmul : wrap64 (rdF s 7 * 8) = rdF s 7 * 8 := wrap64_id _ (by omega) (by omega)
      have cX := (blk_cell (k := 0) hX rfl).1
      have c0 := (blk_cell (k := 0) hW rfl).1
      have c1 := (blk_cell (k := 1) hW rfl).1
      have c13 := (blk_cell (k := 13) hW rfl).1
      simp only [List.getElem_toArray, List.getElem_cons_zero, List.getElem_cons_succ] at cX c0 c1 c13
      go_wp2
      go_cut [1] from 50 to 69 (fun v wx => v = .pointer (some ⟨w.heap.size, 0, none⟩) ∧ wx.heap[D]? = some (dfin s) ∧ wx.heap[w.heap.size]? = some (.cells #[.pointer (some ⟨D, 0, none⟩)] 161 (0, 0)) ∧ wx.heap[D']? = some (.deferred (some [])) ∧ w.grownBy wx (some D))
      case first =>
        -- REGION8
        refine wp_region_noPanic ?_
        refine wp_region_held_drew (S := fun w' => w'.cell? ⟨w.heap.size, 0, none⟩ = some (.pointer (some ⟨D, 0, none⟩)) ∧ w'.cell? ⟨D, 0, none⟩ = some (.string s) ∧ w'.cell? ⟨D, 1, none⟩ = some (.int .i64 ((20 : Nat) : Int)) ∧ w'.cell? ⟨D, 13, none⟩ = some (.int .i64 (rdF s 7))) (by kernel_rfl) (⟨cX, c0, c1, c13⟩) (fun hHeld => ?_)
        obtain ⟨Wx, hWe⟩ : ∃ Wx, wc.drew = Wx := ⟨_, rfl⟩
        have hWx : Wx.heap[D]? = some (dmid s) := by rw [← hWe]; exact hW
        have hXx : Wx.heap[w.heap.size]? = some (.cells #[.pointer (some ⟨D, 0, none⟩)] 161 (0, 0)) := by rw [← hWe]; exact hX
        have hKx : Wx.heap[D']? = some (.deferred (some [])) := by rw [← hWe]; exact hK
        have hGx : w.grownBy Wx (some D) := by rw [← hWe]; exact grown_drew hG
        rw [hWe] at hHeld ⊢
        clear hW hX hK hG hWe cX c0 c1 c13
        have hXD : D ≠ w.heap.size := by omega
        have hDD : D ≠ D' := by omega
        refine wpAnyH_take (i := 0) (oi := ⟨some 50, _, _, _, _, _⟩) (v := ?vb0) rfl (by kernel_rfl) (by kernel_rfl) (by kernel_rfl) (fun _ _ _ h => h) (Or.inl ⟨by rfl, ?hyb0⟩) hHeld ?rrb0
        case hyb0 => (intro w hSw; (try dsimp only at hSw); go_simp; try with_reducible rfl)
        try simp only [Act.put, List.setIfInBounds_toArray, List.set_cons_zero, List.set_cons_succ]
        refine wpAnyH_take (i := 1) (oi := ⟨some 51, _, _, _, _, _⟩) (v := ?vb1) rfl (by kernel_rfl) (by kernel_rfl) (by kernel_rfl) (fun _ _ _ h => h) (Or.inl ⟨by rfl, ?hyb1⟩) hHeld ?rrb1
        case hyb1 => (intro w hSw; (try dsimp only at hSw); go_simp; try with_reducible rfl)
        try simp only [Act.put, List.setIfInBounds_toArray, List.set_cons_zero, List.set_cons_succ]
        refine wpAnyH_take (i := 2) (oi := ⟨some 52, _, _, _, _, _⟩) (v := ?vb2) rfl (by kernel_rfl) (by kernel_rfl) (by kernel_rfl) (fun _ _ _ h => h) (Or.inl ⟨by rfl, ?hyb2⟩) hHeld ?rrb2
        case hyb2 => (intro w hSw; (try dsimp only at hSw); go_simp; try with_reducible rfl)
        try simp only [Act.put, List.setIfInBounds_toArray, List.set_cons_zero, List.set_cons_succ]
        refine wpAnyH_take (i := 3) (oi := ⟨some 53, _, _, _, _, _⟩) (v := ?vb3) rfl (by kernel_rfl) (by kernel_rfl) (by kernel_rfl) (fun _ _ _ h => h) (Or.inl ⟨by rfl, ?hyb3⟩) hHeld ?rrb3
        case hyb3 => (intro w hSw; (try dsimp only at hSw); go_simp; try with_reducible rfl)
        try simp only [Act.put, List.setIfInBounds_toArray, List.set_cons_zero, List.set_cons_succ]
        refine wpAnyH_take (i := 4) (oi := ⟨some 54, _, _, _, _, _⟩) (v := ?vb4) rfl (by kernel_rfl) (by kernel_rfl) (by kernel_rfl) (fun _ _ _ h => h) (Or.inl ⟨by rfl, ?hyb4⟩) hHeld ?rrb4
        case hyb4 => (intro w hSw; (try dsimp only at hSw); go_simp; try with_reducible rfl)
        try simp only [Act.put, List.setIfInBounds_toArray, List.set_cons_zero, List.set_cons_succ]
        refine wpAnyH_take (i := 5) (oi := ⟨some 55, _, _, _, _, _⟩) (v := ?vb5) rfl (by kernel_rfl) (by kernel_rfl) (by kernel_rfl) (fun _ _ _ h => h) (Or.inl ⟨by rfl, ?hyb5⟩) hHeld ?rrb5
        case hyb5 => (intro w hSw; (try dsimp only at hSw); go_simp; try with_reducible rfl)
        try simp only [Act.put, List.setIfInBounds_toArray, List.set_cons_zero, List.set_cons_succ]
        refine wpAnyH_take (i := 6) (oi := ⟨some 56, _, _, _, _, _⟩) (v := ?vb6) rfl (by kernel_rfl) (by kernel_rfl) (by kernel_rfl) (fun _ _ _ h => h) (Or.inl ⟨by rfl, ?hyb6⟩) hHeld ?rrb6
        case hyb6 => (intro w hSw; (try dsimp only at hSw); go_simp; try with_reducible rfl)
        try simp only [Act.put, List.setIfInBounds_toArray, List.set_cons_zero, List.set_cons_succ]
        refine wpAnyH_take (i := 7) (oi := ⟨some 57, _, _, _, _, _⟩) (v := ?vb7) rfl (by kernel_rfl) (by kernel_rfl) (by kernel_rfl) (fun _ _ _ h => h) (Or.inl ⟨by rfl, ?hyb7⟩) hHeld ?rrb7
        case hyb7 => (intro w hSw; (try dsimp only at hSw); go_simp; try with_reducible rfl)
        try simp only [Act.put, List.setIfInBounds_toArray, List.set_cons_zero, List.set_cons_succ]
        refine wpAnyH_take (i := 8) (oi := ⟨some 58, _, _, _, _, _⟩) (v := ?vb8) rfl (by kernel_rfl) (by kernel_rfl) (by kernel_rfl) (fun _ _ _ h => h) (Or.inl ⟨by rfl, ?hyb8⟩) hHeld ?rrb8
        case hyb8 => (intro w hSw; (try dsimp only at hSw); go_simp; try with_reducible rfl)
        try simp only [Act.put, List.setIfInBounds_toArray, List.set_cons_zero, List.set_cons_succ]
        refine wpAnyH_take (i := 9) (oi := ⟨some 59, _, _, _, _, _⟩) (v := ?vb9) rfl (by kernel_rfl) (by kernel_rfl) (by kernel_rfl) (fun _ _ _ h => h) (Or.inl ⟨by rfl, ?hyb9⟩) hHeld ?rrb9
        case hyb9 => (intro w hSw; (try dsimp only at hSw); go_simp; try with_reducible rfl)
        try simp only [Act.put, List.setIfInBounds_toArray, List.set_cons_zero, List.set_cons_succ]
        refine wpAnyH_take (i := 10) (oi := ⟨some 60, _, _, _, _, _⟩) (v := ?vb10) rfl (by kernel_rfl) (by kernel_rfl) (by kernel_rfl) (fun _ _ _ h => h) (Or.inl ⟨by rfl, ?hyb10⟩) hHeld ?rrb10
        case hyb10 => (intro w hSw; (try dsimp only at hSw); go_simp; try with_reducible rfl)
        try simp only [Act.put, List.setIfInBounds_toArray, List.set_cons_zero, List.set_cons_succ]
        refine wpAnyH_ready (rs := [11]) (by kernel_rfl) (by simp) ?_
        refine AllReadyH.cons (o := ⟨some 61, _, _, _, _, _⟩) rfl (fun K hK => ?_) AllReadyH.nil
        go_simp
        go_at_call 94
        refine (rest_any s 20 D _ hHeld.2.1 hHeld.2.2.1 h20 hs).mono ?_
        rintro e w2 ⟨rfl, hw2⟩
        have hWx2 : w2.heap[D]? = some (dmid s) := by rw [hw2]; exact hWx
        have hXx2 : w2.heap[w.heap.size]? = some (.cells #[.pointer (some ⟨D, 0, none⟩)] 161 (0, 0)) := by rw [hw2]; exact hXx
        have hKx2 : w2.heap[D']? = some (.deferred (some [])) := by rw [hw2]; exact hKx
        have hGx2 : w.grownBy w2 (some D) := by rw [hw2]; exact grown_drew hGx
        have hH2 : w2.cell? ⟨w.heap.size, 0, none⟩ = some (.pointer (some ⟨D, 0, none⟩)) ∧ w2.cell? ⟨D, 0, none⟩ = some (.string s) ∧ w2.cell? ⟨D, 1, none⟩ = some (.int .i64 ((20 : Nat) : Int)) ∧ w2.cell? ⟨D, 13, none⟩ = some (.int .i64 (rdF s 7)) := by rw [hw2]; exact hHeld
        refine hK.out _ _ hH2 (fun hHeld2 => ?_)
        clear hK K hHeld hH2 hw2 hWx hXx hKx hGx
        have hHeld := hHeld2
        clear hHeld2
        have n9 : w2.cell? ⟨D, 9, none⟩ = some (.int .i64 0) := (blk_cell (k := 9) hWx2 rfl).1
        have m9 : w2.frozen? ⟨D, 9, none⟩ = false := (blk_cell (k := 9) hWx2 rfl).2
        try simp only [Act.put, List.setIfInBounds_toArray, List.set_cons_zero, List.set_cons_succ]
        refine wpAnyH_take (i := 12) (oi := ⟨some 62, _, _, _, _, _⟩) (v := ?vb12) rfl (by kernel_rfl) (by kernel_rfl) (by kernel_rfl) (fun _ _ _ h => h) (Or.inl ⟨by rfl, ?hyb12⟩) hHeld ?rrb12
        case hyb12 => (intro w hSw; (try dsimp only at hSw); go_simp; try with_reducible rfl)
        try simp only [Act.put, List.setIfInBounds_toArray, List.set_cons_zero, List.set_cons_succ]
        refine wpAnyH_take (i := 13) (oi := ⟨some 63, _, _, _, _, _⟩) (v := ?vb13) rfl (by kernel_rfl) (by kernel_rfl) (by kernel_rfl) (fun _ _ _ h => h) (Or.inl ⟨by rfl, ?hyb13⟩) hHeld ?rrb13
        case hyb13 => (intro w hSw; (try dsimp only at hSw); go_simp; try with_reducible rfl)
        try simp only [Act.put, List.setIfInBounds_toArray, List.set_cons_zero, List.set_cons_succ]
        refine wpAnyH_take (i := 14) (oi := ⟨some 64, _, _, _, _, _⟩) (v := ?vb14) rfl (by kernel_rfl) (by kernel_rfl) (by kernel_rfl) (fun _ _ _ h => h) (Or.inl ⟨by rfl, ?hyb14⟩) hHeld ?rrb14
        case hyb14 => (intro w hSw; (try dsimp only at hSw); go_simp; try with_reducible rfl)
        try simp only [Act.put, List.setIfInBounds_toArray, List.set_cons_zero, List.set_cons_succ]
        refine wpAnyH_take (i := 15) (oi := ⟨some 65, _, _, _, _, _⟩) (v := ?vb15) rfl (by kernel_rfl) (by kernel_rfl) (by kernel_rfl) (fun _ _ _ h => h) (Or.inl ⟨by rfl, ?hyb15⟩) hHeld ?rrb15
        case hyb15 => (intro w hSw; (try dsimp only at hSw); go_simp; try with_reducible rfl)
        try simp only [Act.put, List.setIfInBounds_toArray, List.set_cons_zero, List.set_cons_succ]
        have n10 : w2.cell? ⟨D, 10, none⟩ = some (.string ⟨#[]⟩) := (blk_cell (k := 10) hWx2 rfl).1
        have m10 : w2.frozen? ⟨D, 10, none⟩ = false := (blk_cell (k := 10) hWx2 rfl).2
        refine wpAnyH_ready (rs := [16]) (by kernel_rfl) (by simp) ?_
        refine AllReadyH.cons (o := ⟨none, _, _, _, _, _⟩) rfl (fun K hK => ?_) AllReadyH.nil
        go_simp
        refine hK.out _ _ (⟨(blk_cell (k := 0) (blk_set hXx2 ⟨D, 9, none⟩ hXD _) rfl).1, (blk_cell (k := 0) (blk_setc (k := 9) hWx2 _) rfl).1, (blk_cell (k := 1) (blk_setc (k := 9) hWx2 _) rfl).1, (blk_cell (k := 13) (blk_setc (k := 9) hWx2 _) rfl).1⟩) (fun hHeld2 => ?_)
        clear hK K hHeld
        have hHeld := hHeld2
        clear hHeld2
        try simp only [Act.put, List.setIfInBounds_toArray, List.set_cons_zero, List.set_cons_succ]
        refine wpAnyH_take (i := 17) (oi := ⟨some 66, _, _, _, _, _⟩) (v := ?vb17) rfl (by kernel_rfl) (by kernel_rfl) (by kernel_rfl) (fun _ _ _ h => h) (Or.inl ⟨by rfl, ?hyb17⟩) hHeld ?rrb17
        case hyb17 => (intro w hSw; (try dsimp only at hSw); go_simp; try with_reducible rfl)
        try simp only [Act.put, List.setIfInBounds_toArray, List.set_cons_zero, List.set_cons_succ]
        refine wpAnyH_take (i := 18) (oi := ⟨some 67, _, _, _, _, _⟩) (v := ?vb18) rfl (by kernel_rfl) (by kernel_rfl) (by kernel_rfl) (fun _ _ _ h => h) (Or.inl ⟨by rfl, ?hyb18⟩) hHeld ?rrb18
        case hyb18 => (intro w hSw; (try dsimp only at hSw); go_simp; try with_reducible rfl)
        try simp only [Act.put, List.setIfInBounds_toArray, List.set_cons_zero, List.set_cons_succ]
        refine wpAnyH_take (i := 19) (oi := ⟨some 68, _, _, _, _, _⟩) (v := ?vb19) rfl (by kernel_rfl) (by kernel_rfl) (by kernel_rfl) (fun _ _ _ h => h) (Or.inl ⟨by rfl, ?hyb19⟩) hHeld ?rrb19
        case hyb19 => (intro w hSw; (try dsimp only at hSw); go_simp; try with_reducible rfl)
        try simp only [Act.put, List.setIfInBounds_toArray, List.set_cons_zero, List.set_cons_succ]
        refine wpAnyH_take (i := 20) (oi := ⟨some 69, _, _, _, _, _⟩) (v := ?vb20) rfl (by kernel_rfl) (by kernel_rfl) (by kernel_rfl) (fun _ _ _ h => h) (Or.inl ⟨by rfl, ?hyb20⟩) hHeld ?rrb20
        case hyb20 => (intro w hSw; (try dsimp only at hSw); go_simp; try with_reducible rfl)
        try simp only [Act.put, List.setIfInBounds_toArray, List.set_cons_zero, List.set_cons_succ]
        refine wpAnyH_ready (rs := [21]) (by kernel_rfl) (by simp) ?_
        refine AllReadyH.cons (o := ⟨none, _, _, _, _, _⟩) rfl (fun K hK => ?_) AllReadyH.nil
        go_simp
        refine hK.out _ _ (⟨(blk_cell (k := 0) (blk_set (blk_set hXx2 ⟨D, 9, none⟩ hXD _) ⟨D, 10, none⟩ hXD _) rfl).1, (blk_cell (k := 0) (blk_setc (k := 10) (blk_setc (k := 9) hWx2 _) _) rfl).1, (blk_cell (k := 1) (blk_setc (k := 10) (blk_setc (k := 9) hWx2 _) _) rfl).1, (blk_cell (k := 13) (blk_setc (k := 10) (blk_setc (k := 9) hWx2 _) _) rfl).1⟩) (fun hHeld2 => ?_)
        clear hK K hHeld
        have hHeld := hHeld2
        clear hHeld2
        try simp only [Act.put, List.setIfInBounds_toArray, List.set_cons_zero, List.set_cons_succ]
        refine wpAnyH_done (by kernel_rfl) ?_ _
        refine NoPanic.normal ?_
        go_wp2_with fail
        go_meet
        exact ⟨rfl, blk_setc (k := 10) (blk_setc (k := 9) hWx2 _) _, blk_set (blk_set hXx2 ⟨D, 9, none⟩ hXD _) ⟨D, 10, none⟩ hXD _, blk_set (blk_set hKx2 ⟨D, 9, none⟩ hDD _) ⟨D, 10, none⟩ hDD _, (hGx2.trans (grown_set _ ⟨D, 9, none⟩ _)).trans (grown_set _ ⟨D, 10, none⟩ _)⟩
        -- END REGION8
      case rest =>
        clear hW hX hK hG cX c0 c1 c13
        obtain ⟨rfl, hW, hX, hK, hG⟩ := hcut
        have hVV : fV (mkP s) (rdF s 0) (rdF s 6) (rdF s 7) (rdF s 8) (rdF s 9) = rdF s := by
          funext i
          obtain rfl | rfl | rfl | rfl | rfl | rfl | rfl | rfl | rfl | rfl := fin10 i
          all_goals rfl
        have hIN : inR (fV (mkP s) (rdF s 0) (rdF s 6) (rdF s 7) (rdF s 8) (rdF s 9)) := by rw [hVV]; exact hin
        have hl : 0 ≤ rdF s 8 ∧ rdF s 8 < 65536 := by have := hin 8; simpa [fSz] using this
        have hOK : decOk s ↔ (rdF s 0 = 4 ∧ rdF s 6 ≤ 3) ∧ rdF s 9 = ((ckF (mkP s) (rdF s 0) (rdF s 6) (rdF s 7) (rdF s 8) : Nat) : Int) ∧ okW (mkP s) (rdF s 8) :=
          ⟨fun h => ⟨h.2.1, h.2.2.1, h.2.2.2⟩, fun h => ⟨h20, h.1, h.2.1, h.2.2⟩⟩
        rw [show dfin s = dob s (mkP s) (rdF s 0) (rdF s 6) (rdF s 7) (rdF s 8) (rdF s 9) from rfl] at hW
        clear HV hVV hin hmul hmul2 q7' q7 b7 q0
        have hFin : dfin s = dob s (mkP s) (rdF s 0) (rdF s 6) (rdF s 7) (rdF s 8) (rdF s 9) := rfl
        obtain ⟨P, hPe⟩ : ∃ P, mkP s = P := ⟨_, rfl⟩
        obtain ⟨v, hve⟩ : ∃ v, rdF s 0 = v := ⟨_, rfl⟩
        obtain ⟨f, hfe⟩ : ∃ f, rdF s 6 = f := ⟨_, rfl⟩
        obtain ⟨u, hue⟩ : ∃ u, rdF s 7 = u := ⟨_, rfl⟩
        obtain ⟨l, hle⟩ : ∃ l, rdF s 8 = l := ⟨_, rfl⟩
        obtain ⟨c, hce⟩ : ∃ c, rdF s 9 = c := ⟨_, rfl⟩
        rw [hPe, hve, hfe, hue, hle, hce] at hW hIN hFin
        rw [hPe, hve, hfe, hue, hle, hce] at hOK
        rw [hle] at hl
        have HIN := Lib.hid hIN
        have HFIN := Lib.hid hFin
        clear hPe hve hfe hue hle hce hIN hFin
        have cX := (blk_cell (k := 0) hX rfl).1
        have e2 := (blk_cell (k := 2) hW rfl).1
        have e3 := (blk_cell (k := 3) hW rfl).1
        have e4 := (blk_cell (k := 4) hW rfl).1
        have e5 := (blk_cell (k := 5) hW rfl).1
        have e6 := (blk_cell (k := 6) hW rfl).1
        have e7 := (blk_cell (k := 7) hW rfl).1
        have e8 := (blk_cell (k := 8) hW rfl).1
        have e9 := (blk_cell (k := 9) hW rfl).1
        have e10 := (blk_cell (k := 10) hW rfl).1
        have e11 := (blk_cell (k := 11) hW rfl).1
        have e12 := (blk_cell (k := 12) hW rfl).1
        have e13 := (blk_cell (k := 13) hW rfl).1
        have e14 := (blk_cell (k := 14) hW rfl).1
        have e15 := (blk_cell (k := 15) hW rfl).1
        simp only [List.getElem_toArray, List.getElem_cons_zero, List.getElem_cons_succ] at cX e2 e3 e4 e5 e6 e7 e8 e9 e10 e11 e12 e13 e14 e15
        by_cases hv4 : v = 4
        · subst hv4
          by_cases hf3 : f ≤ 3
          · by_cases hcs : c = ((ckF P 4 f u l : Nat) : Int)
            · have hDEC : Hid (decide (decOk s) = decide (okW P l)) := by
                rw [Hid, decide_eq_decide, hOK]; exact ⟨fun h => h.2.2, fun h => ⟨⟨rfl, hf3⟩, hcs, h⟩⟩
              have hcb : (c == ((ckF P 4 f u l : Nat) : Int)) = true := by simpa using hcs
              clear hOK hcs
              go_wp2
              -- REGION10C
              refine wp_region_noPanic ?_
              refine wp_region_held_drew (S := fun w' => w'.cell? ⟨w.heap.size, 0, none⟩ = some (.pointer (some ⟨D, 0, none⟩)) ∧ w'.cell? ⟨D, 2, none⟩ = some (.int .i64 P.fr) ∧ w'.cell? ⟨D, 3, none⟩ = some (.int .i64 P.to) ∧ w'.cell? ⟨D, 4, none⟩ = some (.int .i64 P.pr) ∧ w'.cell? ⟨D, 5, none⟩ = some (.int .i64 P.tt) ∧ w'.cell? ⟨D, 6, none⟩ = some (.int .i64 P.id) ∧ w'.cell? ⟨D, 7, none⟩ = some (.bool P.df) ∧ w'.cell? ⟨D, 8, none⟩ = some (.bool P.mf) ∧ w'.cell? ⟨D, 9, none⟩ = some (.int .i64 P.off) ∧ w'.cell? ⟨D, 10, none⟩ = some (.string P.s) ∧ w'.cell? ⟨D, 11, none⟩ = some (.int .i64 4) ∧ w'.cell? ⟨D, 12, none⟩ = some (.int .i64 f) ∧ w'.cell? ⟨D, 13, none⟩ = some (.int .i64 u) ∧ w'.cell? ⟨D, 14, none⟩ = some (.int .i64 l) ∧ w'.cell? ⟨D, 15, none⟩ = some (.int .i64 c)) (by kernel_rfl) (⟨cX, e2, e3, e4, e5, e6, e7, e8, e9, e10, e11, e12, e13, e14, e15⟩) (fun hHeld => ?_)
              obtain ⟨Wx, hWe⟩ : ∃ Wx, wc.drew = Wx := ⟨_, rfl⟩
              have hWx : Wx.heap[D]? = some (dob s P 4 f u l c) := by rw [← hWe]; exact hW
              have hKx : Wx.heap[D']? = some (.deferred (some [])) := by rw [← hWe]; exact hK
              have hGx : w.grownBy Wx (some D) := by rw [← hWe]; exact grown_drew hG
              rw [hWe] at hHeld ⊢
              clear hW hX hK hG hWe cX e2 e3 e4 e5 e6 e7 e8 e9 e10 e11 e12 e13 e14 e15
              first
                | (refine wpAnyH_take (i := 0) (oi := ⟨some 84, _, _, _, _, _⟩) (v := ?vcC0) rfl (by kernel_rfl) (by kernel_rfl) (by kernel_rfl) (fun _ _ _ h => h) (Or.inl ⟨by rfl, ?hycC0⟩) hHeld ?rrcC0
                   case hycC0 => (intro w hSw; (try dsimp only at hSw); go_simp; try with_reducible rfl))
                | (refine wpAnyH_take (i := 0) (oi := ⟨some 84, _, _, _, _, _⟩) (v := undef) rfl (by kernel_rfl) (by kernel_rfl) (by kernel_rfl) (fun _ _ _ h => h) (Or.inr ⟨by rfl, rfl⟩) hHeld ?rrcC0)
              try simp only [Act.put, List.setIfInBounds_toArray, List.set_cons_zero, List.set_cons_succ]
              first
                | (refine wpAnyH_take (i := 1) (oi := ⟨some 85, _, _, _, _, _⟩) (v := ?vcC1) rfl (by kernel_rfl) (by kernel_rfl) (by kernel_rfl) (fun _ _ _ h => h) (Or.inl ⟨by rfl, ?hycC1⟩) hHeld ?rrcC1
                   case hycC1 => (intro w hSw; (try dsimp only at hSw); go_simp; try with_reducible rfl))
                | (refine wpAnyH_take (i := 1) (oi := ⟨some 85, _, _, _, _, _⟩) (v := undef) rfl (by kernel_rfl) (by kernel_rfl) (by kernel_rfl) (fun _ _ _ h => h) (Or.inr ⟨by rfl, rfl⟩) hHeld ?rrcC1)
              try simp only [Act.put, List.setIfInBounds_toArray, List.set_cons_zero, List.set_cons_succ]
              first
                | (refine wpAnyH_take (i := 2) (oi := ⟨some 86, _, _, _, _, _⟩) (v := ?vcC2) rfl (by kernel_rfl) (by kernel_rfl) (by kernel_rfl) (fun _ _ _ h => h) (Or.inl ⟨by rfl, ?hycC2⟩) hHeld ?rrcC2
                   case hycC2 => (intro w hSw; (try dsimp only at hSw); go_simp; try with_reducible rfl))
                | (refine wpAnyH_take (i := 2) (oi := ⟨some 86, _, _, _, _, _⟩) (v := undef) rfl (by kernel_rfl) (by kernel_rfl) (by kernel_rfl) (fun _ _ _ h => h) (Or.inr ⟨by rfl, rfl⟩) hHeld ?rrcC2)
              try simp only [Act.put, List.setIfInBounds_toArray, List.set_cons_zero, List.set_cons_succ]
              first
                | (refine wpAnyH_take (i := 3) (oi := ⟨some 87, _, _, _, _, _⟩) (v := ?vcC3) rfl (by kernel_rfl) (by kernel_rfl) (by kernel_rfl) (fun _ _ _ h => h) (Or.inl ⟨by rfl, ?hycC3⟩) hHeld ?rrcC3
                   case hycC3 => (intro w hSw; (try dsimp only at hSw); go_simp; try with_reducible rfl))
                | (refine wpAnyH_take (i := 3) (oi := ⟨some 87, _, _, _, _, _⟩) (v := undef) rfl (by kernel_rfl) (by kernel_rfl) (by kernel_rfl) (fun _ _ _ h => h) (Or.inr ⟨by rfl, rfl⟩) hHeld ?rrcC3)
              try simp only [Act.put, List.setIfInBounds_toArray, List.set_cons_zero, List.set_cons_succ]
              first
                | (refine wpAnyH_take (i := 4) (oi := ⟨some 88, _, _, _, _, _⟩) (v := ?vcC4) rfl (by kernel_rfl) (by kernel_rfl) (by kernel_rfl) (fun _ _ _ h => h) (Or.inl ⟨by rfl, ?hycC4⟩) hHeld ?rrcC4
                   case hycC4 => (intro w hSw; (try dsimp only at hSw); go_simp; try with_reducible rfl))
                | (refine wpAnyH_take (i := 4) (oi := ⟨some 88, _, _, _, _, _⟩) (v := undef) rfl (by kernel_rfl) (by kernel_rfl) (by kernel_rfl) (fun _ _ _ h => h) (Or.inr ⟨by rfl, rfl⟩) hHeld ?rrcC4)
              try simp only [Act.put, List.setIfInBounds_toArray, List.set_cons_zero, List.set_cons_succ]
              first
                | (refine wpAnyH_take (i := 5) (oi := ⟨some 89, _, _, _, _, _⟩) (v := ?vcC5) rfl (by kernel_rfl) (by kernel_rfl) (by kernel_rfl) (fun _ _ _ h => h) (Or.inl ⟨by rfl, ?hycC5⟩) hHeld ?rrcC5
                   case hycC5 => (intro w hSw; (try dsimp only at hSw); go_simp; try with_reducible rfl))
                | (refine wpAnyH_take (i := 5) (oi := ⟨some 89, _, _, _, _, _⟩) (v := undef) rfl (by kernel_rfl) (by kernel_rfl) (by kernel_rfl) (fun _ _ _ h => h) (Or.inr ⟨by rfl, rfl⟩) hHeld ?rrcC5)
              try simp only [Act.put, List.setIfInBounds_toArray, List.set_cons_zero, List.set_cons_succ]
              first
                | (refine wpAnyH_take (i := 6) (oi := ⟨some 90, _, _, _, _, _⟩) (v := ?vcC6) rfl (by kernel_rfl) (by kernel_rfl) (by kernel_rfl) (fun _ _ _ h => h) (Or.inl ⟨by rfl, ?hycC6⟩) hHeld ?rrcC6
                   case hycC6 => (intro w hSw; (try dsimp only at hSw); go_simp; try with_reducible rfl))
                | (refine wpAnyH_take (i := 6) (oi := ⟨some 90, _, _, _, _, _⟩) (v := undef) rfl (by kernel_rfl) (by kernel_rfl) (by kernel_rfl) (fun _ _ _ h => h) (Or.inr ⟨by rfl, rfl⟩) hHeld ?rrcC6)
              try simp only [Act.put, List.setIfInBounds_toArray, List.set_cons_zero, List.set_cons_succ]
              first
                | (refine wpAnyH_take (i := 7) (oi := ⟨some 91, _, _, _, _, _⟩) (v := ?vcC7) rfl (by kernel_rfl) (by kernel_rfl) (by kernel_rfl) (fun _ _ _ h => h) (Or.inl ⟨by rfl, ?hycC7⟩) hHeld ?rrcC7
                   case hycC7 => (intro w hSw; (try dsimp only at hSw); go_simp; try with_reducible rfl))
                | (refine wpAnyH_take (i := 7) (oi := ⟨some 91, _, _, _, _, _⟩) (v := undef) rfl (by kernel_rfl) (by kernel_rfl) (by kernel_rfl) (fun _ _ _ h => h) (Or.inr ⟨by rfl, rfl⟩) hHeld ?rrcC7)
              try simp only [Act.put, List.setIfInBounds_toArray, List.set_cons_zero, List.set_cons_succ]
              first
                | (refine wpAnyH_take (i := 8) (oi := ⟨some 92, _, _, _, _, _⟩) (v := ?vcC8) rfl (by kernel_rfl) (by kernel_rfl) (by kernel_rfl) (fun _ _ _ h => h) (Or.inl ⟨by rfl, ?hycC8⟩) hHeld ?rrcC8
                   case hycC8 => (intro w hSw; (try dsimp only at hSw); go_simp; try with_reducible rfl))
                | (refine wpAnyH_take (i := 8) (oi := ⟨some 92, _, _, _, _, _⟩) (v := undef) rfl (by kernel_rfl) (by kernel_rfl) (by kernel_rfl) (fun _ _ _ h => h) (Or.inr ⟨by rfl, rfl⟩) hHeld ?rrcC8)
              try simp only [Act.put, List.setIfInBounds_toArray, List.set_cons_zero, List.set_cons_succ]
              first
                | (refine wpAnyH_take (i := 9) (oi := ⟨some 93, _, _, _, _, _⟩) (v := ?vcC9) rfl (by kernel_rfl) (by kernel_rfl) (by kernel_rfl) (fun _ _ _ h => h) (Or.inl ⟨by rfl, ?hycC9⟩) hHeld ?rrcC9
                   case hycC9 => (intro w hSw; (try dsimp only at hSw); go_simp; try with_reducible rfl))
                | (refine wpAnyH_take (i := 9) (oi := ⟨some 93, _, _, _, _, _⟩) (v := undef) rfl (by kernel_rfl) (by kernel_rfl) (by kernel_rfl) (fun _ _ _ h => h) (Or.inr ⟨by rfl, rfl⟩) hHeld ?rrcC9)
              try simp only [Act.put, List.setIfInBounds_toArray, List.set_cons_zero, List.set_cons_succ]
              first
                | (refine wpAnyH_take (i := 10) (oi := ⟨some 94, _, _, _, _, _⟩) (v := ?vcC10) rfl (by kernel_rfl) (by kernel_rfl) (by kernel_rfl) (fun _ _ _ h => h) (Or.inl ⟨by rfl, ?hycC10⟩) hHeld ?rrcC10
                   case hycC10 => (intro w hSw; (try dsimp only at hSw); go_simp; try with_reducible rfl))
                | (refine wpAnyH_take (i := 10) (oi := ⟨some 94, _, _, _, _, _⟩) (v := undef) rfl (by kernel_rfl) (by kernel_rfl) (by kernel_rfl) (fun _ _ _ h => h) (Or.inr ⟨by rfl, rfl⟩) hHeld ?rrcC10)
              try simp only [Act.put, List.setIfInBounds_toArray, List.set_cons_zero, List.set_cons_succ]
              refine wpAnyH_ready (rs := [11]) (by kernel_rfl) (by simp) ?_
              refine AllReadyH.cons (o := ⟨some 95, _, _, _, _, _⟩) rfl (fun K hK => ?_) AllReadyH.nil
              go_simp
              go_at_call 55
              refine (checksum_any P 4 f u l c _ HIN.out).mono ?_
              rintro e w2 ⟨rfl, hb⟩
              have hWx2 := blk_below hWx hb (blk_lt hWx)
              have hKx2 := blk_below hKx hb (blk_lt hKx)
              have hGx2 := hGx.trans (grown_below hb (some D))
              refine hK.out _ _ (⟨keep_cell hb hHeld.1, keep_cell hb hHeld.2.1, keep_cell hb hHeld.2.2.1, keep_cell hb hHeld.2.2.2.1, keep_cell hb hHeld.2.2.2.2.1, keep_cell hb hHeld.2.2.2.2.2.1, keep_cell hb hHeld.2.2.2.2.2.2.1, keep_cell hb hHeld.2.2.2.2.2.2.2.1, keep_cell hb hHeld.2.2.2.2.2.2.2.2.1, keep_cell hb hHeld.2.2.2.2.2.2.2.2.2.1, keep_cell hb hHeld.2.2.2.2.2.2.2.2.2.2.1, keep_cell hb hHeld.2.2.2.2.2.2.2.2.2.2.2.1, keep_cell hb hHeld.2.2.2.2.2.2.2.2.2.2.2.2.1, keep_cell hb hHeld.2.2.2.2.2.2.2.2.2.2.2.2.2.1, keep_cell hb hHeld.2.2.2.2.2.2.2.2.2.2.2.2.2.2⟩) (fun hHeld2 => ?_)
              clear hK K hHeld hWx hKx hGx hb
              have hHeld := hHeld2
              have hWx := hWx2
              have hKx := hKx2
              have hGx := hGx2
              clear hHeld2 hWx2 hKx2 hGx2
              try simp only [Act.put, List.setIfInBounds_toArray, List.set_cons_zero, List.set_cons_succ]
              first
                | (refine wpAnyH_take (i := 12) (oi := ⟨some 96, _, _, _, _, _⟩) (v := ?vcC12) rfl (by kernel_rfl) (by kernel_rfl) (by kernel_rfl) (fun _ _ _ h => h) (Or.inl ⟨by rfl, ?hycC12⟩) hHeld ?rrcC12
                   case hycC12 => (intro w hSw; (try dsimp only at hSw); go_simp; try with_reducible rfl))
                | (refine wpAnyH_take (i := 12) (oi := ⟨some 96, _, _, _, _, _⟩) (v := undef) rfl (by kernel_rfl) (by kernel_rfl) (by kernel_rfl) (fun _ _ _ h => h) (Or.inr ⟨by rfl, rfl⟩) hHeld ?rrcC12)
              try simp only [Act.put, List.setIfInBounds_toArray, List.set_cons_zero, List.set_cons_succ]
              first
                | (refine wpAnyH_take (i := 13) (oi := ⟨some 97, _, _, _, _, _⟩) (v := ?vcC13) rfl (by kernel_rfl) (by kernel_rfl) (by kernel_rfl) (fun _ _ _ h => h) (Or.inl ⟨by rfl, ?hycC13⟩) hHeld ?rrcC13
                   case hycC13 => (intro w hSw; (try dsimp only at hSw); go_simp; try with_reducible rfl))
                | (refine wpAnyH_take (i := 13) (oi := ⟨some 97, _, _, _, _, _⟩) (v := undef) rfl (by kernel_rfl) (by kernel_rfl) (by kernel_rfl) (fun _ _ _ h => h) (Or.inr ⟨by rfl, rfl⟩) hHeld ?rrcC13)
              try simp only [Act.put, List.setIfInBounds_toArray, List.set_cons_zero, List.set_cons_succ]
              first
                | (refine wpAnyH_take (i := 14) (oi := ⟨some 98, _, _, _, _, _⟩) (v := ?vcC14) rfl (by kernel_rfl) (by kernel_rfl) (by kernel_rfl) (fun _ _ _ h => h) (Or.inl ⟨by rfl, ?hycC14⟩) hHeld ?rrcC14
                   case hycC14 => (intro w hSw; (try dsimp only at hSw); go_simp; try with_reducible rfl))
                | (refine wpAnyH_take (i := 14) (oi := ⟨some 98, _, _, _, _, _⟩) (v := undef) rfl (by kernel_rfl) (by kernel_rfl) (by kernel_rfl) (fun _ _ _ h => h) (Or.inr ⟨by rfl, rfl⟩) hHeld ?rrcC14)
              try simp only [Act.put, List.setIfInBounds_toArray, List.set_cons_zero, List.set_cons_succ]
              first
                | (refine wpAnyH_take (i := 15) (oi := ⟨some 99, _, _, _, _, _⟩) (v := ?vcC15) rfl (by kernel_rfl) (by kernel_rfl) (by kernel_rfl) (fun _ _ _ h => h) (Or.inl ⟨by rfl, ?hycC15⟩) hHeld ?rrcC15
                   case hycC15 => (intro w hSw; (try dsimp only at hSw); go_simp; try with_reducible rfl))
                | (refine wpAnyH_take (i := 15) (oi := ⟨some 99, _, _, _, _, _⟩) (v := undef) rfl (by kernel_rfl) (by kernel_rfl) (by kernel_rfl) (fun _ _ _ h => h) (Or.inr ⟨by rfl, rfl⟩) hHeld ?rrcC15)
              try simp only [Act.put, List.setIfInBounds_toArray, List.set_cons_zero, List.set_cons_succ]
              first
                | (refine wpAnyH_take (i := 16) (oi := ⟨some 100, _, _, _, _, _⟩) (v := ?vcC16) rfl (by kernel_rfl) (by kernel_rfl) (by kernel_rfl) (fun _ _ _ h => h) (Or.inl ⟨by rfl, ?hycC16⟩) hHeld ?rrcC16
                   case hycC16 => (intro w hSw; (try dsimp only at hSw); go_simp; try with_reducible rfl))
                | (refine wpAnyH_take (i := 16) (oi := ⟨some 100, _, _, _, _, _⟩) (v := undef) rfl (by kernel_rfl) (by kernel_rfl) (by kernel_rfl) (fun _ _ _ h => h) (Or.inr ⟨by rfl, rfl⟩) hHeld ?rrcC16)
              try simp only [Act.put, List.setIfInBounds_toArray, List.set_cons_zero, List.set_cons_succ]
              first
                | (refine wpAnyH_take (i := 17) (oi := ⟨some 101, _, _, _, _, _⟩) (v := ?vcC17) rfl (by kernel_rfl) (by kernel_rfl) (by kernel_rfl) (fun _ _ _ h => h) (Or.inl ⟨by rfl, ?hycC17⟩) hHeld ?rrcC17
                   case hycC17 => (intro w hSw; (try dsimp only at hSw); go_simp; try with_reducible rfl))
                | (refine wpAnyH_take (i := 17) (oi := ⟨some 101, _, _, _, _, _⟩) (v := undef) rfl (by kernel_rfl) (by kernel_rfl) (by kernel_rfl) (fun _ _ _ h => h) (Or.inr ⟨by rfl, rfl⟩) hHeld ?rrcC17)
              try simp only [Act.put, List.setIfInBounds_toArray, List.set_cons_zero, List.set_cons_succ]
              first
                | (refine wpAnyH_take (i := 18) (oi := ⟨some 102, _, _, _, _, _⟩) (v := ?vcC18) rfl (by kernel_rfl) (by kernel_rfl) (by kernel_rfl) (fun _ _ _ h => h) (Or.inl ⟨by rfl, ?hycC18⟩) hHeld ?rrcC18
                   case hycC18 => (intro w hSw; (try dsimp only at hSw); go_simp; try with_reducible rfl))
                | (refine wpAnyH_take (i := 18) (oi := ⟨some 102, _, _, _, _, _⟩) (v := undef) rfl (by kernel_rfl) (by kernel_rfl) (by kernel_rfl) (fun _ _ _ h => h) (Or.inr ⟨by rfl, rfl⟩) hHeld ?rrcC18)
              try simp only [Act.put, List.setIfInBounds_toArray, List.set_cons_zero, List.set_cons_succ]
              first
                | (refine wpAnyH_take (i := 19) (oi := ⟨some 103, _, _, _, _, _⟩) (v := ?vcC19) rfl (by kernel_rfl) (by kernel_rfl) (by kernel_rfl) (fun _ _ _ h => h) (Or.inl ⟨by rfl, ?hycC19⟩) hHeld ?rrcC19
                   case hycC19 => (intro w hSw; (try dsimp only at hSw); go_simp; try with_reducible rfl))
                | (refine wpAnyH_take (i := 19) (oi := ⟨some 103, _, _, _, _, _⟩) (v := undef) rfl (by kernel_rfl) (by kernel_rfl) (by kernel_rfl) (fun _ _ _ h => h) (Or.inr ⟨by rfl, rfl⟩) hHeld ?rrcC19)
              try simp only [Act.put, List.setIfInBounds_toArray, List.set_cons_zero, List.set_cons_succ]
              first
                | (refine wpAnyH_take (i := 20) (oi := ⟨some 104, _, _, _, _, _⟩) (v := ?vcC20) rfl (by kernel_rfl) (by kernel_rfl) (by kernel_rfl) (fun _ _ _ h => h) (Or.inl ⟨by rfl, ?hycC20⟩) hHeld ?rrcC20
                   case hycC20 => (intro w hSw; (try dsimp only at hSw); go_simp; try with_reducible rfl))
                | (refine wpAnyH_take (i := 20) (oi := ⟨some 104, _, _, _, _, _⟩) (v := undef) rfl (by kernel_rfl) (by kernel_rfl) (by kernel_rfl) (fun _ _ _ h => h) (Or.inr ⟨by rfl, rfl⟩) hHeld ?rrcC20)
              try simp only [Act.put, List.setIfInBounds_toArray, List.set_cons_zero, List.set_cons_succ]
              first
                | (refine wpAnyH_take (i := 21) (oi := ⟨some 105, _, _, _, _, _⟩) (v := ?vcC21) rfl (by kernel_rfl) (by kernel_rfl) (by kernel_rfl) (fun _ _ _ h => h) (Or.inl ⟨by rfl, ?hycC21⟩) hHeld ?rrcC21
                   case hycC21 => (intro w hSw; (try dsimp only at hSw); go_simp; try with_reducible rfl))
                | (refine wpAnyH_take (i := 21) (oi := ⟨some 105, _, _, _, _, _⟩) (v := undef) rfl (by kernel_rfl) (by kernel_rfl) (by kernel_rfl) (fun _ _ _ h => h) (Or.inr ⟨by rfl, rfl⟩) hHeld ?rrcC21)
              try simp only [Act.put, List.setIfInBounds_toArray, List.set_cons_zero, List.set_cons_succ]
              first
                | (refine wpAnyH_take (i := 22) (oi := ⟨some 106, _, _, _, _, _⟩) (v := ?vcC22) rfl (by kernel_rfl) (by kernel_rfl) (by kernel_rfl) (fun _ _ _ h => h) (Or.inl ⟨by rfl, ?hycC22⟩) hHeld ?rrcC22
                   case hycC22 => (intro w hSw; (try dsimp only at hSw); go_simp; try with_reducible rfl))
                | (refine wpAnyH_take (i := 22) (oi := ⟨some 106, _, _, _, _, _⟩) (v := undef) rfl (by kernel_rfl) (by kernel_rfl) (by kernel_rfl) (fun _ _ _ h => h) (Or.inr ⟨by rfl, rfl⟩) hHeld ?rrcC22)
              try simp only [Act.put, List.setIfInBounds_toArray, List.set_cons_zero, List.set_cons_succ]
              first
                | (refine wpAnyH_take (i := 23) (oi := ⟨some 107, _, _, _, _, _⟩) (v := ?vcC23) rfl (by kernel_rfl) (by kernel_rfl) (by kernel_rfl) (fun _ _ _ h => h) (Or.inl ⟨by rfl, ?hycC23⟩) hHeld ?rrcC23
                   case hycC23 => (intro w hSw; (try dsimp only at hSw); go_simp; try with_reducible rfl))
                | (refine wpAnyH_take (i := 23) (oi := ⟨some 107, _, _, _, _, _⟩) (v := undef) rfl (by kernel_rfl) (by kernel_rfl) (by kernel_rfl) (fun _ _ _ h => h) (Or.inr ⟨by rfl, rfl⟩) hHeld ?rrcC23)
              try simp only [Act.put, List.setIfInBounds_toArray, List.set_cons_zero, List.set_cons_succ]
              first
                | (refine wpAnyH_take (i := 24) (oi := ⟨some 108, _, _, _, _, _⟩) (v := ?vcC24) rfl (by kernel_rfl) (by kernel_rfl) (by kernel_rfl) (fun _ _ _ h => h) (Or.inl ⟨by rfl, ?hycC24⟩) hHeld ?rrcC24
                   case hycC24 => (intro w hSw; (try dsimp only at hSw); go_simp; try with_reducible rfl))
                | (refine wpAnyH_take (i := 24) (oi := ⟨some 108, _, _, _, _, _⟩) (v := undef) rfl (by kernel_rfl) (by kernel_rfl) (by kernel_rfl) (fun _ _ _ h => h) (Or.inr ⟨by rfl, rfl⟩) hHeld ?rrcC24)
              try simp only [Act.put, List.setIfInBounds_toArray, List.set_cons_zero, List.set_cons_succ]
              refine wpAnyH_ready (rs := [25]) (by kernel_rfl) (by simp) ?_
              refine AllReadyH.cons (o := ⟨some 109, _, _, _, _, _⟩) rfl (fun K hK => ?_) AllReadyH.nil
              go_simp
              go_at_call 81
              refine (validW_below P l (by omega) (by omega) _).mono ?_
              rintro e w3 ⟨rfl, hb⟩
              have hWx2 := blk_below hWx hb (blk_lt hWx)
              have hKx2 := blk_below hKx hb (blk_lt hKx)
              have hGx2 := hGx.trans (grown_below hb (some D))
              refine hK.out _ _ (⟨keep_cell hb hHeld.1, keep_cell hb hHeld.2.1, keep_cell hb hHeld.2.2.1, keep_cell hb hHeld.2.2.2.1, keep_cell hb hHeld.2.2.2.2.1, keep_cell hb hHeld.2.2.2.2.2.1, keep_cell hb hHeld.2.2.2.2.2.2.1, keep_cell hb hHeld.2.2.2.2.2.2.2.1, keep_cell hb hHeld.2.2.2.2.2.2.2.2.1, keep_cell hb hHeld.2.2.2.2.2.2.2.2.2.1, keep_cell hb hHeld.2.2.2.2.2.2.2.2.2.2.1, keep_cell hb hHeld.2.2.2.2.2.2.2.2.2.2.2.1, keep_cell hb hHeld.2.2.2.2.2.2.2.2.2.2.2.2.1, keep_cell hb hHeld.2.2.2.2.2.2.2.2.2.2.2.2.2.1, keep_cell hb hHeld.2.2.2.2.2.2.2.2.2.2.2.2.2.2⟩) (fun hHeld2 => ?_)
              clear hK K hHeld hWx hKx hGx hb
              have hHeld := hHeld2
              have hWx := hWx2
              have hKx := hKx2
              have hGx := hGx2
              clear hHeld2 hWx2 hKx2 hGx2
              try simp only [Act.put, List.setIfInBounds_toArray, List.set_cons_zero, List.set_cons_succ]
              first
                | (refine wpAnyH_take (i := 26) (oi := ⟨some 110, _, _, _, _, _⟩) (v := ?vcC26) rfl (by kernel_rfl) (by kernel_rfl) (by kernel_rfl) (fun _ _ _ h => h) (Or.inl ⟨by rfl, ?hycC26⟩) hHeld ?rrcC26
                   case hycC26 => (intro w hSw; (try dsimp only at hSw); go_simp; try with_reducible rfl))
                | (refine wpAnyH_take (i := 26) (oi := ⟨some 110, _, _, _, _, _⟩) (v := undef) rfl (by kernel_rfl) (by kernel_rfl) (by kernel_rfl) (fun _ _ _ h => h) (Or.inr ⟨by rfl, rfl⟩) hHeld ?rrcC26)
              try simp only [Act.put, List.setIfInBounds_toArray, List.set_cons_zero, List.set_cons_succ]
              first
                | (refine wpAnyH_take (i := 27) (oi := ⟨some 2, _, _, _, _, _⟩) (v := ?vcC27) rfl (by kernel_rfl) (by kernel_rfl) (by kernel_rfl) (fun _ _ _ h => h) (Or.inl ⟨by rfl, ?hycC27⟩) hHeld ?rrcC27
                   case hycC27 => (intro w hSw; (try dsimp only at hSw); go_simp; try with_reducible rfl))
                | (refine wpAnyH_take (i := 27) (oi := ⟨some 2, _, _, _, _, _⟩) (v := undef) rfl (by kernel_rfl) (by kernel_rfl) (by kernel_rfl) (fun _ _ _ h => h) (Or.inr ⟨by rfl, rfl⟩) hHeld ?rrcC27)
              try simp only [Act.put, List.setIfInBounds_toArray, List.set_cons_zero, List.set_cons_succ]
              refine wpAnyH_done (by kernel_rfl) ?_ _
              refine NoPanic.normal ?_
              go_wp2
              -- END REGION10C
              have hDl' := (Array.getElem?_eq_some_iff.1 hKx).1
              refine ⟨by simp, .inl ⟨_, _, rfl, run_takeDeferred hKx, ?_⟩⟩
              exact ⟨_, results_tmp rfl _ _ _, by rw [hDEC.out]; rfl, hGx.andThen (grownBy_putObj' _ D' (.deferred none)) (fun j ej => by cases ej; left; omega), by rw [HFIN.out]; exact (World.putObj_heap_other (by omega)).trans hWx⟩
            · have hDEC : Hid (decide (decOk s) = false) := by
                rw [Hid, decide_eq_false_iff_not, hOK]; exact fun h => hcs h.2.1
              have hcb : (c == ((ckF P 4 f u l : Nat) : Int)) = false := by simpa using hcs
              clear hOK hcs
              go_wp2
              -- REGION10B
              refine wp_region_noPanic ?_
              refine wp_region_held_drew (S := fun w' => w'.cell? ⟨w.heap.size, 0, none⟩ = some (.pointer (some ⟨D, 0, none⟩)) ∧ w'.cell? ⟨D, 2, none⟩ = some (.int .i64 P.fr) ∧ w'.cell? ⟨D, 3, none⟩ = some (.int .i64 P.to) ∧ w'.cell? ⟨D, 4, none⟩ = some (.int .i64 P.pr) ∧ w'.cell? ⟨D, 5, none⟩ = some (.int .i64 P.tt) ∧ w'.cell? ⟨D, 6, none⟩ = some (.int .i64 P.id) ∧ w'.cell? ⟨D, 7, none⟩ = some (.bool P.df) ∧ w'.cell? ⟨D, 8, none⟩ = some (.bool P.mf) ∧ w'.cell? ⟨D, 9, none⟩ = some (.int .i64 P.off) ∧ w'.cell? ⟨D, 10, none⟩ = some (.string P.s) ∧ w'.cell? ⟨D, 11, none⟩ = some (.int .i64 4) ∧ w'.cell? ⟨D, 12, none⟩ = some (.int .i64 f) ∧ w'.cell? ⟨D, 13, none⟩ = some (.int .i64 u) ∧ w'.cell? ⟨D, 14, none⟩ = some (.int .i64 l) ∧ w'.cell? ⟨D, 15, none⟩ = some (.int .i64 c)) (by kernel_rfl) (⟨cX, e2, e3, e4, e5, e6, e7, e8, e9, e10, e11, e12, e13, e14, e15⟩) (fun hHeld => ?_)
              obtain ⟨Wx, hWe⟩ : ∃ Wx, wc.drew = Wx := ⟨_, rfl⟩
              have hWx : Wx.heap[D]? = some (dob s P 4 f u l c) := by rw [← hWe]; exact hW
              have hKx : Wx.heap[D']? = some (.deferred (some [])) := by rw [← hWe]; exact hK
              have hGx : w.grownBy Wx (some D) := by rw [← hWe]; exact grown_drew hG
              rw [hWe] at hHeld ⊢
              clear hW hX hK hG hWe cX e2 e3 e4 e5 e6 e7 e8 e9 e10 e11 e12 e13 e14 e15
              first
                | (refine wpAnyH_take (i := 0) (oi := ⟨some 84, _, _, _, _, _⟩) (v := ?vcB0) rfl (by kernel_rfl) (by kernel_rfl) (by kernel_rfl) (fun _ _ _ h => h) (Or.inl ⟨by rfl, ?hycB0⟩) hHeld ?rrcB0
                   case hycB0 => (intro w hSw; (try dsimp only at hSw); go_simp; try with_reducible rfl))
                | (refine wpAnyH_take (i := 0) (oi := ⟨some 84, _, _, _, _, _⟩) (v := undef) rfl (by kernel_rfl) (by kernel_rfl) (by kernel_rfl) (fun _ _ _ h => h) (Or.inr ⟨by rfl, rfl⟩) hHeld ?rrcB0)
              try simp only [Act.put, List.setIfInBounds_toArray, List.set_cons_zero, List.set_cons_succ]
              first
                | (refine wpAnyH_take (i := 1) (oi := ⟨some 85, _, _, _, _, _⟩) (v := ?vcB1) rfl (by kernel_rfl) (by kernel_rfl) (by kernel_rfl) (fun _ _ _ h => h) (Or.inl ⟨by rfl, ?hycB1⟩) hHeld ?rrcB1
                   case hycB1 => (intro w hSw; (try dsimp only at hSw); go_simp; try with_reducible rfl))
                | (refine wpAnyH_take (i := 1) (oi := ⟨some 85, _, _, _, _, _⟩) (v := undef) rfl (by kernel_rfl) (by kernel_rfl) (by kernel_rfl) (fun _ _ _ h => h) (Or.inr ⟨by rfl, rfl⟩) hHeld ?rrcB1)
              try simp only [Act.put, List.setIfInBounds_toArray, List.set_cons_zero, List.set_cons_succ]
              first
                | (refine wpAnyH_take (i := 2) (oi := ⟨some 86, _, _, _, _, _⟩) (v := ?vcB2) rfl (by kernel_rfl) (by kernel_rfl) (by kernel_rfl) (fun _ _ _ h => h) (Or.inl ⟨by rfl, ?hycB2⟩) hHeld ?rrcB2
                   case hycB2 => (intro w hSw; (try dsimp only at hSw); go_simp; try with_reducible rfl))
                | (refine wpAnyH_take (i := 2) (oi := ⟨some 86, _, _, _, _, _⟩) (v := undef) rfl (by kernel_rfl) (by kernel_rfl) (by kernel_rfl) (fun _ _ _ h => h) (Or.inr ⟨by rfl, rfl⟩) hHeld ?rrcB2)
              try simp only [Act.put, List.setIfInBounds_toArray, List.set_cons_zero, List.set_cons_succ]
              first
                | (refine wpAnyH_take (i := 3) (oi := ⟨some 87, _, _, _, _, _⟩) (v := ?vcB3) rfl (by kernel_rfl) (by kernel_rfl) (by kernel_rfl) (fun _ _ _ h => h) (Or.inl ⟨by rfl, ?hycB3⟩) hHeld ?rrcB3
                   case hycB3 => (intro w hSw; (try dsimp only at hSw); go_simp; try with_reducible rfl))
                | (refine wpAnyH_take (i := 3) (oi := ⟨some 87, _, _, _, _, _⟩) (v := undef) rfl (by kernel_rfl) (by kernel_rfl) (by kernel_rfl) (fun _ _ _ h => h) (Or.inr ⟨by rfl, rfl⟩) hHeld ?rrcB3)
              try simp only [Act.put, List.setIfInBounds_toArray, List.set_cons_zero, List.set_cons_succ]
              first
                | (refine wpAnyH_take (i := 4) (oi := ⟨some 88, _, _, _, _, _⟩) (v := ?vcB4) rfl (by kernel_rfl) (by kernel_rfl) (by kernel_rfl) (fun _ _ _ h => h) (Or.inl ⟨by rfl, ?hycB4⟩) hHeld ?rrcB4
                   case hycB4 => (intro w hSw; (try dsimp only at hSw); go_simp; try with_reducible rfl))
                | (refine wpAnyH_take (i := 4) (oi := ⟨some 88, _, _, _, _, _⟩) (v := undef) rfl (by kernel_rfl) (by kernel_rfl) (by kernel_rfl) (fun _ _ _ h => h) (Or.inr ⟨by rfl, rfl⟩) hHeld ?rrcB4)
              try simp only [Act.put, List.setIfInBounds_toArray, List.set_cons_zero, List.set_cons_succ]
              first
                | (refine wpAnyH_take (i := 5) (oi := ⟨some 89, _, _, _, _, _⟩) (v := ?vcB5) rfl (by kernel_rfl) (by kernel_rfl) (by kernel_rfl) (fun _ _ _ h => h) (Or.inl ⟨by rfl, ?hycB5⟩) hHeld ?rrcB5
                   case hycB5 => (intro w hSw; (try dsimp only at hSw); go_simp; try with_reducible rfl))
                | (refine wpAnyH_take (i := 5) (oi := ⟨some 89, _, _, _, _, _⟩) (v := undef) rfl (by kernel_rfl) (by kernel_rfl) (by kernel_rfl) (fun _ _ _ h => h) (Or.inr ⟨by rfl, rfl⟩) hHeld ?rrcB5)
              try simp only [Act.put, List.setIfInBounds_toArray, List.set_cons_zero, List.set_cons_succ]
              first
                | (refine wpAnyH_take (i := 6) (oi := ⟨some 90, _, _, _, _, _⟩) (v := ?vcB6) rfl (by kernel_rfl) (by kernel_rfl) (by kernel_rfl) (fun _ _ _ h => h) (Or.inl ⟨by rfl, ?hycB6⟩) hHeld ?rrcB6
                   case hycB6 => (intro w hSw; (try dsimp only at hSw); go_simp; try with_reducible rfl))
                | (refine wpAnyH_take (i := 6) (oi := ⟨some 90, _, _, _, _, _⟩) (v := undef) rfl (by kernel_rfl) (by kernel_rfl) (by kernel_rfl) (fun _ _ _ h => h) (Or.inr ⟨by rfl, rfl⟩) hHeld ?rrcB6)
              try simp only [Act.put, List.setIfInBounds_toArray, List.set_cons_zero, List.set_cons_succ]
              first
                | (refine wpAnyH_take (i := 7) (oi := ⟨some 91, _, _, _, _, _⟩) (v := ?vcB7) rfl (by kernel_rfl) (by kernel_rfl) (by kernel_rfl) (fun _ _ _ h => h) (Or.inl ⟨by rfl, ?hycB7⟩) hHeld ?rrcB7
                   case hycB7 => (intro w hSw; (try dsimp only at hSw); go_simp; try with_reducible rfl))
                | (refine wpAnyH_take (i := 7) (oi := ⟨some 91, _, _, _, _, _⟩) (v := undef) rfl (by kernel_rfl) (by kernel_rfl) (by kernel_rfl) (fun _ _ _ h => h) (Or.inr ⟨by rfl, rfl⟩) hHeld ?rrcB7)
              try simp only [Act.put, List.setIfInBounds_toArray, List.set_cons_zero, List.set_cons_succ]
              first
                | (refine wpAnyH_take (i := 8) (oi := ⟨some 92, _, _, _, _, _⟩) (v := ?vcB8) rfl (by kernel_rfl) (by kernel_rfl) (by kernel_rfl) (fun _ _ _ h => h) (Or.inl ⟨by rfl, ?hycB8⟩) hHeld ?rrcB8
                   case hycB8 => (intro w hSw; (try dsimp only at hSw); go_simp; try with_reducible rfl))
                | (refine wpAnyH_take (i := 8) (oi := ⟨some 92, _, _, _, _, _⟩) (v := undef) rfl (by kernel_rfl) (by kernel_rfl) (by kernel_rfl) (fun _ _ _ h => h) (Or.inr ⟨by rfl, rfl⟩) hHeld ?rrcB8)
              try simp only [Act.put, List.setIfInBounds_toArray, List.set_cons_zero, List.set_cons_succ]
              first
                | (refine wpAnyH_take (i := 9) (oi := ⟨some 93, _, _, _, _, _⟩) (v := ?vcB9) rfl (by kernel_rfl) (by kernel_rfl) (by kernel_rfl) (fun _ _ _ h => h) (Or.inl ⟨by rfl, ?hycB9⟩) hHeld ?rrcB9
                   case hycB9 => (intro w hSw; (try dsimp only at hSw); go_simp; try with_reducible rfl))
                | (refine wpAnyH_take (i := 9) (oi := ⟨some 93, _, _, _, _, _⟩) (v := undef) rfl (by kernel_rfl) (by kernel_rfl) (by kernel_rfl) (fun _ _ _ h => h) (Or.inr ⟨by rfl, rfl⟩) hHeld ?rrcB9)
              try simp only [Act.put, List.setIfInBounds_toArray, List.set_cons_zero, List.set_cons_succ]
              first
                | (refine wpAnyH_take (i := 10) (oi := ⟨some 94, _, _, _, _, _⟩) (v := ?vcB10) rfl (by kernel_rfl) (by kernel_rfl) (by kernel_rfl) (fun _ _ _ h => h) (Or.inl ⟨by rfl, ?hycB10⟩) hHeld ?rrcB10
                   case hycB10 => (intro w hSw; (try dsimp only at hSw); go_simp; try with_reducible rfl))
                | (refine wpAnyH_take (i := 10) (oi := ⟨some 94, _, _, _, _, _⟩) (v := undef) rfl (by kernel_rfl) (by kernel_rfl) (by kernel_rfl) (fun _ _ _ h => h) (Or.inr ⟨by rfl, rfl⟩) hHeld ?rrcB10)
              try simp only [Act.put, List.setIfInBounds_toArray, List.set_cons_zero, List.set_cons_succ]
              refine wpAnyH_ready (rs := [11]) (by kernel_rfl) (by simp) ?_
              refine AllReadyH.cons (o := ⟨some 95, _, _, _, _, _⟩) rfl (fun K hK => ?_) AllReadyH.nil
              go_simp
              go_at_call 55
              refine (checksum_any P 4 f u l c _ HIN.out).mono ?_
              rintro e w2 ⟨rfl, hb⟩
              have hWx2 := blk_below hWx hb (blk_lt hWx)
              have hKx2 := blk_below hKx hb (blk_lt hKx)
              have hGx2 := hGx.trans (grown_below hb (some D))
              refine hK.out _ _ (⟨keep_cell hb hHeld.1, keep_cell hb hHeld.2.1, keep_cell hb hHeld.2.2.1, keep_cell hb hHeld.2.2.2.1, keep_cell hb hHeld.2.2.2.2.1, keep_cell hb hHeld.2.2.2.2.2.1, keep_cell hb hHeld.2.2.2.2.2.2.1, keep_cell hb hHeld.2.2.2.2.2.2.2.1, keep_cell hb hHeld.2.2.2.2.2.2.2.2.1, keep_cell hb hHeld.2.2.2.2.2.2.2.2.2.1, keep_cell hb hHeld.2.2.2.2.2.2.2.2.2.2.1, keep_cell hb hHeld.2.2.2.2.2.2.2.2.2.2.2.1, keep_cell hb hHeld.2.2.2.2.2.2.2.2.2.2.2.2.1, keep_cell hb hHeld.2.2.2.2.2.2.2.2.2.2.2.2.2.1, keep_cell hb hHeld.2.2.2.2.2.2.2.2.2.2.2.2.2.2⟩) (fun hHeld2 => ?_)
              clear hK K hHeld hWx hKx hGx hb
              have hHeld := hHeld2
              have hWx := hWx2
              have hKx := hKx2
              have hGx := hGx2
              clear hHeld2 hWx2 hKx2 hGx2
              try simp only [Act.put, List.setIfInBounds_toArray, List.set_cons_zero, List.set_cons_succ]
              first
                | (refine wpAnyH_take (i := 12) (oi := ⟨some 96, _, _, _, _, _⟩) (v := ?vcB12) rfl (by kernel_rfl) (by kernel_rfl) (by kernel_rfl) (fun _ _ _ h => h) (Or.inl ⟨by rfl, ?hycB12⟩) hHeld ?rrcB12
                   case hycB12 => (intro w hSw; (try dsimp only at hSw); go_simp; try with_reducible rfl))
                | (refine wpAnyH_take (i := 12) (oi := ⟨some 96, _, _, _, _, _⟩) (v := undef) rfl (by kernel_rfl) (by kernel_rfl) (by kernel_rfl) (fun _ _ _ h => h) (Or.inr ⟨by rfl, rfl⟩) hHeld ?rrcB12)
              try simp only [Act.put, List.setIfInBounds_toArray, List.set_cons_zero, List.set_cons_succ]
              first
                | (refine wpAnyH_take (i := 13) (oi := ⟨some 97, _, _, _, _, _⟩) (v := ?vcB13) rfl (by kernel_rfl) (by kernel_rfl) (by kernel_rfl) (fun _ _ _ h => h) (Or.inl ⟨by rfl, ?hycB13⟩) hHeld ?rrcB13
                   case hycB13 => (intro w hSw; (try dsimp only at hSw); go_simp; try with_reducible rfl))
                | (refine wpAnyH_take (i := 13) (oi := ⟨some 97, _, _, _, _, _⟩) (v := undef) rfl (by kernel_rfl) (by kernel_rfl) (by kernel_rfl) (fun _ _ _ h => h) (Or.inr ⟨by rfl, rfl⟩) hHeld ?rrcB13)
              try simp only [Act.put, List.setIfInBounds_toArray, List.set_cons_zero, List.set_cons_succ]
              first
                | (refine wpAnyH_take (i := 14) (oi := ⟨some 98, _, _, _, _, _⟩) (v := ?vcB14) rfl (by kernel_rfl) (by kernel_rfl) (by kernel_rfl) (fun _ _ _ h => h) (Or.inl ⟨by rfl, ?hycB14⟩) hHeld ?rrcB14
                   case hycB14 => (intro w hSw; (try dsimp only at hSw); go_simp; try with_reducible rfl))
                | (refine wpAnyH_take (i := 14) (oi := ⟨some 98, _, _, _, _, _⟩) (v := undef) rfl (by kernel_rfl) (by kernel_rfl) (by kernel_rfl) (fun _ _ _ h => h) (Or.inr ⟨by rfl, rfl⟩) hHeld ?rrcB14)
              try simp only [Act.put, List.setIfInBounds_toArray, List.set_cons_zero, List.set_cons_succ]
              first
                | (refine wpAnyH_take (i := 15) (oi := ⟨some 99, _, _, _, _, _⟩) (v := ?vcB15) rfl (by kernel_rfl) (by kernel_rfl) (by kernel_rfl) (fun _ _ _ h => h) (Or.inl ⟨by rfl, ?hycB15⟩) hHeld ?rrcB15
                   case hycB15 => (intro w hSw; (try dsimp only at hSw); go_simp; try with_reducible rfl))
                | (refine wpAnyH_take (i := 15) (oi := ⟨some 99, _, _, _, _, _⟩) (v := undef) rfl (by kernel_rfl) (by kernel_rfl) (by kernel_rfl) (fun _ _ _ h => h) (Or.inr ⟨by rfl, rfl⟩) hHeld ?rrcB15)
              try simp only [Act.put, List.setIfInBounds_toArray, List.set_cons_zero, List.set_cons_succ]
              first
                | (refine wpAnyH_take (i := 16) (oi := ⟨some 100, _, _, _, _, _⟩) (v := ?vcB16) rfl (by kernel_rfl) (by kernel_rfl) (by kernel_rfl) (fun _ _ _ h => h) (Or.inl ⟨by rfl, ?hycB16⟩) hHeld ?rrcB16
                   case hycB16 => (intro w hSw; (try dsimp only at hSw); go_simp; try with_reducible rfl))
                | (refine wpAnyH_take (i := 16) (oi := ⟨some 100, _, _, _, _, _⟩) (v := undef) rfl (by kernel_rfl) (by kernel_rfl) (by kernel_rfl) (fun _ _ _ h => h) (Or.inr ⟨by rfl, rfl⟩) hHeld ?rrcB16)
              try simp only [Act.put, List.setIfInBounds_toArray, List.set_cons_zero, List.set_cons_succ]
              first
                | (refine wpAnyH_take (i := 17) (oi := ⟨some 101, _, _, _, _, _⟩) (v := ?vcB17) rfl (by kernel_rfl) (by kernel_rfl) (by kernel_rfl) (fun _ _ _ h => h) (Or.inl ⟨by rfl, ?hycB17⟩) hHeld ?rrcB17
                   case hycB17 => (intro w hSw; (try dsimp only at hSw); go_simp; try with_reducible rfl))
                | (refine wpAnyH_take (i := 17) (oi := ⟨some 101, _, _, _, _, _⟩) (v := undef) rfl (by kernel_rfl) (by kernel_rfl) (by kernel_rfl) (fun _ _ _ h => h) (Or.inr ⟨by rfl, rfl⟩) hHeld ?rrcB17)
              try simp only [Act.put, List.setIfInBounds_toArray, List.set_cons_zero, List.set_cons_succ]
              first
                | (refine wpAnyH_take (i := 18) (oi := ⟨some 102, _, _, _, _, _⟩) (v := ?vcB18) rfl (by kernel_rfl) (by kernel_rfl) (by kernel_rfl) (fun _ _ _ h => h) (Or.inl ⟨by rfl, ?hycB18⟩) hHeld ?rrcB18
                   case hycB18 => (intro w hSw; (try dsimp only at hSw); go_simp; try with_reducible rfl))
                | (refine wpAnyH_take (i := 18) (oi := ⟨some 102, _, _, _, _, _⟩) (v := undef) rfl (by kernel_rfl) (by kernel_rfl) (by kernel_rfl) (fun _ _ _ h => h) (Or.inr ⟨by rfl, rfl⟩) hHeld ?rrcB18)
              try simp only [Act.put, List.setIfInBounds_toArray, List.set_cons_zero, List.set_cons_succ]
              first
                | (refine wpAnyH_take (i := 19) (oi := ⟨some 103, _, _, _, _, _⟩) (v := ?vcB19) rfl (by kernel_rfl) (by kernel_rfl) (by kernel_rfl) (fun _ _ _ h => h) (Or.inl ⟨by rfl, ?hycB19⟩) hHeld ?rrcB19
                   case hycB19 => (intro w hSw; (try dsimp only at hSw); go_simp; try with_reducible rfl))
                | (refine wpAnyH_take (i := 19) (oi := ⟨some 103, _, _, _, _, _⟩) (v := undef) rfl (by kernel_rfl) (by kernel_rfl) (by kernel_rfl) (fun _ _ _ h => h) (Or.inr ⟨by rfl, rfl⟩) hHeld ?rrcB19)
              try simp only [Act.put, List.setIfInBounds_toArray, List.set_cons_zero, List.set_cons_succ]
              first
                | (refine wpAnyH_take (i := 20) (oi := ⟨some 104, _, _, _, _, _⟩) (v := ?vcB20) rfl (by kernel_rfl) (by kernel_rfl) (by kernel_rfl) (fun _ _ _ h => h) (Or.inl ⟨by rfl, ?hycB20⟩) hHeld ?rrcB20
                   case hycB20 => (intro w hSw; (try dsimp only at hSw); go_simp; try with_reducible rfl))
                | (refine wpAnyH_take (i := 20) (oi := ⟨some 104, _, _, _, _, _⟩) (v := undef) rfl (by kernel_rfl) (by kernel_rfl) (by kernel_rfl) (fun _ _ _ h => h) (Or.inr ⟨by rfl, rfl⟩) hHeld ?rrcB20)
              try simp only [Act.put, List.setIfInBounds_toArray, List.set_cons_zero, List.set_cons_succ]
              first
                | (refine wpAnyH_take (i := 21) (oi := ⟨some 105, _, _, _, _, _⟩) (v := ?vcB21) rfl (by kernel_rfl) (by kernel_rfl) (by kernel_rfl) (fun _ _ _ h => h) (Or.inl ⟨by rfl, ?hycB21⟩) hHeld ?rrcB21
                   case hycB21 => (intro w hSw; (try dsimp only at hSw); go_simp; try with_reducible rfl))
                | (refine wpAnyH_take (i := 21) (oi := ⟨some 105, _, _, _, _, _⟩) (v := undef) rfl (by kernel_rfl) (by kernel_rfl) (by kernel_rfl) (fun _ _ _ h => h) (Or.inr ⟨by rfl, rfl⟩) hHeld ?rrcB21)
              try simp only [Act.put, List.setIfInBounds_toArray, List.set_cons_zero, List.set_cons_succ]
              first
                | (refine wpAnyH_take (i := 22) (oi := ⟨some 106, _, _, _, _, _⟩) (v := ?vcB22) rfl (by kernel_rfl) (by kernel_rfl) (by kernel_rfl) (fun _ _ _ h => h) (Or.inl ⟨by rfl, ?hycB22⟩) hHeld ?rrcB22
                   case hycB22 => (intro w hSw; (try dsimp only at hSw); go_simp; try with_reducible rfl))
                | (refine wpAnyH_take (i := 22) (oi := ⟨some 106, _, _, _, _, _⟩) (v := undef) rfl (by kernel_rfl) (by kernel_rfl) (by kernel_rfl) (fun _ _ _ h => h) (Or.inr ⟨by rfl, rfl⟩) hHeld ?rrcB22)
              try simp only [Act.put, List.setIfInBounds_toArray, List.set_cons_zero, List.set_cons_succ]
              first
                | (refine wpAnyH_take (i := 23) (oi := ⟨some 107, _, _, _, _, _⟩) (v := ?vcB23) rfl (by kernel_rfl) (by kernel_rfl) (by kernel_rfl) (fun _ _ _ h => h) (Or.inl ⟨by rfl, ?hycB23⟩) hHeld ?rrcB23
                   case hycB23 => (intro w hSw; (try dsimp only at hSw); go_simp; try with_reducible rfl))
                | (refine wpAnyH_take (i := 23) (oi := ⟨some 107, _, _, _, _, _⟩) (v := undef) rfl (by kernel_rfl) (by kernel_rfl) (by kernel_rfl) (fun _ _ _ h => h) (Or.inr ⟨by rfl, rfl⟩) hHeld ?rrcB23)
              try simp only [Act.put, List.setIfInBounds_toArray, List.set_cons_zero, List.set_cons_succ]
              first
                | (refine wpAnyH_take (i := 24) (oi := ⟨some 108, _, _, _, _, _⟩) (v := ?vcB24) rfl (by kernel_rfl) (by kernel_rfl) (by kernel_rfl) (fun _ _ _ h => h) (Or.inl ⟨by rfl, ?hycB24⟩) hHeld ?rrcB24
                   case hycB24 => (intro w hSw; (try dsimp only at hSw); go_simp; try with_reducible rfl))
                | (refine wpAnyH_take (i := 24) (oi := ⟨some 108, _, _, _, _, _⟩) (v := undef) rfl (by kernel_rfl) (by kernel_rfl) (by kernel_rfl) (fun _ _ _ h => h) (Or.inr ⟨by rfl, rfl⟩) hHeld ?rrcB24)
              try simp only [Act.put, List.setIfInBounds_toArray, List.set_cons_zero, List.set_cons_succ]
              first
                | (refine wpAnyH_take (i := 25) (oi := ⟨some 109, _, _, _, _, _⟩) (v := ?vcB25) rfl (by kernel_rfl) (by kernel_rfl) (by kernel_rfl) (fun _ _ _ h => h) (Or.inl ⟨by rfl, ?hycB25⟩) hHeld ?rrcB25
                   case hycB25 => (intro w hSw; (try dsimp only at hSw); go_simp; try with_reducible rfl))
                | (refine wpAnyH_take (i := 25) (oi := ⟨some 109, _, _, _, _, _⟩) (v := undef) rfl (by kernel_rfl) (by kernel_rfl) (by kernel_rfl) (fun _ _ _ h => h) (Or.inr ⟨by rfl, rfl⟩) hHeld ?rrcB25)
              try simp only [Act.put, List.setIfInBounds_toArray, List.set_cons_zero, List.set_cons_succ]
              first
                | (refine wpAnyH_take (i := 26) (oi := ⟨some 110, _, _, _, _, _⟩) (v := ?vcB26) rfl (by kernel_rfl) (by kernel_rfl) (by kernel_rfl) (fun _ _ _ h => h) (Or.inl ⟨by rfl, ?hycB26⟩) hHeld ?rrcB26
                   case hycB26 => (intro w hSw; (try dsimp only at hSw); go_simp; try with_reducible rfl))
                | (refine wpAnyH_take (i := 26) (oi := ⟨some 110, _, _, _, _, _⟩) (v := undef) rfl (by kernel_rfl) (by kernel_rfl) (by kernel_rfl) (fun _ _ _ h => h) (Or.inr ⟨by rfl, rfl⟩) hHeld ?rrcB26)
              try simp only [Act.put, List.setIfInBounds_toArray, List.set_cons_zero, List.set_cons_succ]
              first
                | (refine wpAnyH_take (i := 27) (oi := ⟨some 2, _, _, _, _, _⟩) (v := ?vcB27) rfl (by kernel_rfl) (by kernel_rfl) (by kernel_rfl) (fun _ _ _ h => h) (Or.inl ⟨by rfl, ?hycB27⟩) hHeld ?rrcB27
                   case hycB27 => (intro w hSw; (try dsimp only at hSw); go_simp; try with_reducible rfl))
                | (refine wpAnyH_take (i := 27) (oi := ⟨some 2, _, _, _, _, _⟩) (v := undef) rfl (by kernel_rfl) (by kernel_rfl) (by kernel_rfl) (fun _ _ _ h => h) (Or.inr ⟨by rfl, rfl⟩) hHeld ?rrcB27)
              try simp only [Act.put, List.setIfInBounds_toArray, List.set_cons_zero, List.set_cons_succ]
              refine wpAnyH_done (by kernel_rfl) ?_ _
              refine NoPanic.normal ?_
              go_wp2
              -- END REGION10B
              have hDl' := (Array.getElem?_eq_some_iff.1 hKx).1
              refine ⟨by simp, .inl ⟨_, _, rfl, run_takeDeferred hKx, ?_⟩⟩
              exact ⟨_, results_tmp rfl _ _ _, by rw [hDEC.out]; rfl, hGx.andThen (grownBy_putObj' _ D' (.deferred none)) (fun j ej => by cases ej; left; omega), by rw [HFIN.out]; exact (World.putObj_heap_other (by omega)).trans hWx⟩
          · have hDEC : Hid (decide (decOk s) = false) := by
              rw [Hid, decide_eq_false_iff_not, hOK]; exact fun h => hf3 h.1.2
            have hfb : (f ≤ 3) = False := eq_false hf3
            clear hOK
            go_wp2
            -- REGION10D
            refine wp_region_noPanic ?_
            refine wp_region_held_drew (S := fun w' => w'.cell? ⟨w.heap.size, 0, none⟩ = some (.pointer (some ⟨D, 0, none⟩)) ∧ w'.cell? ⟨D, 2, none⟩ = some (.int .i64 P.fr) ∧ w'.cell? ⟨D, 3, none⟩ = some (.int .i64 P.to) ∧ w'.cell? ⟨D, 4, none⟩ = some (.int .i64 P.pr) ∧ w'.cell? ⟨D, 5, none⟩ = some (.int .i64 P.tt) ∧ w'.cell? ⟨D, 6, none⟩ = some (.int .i64 P.id) ∧ w'.cell? ⟨D, 7, none⟩ = some (.bool P.df) ∧ w'.cell? ⟨D, 8, none⟩ = some (.bool P.mf) ∧ w'.cell? ⟨D, 9, none⟩ = some (.int .i64 P.off) ∧ w'.cell? ⟨D, 10, none⟩ = some (.string P.s) ∧ w'.cell? ⟨D, 11, none⟩ = some (.int .i64 4) ∧ w'.cell? ⟨D, 12, none⟩ = some (.int .i64 f) ∧ w'.cell? ⟨D, 13, none⟩ = some (.int .i64 u) ∧ w'.cell? ⟨D, 14, none⟩ = some (.int .i64 l) ∧ w'.cell? ⟨D, 15, none⟩ = some (.int .i64 c)) (by kernel_rfl) (⟨cX, e2, e3, e4, e5, e6, e7, e8, e9, e10, e11, e12, e13, e14, e15⟩) (fun hHeld => ?_)
            obtain ⟨Wx, hWe⟩ : ∃ Wx, wc.drew = Wx := ⟨_, rfl⟩
            have hWx : Wx.heap[D]? = some (dob s P 4 f u l c) := by rw [← hWe]; exact hW
            have hKx : Wx.heap[D']? = some (.deferred (some [])) := by rw [← hWe]; exact hK
            have hGx : w.grownBy Wx (some D) := by rw [← hWe]; exact grown_drew hG
            rw [hWe] at hHeld ⊢
            clear hW hX hK hG hWe cX e2 e3 e4 e5 e6 e7 e8 e9 e10 e11 e12 e13 e14 e15
            first
              | (refine wpAnyH_take (i := 0) (oi := ⟨some 84, _, _, _, _, _⟩) (v := ?vcD0) rfl (by kernel_rfl) (by kernel_rfl) (by kernel_rfl) (fun _ _ _ h => h) (Or.inl ⟨by rfl, ?hycD0⟩) hHeld ?rrcD0
                 case hycD0 => (intro w hSw; (try dsimp only at hSw); go_simp; try with_reducible rfl))
              | (refine wpAnyH_take (i := 0) (oi := ⟨some 84, _, _, _, _, _⟩) (v := undef) rfl (by kernel_rfl) (by kernel_rfl) (by kernel_rfl) (fun _ _ _ h => h) (Or.inr ⟨by rfl, rfl⟩) hHeld ?rrcD0)
            try simp only [Act.put, List.setIfInBounds_toArray, List.set_cons_zero, List.set_cons_succ]
            first
              | (refine wpAnyH_take (i := 1) (oi := ⟨some 85, _, _, _, _, _⟩) (v := ?vcD1) rfl (by kernel_rfl) (by kernel_rfl) (by kernel_rfl) (fun _ _ _ h => h) (Or.inl ⟨by rfl, ?hycD1⟩) hHeld ?rrcD1
                 case hycD1 => (intro w hSw; (try dsimp only at hSw); go_simp; try with_reducible rfl))
              | (refine wpAnyH_take (i := 1) (oi := ⟨some 85, _, _, _, _, _⟩) (v := undef) rfl (by kernel_rfl) (by kernel_rfl) (by kernel_rfl) (fun _ _ _ h => h) (Or.inr ⟨by rfl, rfl⟩) hHeld ?rrcD1)
            try simp only [Act.put, List.setIfInBounds_toArray, List.set_cons_zero, List.set_cons_succ]
            first
              | (refine wpAnyH_take (i := 2) (oi := ⟨some 86, _, _, _, _, _⟩) (v := ?vcD2) rfl (by kernel_rfl) (by kernel_rfl) (by kernel_rfl) (fun _ _ _ h => h) (Or.inl ⟨by rfl, ?hycD2⟩) hHeld ?rrcD2
                 case hycD2 => (intro w hSw; (try dsimp only at hSw); go_simp; try with_reducible rfl))
              | (refine wpAnyH_take (i := 2) (oi := ⟨some 86, _, _, _, _, _⟩) (v := undef) rfl (by kernel_rfl) (by kernel_rfl) (by kernel_rfl) (fun _ _ _ h => h) (Or.inr ⟨by rfl, rfl⟩) hHeld ?rrcD2)
            try simp only [Act.put, List.setIfInBounds_toArray, List.set_cons_zero, List.set_cons_succ]
            first
              | (refine wpAnyH_take (i := 3) (oi := ⟨some 87, _, _, _, _, _⟩) (v := ?vcD3) rfl (by kernel_rfl) (by kernel_rfl) (by kernel_rfl) (fun _ _ _ h => h) (Or.inl ⟨by rfl, ?hycD3⟩) hHeld ?rrcD3
                 case hycD3 => (intro w hSw; (try dsimp only at hSw); go_simp; try with_reducible rfl))
              | (refine wpAnyH_take (i := 3) (oi := ⟨some 87, _, _, _, _, _⟩) (v := undef) rfl (by kernel_rfl) (by kernel_rfl) (by kernel_rfl) (fun _ _ _ h => h) (Or.inr ⟨by rfl, rfl⟩) hHeld ?rrcD3)
            try simp only [Act.put, List.setIfInBounds_toArray, List.set_cons_zero, List.set_cons_succ]
            first
              | (refine wpAnyH_take (i := 4) (oi := ⟨some 88, _, _, _, _, _⟩) (v := ?vcD4) rfl (by kernel_rfl) (by kernel_rfl) (by kernel_rfl) (fun _ _ _ h => h) (Or.inl ⟨by rfl, ?hycD4⟩) hHeld ?rrcD4
                 case hycD4 => (intro w hSw; (try dsimp only at hSw); go_simp; try with_reducible rfl))
              | (refine wpAnyH_take (i := 4) (oi := ⟨some 88, _, _, _, _, _⟩) (v := undef) rfl (by kernel_rfl) (by kernel_rfl) (by kernel_rfl) (fun _ _ _ h => h) (Or.inr ⟨by rfl, rfl⟩) hHeld ?rrcD4)
            try simp only [Act.put, List.setIfInBounds_toArray, List.set_cons_zero, List.set_cons_succ]
            first
              | (refine wpAnyH_take (i := 5) (oi := ⟨some 89, _, _, _, _, _⟩) (v := ?vcD5) rfl (by kernel_rfl) (by kernel_rfl) (by kernel_rfl) (fun _ _ _ h => h) (Or.inl ⟨by rfl, ?hycD5⟩) hHeld ?rrcD5
                 case hycD5 => (intro w hSw; (try dsimp only at hSw); go_simp; try with_reducible rfl))
              | (refine wpAnyH_take (i := 5) (oi := ⟨some 89, _, _, _, _, _⟩) (v := undef) rfl (by kernel_rfl) (by kernel_rfl) (by kernel_rfl) (fun _ _ _ h => h) (Or.inr ⟨by rfl, rfl⟩) hHeld ?rrcD5)
            try simp only [Act.put, List.setIfInBounds_toArray, List.set_cons_zero, List.set_cons_succ]
            first
              | (refine wpAnyH_take (i := 6) (oi := ⟨some 90, _, _, _, _, _⟩) (v := ?vcD6) rfl (by kernel_rfl) (by kernel_rfl) (by kernel_rfl) (fun _ _ _ h => h) (Or.inl ⟨by rfl, ?hycD6⟩) hHeld ?rrcD6
                 case hycD6 => (intro w hSw; (try dsimp only at hSw); go_simp; try with_reducible rfl))
              | (refine wpAnyH_take (i := 6) (oi := ⟨some 90, _, _, _, _, _⟩) (v := undef) rfl (by kernel_rfl) (by kernel_rfl) (by kernel_rfl) (fun _ _ _ h => h) (Or.inr ⟨by rfl, rfl⟩) hHeld ?rrcD6)
            try simp only [Act.put, List.setIfInBounds_toArray, List.set_cons_zero, List.set_cons_succ]
            first
              | (refine wpAnyH_take (i := 7) (oi := ⟨some 91, _, _, _, _, _⟩) (v := ?vcD7) rfl (by kernel_rfl) (by kernel_rfl) (by kernel_rfl) (fun _ _ _ h => h) (Or.inl ⟨by rfl, ?hycD7⟩) hHeld ?rrcD7
                 case hycD7 => (intro w hSw; (try dsimp only at hSw); go_simp; try with_reducible rfl))
              | (refine wpAnyH_take (i := 7) (oi := ⟨some 91, _, _, _, _, _⟩) (v := undef) rfl (by kernel_rfl) (by kernel_rfl) (by kernel_rfl) (fun _ _ _ h => h) (Or.inr ⟨by rfl, rfl⟩) hHeld ?rrcD7)
            try simp only [Act.put, List.setIfInBounds_toArray, List.set_cons_zero, List.set_cons_succ]
            first
              | (refine wpAnyH_take (i := 8) (oi := ⟨some 92, _, _, _, _, _⟩) (v := ?vcD8) rfl (by kernel_rfl) (by kernel_rfl) (by kernel_rfl) (fun _ _ _ h => h) (Or.inl ⟨by rfl, ?hycD8⟩) hHeld ?rrcD8
                 case hycD8 => (intro w hSw; (try dsimp only at hSw); go_simp; try with_reducible rfl))
              | (refine wpAnyH_take (i := 8) (oi := ⟨some 92, _, _, _, _, _⟩) (v := undef) rfl (by kernel_rfl) (by kernel_rfl) (by kernel_rfl) (fun _ _ _ h => h) (Or.inr ⟨by rfl, rfl⟩) hHeld ?rrcD8)
            try simp only [Act.put, List.setIfInBounds_toArray, List.set_cons_zero, List.set_cons_succ]
            first
              | (refine wpAnyH_take (i := 9) (oi := ⟨some 93, _, _, _, _, _⟩) (v := ?vcD9) rfl (by kernel_rfl) (by kernel_rfl) (by kernel_rfl) (fun _ _ _ h => h) (Or.inl ⟨by rfl, ?hycD9⟩) hHeld ?rrcD9
                 case hycD9 => (intro w hSw; (try dsimp only at hSw); go_simp; try with_reducible rfl))
              | (refine wpAnyH_take (i := 9) (oi := ⟨some 93, _, _, _, _, _⟩) (v := undef) rfl (by kernel_rfl) (by kernel_rfl) (by kernel_rfl) (fun _ _ _ h => h) (Or.inr ⟨by rfl, rfl⟩) hHeld ?rrcD9)
            try simp only [Act.put, List.setIfInBounds_toArray, List.set_cons_zero, List.set_cons_succ]
            first
              | (refine wpAnyH_take (i := 10) (oi := ⟨some 94, _, _, _, _, _⟩) (v := ?vcD10) rfl (by kernel_rfl) (by kernel_rfl) (by kernel_rfl) (fun _ _ _ h => h) (Or.inl ⟨by rfl, ?hycD10⟩) hHeld ?rrcD10
                 case hycD10 => (intro w hSw; (try dsimp only at hSw); go_simp; try with_reducible rfl))
              | (refine wpAnyH_take (i := 10) (oi := ⟨some 94, _, _, _, _, _⟩) (v := undef) rfl (by kernel_rfl) (by kernel_rfl) (by kernel_rfl) (fun _ _ _ h => h) (Or.inr ⟨by rfl, rfl⟩) hHeld ?rrcD10)
            try simp only [Act.put, List.setIfInBounds_toArray, List.set_cons_zero, List.set_cons_succ]
            first
              | (refine wpAnyH_take (i := 11) (oi := ⟨some 95, _, _, _, _, _⟩) (v := ?vcD11) rfl (by kernel_rfl) (by kernel_rfl) (by kernel_rfl) (fun _ _ _ h => h) (Or.inl ⟨by rfl, ?hycD11⟩) hHeld ?rrcD11
                 case hycD11 => (intro w hSw; (try dsimp only at hSw); go_simp; try with_reducible rfl))
              | (refine wpAnyH_take (i := 11) (oi := ⟨some 95, _, _, _, _, _⟩) (v := undef) rfl (by kernel_rfl) (by kernel_rfl) (by kernel_rfl) (fun _ _ _ h => h) (Or.inr ⟨by rfl, rfl⟩) hHeld ?rrcD11)
            try simp only [Act.put, List.setIfInBounds_toArray, List.set_cons_zero, List.set_cons_succ]
            first
              | (refine wpAnyH_take (i := 12) (oi := ⟨some 96, _, _, _, _, _⟩) (v := ?vcD12) rfl (by kernel_rfl) (by kernel_rfl) (by kernel_rfl) (fun _ _ _ h => h) (Or.inl ⟨by rfl, ?hycD12⟩) hHeld ?rrcD12
                 case hycD12 => (intro w hSw; (try dsimp only at hSw); go_simp; try with_reducible rfl))
              | (refine wpAnyH_take (i := 12) (oi := ⟨some 96, _, _, _, _, _⟩) (v := undef) rfl (by kernel_rfl) (by kernel_rfl) (by kernel_rfl) (fun _ _ _ h => h) (Or.inr ⟨by rfl, rfl⟩) hHeld ?rrcD12)
            try simp only [Act.put, List.setIfInBounds_toArray, List.set_cons_zero, List.set_cons_succ]
            first
              | (refine wpAnyH_take (i := 13) (oi := ⟨some 97, _, _, _, _, _⟩) (v := ?vcD13) rfl (by kernel_rfl) (by kernel_rfl) (by kernel_rfl) (fun _ _ _ h => h) (Or.inl ⟨by rfl, ?hycD13⟩) hHeld ?rrcD13
                 case hycD13 => (intro w hSw; (try dsimp only at hSw); go_simp; try with_reducible rfl))
              | (refine wpAnyH_take (i := 13) (oi := ⟨some 97, _, _, _, _, _⟩) (v := undef) rfl (by kernel_rfl) (by kernel_rfl) (by kernel_rfl) (fun _ _ _ h => h) (Or.inr ⟨by rfl, rfl⟩) hHeld ?rrcD13)
            try simp only [Act.put, List.setIfInBounds_toArray, List.set_cons_zero, List.set_cons_succ]
            first
              | (refine wpAnyH_take (i := 14) (oi := ⟨some 98, _, _, _, _, _⟩) (v := ?vcD14) rfl (by kernel_rfl) (by kernel_rfl) (by kernel_rfl) (fun _ _ _ h => h) (Or.inl ⟨by rfl, ?hycD14⟩) hHeld ?rrcD14
                 case hycD14 => (intro w hSw; (try dsimp only at hSw); go_simp; try with_reducible rfl))
              | (refine wpAnyH_take (i := 14) (oi := ⟨some 98, _, _, _, _, _⟩) (v := undef) rfl (by kernel_rfl) (by kernel_rfl) (by kernel_rfl) (fun _ _ _ h => h) (Or.inr ⟨by rfl, rfl⟩) hHeld ?rrcD14)
            try simp only [Act.put, List.setIfInBounds_toArray, List.set_cons_zero, List.set_cons_succ]
            first
              | (refine wpAnyH_take (i := 15) (oi := ⟨some 99, _, _, _, _, _⟩) (v := ?vcD15) rfl (by kernel_rfl) (by kernel_rfl) (by kernel_rfl) (fun _ _ _ h => h) (Or.inl ⟨by rfl, ?hycD15⟩) hHeld ?rrcD15
                 case hycD15 => (intro w hSw; (try dsimp only at hSw); go_simp; try with_reducible rfl))
              | (refine wpAnyH_take (i := 15) (oi := ⟨some 99, _, _, _, _, _⟩) (v := undef) rfl (by kernel_rfl) (by kernel_rfl) (by kernel_rfl) (fun _ _ _ h => h) (Or.inr ⟨by rfl, rfl⟩) hHeld ?rrcD15)
            try simp only [Act.put, List.setIfInBounds_toArray, List.set_cons_zero, List.set_cons_succ]
            first
              | (refine wpAnyH_take (i := 16) (oi := ⟨some 100, _, _, _, _, _⟩) (v := ?vcD16) rfl (by kernel_rfl) (by kernel_rfl) (by kernel_rfl) (fun _ _ _ h => h) (Or.inl ⟨by rfl, ?hycD16⟩) hHeld ?rrcD16
                 case hycD16 => (intro w hSw; (try dsimp only at hSw); go_simp; try with_reducible rfl))
              | (refine wpAnyH_take (i := 16) (oi := ⟨some 100, _, _, _, _, _⟩) (v := undef) rfl (by kernel_rfl) (by kernel_rfl) (by kernel_rfl) (fun _ _ _ h => h) (Or.inr ⟨by rfl, rfl⟩) hHeld ?rrcD16)
            try simp only [Act.put, List.setIfInBounds_toArray, List.set_cons_zero, List.set_cons_succ]
            first
              | (refine wpAnyH_take (i := 17) (oi := ⟨some 101, _, _, _, _, _⟩) (v := ?vcD17) rfl (by kernel_rfl) (by kernel_rfl) (by kernel_rfl) (fun _ _ _ h => h) (Or.inl ⟨by rfl, ?hycD17⟩) hHeld ?rrcD17
                 case hycD17 => (intro w hSw; (try dsimp only at hSw); go_simp; try with_reducible rfl))
              | (refine wpAnyH_take (i := 17) (oi := ⟨some 101, _, _, _, _, _⟩) (v := undef) rfl (by kernel_rfl) (by kernel_rfl) (by kernel_rfl) (fun _ _ _ h => h) (Or.inr ⟨by rfl, rfl⟩) hHeld ?rrcD17)
            try simp only [Act.put, List.setIfInBounds_toArray, List.set_cons_zero, List.set_cons_succ]
            first
              | (refine wpAnyH_take (i := 18) (oi := ⟨some 102, _, _, _, _, _⟩) (v := ?vcD18) rfl (by kernel_rfl) (by kernel_rfl) (by kernel_rfl) (fun _ _ _ h => h) (Or.inl ⟨by rfl, ?hycD18⟩) hHeld ?rrcD18
                 case hycD18 => (intro w hSw; (try dsimp only at hSw); go_simp; try with_reducible rfl))
              | (refine wpAnyH_take (i := 18) (oi := ⟨some 102, _, _, _, _, _⟩) (v := undef) rfl (by kernel_rfl) (by kernel_rfl) (by kernel_rfl) (fun _ _ _ h => h) (Or.inr ⟨by rfl, rfl⟩) hHeld ?rrcD18)
            try simp only [Act.put, List.setIfInBounds_toArray, List.set_cons_zero, List.set_cons_succ]
            first
              | (refine wpAnyH_take (i := 19) (oi := ⟨some 103, _, _, _, _, _⟩) (v := ?vcD19) rfl (by kernel_rfl) (by kernel_rfl) (by kernel_rfl) (fun _ _ _ h => h) (Or.inl ⟨by rfl, ?hycD19⟩) hHeld ?rrcD19
                 case hycD19 => (intro w hSw; (try dsimp only at hSw); go_simp; try with_reducible rfl))
              | (refine wpAnyH_take (i := 19) (oi := ⟨some 103, _, _, _, _, _⟩) (v := undef) rfl (by kernel_rfl) (by kernel_rfl) (by kernel_rfl) (fun _ _ _ h => h) (Or.inr ⟨by rfl, rfl⟩) hHeld ?rrcD19)
            try simp only [Act.put, List.setIfInBounds_toArray, List.set_cons_zero, List.set_cons_succ]
            first
              | (refine wpAnyH_take (i := 20) (oi := ⟨some 104, _, _, _, _, _⟩) (v := ?vcD20) rfl (by kernel_rfl) (by kernel_rfl) (by kernel_rfl) (fun _ _ _ h => h) (Or.inl ⟨by rfl, ?hycD20⟩) hHeld ?rrcD20
                 case hycD20 => (intro w hSw; (try dsimp only at hSw); go_simp; try with_reducible rfl))
              | (refine wpAnyH_take (i := 20) (oi := ⟨some 104, _, _, _, _, _⟩) (v := undef) rfl (by kernel_rfl) (by kernel_rfl) (by kernel_rfl) (fun _ _ _ h => h) (Or.inr ⟨by rfl, rfl⟩) hHeld ?rrcD20)
            try simp only [Act.put, List.setIfInBounds_toArray, List.set_cons_zero, List.set_cons_succ]
            first
              | (refine wpAnyH_take (i := 21) (oi := ⟨some 105, _, _, _, _, _⟩) (v := ?vcD21) rfl (by kernel_rfl) (by kernel_rfl) (by kernel_rfl) (fun _ _ _ h => h) (Or.inl ⟨by rfl, ?hycD21⟩) hHeld ?rrcD21
                 case hycD21 => (intro w hSw; (try dsimp only at hSw); go_simp; try with_reducible rfl))
              | (refine wpAnyH_take (i := 21) (oi := ⟨some 105, _, _, _, _, _⟩) (v := undef) rfl (by kernel_rfl) (by kernel_rfl) (by kernel_rfl) (fun _ _ _ h => h) (Or.inr ⟨by rfl, rfl⟩) hHeld ?rrcD21)
            try simp only [Act.put, List.setIfInBounds_toArray, List.set_cons_zero, List.set_cons_succ]
            first
              | (refine wpAnyH_take (i := 22) (oi := ⟨some 106, _, _, _, _, _⟩) (v := ?vcD22) rfl (by kernel_rfl) (by kernel_rfl) (by kernel_rfl) (fun _ _ _ h => h) (Or.inl ⟨by rfl, ?hycD22⟩) hHeld ?rrcD22
                 case hycD22 => (intro w hSw; (try dsimp only at hSw); go_simp; try with_reducible rfl))
              | (refine wpAnyH_take (i := 22) (oi := ⟨some 106, _, _, _, _, _⟩) (v := undef) rfl (by kernel_rfl) (by kernel_rfl) (by kernel_rfl) (fun _ _ _ h => h) (Or.inr ⟨by rfl, rfl⟩) hHeld ?rrcD22)
            try simp only [Act.put, List.setIfInBounds_toArray, List.set_cons_zero, List.set_cons_succ]
            first
              | (refine wpAnyH_take (i := 23) (oi := ⟨some 107, _, _, _, _, _⟩) (v := ?vcD23) rfl (by kernel_rfl) (by kernel_rfl) (by kernel_rfl) (fun _ _ _ h => h) (Or.inl ⟨by rfl, ?hycD23⟩) hHeld ?rrcD23
                 case hycD23 => (intro w hSw; (try dsimp only at hSw); go_simp; try with_reducible rfl))
              | (refine wpAnyH_take (i := 23) (oi := ⟨some 107, _, _, _, _, _⟩) (v := undef) rfl (by kernel_rfl) (by kernel_rfl) (by kernel_rfl) (fun _ _ _ h => h) (Or.inr ⟨by rfl, rfl⟩) hHeld ?rrcD23)
            try simp only [Act.put, List.setIfInBounds_toArray, List.set_cons_zero, List.set_cons_succ]
            first
              | (refine wpAnyH_take (i := 24) (oi := ⟨some 108, _, _, _, _, _⟩) (v := ?vcD24) rfl (by kernel_rfl) (by kernel_rfl) (by kernel_rfl) (fun _ _ _ h => h) (Or.inl ⟨by rfl, ?hycD24⟩) hHeld ?rrcD24
                 case hycD24 => (intro w hSw; (try dsimp only at hSw); go_simp; try with_reducible rfl))
              | (refine wpAnyH_take (i := 24) (oi := ⟨some 108, _, _, _, _, _⟩) (v := undef) rfl (by kernel_rfl) (by kernel_rfl) (by kernel_rfl) (fun _ _ _ h => h) (Or.inr ⟨by rfl, rfl⟩) hHeld ?rrcD24)
            try simp only [Act.put, List.setIfInBounds_toArray, List.set_cons_zero, List.set_cons_succ]
            first
              | (refine wpAnyH_take (i := 25) (oi := ⟨some 109, _, _, _, _, _⟩) (v := ?vcD25) rfl (by kernel_rfl) (by kernel_rfl) (by kernel_rfl) (fun _ _ _ h => h) (Or.inl ⟨by rfl, ?hycD25⟩) hHeld ?rrcD25
                 case hycD25 => (intro w hSw; (try dsimp only at hSw); go_simp; try with_reducible rfl))
              | (refine wpAnyH_take (i := 25) (oi := ⟨some 109, _, _, _, _, _⟩) (v := undef) rfl (by kernel_rfl) (by kernel_rfl) (by kernel_rfl) (fun _ _ _ h => h) (Or.inr ⟨by rfl, rfl⟩) hHeld ?rrcD25)
            try simp only [Act.put, List.setIfInBounds_toArray, List.set_cons_zero, List.set_cons_succ]
            first
              | (refine wpAnyH_take (i := 26) (oi := ⟨some 110, _, _, _, _, _⟩) (v := ?vcD26) rfl (by kernel_rfl) (by kernel_rfl) (by kernel_rfl) (fun _ _ _ h => h) (Or.inl ⟨by rfl, ?hycD26⟩) hHeld ?rrcD26
                 case hycD26 => (intro w hSw; (try dsimp only at hSw); go_simp; try with_reducible rfl))
              | (refine wpAnyH_take (i := 26) (oi := ⟨some 110, _, _, _, _, _⟩) (v := undef) rfl (by kernel_rfl) (by kernel_rfl) (by kernel_rfl) (fun _ _ _ h => h) (Or.inr ⟨by rfl, rfl⟩) hHeld ?rrcD26)
            try simp only [Act.put, List.setIfInBounds_toArray, List.set_cons_zero, List.set_cons_succ]
            first
              | (refine wpAnyH_take (i := 27) (oi := ⟨some 2, _, _, _, _, _⟩) (v := ?vcD27) rfl (by kernel_rfl) (by kernel_rfl) (by kernel_rfl) (fun _ _ _ h => h) (Or.inl ⟨by rfl, ?hycD27⟩) hHeld ?rrcD27
                 case hycD27 => (intro w hSw; (try dsimp only at hSw); go_simp; try with_reducible rfl))
              | (refine wpAnyH_take (i := 27) (oi := ⟨some 2, _, _, _, _, _⟩) (v := undef) rfl (by kernel_rfl) (by kernel_rfl) (by kernel_rfl) (fun _ _ _ h => h) (Or.inr ⟨by rfl, rfl⟩) hHeld ?rrcD27)
            try simp only [Act.put, List.setIfInBounds_toArray, List.set_cons_zero, List.set_cons_succ]
            refine wpAnyH_done (by kernel_rfl) ?_ _
            refine NoPanic.normal ?_
            go_wp2
            -- END REGION10D
            have hDl' := (Array.getElem?_eq_some_iff.1 hKx).1
            refine ⟨by simp, .inl ⟨_, _, rfl, run_takeDeferred hKx, ?_⟩⟩
            exact ⟨_, results_tmp rfl _ _ _, by rw [hDEC.out]; rfl, hGx.andThen (grownBy_putObj' _ D' (.deferred none)) (fun j ej => by cases ej; left; omega), by rw [HFIN.out]; exact (World.putObj_heap_other (by omega)).trans hWx⟩
        · have hDEC : Hid (decide (decOk s) = false) := by
            rw [Hid, decide_eq_false_iff_not, hOK]; exact fun h => hv4 h.1.1
          have hvb : (v == 4) = false := by simpa using hv4
          clear hOK
          go_wp2
          -- REGION10A
          refine wp_region_noPanic ?_
          refine wp_region_held_drew (S := fun w' => w'.cell? ⟨w.heap.size, 0, none⟩ = some (.pointer (some ⟨D, 0, none⟩)) ∧ w'.cell? ⟨D, 2, none⟩ = some (.int .i64 P.fr) ∧ w'.cell? ⟨D, 3, none⟩ = some (.int .i64 P.to) ∧ w'.cell? ⟨D, 4, none⟩ = some (.int .i64 P.pr) ∧ w'.cell? ⟨D, 5, none⟩ = some (.int .i64 P.tt) ∧ w'.cell? ⟨D, 6, none⟩ = some (.int .i64 P.id) ∧ w'.cell? ⟨D, 7, none⟩ = some (.bool P.df) ∧ w'.cell? ⟨D, 8, none⟩ = some (.bool P.mf) ∧ w'.cell? ⟨D, 9, none⟩ = some (.int .i64 P.off) ∧ w'.cell? ⟨D, 10, none⟩ = some (.string P.s) ∧ w'.cell? ⟨D, 11, none⟩ = some (.int .i64 v) ∧ w'.cell? ⟨D, 12, none⟩ = some (.int .i64 f) ∧ w'.cell? ⟨D, 13, none⟩ = some (.int .i64 u) ∧ w'.cell? ⟨D, 14, none⟩ = some (.int .i64 l) ∧ w'.cell? ⟨D, 15, none⟩ = some (.int .i64 c)) (by kernel_rfl) (⟨cX, e2, e3, e4, e5, e6, e7, e8, e9, e10, e11, e12, e13, e14, e15⟩) (fun hHeld => ?_)
          obtain ⟨Wx, hWe⟩ : ∃ Wx, wc.drew = Wx := ⟨_, rfl⟩
          have hWx : Wx.heap[D]? = some (dob s P v f u l c) := by rw [← hWe]; exact hW
          have hKx : Wx.heap[D']? = some (.deferred (some [])) := by rw [← hWe]; exact hK
          have hGx : w.grownBy Wx (some D) := by rw [← hWe]; exact grown_drew hG
          rw [hWe] at hHeld ⊢
          clear hW hX hK hG hWe cX e2 e3 e4 e5 e6 e7 e8 e9 e10 e11 e12 e13 e14 e15
          first
            | (refine wpAnyH_take (i := 0) (oi := ⟨some 84, _, _, _, _, _⟩) (v := ?vcA0) rfl (by kernel_rfl) (by kernel_rfl) (by kernel_rfl) (fun _ _ _ h => h) (Or.inl ⟨by rfl, ?hycA0⟩) hHeld ?rrcA0
               case hycA0 => (intro w hSw; (try dsimp only at hSw); go_simp; try with_reducible rfl))
            | (refine wpAnyH_take (i := 0) (oi := ⟨some 84, _, _, _, _, _⟩) (v := undef) rfl (by kernel_rfl) (by kernel_rfl) (by kernel_rfl) (fun _ _ _ h => h) (Or.inr ⟨by rfl, rfl⟩) hHeld ?rrcA0)
          try simp only [Act.put, List.setIfInBounds_toArray, List.set_cons_zero, List.set_cons_succ]
          first
            | (refine wpAnyH_take (i := 1) (oi := ⟨some 85, _, _, _, _, _⟩) (v := ?vcA1) rfl (by kernel_rfl) (by kernel_rfl) (by kernel_rfl) (fun _ _ _ h => h) (Or.inl ⟨by rfl, ?hycA1⟩) hHeld ?rrcA1
               case hycA1 => (intro w hSw; (try dsimp only at hSw); go_simp; try with_reducible rfl))
            | (refine wpAnyH_take (i := 1) (oi := ⟨some 85, _, _, _, _, _⟩) (v := undef) rfl (by kernel_rfl) (by kernel_rfl) (by kernel_rfl) (fun _ _ _ h => h) (Or.inr ⟨by rfl, rfl⟩) hHeld ?rrcA1)
          try simp only [Act.put, List.setIfInBounds_toArray, List.set_cons_zero, List.set_cons_succ]
          first
            | (refine wpAnyH_take (i := 2) (oi := ⟨some 86, _, _, _, _, _⟩) (v := ?vcA2) rfl (by kernel_rfl) (by kernel_rfl) (by kernel_rfl) (fun _ _ _ h => h) (Or.inl ⟨by rfl, ?hycA2⟩) hHeld ?rrcA2
               case hycA2 => (intro w hSw; (try dsimp only at hSw); go_simp; try with_reducible rfl))
            | (refine wpAnyH_take (i := 2) (oi := ⟨some 86, _, _, _, _, _⟩) (v := undef) rfl (by kernel_rfl) (by kernel_rfl) (by kernel_rfl) (fun _ _ _ h => h) (Or.inr ⟨by rfl, rfl⟩) hHeld ?rrcA2)
          try simp only [Act.put, List.setIfInBounds_toArray, List.set_cons_zero, List.set_cons_succ]
          first
            | (refine wpAnyH_take (i := 3) (oi := ⟨some 87, _, _, _, _, _⟩) (v := ?vcA3) rfl (by kernel_rfl) (by kernel_rfl) (by kernel_rfl) (fun _ _ _ h => h) (Or.inl ⟨by rfl, ?hycA3⟩) hHeld ?rrcA3
               case hycA3 => (intro w hSw; (try dsimp only at hSw); go_simp; try with_reducible rfl))
            | (refine wpAnyH_take (i := 3) (oi := ⟨some 87, _, _, _, _, _⟩) (v := undef) rfl (by kernel_rfl) (by kernel_rfl) (by kernel_rfl) (fun _ _ _ h => h) (Or.inr ⟨by rfl, rfl⟩) hHeld ?rrcA3)
          try simp only [Act.put, List.setIfInBounds_toArray, List.set_cons_zero, List.set_cons_succ]
          first
            | (refine wpAnyH_take (i := 4) (oi := ⟨some 88, _, _, _, _, _⟩) (v := ?vcA4) rfl (by kernel_rfl) (by kernel_rfl) (by kernel_rfl) (fun _ _ _ h => h) (Or.inl ⟨by rfl, ?hycA4⟩) hHeld ?rrcA4
               case hycA4 => (intro w hSw; (try dsimp only at hSw); go_simp; try with_reducible rfl))
            | (refine wpAnyH_take (i := 4) (oi := ⟨some 88, _, _, _, _, _⟩) (v := undef) rfl (by kernel_rfl) (by kernel_rfl) (by kernel_rfl) (fun _ _ _ h => h) (Or.inr ⟨by rfl, rfl⟩) hHeld ?rrcA4)
          try simp only [Act.put, List.setIfInBounds_toArray, List.set_cons_zero, List.set_cons_succ]
          first
            | (refine wpAnyH_take (i := 5) (oi := ⟨some 89, _, _, _, _, _⟩) (v := ?vcA5) rfl (by kernel_rfl) (by kernel_rfl) (by kernel_rfl) (fun _ _ _ h => h) (Or.inl ⟨by rfl, ?hycA5⟩) hHeld ?rrcA5
               case hycA5 => (intro w hSw; (try dsimp only at hSw); go_simp; try with_reducible rfl))
            | (refine wpAnyH_take (i := 5) (oi := ⟨some 89, _, _, _, _, _⟩) (v := undef) rfl (by kernel_rfl) (by kernel_rfl) (by kernel_rfl) (fun _ _ _ h => h) (Or.inr ⟨by rfl, rfl⟩) hHeld ?rrcA5)
          try simp only [Act.put, List.setIfInBounds_toArray, List.set_cons_zero, List.set_cons_succ]
          first
            | (refine wpAnyH_take (i := 6) (oi := ⟨some 90, _, _, _, _, _⟩) (v := ?vcA6) rfl (by kernel_rfl) (by kernel_rfl) (by kernel_rfl) (fun _ _ _ h => h) (Or.inl ⟨by rfl, ?hycA6⟩) hHeld ?rrcA6
               case hycA6 => (intro w hSw; (try dsimp only at hSw); go_simp; try with_reducible rfl))
            | (refine wpAnyH_take (i := 6) (oi := ⟨some 90, _, _, _, _, _⟩) (v := undef) rfl (by kernel_rfl) (by kernel_rfl) (by kernel_rfl) (fun _ _ _ h => h) (Or.inr ⟨by rfl, rfl⟩) hHeld ?rrcA6)
          try simp only [Act.put, List.setIfInBounds_toArray, List.set_cons_zero, List.set_cons_succ]
          first
            | (refine wpAnyH_take (i := 7) (oi := ⟨some 91, _, _, _, _, _⟩) (v := ?vcA7) rfl (by kernel_rfl) (by kernel_rfl) (by kernel_rfl) (fun _ _ _ h => h) (Or.inl ⟨by rfl, ?hycA7⟩) hHeld ?rrcA7
               case hycA7 => (intro w hSw; (try dsimp only at hSw); go_simp; try with_reducible rfl))
            | (refine wpAnyH_take (i := 7) (oi := ⟨some 91, _, _, _, _, _⟩) (v := undef) rfl (by kernel_rfl) (by kernel_rfl) (by kernel_rfl) (fun _ _ _ h => h) (Or.inr ⟨by rfl, rfl⟩) hHeld ?rrcA7)
          try simp only [Act.put, List.setIfInBounds_toArray, List.set_cons_zero, List.set_cons_succ]
          first
            | (refine wpAnyH_take (i := 8) (oi := ⟨some 92, _, _, _, _, _⟩) (v := ?vcA8) rfl (by kernel_rfl) (by kernel_rfl) (by kernel_rfl) (fun _ _ _ h => h) (Or.inl ⟨by rfl, ?hycA8⟩) hHeld ?rrcA8
               case hycA8 => (intro w hSw; (try dsimp only at hSw); go_simp; try with_reducible rfl))
            | (refine wpAnyH_take (i := 8) (oi := ⟨some 92, _, _, _, _, _⟩) (v := undef) rfl (by kernel_rfl) (by kernel_rfl) (by kernel_rfl) (fun _ _ _ h => h) (Or.inr ⟨by rfl, rfl⟩) hHeld ?rrcA8)
          try simp only [Act.put, List.setIfInBounds_toArray, List.set_cons_zero, List.set_cons_succ]
          first
            | (refine wpAnyH_take (i := 9) (oi := ⟨some 93, _, _, _, _, _⟩) (v := ?vcA9) rfl (by kernel_rfl) (by kernel_rfl) (by kernel_rfl) (fun _ _ _ h => h) (Or.inl ⟨by rfl, ?hycA9⟩) hHeld ?rrcA9
               case hycA9 => (intro w hSw; (try dsimp only at hSw); go_simp; try with_reducible rfl))
            | (refine wpAnyH_take (i := 9) (oi := ⟨some 93, _, _, _, _, _⟩) (v := undef) rfl (by kernel_rfl) (by kernel_rfl) (by kernel_rfl) (fun _ _ _ h => h) (Or.inr ⟨by rfl, rfl⟩) hHeld ?rrcA9)
          try simp only [Act.put, List.setIfInBounds_toArray, List.set_cons_zero, List.set_cons_succ]
          first
            | (refine wpAnyH_take (i := 10) (oi := ⟨some 94, _, _, _, _, _⟩) (v := ?vcA10) rfl (by kernel_rfl) (by kernel_rfl) (by kernel_rfl) (fun _ _ _ h => h) (Or.inl ⟨by rfl, ?hycA10⟩) hHeld ?rrcA10
               case hycA10 => (intro w hSw; (try dsimp only at hSw); go_simp; try with_reducible rfl))
            | (refine wpAnyH_take (i := 10) (oi := ⟨some 94, _, _, _, _, _⟩) (v := undef) rfl (by kernel_rfl) (by kernel_rfl) (by kernel_rfl) (fun _ _ _ h => h) (Or.inr ⟨by rfl, rfl⟩) hHeld ?rrcA10)
          try simp only [Act.put, List.setIfInBounds_toArray, List.set_cons_zero, List.set_cons_succ]
          first
            | (refine wpAnyH_take (i := 11) (oi := ⟨some 95, _, _, _, _, _⟩) (v := ?vcA11) rfl (by kernel_rfl) (by kernel_rfl) (by kernel_rfl) (fun _ _ _ h => h) (Or.inl ⟨by rfl, ?hycA11⟩) hHeld ?rrcA11
               case hycA11 => (intro w hSw; (try dsimp only at hSw); go_simp; try with_reducible rfl))
            | (refine wpAnyH_take (i := 11) (oi := ⟨some 95, _, _, _, _, _⟩) (v := undef) rfl (by kernel_rfl) (by kernel_rfl) (by kernel_rfl) (fun _ _ _ h => h) (Or.inr ⟨by rfl, rfl⟩) hHeld ?rrcA11)
          try simp only [Act.put, List.setIfInBounds_toArray, List.set_cons_zero, List.set_cons_succ]
          first
            | (refine wpAnyH_take (i := 12) (oi := ⟨some 96, _, _, _, _, _⟩) (v := ?vcA12) rfl (by kernel_rfl) (by kernel_rfl) (by kernel_rfl) (fun _ _ _ h => h) (Or.inl ⟨by rfl, ?hycA12⟩) hHeld ?rrcA12
               case hycA12 => (intro w hSw; (try dsimp only at hSw); go_simp; try with_reducible rfl))
            | (refine wpAnyH_take (i := 12) (oi := ⟨some 96, _, _, _, _, _⟩) (v := undef) rfl (by kernel_rfl) (by kernel_rfl) (by kernel_rfl) (fun _ _ _ h => h) (Or.inr ⟨by rfl, rfl⟩) hHeld ?rrcA12)
          try simp only [Act.put, List.setIfInBounds_toArray, List.set_cons_zero, List.set_cons_succ]
          first
            | (refine wpAnyH_take (i := 13) (oi := ⟨some 97, _, _, _, _, _⟩) (v := ?vcA13) rfl (by kernel_rfl) (by kernel_rfl) (by kernel_rfl) (fun _ _ _ h => h) (Or.inl ⟨by rfl, ?hycA13⟩) hHeld ?rrcA13
               case hycA13 => (intro w hSw; (try dsimp only at hSw); go_simp; try with_reducible rfl))
            | (refine wpAnyH_take (i := 13) (oi := ⟨some 97, _, _, _, _, _⟩) (v := undef) rfl (by kernel_rfl) (by kernel_rfl) (by kernel_rfl) (fun _ _ _ h => h) (Or.inr ⟨by rfl, rfl⟩) hHeld ?rrcA13)
          try simp only [Act.put, List.setIfInBounds_toArray, List.set_cons_zero, List.set_cons_succ]
          first
            | (refine wpAnyH_take (i := 14) (oi := ⟨some 98, _, _, _, _, _⟩) (v := ?vcA14) rfl (by kernel_rfl) (by kernel_rfl) (by kernel_rfl) (fun _ _ _ h => h) (Or.inl ⟨by rfl, ?hycA14⟩) hHeld ?rrcA14
               case hycA14 => (intro w hSw; (try dsimp only at hSw); go_simp; try with_reducible rfl))
            | (refine wpAnyH_take (i := 14) (oi := ⟨some 98, _, _, _, _, _⟩) (v := undef) rfl (by kernel_rfl) (by kernel_rfl) (by kernel_rfl) (fun _ _ _ h => h) (Or.inr ⟨by rfl, rfl⟩) hHeld ?rrcA14)
          try simp only [Act.put, List.setIfInBounds_toArray, List.set_cons_zero, List.set_cons_succ]
          first
            | (refine wpAnyH_take (i := 15) (oi := ⟨some 99, _, _, _, _, _⟩) (v := ?vcA15) rfl (by kernel_rfl) (by kernel_rfl) (by kernel_rfl) (fun _ _ _ h => h) (Or.inl ⟨by rfl, ?hycA15⟩) hHeld ?rrcA15
               case hycA15 => (intro w hSw; (try dsimp only at hSw); go_simp; try with_reducible rfl))
            | (refine wpAnyH_take (i := 15) (oi := ⟨some 99, _, _, _, _, _⟩) (v := undef) rfl (by kernel_rfl) (by kernel_rfl) (by kernel_rfl) (fun _ _ _ h => h) (Or.inr ⟨by rfl, rfl⟩) hHeld ?rrcA15)
          try simp only [Act.put, List.setIfInBounds_toArray, List.set_cons_zero, List.set_cons_succ]
          first
            | (refine wpAnyH_take (i := 16) (oi := ⟨some 100, _, _, _, _, _⟩) (v := ?vcA16) rfl (by kernel_rfl) (by kernel_rfl) (by kernel_rfl) (fun _ _ _ h => h) (Or.inl ⟨by rfl, ?hycA16⟩) hHeld ?rrcA16
               case hycA16 => (intro w hSw; (try dsimp only at hSw); go_simp; try with_reducible rfl))
            | (refine wpAnyH_take (i := 16) (oi := ⟨some 100, _, _, _, _, _⟩) (v := undef) rfl (by kernel_rfl) (by kernel_rfl) (by kernel_rfl) (fun _ _ _ h => h) (Or.inr ⟨by rfl, rfl⟩) hHeld ?rrcA16)
          try simp only [Act.put, List.setIfInBounds_toArray, List.set_cons_zero, List.set_cons_succ]
          first
            | (refine wpAnyH_take (i := 17) (oi := ⟨some 101, _, _, _, _, _⟩) (v := ?vcA17) rfl (by kernel_rfl) (by kernel_rfl) (by kernel_rfl) (fun _ _ _ h => h) (Or.inl ⟨by rfl, ?hycA17⟩) hHeld ?rrcA17
               case hycA17 => (intro w hSw; (try dsimp only at hSw); go_simp; try with_reducible rfl))
            | (refine wpAnyH_take (i := 17) (oi := ⟨some 101, _, _, _, _, _⟩) (v := undef) rfl (by kernel_rfl) (by kernel_rfl) (by kernel_rfl) (fun _ _ _ h => h) (Or.inr ⟨by rfl, rfl⟩) hHeld ?rrcA17)
          try simp only [Act.put, List.setIfInBounds_toArray, List.set_cons_zero, List.set_cons_succ]
          first
            | (refine wpAnyH_take (i := 18) (oi := ⟨some 102, _, _, _, _, _⟩) (v := ?vcA18) rfl (by kernel_rfl) (by kernel_rfl) (by kernel_rfl) (fun _ _ _ h => h) (Or.inl ⟨by rfl, ?hycA18⟩) hHeld ?rrcA18
               case hycA18 => (intro w hSw; (try dsimp only at hSw); go_simp; try with_reducible rfl))
            | (refine wpAnyH_take (i := 18) (oi := ⟨some 102, _, _, _, _, _⟩) (v := undef) rfl (by kernel_rfl) (by kernel_rfl) (by kernel_rfl) (fun _ _ _ h => h) (Or.inr ⟨by rfl, rfl⟩) hHeld ?rrcA18)
          try simp only [Act.put, List.setIfInBounds_toArray, List.set_cons_zero, List.set_cons_succ]
          first
            | (refine wpAnyH_take (i := 19) (oi := ⟨some 103, _, _, _, _, _⟩) (v := ?vcA19) rfl (by kernel_rfl) (by kernel_rfl) (by kernel_rfl) (fun _ _ _ h => h) (Or.inl ⟨by rfl, ?hycA19⟩) hHeld ?rrcA19
               case hycA19 => (intro w hSw; (try dsimp only at hSw); go_simp; try with_reducible rfl))
            | (refine wpAnyH_take (i := 19) (oi := ⟨some 103, _, _, _, _, _⟩) (v := undef) rfl (by kernel_rfl) (by kernel_rfl) (by kernel_rfl) (fun _ _ _ h => h) (Or.inr ⟨by rfl, rfl⟩) hHeld ?rrcA19)
          try simp only [Act.put, List.setIfInBounds_toArray, List.set_cons_zero, List.set_cons_succ]
          first
            | (refine wpAnyH_take (i := 20) (oi := ⟨some 104, _, _, _, _, _⟩) (v := ?vcA20) rfl (by kernel_rfl) (by kernel_rfl) (by kernel_rfl) (fun _ _ _ h => h) (Or.inl ⟨by rfl, ?hycA20⟩) hHeld ?rrcA20
               case hycA20 => (intro w hSw; (try dsimp only at hSw); go_simp; try with_reducible rfl))
            | (refine wpAnyH_take (i := 20) (oi := ⟨some 104, _, _, _, _, _⟩) (v := undef) rfl (by kernel_rfl) (by kernel_rfl) (by kernel_rfl) (fun _ _ _ h => h) (Or.inr ⟨by rfl, rfl⟩) hHeld ?rrcA20)
          try simp only [Act.put, List.setIfInBounds_toArray, List.set_cons_zero, List.set_cons_succ]
          first
            | (refine wpAnyH_take (i := 21) (oi := ⟨some 105, _, _, _, _, _⟩) (v := ?vcA21) rfl (by kernel_rfl) (by kernel_rfl) (by kernel_rfl) (fun _ _ _ h => h) (Or.inl ⟨by rfl, ?hycA21⟩) hHeld ?rrcA21
               case hycA21 => (intro w hSw; (try dsimp only at hSw); go_simp; try with_reducible rfl))
            | (refine wpAnyH_take (i := 21) (oi := ⟨some 105, _, _, _, _, _⟩) (v := undef) rfl (by kernel_rfl) (by kernel_rfl) (by kernel_rfl) (fun _ _ _ h => h) (Or.inr ⟨by rfl, rfl⟩) hHeld ?rrcA21)
          try simp only [Act.put, List.setIfInBounds_toArray, List.set_cons_zero, List.set_cons_succ]
          first
            | (refine wpAnyH_take (i := 22) (oi := ⟨some 106, _, _, _, _, _⟩) (v := ?vcA22) rfl (by kernel_rfl) (by kernel_rfl) (by kernel_rfl) (fun _ _ _ h => h) (Or.inl ⟨by rfl, ?hycA22⟩) hHeld ?rrcA22
               case hycA22 => (intro w hSw; (try dsimp only at hSw); go_simp; try with_reducible rfl))
            | (refine wpAnyH_take (i := 22) (oi := ⟨some 106, _, _, _, _, _⟩) (v := undef) rfl (by kernel_rfl) (by kernel_rfl) (by kernel_rfl) (fun _ _ _ h => h) (Or.inr ⟨by rfl, rfl⟩) hHeld ?rrcA22)
          try simp only [Act.put, List.setIfInBounds_toArray, List.set_cons_zero, List.set_cons_succ]
          first
            | (refine wpAnyH_take (i := 23) (oi := ⟨some 107, _, _, _, _, _⟩) (v := ?vcA23) rfl (by kernel_rfl) (by kernel_rfl) (by kernel_rfl) (fun _ _ _ h => h) (Or.inl ⟨by rfl, ?hycA23⟩) hHeld ?rrcA23
               case hycA23 => (intro w hSw; (try dsimp only at hSw); go_simp; try with_reducible rfl))
            | (refine wpAnyH_take (i := 23) (oi := ⟨some 107, _, _, _, _, _⟩) (v := undef) rfl (by kernel_rfl) (by kernel_rfl) (by kernel_rfl) (fun _ _ _ h => h) (Or.inr ⟨by rfl, rfl⟩) hHeld ?rrcA23)
          try simp only [Act.put, List.setIfInBounds_toArray, List.set_cons_zero, List.set_cons_succ]
          first
            | (refine wpAnyH_take (i := 24) (oi := ⟨some 108, _, _, _, _, _⟩) (v := ?vcA24) rfl (by kernel_rfl) (by kernel_rfl) (by kernel_rfl) (fun _ _ _ h => h) (Or.inl ⟨by rfl, ?hycA24⟩) hHeld ?rrcA24
               case hycA24 => (intro w hSw; (try dsimp only at hSw); go_simp; try with_reducible rfl))
            | (refine wpAnyH_take (i := 24) (oi := ⟨some 108, _, _, _, _, _⟩) (v := undef) rfl (by kernel_rfl) (by kernel_rfl) (by kernel_rfl) (fun _ _ _ h => h) (Or.inr ⟨by rfl, rfl⟩) hHeld ?rrcA24)
          try simp only [Act.put, List.setIfInBounds_toArray, List.set_cons_zero, List.set_cons_succ]
          first
            | (refine wpAnyH_take (i := 25) (oi := ⟨some 109, _, _, _, _, _⟩) (v := ?vcA25) rfl (by kernel_rfl) (by kernel_rfl) (by kernel_rfl) (fun _ _ _ h => h) (Or.inl ⟨by rfl, ?hycA25⟩) hHeld ?rrcA25
               case hycA25 => (intro w hSw; (try dsimp only at hSw); go_simp; try with_reducible rfl))
            | (refine wpAnyH_take (i := 25) (oi := ⟨some 109, _, _, _, _, _⟩) (v := undef) rfl (by kernel_rfl) (by kernel_rfl) (by kernel_rfl) (fun _ _ _ h => h) (Or.inr ⟨by rfl, rfl⟩) hHeld ?rrcA25)
          try simp only [Act.put, List.setIfInBounds_toArray, List.set_cons_zero, List.set_cons_succ]
          first
            | (refine wpAnyH_take (i := 26) (oi := ⟨some 110, _, _, _, _, _⟩) (v := ?vcA26) rfl (by kernel_rfl) (by kernel_rfl) (by kernel_rfl) (fun _ _ _ h => h) (Or.inl ⟨by rfl, ?hycA26⟩) hHeld ?rrcA26
               case hycA26 => (intro w hSw; (try dsimp only at hSw); go_simp; try with_reducible rfl))
            | (refine wpAnyH_take (i := 26) (oi := ⟨some 110, _, _, _, _, _⟩) (v := undef) rfl (by kernel_rfl) (by kernel_rfl) (by kernel_rfl) (fun _ _ _ h => h) (Or.inr ⟨by rfl, rfl⟩) hHeld ?rrcA26)
          try simp only [Act.put, List.setIfInBounds_toArray, List.set_cons_zero, List.set_cons_succ]
          first
            | (refine wpAnyH_take (i := 27) (oi := ⟨some 2, _, _, _, _, _⟩) (v := ?vcA27) rfl (by kernel_rfl) (by kernel_rfl) (by kernel_rfl) (fun _ _ _ h => h) (Or.inl ⟨by rfl, ?hycA27⟩) hHeld ?rrcA27
               case hycA27 => (intro w hSw; (try dsimp only at hSw); go_simp; try with_reducible rfl))
            | (refine wpAnyH_take (i := 27) (oi := ⟨some 2, _, _, _, _, _⟩) (v := undef) rfl (by kernel_rfl) (by kernel_rfl) (by kernel_rfl) (fun _ _ _ h => h) (Or.inr ⟨by rfl, rfl⟩) hHeld ?rrcA27)
          try simp only [Act.put, List.setIfInBounds_toArray, List.set_cons_zero, List.set_cons_succ]
          refine wpAnyH_done (by kernel_rfl) ?_ _
          refine NoPanic.normal ?_
          go_wp2
          -- END REGION10A
          have hDl' := (Array.getElem?_eq_some_iff.1 hKx).1
          refine ⟨by simp, .inl ⟨_, _, rfl, run_takeDeferred hKx, ?_⟩⟩
          exact ⟨_, results_tmp rfl _ _ _, by rw [hDEC.out]; rfl, hGx.andThen (grownBy_putObj' _ D' (.deferred none)) (fun j ej => by cases ej; left; omega), by rw [HFIN.out]; exact (World.putObj_heap_other (by omega)).trans hWx⟩
  case stop =>
    rintro D c pre W _ _ h _
    exact h.elim

theorem decode_long (s : ByteArray) (D : Nat) (w : World) (hD : w.heap[D]? = some (.cells (dcs s 0 fun _ => 0) 132 (0, 0))) (hs : s.size ≤ maxLen) (h20 : 20 ≤ s.size) :
    Calls Tryd.prog 73 #[.pointer (some ⟨D, 0, none⟩)] w fun e w' => e = .returned (.bool (decide (decOk s))) ∧ w.grownBy w' (some D) ∧ w'.heap[D]? = some (dfin s) :=
  callsIn_wide.1 (decode_in s D w hD hs h20)
end Go.Proofs.YtidjbpglpobigaaDoor
