/- The fragments of a datagram as plain functions; the iterator over them. -/
import Derived.Test.YtidjbpglpobigaaDoorIpLaw
import Derived.Test.YtidjbpglpobigaaDoorIpD
import Derived.RangeFuncNested
import Derived.RangeFuncBound
import Derived.RangeFuncCalls
import Derived.RangeFuncLeaves
import Derived.Shelf.Abstract
import Derived.Shelf.RegionOpen
import Derived.OwnWalkIn
import Derived.TacticsInMore
import Derived.LoopNIn
import Derived.LoopIn
import Derived.BigRegion
namespace Go.Proofs.YtidjbpglpobigaaDoor
open Go.RowKit Go.Shelf
set_option linter.unusedVariables false
attribute [local go_sem] Oper.semAt_some

/-- what is left behind k pieces of n bytes -/
def frR (p : Pk) (n k : Nat) : Pk := { p with off := p.off + ((k * n : Nat) : Int), s := p.s.extract (k * n) p.s.size }
/-- the k-th piece -/
def frP (p : Pk) (n k : Nat) : Pk := { p with mf := true, off := p.off + ((k * n : Nat) : Int), s := p.s.extract (k * n) (k * n + n) }
def frN (p : Pk) (n : Nat) : Nat := (p.s.size - 1) / n
def frL (p : Pk) (n : Nat) : List Pk := (List.range (frN p n)).map (frP p n) ++ [frR p n (frN p n)]
theorem frL_len (p : Pk) (n : Nat) : (frL p n).length = frN p n + 1 := by simp [frL]
theorem frL_take (p : Pk) (n k : Nat) (h : k < frN p n) : (frL p n).take (k + 1) = (frL p n).take k ++ [frP p n k] := by
  rw [List.take_add_one]
  have : (frL p n)[k]? = some (frP p n k) := by
    unfold frL; rw [List.getElem?_append_left (by simpa using h)]; simp [h]
  rw [this]; rfl
theorem frL_last (p : Pk) (n : Nat) : frL p n = (frL p n).take (frN p n) ++ [frR p n (frN p n)] := by
  conv => lhs; unfold frL
  congr 1
  unfold frL
  rw [List.take_append_of_le_length (by simp), List.take_of_length_le (by simp)]
theorem frN_iff (p : Pk) (n k : Nat) (hn : 0 < n) : k < frN p n ↔ k * n + n < p.s.size := by
  unfold frN
  have e : (k + 1) * n = k * n + n := by rw [Nat.add_mul, Nat.one_mul]
  rw [show k < (p.s.size - 1) / n ↔ k + 1 ≤ (p.s.size - 1) / n from Iff.rfl, Nat.le_div_iff_mul_le hn, e]
  omega
theorem fr_cut (s : ByteArray) (a n : Nat) (h : a + n ≤ s.size) : (s.extract a s.size).extract 0 n = s.extract a (a + n) := by
  rw [ByteArray.extract_extract]; congr 1 <;> omega
theorem fr_rest (s : ByteArray) (a n : Nat) (h : a + n ≤ s.size) : (s.extract a s.size).extract n (s.size - a) = s.extract (a + n) s.size := by
  rw [ByteArray.extract_extract]; congr 1; omega
def FNx (p : Pk) (n : Nat) (pre : List Pk) (x : Pk) : Prop := pre.length ≤ frN p n ∧ pre = (frL p n).take pre.length ∧ (if pre.length < frN p n then x = frP p n pre.length else x = frR p n (frN p n))

set_option maxRecDepth 100000 in
set_option maxHeartbeats 3200000 in
theorem frag_stops (p : Pk) (n : Nat) (hn : 0 < n) (hn2 : n ≤ 4000) (ho : 0 ≤ p.off) (ho2 : p.off + p.s.size ≤ 4000) (hsz : n < p.s.size) (Pb Lb : Nat) (w : World) (hP : w.heap[Pb]? = some (po p)) (hL : w.heap[Lb]? = some (.cells #[.int .i64 (n : Int)] 3)) :
    SeqStopsH Fence.wide 7 Tryd.prog 87 #[.pointer (some ⟨Pb, 0, none⟩), .pointer (some ⟨Lb, 0, none⟩)] (fun x : Pk => #[pv x]) (fun _ W => W.cell? ⟨Lb, 0, none⟩ = some (.int .i64 (n : Int))) (FNx p n) (fun xs => xs = frL p n) (fun _ => True) w := by
  intro l J Jx W hW hJ hJx hH hJw hY h0
  have hPW := blk_below hP hW (blk_lt hP)
  have hLW := blk_below hL hW (blk_lt hL)
  have hPl := blk_lt hPW
  have hLl := blk_lt hLW
  have c0 := (blk_cell (k := 0) hPW rfl).1
  have c1 := (blk_cell (k := 1) hPW rfl).1
  have c2 := (blk_cell (k := 2) hPW rfl).1
  have c3 := (blk_cell (k := 3) hPW rfl).1
  have c4 := (blk_cell (k := 4) hPW rfl).1
  have c5 := (blk_cell (k := 5) hPW rfl).1
  have c6 := (blk_cell (k := 6) hPW rfl).1
  have c7 := (blk_cell (k := 7) hPW rfl).1
  have c8 := (blk_cell (k := 8) hPW rfl).1
  simp only [List.getElem_toArray, List.getElem_cons_zero, List.getElem_cons_succ] at c0 c1 c2 c3 c4 c5 c6 c7 c8
  refine callsIn_of_wp Tryd.func87 rfl trivial ?_ rfl
  simp only [Tryd.ntmps87, List.size_toArray, List.length_cons, List.length_nil, Nat.reduceAdd, Nat.reduceSub, Array.replicate_succ, Array.replicate_zero, List.push_toArray, List.append_toArray, List.nil_append, List.cons_append]
  have hR0 := blk_new W (po p)
  have hb0 : Below W.heap.size W (W.alloc (po p)) := (Below.refl _ W).alloc (Nat.le_refl _) _
  have hI0 := h0 _ hb0
  rw [World.size_alloc] at hI0
  have hN := frN_iff p n
  have hfr0 : frR p n 0 = p := by
    obtain ⟨fr, dst, pr, tt, id, df, mf, off, s⟩ := p
    unfold frR; simp
  gi_wp2
  clear c0 c1 c2 c3 c4 c5 c6 c7 c8
  gi_loopw [5] (fun v wr => ∃ k : Nat, k ≤ frN p n ∧ wr.heap[W.heap.size]? = some (po (frR p n k)) ∧ J (W.heap.size + 1) ((frL p n).take k) wr) (fun _ wr => match wr.cell? ⟨W.heap.size, 8, none⟩ with | some (.string s) => s.size | _ => 0)
  case atStart => exact ⟨0, Nat.zero_le _, by rw [hfr0]; exact hR0, hI0⟩
  case round =>
    obtain ⟨k, hk, hrest, hJ1⟩ := hrel
    have hLc := hH _ _ _ hJ1
    have hkn : k * n < p.s.size := by
      rcases Nat.lt_or_ge k 1 with h | h
      · have : k = 0 := by omega
        subst this; omega
      · have := (hN (k - 1) hn).1 (by omega)
        have e : (k - 1) * n + n = k * n := by rw [← Nat.succ_mul]; congr 1; omega
        omega
    have hrl := blk_lt hrest
    have r0 := (blk_cell (k := 0) hrest rfl).1
    have r1 := (blk_cell (k := 1) hrest rfl).1
    have r2 := (blk_cell (k := 2) hrest rfl).1
    have r3 := (blk_cell (k := 3) hrest rfl).1
    have r4 := (blk_cell (k := 4) hrest rfl).1
    have r5 := (blk_cell (k := 5) hrest rfl).1
    have r6 := (blk_cell (k := 6) hrest rfl).1
    obtain ⟨r7, g7⟩ := blk_cell (k := 7) hrest rfl
    obtain ⟨r8, g8⟩ := blk_cell (k := 8) hrest rfl
    simp only [List.getElem_toArray, List.getElem_cons_zero, List.getElem_cons_succ] at r0 r1 r2 r3 r4 r5 r6 r7 r8
    have hsz1 : (frR p n k).s.size = p.s.size - k * n := by show (p.s.extract (k * n) p.s.size).size = _; rw [ByteArray.size_extract]; omega
    by_cases hlt : k < frN p n
    · have hlt' := (hN k hn).1 hlt
      have hcmp : ((n : Int) < ((frR p n k).s.size : Int)) = True := eq_true (by omega)
      obtain ⟨R, hR⟩ : ∃ R, frR p n k = R := ⟨_, rfl⟩
      rw [hR] at hcmp r0 r1 r2 r3 r4 r5 r6 r7 r8 hrest hsz1
      have hcut : (n ≤ p.s.size - k * n) = True := eq_true (by omega)
      gi_wp2
      -- REGION3
      refine wpIn_wide.2 ?_
      refine wp_region_noPanic ?_
      refine wp_region_held_drew (S := fun w' => w'.cell? ⟨W.heap.size, 8, none⟩ = some (.string R.s) ∧ w'.cell? ⟨Lb, 0, none⟩ = some (.int .i64 (n : Int))) (by kernel_rfl) (⟨cell_alloc r8 _, cell_alloc hLc _⟩) (fun hHeld => ?_)
      obtain ⟨Wx, hWe⟩ : ∃ Wx, (wr.alloc (po R)).drew = Wx := ⟨_, rfl⟩
      have hFx : Wx.heap[wr.heap.size]? = some (po R) := by rw [← hWe]; exact blk_new wr (po R)
      have hRx : Wx.heap[W.heap.size]? = some (po R) := by rw [← hWe]; exact blk_alloc hrest (po R)
      have hLx : Wx.cell? ⟨Lb, 0, none⟩ = some (.int .i64 (n : Int)) := by rw [← hWe]; exact cell_alloc hLc (po R)
      have hBx : Below wr.heap.size wr Wx := by rw [← hWe]; exact ((Below.refl _ wr).alloc (Nat.le_refl _) (po R)).drew
      change wpAnyH _ _ _ _ _ _ _ _ (wr.alloc (po R)).drew
      rw [hWe] at hHeld ⊢
      clear hWe
      have q6 : Wx.cell? ⟨wr.heap.size, 6, none⟩ = some (.bool R.mf) := (blk_cell (k := 6) hFx rfl).1
      have p6 : Wx.frozen? ⟨wr.heap.size, 6, none⟩ = false := (blk_cell (k := 6) hFx rfl).2
      have q8 : Wx.cell? ⟨wr.heap.size, 8, none⟩ = some (.string R.s) := (blk_cell (k := 8) hFx rfl).1
      have p8 : Wx.frozen? ⟨wr.heap.size, 8, none⟩ = false := (blk_cell (k := 8) hFx rfl).2
      have hfl : wr.heap.size ≠ W.heap.size := by omega
      have hfb : wr.heap.size ≠ Lb := by omega
      refine wpAnyH_take (i := 0) (oi := ⟨some 13, _, _, _, _, _⟩) (v := ?va0) rfl (by kernel_rfl) (by kernel_rfl) (by kernel_rfl) (fun _ _ _ h => h) (Or.inl ⟨by rfl, ?hya0⟩) hHeld ?rra0
      case hya0 => (intro w hSw; (try dsimp only at hSw); go_simp; try with_reducible rfl)
      try simp only [Act.put, List.setIfInBounds_toArray, List.set_cons_zero, List.set_cons_succ]
      refine wpAnyH_take (i := 1) (oi := ⟨some 14, _, _, _, _, _⟩) (v := ?va1) rfl (by kernel_rfl) (by kernel_rfl) (by kernel_rfl) (fun _ _ _ h => h) (Or.inl ⟨by rfl, ?hya1⟩) hHeld ?rra1
      case hya1 => (intro w hSw; (try dsimp only at hSw); go_simp; try with_reducible rfl)
      try simp only [Act.put, List.setIfInBounds_toArray, List.set_cons_zero, List.set_cons_succ]
      refine wpAnyH_take (i := 2) (oi := ⟨some 15, _, _, _, _, _⟩) (v := ?va2) rfl (by kernel_rfl) (by kernel_rfl) (by kernel_rfl) (fun _ _ _ h => h) (Or.inl ⟨by rfl, ?hya2⟩) hHeld ?rra2
      case hya2 => (intro w hSw; (try dsimp only at hSw); go_simp; try with_reducible rfl)
      try simp only [Act.put, List.setIfInBounds_toArray, List.set_cons_zero, List.set_cons_succ]
      refine wpAnyH_take (i := 3) (oi := ⟨some 16, _, _, _, _, _⟩) (v := ?va3) rfl (by kernel_rfl) (by kernel_rfl) (by kernel_rfl) (fun _ _ _ h => h) (Or.inl ⟨by rfl, ?hya3⟩) hHeld ?rra3
      case hya3 => (intro w hSw; (try dsimp only at hSw); go_simp; try with_reducible rfl)
      try simp only [Act.put, List.setIfInBounds_toArray, List.set_cons_zero, List.set_cons_succ]
      refine wpAnyH_take (i := 4) (oi := ⟨some 17, _, _, _, _, _⟩) (v := ?va4) rfl (by kernel_rfl) (by kernel_rfl) (by kernel_rfl) (fun _ _ _ h => h) (Or.inl ⟨by rfl, ?hya4⟩) hHeld ?rra4
      case hya4 => (intro w hSw; (try dsimp only at hSw); go_simp; try with_reducible rfl)
      try simp only [Act.put, List.setIfInBounds_toArray, List.set_cons_zero, List.set_cons_succ]
      refine wpAnyH_ready (rs := [5]) (by kernel_rfl) (by simp) ?_
      refine AllReadyH.cons (o := ⟨none, _, _, _, _, _⟩) rfl (fun K hK => ?_) AllReadyH.nil
      go_simp
      refine hK.out _ _ (⟨(blk_cell (k := 8) (blk_set hRx ⟨wr.heap.size, 6, none⟩ hfl _) rfl).1, (World.cell?_setCell_far _ _ _ _ hfb).trans hLx⟩) (fun hHeld2 => ?_)
      clear hK K hHeld
      have hHeld := hHeld2
      clear hHeld2
      try simp only [Act.put, List.setIfInBounds_toArray, List.set_cons_zero, List.set_cons_succ]
      refine wpAnyH_take (i := 6) (oi := ⟨some 18, _, _, _, _, _⟩) (v := ?va6) rfl (by kernel_rfl) (by kernel_rfl) (by kernel_rfl) (fun _ _ _ h => h) (Or.inl ⟨by rfl, ?hya6⟩) hHeld ?rra6
      case hya6 => (intro w hSw; (try dsimp only at hSw); go_simp; try with_reducible rfl)
      try simp only [Act.put, List.setIfInBounds_toArray, List.set_cons_zero, List.set_cons_succ]
      refine wpAnyH_ready (rs := [7]) (by kernel_rfl) (by simp) ?_
      refine AllReadyH.cons (o := ⟨none, _, _, _, _, _⟩) rfl (fun K hK => ?_) AllReadyH.nil
      go_simp
      refine hK.out _ _ (⟨(blk_cell (k := 8) (blk_set (blk_set hRx ⟨wr.heap.size, 6, none⟩ hfl _) ⟨wr.heap.size, 8, none⟩ hfl _) rfl).1, (World.cell?_setCell_far _ _ _ _ hfb).trans ((World.cell?_setCell_far _ _ _ _ hfb).trans hLx)⟩) (fun hHeld2 => ?_)
      clear hK K hHeld
      have hHeld := hHeld2
      clear hHeld2
      try simp only [Act.put, List.setIfInBounds_toArray, List.set_cons_zero, List.set_cons_succ]
      refine wpAnyH_done (by kernel_rfl) ?_ _
      refine NoPanic.normal ?_
      -- END REGION3
      have hF : frP p n k = ⟨R.fr, R.to, R.pr, R.tt, R.id, R.df, true, R.off, R.s.extract 0 n⟩ := by
        rw [← hR]; simp only [frP, frR]; rw [fr_cut _ _ _ (by omega)]
      have hF2 := blk_setc (k := 8) (blk_setc (k := 6) hFx (.bool true)) (.string (R.s.extract 0 n))
      have hR2 := blk_set (blk_set hRx ⟨wr.heap.size, 6, none⟩ hfl (.bool true)) ⟨wr.heap.size, 8, none⟩ hfl (.string (R.s.extract 0 n))
      have hB2 : Below wr.heap.size wr ((Wx.setCell ⟨wr.heap.size, 6, none⟩ (.bool true)).setCell ⟨wr.heap.size, 8, none⟩ (.string (R.s.extract 0 n))) := (hBx.setCell (p := ⟨wr.heap.size, 6, none⟩) (Nat.le_refl _) _).setCell (p := ⟨wr.heap.size, 8, none⟩) (Nat.le_refl _) _
      clear q6 p6 q8 p8 hHeld hLx hRx hFx hBx
      generalize (Wx.setCell ⟨wr.heap.size, 6, none⟩ (.bool true)).setCell ⟨wr.heap.size, 8, none⟩ (.string (R.s.extract 0 n)) = W2 at *
      obtain ⟨F, hFe⟩ : ∃ F, F = (⟨R.fr, R.to, R.pr, R.tt, R.id, R.df, true, R.off, R.s.extract 0 n⟩ : Pk) := ⟨_, rfl⟩
      have hF2' : W2.heap[wr.heap.size]? = some (po F) := by rw [hFe]; exact hF2
      rw [← hFe] at hF
      have hJ2 := hJ _ _ wr W2 none hJ1 (grown_below hB2 none) (fun r e => by cases e)
      have hx : FNx p n ((frL p n).take k) F := by
        have hl : ((frL p n).take k).length = k := by rw [List.length_take, frL_len]; omega
        refine ⟨by omega, by rw [hl], ?_⟩
        rw [hl, if_pos hlt]; exact hF.symm
      have hnext : po (frR p n (k + 1)) = .cells #[.int .i64 R.fr, .int .i64 R.to, .int .i64 R.pr, .int .i64 R.tt, .int .i64 R.id, .bool R.df, .bool R.mf, .int .i64 (R.off + n), .string (R.s.extract n R.s.size)] 31 := by
        have e1 : ((k + 1) * n : Nat) = k * n + n := by rw [Nat.add_mul, Nat.one_mul]
        have e2 : R.s.size = p.s.size - k * n := hsz1
        rw [e2, ← hR]; simp only [frR, po]; rw [fr_rest _ _ _ (by omega), e1, Int.natCast_add, Int.add_assoc]
      have hwr : wrap64 (R.off + n) = R.off + n := by
        have e1 : R.off = p.off + ((k * n : Nat) : Int) := by rw [← hR]; rfl
        exact IntWalk.wrap64_in _ ⟨by omega, by omega⟩
      have hwr2 : IntKind.i64.wrap (R.off + n) = R.off + n := by
        have e1 : R.off = p.off + ((k * n : Nat) : Int) := by rw [← hR]; rfl
        exact wraps_i64 _ (by omega) (by omega)
      clear hF2 hFe
      obtain ⟨z0, -⟩ := blk_cell (k := 0) hF2' rfl
      obtain ⟨z1, -⟩ := blk_cell (k := 1) hF2' rfl
      obtain ⟨z2, -⟩ := blk_cell (k := 2) hF2' rfl
      obtain ⟨z3, -⟩ := blk_cell (k := 3) hF2' rfl
      obtain ⟨z4, -⟩ := blk_cell (k := 4) hF2' rfl
      obtain ⟨z5, -⟩ := blk_cell (k := 5) hF2' rfl
      obtain ⟨z6, -⟩ := blk_cell (k := 6) hF2' rfl
      obtain ⟨z7, -⟩ := blk_cell (k := 7) hF2' rfl
      obtain ⟨z8, -⟩ := blk_cell (k := 8) hF2' rfl
      simp only [List.getElem_toArray, List.getElem_cons_zero, List.getElem_cons_succ] at z0 z1 z2 z3 z4 z5 z6 z7 z8
      have HF := Lib.hid hF
      have HNX := Lib.hid hnext
      obtain ⟨fn, tmps, assign, body, hy, hR1⟩ := hY (W.heap.size + 1) _ _ W2 (by omega) hJ2 hx
      clear hF hnext
      gi_wp2
      refine hR1.mono ?_
      rintro e W3 (⟨rfl, hJ3, hk3⟩ | ⟨rfl, hJx3⟩)
      · have hR3 : W3.heap[W.heap.size]? = some (po R) := (hk3.same _ (Nat.le_refl _) (by omega)).trans hR2
        have hLc3 : W3.drew.cell? ⟨Lb, 0, none⟩ = some (.int .i64 (n : Int)) := by have h3 := hH _ _ _ hJ3; exact h3
        have hF := HF.out
        have hnext := HNX.out
        clear hR1 hy z0 z1 z2 z3 z4 z5 z6 z7 z8 HF HNX
        gi_wp2
        -- REGION5
        refine wpIn_wide.2 ?_
        refine wp_region_noPanic ?_
        refine wp_region_held_drew (S := fun w' => w'.cell? ⟨Lb, 0, none⟩ = some (.int .i64 (n : Int))) (by kernel_rfl) (hLc3) (fun hHeld => ?_)
        obtain ⟨Wy, hWe⟩ : ∃ Wy, W3.drew = Wy := ⟨_, rfl⟩
        have hRy : Wy.heap[W.heap.size]? = some (po R) := by rw [← hWe]; exact hR3
        have hJy : J (W.heap.size + 1) ((frL p n).take k ++ [F]) Wy := by rw [← hWe]; exact hJ _ _ W3 _ none hJ3 (grown_below ((Below.refl _ W3).drew) none) (fun r e => by cases e)
        rw [hWe] at hHeld ⊢
        clear hWe
        have s7 : Wy.cell? ⟨W.heap.size, 7, none⟩ = some (.int .i64 R.off) := (blk_cell (k := 7) hRy rfl).1
        have t7 : Wy.frozen? ⟨W.heap.size, 7, none⟩ = false := (blk_cell (k := 7) hRy rfl).2
        have s8 : Wy.cell? ⟨W.heap.size, 8, none⟩ = some (.string R.s) := (blk_cell (k := 8) hRy rfl).1
        have t8 : Wy.frozen? ⟨W.heap.size, 8, none⟩ = false := (blk_cell (k := 8) hRy rfl).2
        have hlL : W.heap.size ≠ Lb := by omega
        refine wpAnyH_take (i := 0) (oi := ⟨some 23, _, _, _, _, _⟩) (v := ?vb0) rfl (by kernel_rfl) (by kernel_rfl) (by kernel_rfl) (fun _ _ _ h => h) (Or.inl ⟨by rfl, ?hyb0⟩) hHeld ?rrb0
        case hyb0 => (intro w hSw; (try dsimp only at hSw); go_simp; try with_reducible rfl)
        try simp only [Act.put, List.setIfInBounds_toArray, List.set_cons_zero, List.set_cons_succ]
        refine wpAnyH_take (i := 2) (oi := ⟨some 25, _, _, _, _, _⟩) (v := ?vb2) rfl (by kernel_rfl) (by kernel_rfl) (by kernel_rfl) (fun _ _ _ h => h) (Or.inl ⟨by rfl, ?hyb2⟩) hHeld ?rrb2
        case hyb2 => (intro w hSw; (try dsimp only at hSw); go_simp; try with_reducible rfl)
        try simp only [Act.put, List.setIfInBounds_toArray, List.set_cons_zero, List.set_cons_succ]
        refine wpAnyH_take (i := 4) (oi := ⟨some 27, _, _, _, _, _⟩) (v := ?vb4) rfl (by kernel_rfl) (by kernel_rfl) (by kernel_rfl) (fun _ _ _ h => h) (Or.inl ⟨by rfl, ?hyb4⟩) hHeld ?rrb4
        case hyb4 => (intro w hSw; (try dsimp only at hSw); go_simp; try with_reducible rfl)
        try simp only [Act.put, List.setIfInBounds_toArray, List.set_cons_zero, List.set_cons_succ]
        refine wpAnyH_take (i := 6) (oi := ⟨some 29, _, _, _, _, _⟩) (v := ?vb6) rfl (by kernel_rfl) (by kernel_rfl) (by kernel_rfl) (fun _ _ _ h => h) (Or.inl ⟨by rfl, ?hyb6⟩) hHeld ?rrb6
        case hyb6 => (intro w hSw; (try dsimp only at hSw); go_simp; try with_reducible rfl)
        try simp only [Act.put, List.setIfInBounds_toArray, List.set_cons_zero, List.set_cons_succ]
        refine wpAnyH_ready (rs := [1, 5]) (by kernel_rfl) (by simp) ?_
        refine AllReadyH.cons (o := ⟨some 24, _, _, _, _, _⟩) rfl (fun K hK => ?x1) (AllReadyH.cons (o := ⟨some 28, _, _, _, _, _⟩) rfl (fun K hK => ?x5) AllReadyH.nil)
        case x1 =>
          go_simp
          refine hK.out _ _ (hHeld) (fun hHeld2 => ?_)
          clear hK K hHeld
          have hHeld := hHeld2
          clear hHeld2
          try simp only [Act.put, List.setIfInBounds_toArray, List.set_cons_zero, List.set_cons_succ]
          refine wpAnyH_take (i := 3) (oi := ⟨some 26, _, _, _, _, _⟩) (v := ?vc3) rfl (by kernel_rfl) (by kernel_rfl) (by kernel_rfl) (fun _ _ _ h => h) (Or.inl ⟨by rfl, ?hyc3⟩) hHeld ?rrc3
          case hyc3 => (intro w hSw; (try dsimp only at hSw); go_simp; try with_reducible rfl)
          try simp only [Act.put, List.setIfInBounds_toArray, List.set_cons_zero, List.set_cons_succ]
          refine wpAnyH_ready (rs := [5]) (by kernel_rfl) (by simp) ?_
          refine AllReadyH.cons (o := ⟨some 28, _, _, _, _, _⟩) rfl (fun K hK => ?_) AllReadyH.nil
          go_simp
          refine hK.out _ _ (hHeld) (fun hHeld2 => ?_)
          clear hK K hHeld
          have hHeld := hHeld2
          clear hHeld2
          try simp only [Act.put, List.setIfInBounds_toArray, List.set_cons_zero, List.set_cons_succ]
          refine wpAnyH_take (i := 7) (oi := ⟨some 30, _, _, _, _, _⟩) (v := ?vc7) rfl (by kernel_rfl) (by kernel_rfl) (by kernel_rfl) (fun _ _ _ h => h) (Or.inl ⟨by rfl, ?hyc7⟩) hHeld ?rrc7
          case hyc7 => (intro w hSw; (try dsimp only at hSw); go_simp; try with_reducible rfl)
          try simp only [Act.put, List.setIfInBounds_toArray, List.set_cons_zero, List.set_cons_succ]
          refine wpAnyH_take (i := 8) (oi := ⟨some 31, _, _, _, _, _⟩) (v := ?vc8) rfl (by kernel_rfl) (by kernel_rfl) (by kernel_rfl) (fun _ _ _ h => h) (Or.inl ⟨by rfl, ?hyc8⟩) hHeld ?rrc8
          case hyc8 => (intro w hSw; (try dsimp only at hSw); go_simp; try with_reducible rfl)
          try simp only [Act.put, List.setIfInBounds_toArray, List.set_cons_zero, List.set_cons_succ]
          have u8 : (Wy.setCell ⟨W.heap.size, 7, none⟩ (.int .i64 (R.off + n))).cell? ⟨W.heap.size, 8, none⟩ = some (.string R.s) := (blk_cell (k := 8) (blk_setc (k := 7) hRy _) rfl).1
          have v8 : (Wy.setCell ⟨W.heap.size, 7, none⟩ (.int .i64 (R.off + n))).frozen? ⟨W.heap.size, 8, none⟩ = false := (blk_cell (k := 8) (blk_setc (k := 7) hRy _) rfl).2
          refine wpAnyH_ready (rs := [9]) (by kernel_rfl) (by simp) ?_
          refine AllReadyH.cons (o := ⟨none, _, _, _, _, _⟩) rfl (fun K hK => ?_) AllReadyH.nil
          go_simp
          refine hK.out _ _ ((World.cell?_setCell_far _ _ _ _ hlL).trans hHeld) (fun hHeld2 => ?_)
          clear hK K hHeld
          have hHeld := hHeld2
          clear hHeld2
          try simp only [Act.put, List.setIfInBounds_toArray, List.set_cons_zero, List.set_cons_succ]
          refine wpAnyH_take (i := 10) (oi := ⟨some 32, _, _, _, _, _⟩) (v := ?vc10) rfl (by kernel_rfl) (by kernel_rfl) (by kernel_rfl) (fun _ _ _ h => h) (Or.inl ⟨by rfl, ?hyc10⟩) hHeld ?rrc10
          case hyc10 => (intro w hSw; (try dsimp only at hSw); go_simp; try with_reducible rfl)
          try simp only [Act.put, List.setIfInBounds_toArray, List.set_cons_zero, List.set_cons_succ]
          refine wpAnyH_ready (rs := [11]) (by kernel_rfl) (by simp) ?_
          refine AllReadyH.cons (o := ⟨none, _, _, _, _, _⟩) rfl (fun K hK => ?_) AllReadyH.nil
          go_simp
          refine hK.out _ _ ((World.cell?_setCell_far _ _ _ _ hlL).trans hHeld) (fun hHeld2 => ?_)
          clear hK K hHeld
          have hHeld := hHeld2
          clear hHeld2
          try simp only [Act.put, List.setIfInBounds_toArray, List.set_cons_zero, List.set_cons_succ]
          refine wpAnyH_done (by kernel_rfl) ?_ _
          refine NoPanic.normal ?_
          gi_wp2
          go_roundw
          case rel => exact ⟨k + 1, by omega, by rw [hnext, ← hsz1]; exact blk_setc (k := 8) (blk_setc (k := 7) hRy _) _, by rw [frL_take p n k hlt, hF]; exact hJw _ _ _ _ W.heap.size (Nat.le_refl _) (by omega) ((grown_set Wy ⟨W.heap.size, 7, none⟩ _).trans (grown_set _ ⟨W.heap.size, 8, none⟩ _)) hJy⟩
          case measure =>
            have w8 := (blk_cell (k := 8) (blk_setc (k := 8) (blk_setc (k := 7) hRy (.int .i64 (R.off + n))) (.string (R.s.extract n R.s.size))) rfl).1
            rw [← hsz1]
            rw [w8, r8]
            show (R.s.extract n R.s.size).size < R.s.size
            rw [ByteArray.size_extract]; omega
        case x5 =>
          go_simp
          refine hK.out _ _ (hHeld) (fun hHeld2 => ?_)
          clear hK K hHeld
          have hHeld := hHeld2
          clear hHeld2
          try simp only [Act.put, List.setIfInBounds_toArray, List.set_cons_zero, List.set_cons_succ]
          refine wpAnyH_take (i := 7) (oi := ⟨some 30, _, _, _, _, _⟩) (v := ?vd7) rfl (by kernel_rfl) (by kernel_rfl) (by kernel_rfl) (fun _ _ _ h => h) (Or.inl ⟨by rfl, ?hyd7⟩) hHeld ?rrd7
          case hyd7 => (intro w hSw; (try dsimp only at hSw); go_simp; try with_reducible rfl)
          try simp only [Act.put, List.setIfInBounds_toArray, List.set_cons_zero, List.set_cons_succ]
          refine wpAnyH_ready (rs := [1]) (by kernel_rfl) (by simp) ?_
          refine AllReadyH.cons (o := ⟨some 24, _, _, _, _, _⟩) rfl (fun K hK => ?_) AllReadyH.nil
          go_simp
          refine hK.out _ _ (hHeld) (fun hHeld2 => ?_)
          clear hK K hHeld
          have hHeld := hHeld2
          clear hHeld2
          try simp only [Act.put, List.setIfInBounds_toArray, List.set_cons_zero, List.set_cons_succ]
          refine wpAnyH_take (i := 3) (oi := ⟨some 26, _, _, _, _, _⟩) (v := ?vd3) rfl (by kernel_rfl) (by kernel_rfl) (by kernel_rfl) (fun _ _ _ h => h) (Or.inl ⟨by rfl, ?hyd3⟩) hHeld ?rrd3
          case hyd3 => (intro w hSw; (try dsimp only at hSw); go_simp; try with_reducible rfl)
          try simp only [Act.put, List.setIfInBounds_toArray, List.set_cons_zero, List.set_cons_succ]
          refine wpAnyH_take (i := 8) (oi := ⟨some 31, _, _, _, _, _⟩) (v := ?vd8) rfl (by kernel_rfl) (by kernel_rfl) (by kernel_rfl) (fun _ _ _ h => h) (Or.inl ⟨by rfl, ?hyd8⟩) hHeld ?rrd8
          case hyd8 => (intro w hSw; (try dsimp only at hSw); go_simp; try with_reducible rfl)
          try simp only [Act.put, List.setIfInBounds_toArray, List.set_cons_zero, List.set_cons_succ]
          have u8 : (Wy.setCell ⟨W.heap.size, 7, none⟩ (.int .i64 (R.off + n))).cell? ⟨W.heap.size, 8, none⟩ = some (.string R.s) := (blk_cell (k := 8) (blk_setc (k := 7) hRy _) rfl).1
          have v8 : (Wy.setCell ⟨W.heap.size, 7, none⟩ (.int .i64 (R.off + n))).frozen? ⟨W.heap.size, 8, none⟩ = false := (blk_cell (k := 8) (blk_setc (k := 7) hRy _) rfl).2
          refine wpAnyH_ready (rs := [9]) (by kernel_rfl) (by simp) ?_
          refine AllReadyH.cons (o := ⟨none, _, _, _, _, _⟩) rfl (fun K hK => ?_) AllReadyH.nil
          go_simp
          refine hK.out _ _ ((World.cell?_setCell_far _ _ _ _ hlL).trans hHeld) (fun hHeld2 => ?_)
          clear hK K hHeld
          have hHeld := hHeld2
          clear hHeld2
          try simp only [Act.put, List.setIfInBounds_toArray, List.set_cons_zero, List.set_cons_succ]
          refine wpAnyH_take (i := 10) (oi := ⟨some 32, _, _, _, _, _⟩) (v := ?vd10) rfl (by kernel_rfl) (by kernel_rfl) (by kernel_rfl) (fun _ _ _ h => h) (Or.inl ⟨by rfl, ?hyd10⟩) hHeld ?rrd10
          case hyd10 => (intro w hSw; (try dsimp only at hSw); go_simp; try with_reducible rfl)
          try simp only [Act.put, List.setIfInBounds_toArray, List.set_cons_zero, List.set_cons_succ]
          refine wpAnyH_ready (rs := [11]) (by kernel_rfl) (by simp) ?_
          refine AllReadyH.cons (o := ⟨none, _, _, _, _, _⟩) rfl (fun K hK => ?_) AllReadyH.nil
          go_simp
          refine hK.out _ _ ((World.cell?_setCell_far _ _ _ _ hlL).trans hHeld) (fun hHeld2 => ?_)
          clear hK K hHeld
          have hHeld := hHeld2
          clear hHeld2
          try simp only [Act.put, List.setIfInBounds_toArray, List.set_cons_zero, List.set_cons_succ]
          refine wpAnyH_done (by kernel_rfl) ?_ _
          refine NoPanic.normal ?_
          gi_wp2
          go_roundw
          case rel => exact ⟨k + 1, by omega, by rw [hnext, ← hsz1]; exact blk_setc (k := 8) (blk_setc (k := 7) hRy _) _, by rw [frL_take p n k hlt, hF]; exact hJw _ _ _ _ W.heap.size (Nat.le_refl _) (by omega) ((grown_set Wy ⟨W.heap.size, 7, none⟩ _).trans (grown_set _ ⟨W.heap.size, 8, none⟩ _)) hJy⟩
          case measure =>
            have w8 := (blk_cell (k := 8) (blk_setc (k := 8) (blk_setc (k := 7) hRy (.int .i64 (R.off + n))) (.string (R.s.extract n R.s.size))) rfl).1
            rw [← hsz1]
            rw [w8, r8]
            show (R.s.extract n R.s.size).size < R.s.size
            rw [ByteArray.size_extract]; omega
        -- END REGION5
      · gi_wp2
        refine bodyPost_ret (results_none rfl _ _ _) rfl ?_
        exact ⟨⟨_, rfl⟩, .inr ⟨_, trivial, hJx3⟩⟩
    · obtain rfl : k = frN p n := by omega
      have hlt' : ¬ (frN p n * n + n < p.s.size) := fun h => hlt ((hN _ hn).2 h)
      have hcmp : ((n : Int) < ((frR p n (frN p n)).s.size : Int)) = False := eq_false (by omega)
      have hx : FNx p n ((frL p n).take (frN p n)) (frR p n (frN p n)) := by
        have hl : ((frL p n).take (frN p n)).length = frN p n := by rw [List.length_take, frL_len]; omega
        refine ⟨by omega, by rw [hl], ?_⟩
        rw [hl, if_neg (by omega)]
      have hall := Lib.hid (frL_last p n)
      obtain ⟨R, hR⟩ : ∃ R, frR p n (frN p n) = R := ⟨_, rfl⟩
      rw [hR] at hcmp r0 r1 r2 r3 r4 r5 r6 r7 r8 hrest hsz1 hall hx
      obtain ⟨fn, tmps, assign, body, hy, hR1⟩ := hY (W.heap.size + 1) _ _ wr (by omega) hJ1 hx
      clear hR hx
      gi_wp2
      refine hR1.mono ?_
      rintro e W3 (⟨rfl, hJ3, hk3⟩ | ⟨rfl, hJx3⟩)
      · gi_wp2
        go_end0
        exact ⟨⟨_, rfl⟩, .inl ⟨_, _, hall.out.symm, hJ3⟩⟩
      · gi_wp2
        go_end0
        exact ⟨⟨_, rfl⟩, .inr ⟨_, trivial, hJx3⟩⟩

/-- fragments: the function value that it hands back -/
theorem frag_in (F : Fence) (m : Nat) (hf : F.fn 64) (hro : F.round = none) (p : Pk) (n : Int) (w : World) :
    CallsIn F m Tryd.prog 64 #[pv p, .int .i64 n] w fun e w' => e = .returned (.func (.func 87) #[] #[.pointer (some ⟨w.heap.size, 0, none⟩), .pointer (some ⟨w.heap.size + 1, 0, none⟩)]) ∧
      w' = (w.alloc (po p)).alloc (.cells #[.int .i64 n] 3) := by
  refine callsIn_of_wp Tryd.func64 rfl hf ?_ hro
  simp only [Tryd.ntmps64, List.size_toArray, List.length_cons, List.length_nil, Nat.reduceAdd, Nat.reduceSub, Array.replicate_succ, Array.replicate_zero, List.push_toArray, List.append_toArray, List.nil_append, List.cons_append]
  gi_wp2
  go_ret
  exact ⟨rfl, rfl⟩
end Go.Proofs.YtidjbpglpobigaaDoor
