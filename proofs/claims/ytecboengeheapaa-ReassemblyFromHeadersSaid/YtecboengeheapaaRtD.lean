/- Contract of whole: the complete datagram as a packet. -/
import Derived.Test.YtecboengeheapaaRtC
import Derived.StillTailTactics
namespace Go.Proofs.Ytecboengeheapaa
open Go.RowKit
set_option linter.unusedVariables false
attribute [local go_sem] Oper.semAt_some

theorem conv_own {w : World} {base n : Nat} {v : Value} {t : List UInt8} (h : w.ownsRow base 5 1 v n (byt t)) (hn : t.length = n) :
    (convert 40 9 v).run Try.prog w = .ok (.string ⟨t.toArray⟩) w := by
  rcases h.2 with ⟨rfl, h0⟩ | ⟨g, cap, cur, rfl, _, hg, _⟩
  · obtain rfl : t = [] := List.eq_nil_of_length_eq_zero (by omega)
    exact run_convert_bytes_nil (P := Try.prog) w 40 5 Try.underlying40 Try.underlying5 0 0 9 Try.underlying9
  · have hB : BytesAt w g t := fun j hj => by
      refine ⟨?_, by simp [World.frozen?, hg]⟩
      rw [h.cellAt j (by omega)]
      simp [byt, byteV, hj]
    exact from_bytes hB n hn.symm

theorem po6 {W : World} {P : Nat} {q : Pk} {m : Bool} {ss : ByteArray} (h : W.heap[P]? = some (po { q with mf := m, s := ss })) (b : Bool) : (W.setCell ⟨P, 6, none⟩ (.bool b)).heap[P]? = some (po { q with mf := b, s := ss }) := by
  have := blk_setc (k := 6) h (.bool b)
  simpa using this
theorem po8 {W : World} {P : Nat} {q : Pk} {m : Bool} {ss : ByteArray} (h : W.heap[P]? = some (po { q with mf := m, s := ss })) (t : ByteArray) : (W.setCell ⟨P, 8, none⟩ (.string t)).heap[P]? = some (po { q with mf := m, s := t }) := by
  have := blk_setc (k := 8) h (.string t)
  simpa using this

/-- between two operations of whole's second region -/
structure WhS (w : World) (P b : Nat) (tv : Value) (q : Pk) (t : List UInt8) (w' : World) : Prop where
  c12 : w'.cell? ⟨b, 12, none⟩ = some tv
  cv : (convert 40 9 tv).run Try.prog w' = .ok (.string ⟨t.toArray⟩) w'
  box : ∃ m s, w'.heap[P]? = some (po { q with mf := m, s := s })
  t : Touch (fun k => k = P) w w'

theorem WhS.of {w w' : World} {base P : Nat} {p : PE} (h : EntAt w base p) (hP : ∀ k ∈ p.blks, k ≠ P) (ht : Touch (fun k => k = P) w w') {q : Pk} (hb : ∃ m s, w'.heap[P]? = some (po { q with mf := m, s := s })) : WhS w P p.b p.tv q p.x.txt w' := by
  have h' : EntAt w' base p := h.kept fun k hk => ht.block k (h.lt k hk).2 (hP k hk)
  exact ⟨(dg_cells h'.blk).2.2.2.1, conv_own h'.txt rfl, hb, ht⟩

set_option maxRecDepth 20000 in
set_option maxHeartbeats 1600000 in
theorem whole_any {w : World} {base : Nat} {p : PE} (h : EntAt w base p) :
    Calls Try.prog 56 #[ptr p.b] w fun e w' => e = .returned (pv (wholeD p.x)) ∧ Below w.heap.size w w' := by
  obtain ⟨c0, c1, c2, c3, c4, c5, c6, c7, c8⟩ := dg_first h.blk
  have hlt := h.lt
  have H := Lib.hid h
  unfold ptr
  clear h
  replace c0 := cell_alloc c0 (po pz)
  replace c1 := cell_alloc c1 (po pz)
  replace c2 := cell_alloc c2 (po pz)
  replace c3 := cell_alloc c3 (po pz)
  replace c4 := cell_alloc c4 (po pz)
  replace c5 := cell_alloc c5 (po pz)
  replace c6 := cell_alloc c6 (po pz)
  replace c7 := cell_alloc c7 (po pz)
  replace c8 := cell_alloc c8 (po pz)
  go_enter Try.func56, Try.ntmps56
  go_upto_region 2 with fail
  clear c0 c1 c2 c3 c4 c5 c6 c7 c8
  obtain ⟨q, hq⟩ : ∃ q, p.x.fst = q := ⟨_, rfl⟩
  have hbox := blk_new (w.alloc (po pz)) (po p.x.fst)
  rw [World.size_alloc] at hbox
  have hres := blk_alloc (blk_new w (po pz)) (po p.x.fst)
  have hb : Below w.heap.size w ((w.alloc (po pz)).alloc (po p.x.fst)) := ((Below.refl _ w).alloc (Nat.le_refl _) _).alloc (by simp) _
  have hsz : ((w.alloc (po pz)).alloc (po p.x.fst)).heap.size = w.heap.size + 2 := by simp
  rw [hq] at hbox hres hb hsz ⊢
  generalize (w.alloc (po pz)).alloc (po q) = w2 at hbox hres hb hsz ⊢
  have h2 := H.out.below hb
  have hPk : ∀ k ∈ p.blks, k ≠ w.heap.size + 1 := fun k hk => by have := (hlt k hk).2; omega
  have hS0 := Lib.hid (WhS.of h2 hPk (Touch.of (Below.drew (Below.refl _ w2))) (q := q) ⟨q.mf, q.s, by cases q; exact hbox⟩)
  have hSt := Lib.hid (fun (w' : World) (ht : Touch (fun k => k = w.heap.size + 1) w2 w') => WhS.of (q := q) h2 hPk ht)
  clear hlt hPk h2
  have HBX := Lib.hid hbox
  have HB := Lib.hid hb
  have HRES := Lib.hid hres
  have HSZ := Lib.hid hsz
  clear hb hres hsz hbox
  refine wp_region_noPanic ?_
  refine wp_region_held_drew (S := WhS w2 (w.heap.size + 1) p.b p.tv q p.x.txt) (by kernel_rfl) (hS0.out) (fun hHeld => ?_)
  first
    | (refine wpAnyH_take (i := 0) (oi := ⟨some 8, _, _, _, _, _⟩) (v := ?v0) rfl (by kernel_rfl) (by kernel_rfl) (by kernel_rfl) (fun _ _ _ h => h) (Or.inl ⟨by rfl, ?hy0⟩) hHeld ?rr0
       case hy0 => (intro w hSw; have hc12 := hSw.c12; have hcv := hSw.cv; clear hSw; go_simp; try with_reducible rfl))
    | (refine wpAnyH_take (i := 0) (oi := ⟨some 8, _, _, _, _, _⟩) (v := undef) rfl (by kernel_rfl) (by kernel_rfl) (by kernel_rfl) (fun _ _ _ h => h) (Or.inr ⟨by rfl, rfl⟩) hHeld ?rr0)
  try simp only [Act.put, List.setIfInBounds_toArray, List.set_cons_zero, List.set_cons_succ]
  first
    | (refine wpAnyH_take (i := 1) (oi := ⟨some 9, _, _, _, _, _⟩) (v := ?v1) rfl (by kernel_rfl) (by kernel_rfl) (by kernel_rfl) (fun _ _ _ h => h) (Or.inl ⟨by rfl, ?hy1⟩) hHeld ?rr1
       case hy1 => (intro w hSw; have hc12 := hSw.c12; have hcv := hSw.cv; clear hSw; go_simp; try with_reducible rfl))
    | (refine wpAnyH_take (i := 1) (oi := ⟨some 9, _, _, _, _, _⟩) (v := undef) rfl (by kernel_rfl) (by kernel_rfl) (by kernel_rfl) (fun _ _ _ h => h) (Or.inr ⟨by rfl, rfl⟩) hHeld ?rr1)
  try simp only [Act.put, List.setIfInBounds_toArray, List.set_cons_zero, List.set_cons_succ]
  first
    | (refine wpAnyH_take (i := 2) (oi := ⟨some 10, _, _, _, _, _⟩) (v := ?v2) rfl (by kernel_rfl) (by kernel_rfl) (by kernel_rfl) (fun _ _ _ h => h) (Or.inl ⟨by rfl, ?hy2⟩) hHeld ?rr2
       case hy2 => (intro w hSw; have hc12 := hSw.c12; have hcv := hSw.cv; clear hSw; go_simp; try with_reducible rfl))
    | (refine wpAnyH_take (i := 2) (oi := ⟨some 10, _, _, _, _, _⟩) (v := undef) rfl (by kernel_rfl) (by kernel_rfl) (by kernel_rfl) (fun _ _ _ h => h) (Or.inr ⟨by rfl, rfl⟩) hHeld ?rr2)
  try simp only [Act.put, List.setIfInBounds_toArray, List.set_cons_zero, List.set_cons_succ]
  first
    | (refine wpAnyH_take (i := 3) (oi := ⟨some 11, _, _, _, _, _⟩) (v := ?v3) rfl (by kernel_rfl) (by kernel_rfl) (by kernel_rfl) (fun _ _ _ h => h) (Or.inl ⟨by rfl, ?hy3⟩) hHeld ?rr3
       case hy3 => (intro w hSw; have hc12 := hSw.c12; have hcv := hSw.cv; clear hSw; go_simp; try with_reducible rfl))
    | (refine wpAnyH_take (i := 3) (oi := ⟨some 11, _, _, _, _, _⟩) (v := undef) rfl (by kernel_rfl) (by kernel_rfl) (by kernel_rfl) (fun _ _ _ h => h) (Or.inr ⟨by rfl, rfl⟩) hHeld ?rr3)
  try simp only [Act.put, List.setIfInBounds_toArray, List.set_cons_zero, List.set_cons_succ]
  first
    | (refine wpAnyH_take (i := 4) (oi := ⟨some 12, _, _, _, _, _⟩) (v := ?v4) rfl (by kernel_rfl) (by kernel_rfl) (by kernel_rfl) (fun _ _ _ h => h) (Or.inl ⟨by rfl, ?hy4⟩) hHeld ?rr4
       case hy4 => (intro w hSw; have hc12 := hSw.c12; have hcv := hSw.cv; clear hSw; go_simp; try with_reducible rfl))
    | (refine wpAnyH_take (i := 4) (oi := ⟨some 12, _, _, _, _, _⟩) (v := undef) rfl (by kernel_rfl) (by kernel_rfl) (by kernel_rfl) (fun _ _ _ h => h) (Or.inr ⟨by rfl, rfl⟩) hHeld ?rr4)
  try simp only [Act.put, List.setIfInBounds_toArray, List.set_cons_zero, List.set_cons_succ]
  first
    | (refine wpAnyH_take (i := 5) (oi := ⟨some 13, _, _, _, _, _⟩) (v := ?v5) rfl (by kernel_rfl) (by kernel_rfl) (by kernel_rfl) (fun _ _ _ h => h) (Or.inl ⟨by rfl, ?hy5⟩) hHeld ?rr5
       case hy5 => (intro w hSw; have hc12 := hSw.c12; have hcv := hSw.cv; clear hSw; go_simp; try with_reducible rfl))
    | (refine wpAnyH_take (i := 5) (oi := ⟨some 13, _, _, _, _, _⟩) (v := undef) rfl (by kernel_rfl) (by kernel_rfl) (by kernel_rfl) (fun _ _ _ h => h) (Or.inr ⟨by rfl, rfl⟩) hHeld ?rr5)
  try simp only [Act.put, List.setIfInBounds_toArray, List.set_cons_zero, List.set_cons_succ]
  refine wpAnyH_ready (rs := [6]) (by kernel_rfl) (by simp) ?_
  refine AllReadyH.cons (o := ⟨none, _, _, _, _, _⟩) rfl (fun K hK => ?_) AllReadyH.nil
  have hH := hHeld
  obtain ⟨m, ss, hm⟩ := hH.box
  obtain ⟨d6, f6⟩ := blk_cell (k := 6) hm rfl
  obtain ⟨d8, f8⟩ := blk_cell (k := 8) hm rfl
  simp only [List.getElem_toArray, List.getElem_cons_zero, List.getElem_cons_succ] at d6 d8
  clear hHeld
  go_simp
  refine hK.out _ _ (hSt.out _ (Touch.setc hH.t (a := ⟨w.heap.size + 1, 6, none⟩) (.bool false) rfl) ⟨false, ss, po6 hm false⟩) (fun hHeld2 => ?_)
  clear hK K
  clear hH hm d6 f6 d8 f8
  have hHeld := hHeld2
  clear hHeld2
  try simp only [Act.put, List.setIfInBounds_toArray, List.set_cons_zero, List.set_cons_succ]
  first
    | (refine wpAnyH_take (i := 7) (oi := ⟨some 14, _, _, _, _, _⟩) (v := ?v7) rfl (by kernel_rfl) (by kernel_rfl) (by kernel_rfl) (fun _ _ _ h => h) (Or.inl ⟨by rfl, ?hy7⟩) hHeld ?rr7
       case hy7 => (intro w hSw; have hc12 := hSw.c12; have hcv := hSw.cv; clear hSw; go_simp; try with_reducible rfl))
    | (refine wpAnyH_take (i := 7) (oi := ⟨some 14, _, _, _, _, _⟩) (v := undef) rfl (by kernel_rfl) (by kernel_rfl) (by kernel_rfl) (fun _ _ _ h => h) (Or.inr ⟨by rfl, rfl⟩) hHeld ?rr7)
  try simp only [Act.put, List.setIfInBounds_toArray, List.set_cons_zero, List.set_cons_succ]
  refine wpAnyH_ready (rs := [8]) (by kernel_rfl) (by simp) ?_
  refine AllReadyH.cons (o := ⟨none, _, _, _, _, _⟩) rfl (fun K hK => ?_) AllReadyH.nil
  have hH := hHeld
  obtain ⟨m, ss, hm⟩ := hH.box
  obtain ⟨d6, f6⟩ := blk_cell (k := 6) hm rfl
  obtain ⟨d8, f8⟩ := blk_cell (k := 8) hm rfl
  simp only [List.getElem_toArray, List.getElem_cons_zero, List.getElem_cons_succ] at d6 d8
  clear hHeld
  go_simp
  refine hK.out _ _ (hSt.out _ (Touch.setc hH.t (a := ⟨w.heap.size + 1, 8, none⟩) (.string ⟨p.x.txt.toArray⟩) rfl) ⟨m, ⟨p.x.txt.toArray⟩, po8 hm ⟨p.x.txt.toArray⟩⟩) (fun hHeld2 => ?_)
  clear hK K
  clear hH hm d6 f6 d8 f8
  have hHeld := hHeld2
  clear hHeld2
  try simp only [Act.put, List.setIfInBounds_toArray, List.set_cons_zero, List.set_cons_succ]
  refine wpAnyH_done (by kernel_rfl) ?_ _
  refine NoPanic.normal ?_
  clear hHeld hSt hS0
  obtain ⟨txt, htx⟩ : ∃ t : ByteArray, (⟨p.x.txt.toArray⟩ : ByteArray) = t := ⟨_, rfl⟩
  rw [htx]
  have g1 : (w2.setCell ⟨w.heap.size + 1, 6, none⟩ (.bool false)).heap[w.heap.size + 1]? = some (po { q with mf := false, s := q.s }) := po6 (q := q) (m := q.mf) (ss := q.s) (by cases q; exact HBX.out) false
  have g2 := po8 g1 txt
  have k1 : ((w2.setCell ⟨w.heap.size + 1, 6, none⟩ (.bool false)).setCell ⟨w.heap.size + 1, 8, none⟩ (.string txt)).heap[w.heap.size]? = some (po pz) := blk_set (blk_set HRES.out _ (by simp) _) _ (by simp) _
  have hbw : Below w.heap.size w ((w2.setCell ⟨w.heap.size + 1, 6, none⟩ (.bool false)).setCell ⟨w.heap.size + 1, 8, none⟩ (.string txt)) := (HB.out.setCell (by simp) _).setCell (by simp) _
  clear g1
  replace g2 : ((w2.setCell ⟨w.heap.size + 1, 6, none⟩ (.bool false)).setCell ⟨w.heap.size + 1, 8, none⟩ (.string txt)).drew.heap[w.heap.size + 1]? = some (po { q with mf := false, s := txt }) := g2
  replace k1 : ((w2.setCell ⟨w.heap.size + 1, 6, none⟩ (.bool false)).setCell ⟨w.heap.size + 1, 8, none⟩ (.string txt)).drew.heap[w.heap.size]? = some (po pz) := k1
  replace hbw := hbw.drew
  generalize ((w2.setCell ⟨w.heap.size + 1, 6, none⟩ (.bool false)).setCell ⟨w.heap.size + 1, 8, none⟩ (.string txt)).drew = w3 at g2 k1 hbw ⊢
  obtain ⟨d0, -⟩ := blk_cell (k := 0) g2 rfl
  obtain ⟨e0, f0⟩ := blk_cell (k := 0) k1 rfl
  obtain ⟨d1, -⟩ := blk_cell (k := 1) g2 rfl
  obtain ⟨e1, f1⟩ := blk_cell (k := 1) k1 rfl
  obtain ⟨d2, -⟩ := blk_cell (k := 2) g2 rfl
  obtain ⟨e2, f2⟩ := blk_cell (k := 2) k1 rfl
  obtain ⟨d3, -⟩ := blk_cell (k := 3) g2 rfl
  obtain ⟨e3, f3⟩ := blk_cell (k := 3) k1 rfl
  obtain ⟨d4, -⟩ := blk_cell (k := 4) g2 rfl
  obtain ⟨e4, f4⟩ := blk_cell (k := 4) k1 rfl
  obtain ⟨d5, -⟩ := blk_cell (k := 5) g2 rfl
  obtain ⟨e5, f5⟩ := blk_cell (k := 5) k1 rfl
  obtain ⟨d6, -⟩ := blk_cell (k := 6) g2 rfl
  obtain ⟨e6, f6⟩ := blk_cell (k := 6) k1 rfl
  obtain ⟨d7, -⟩ := blk_cell (k := 7) g2 rfl
  obtain ⟨e7, f7⟩ := blk_cell (k := 7) k1 rfl
  obtain ⟨d8, -⟩ := blk_cell (k := 8) g2 rfl
  obtain ⟨e8, f8⟩ := blk_cell (k := 8) k1 rfl
  simp only [List.getElem_toArray, List.getElem_cons_zero, List.getElem_cons_succ] at d0 e0 d1 e1 d2 e2 d3 e3 d4 e4 d5 e5 d6 e6 d7 e7 d8 e8
  have hwd : wholeD p.x = { q with mf := false, s := txt } := by unfold wholeD; rw [hq, htx]
  have HWD := Lib.hid hwd
  have HBW := Lib.hid hbw
  have HK := Lib.hid k1
  clear hwd hq htx g2 k1 HB HRES HSZ HBX hbw
  go_wp2
  have g1 := blk_setc (k := 0) HK.out (.int .i64 q.fr)
  have g2 := blk_setc (k := 1) g1 (.int .i64 q.to)
  have g3 := blk_setc (k := 2) g2 (.int .i64 q.pr)
  have g4 := blk_setc (k := 3) g3 (.int .i64 q.tt)
  have g5 := blk_setc (k := 4) g4 (.int .i64 q.id)
  have g6 := blk_setc (k := 5) g5 (.bool q.df)
  have g7 := blk_setc (k := 6) g6 (.bool false)
  have g8 := blk_setc (k := 7) g7 (.int .i64 q.off)
  have g9 := blk_setc (k := 8) g8 (.string txt)
  simp only [List.setIfInBounds_toArray, List.set_cons_zero, List.set_cons_succ] at g9
  have t1 := Below.setCell HBW.out (p := ⟨w.heap.size, 0, none⟩) (Nat.le_refl _) (.int .i64 q.fr)
  have t2 := Below.setCell t1 (p := ⟨w.heap.size, 1, none⟩) (Nat.le_refl _) (.int .i64 q.to)
  have t3 := Below.setCell t2 (p := ⟨w.heap.size, 2, none⟩) (Nat.le_refl _) (.int .i64 q.pr)
  have t4 := Below.setCell t3 (p := ⟨w.heap.size, 3, none⟩) (Nat.le_refl _) (.int .i64 q.tt)
  have t5 := Below.setCell t4 (p := ⟨w.heap.size, 4, none⟩) (Nat.le_refl _) (.int .i64 q.id)
  have t6 := Below.setCell t5 (p := ⟨w.heap.size, 5, none⟩) (Nat.le_refl _) (.bool q.df)
  have t7 := Below.setCell t6 (p := ⟨w.heap.size, 6, none⟩) (Nat.le_refl _) (.bool false)
  have t8 := Below.setCell t7 (p := ⟨w.heap.size, 7, none⟩) (Nat.le_refl _) (.int .i64 q.off)
  have t9 := Below.setCell t8 (p := ⟨w.heap.size, 8, none⟩) (Nat.le_refl _) (.string txt)
  clear g1 t1 g2 t2 g3 t3 g4 t4 g5 t5 g6 t6 g7 t7 g8 t8 d0 e0 f0 d1 e1 f1 d2 e2 f2 d3 e3 f3 d4 e4 f4 d5 e5 f5 d6 e6 f6 d7 e7 f7 d8 e8 f8
  generalize (((((((((w3.setCell ⟨w.heap.size, 0, none⟩ (.int .i64 q.fr)).setCell ⟨w.heap.size, 1, none⟩ (.int .i64 q.to)).setCell ⟨w.heap.size, 2, none⟩ (.int .i64 q.pr)).setCell ⟨w.heap.size, 3, none⟩ (.int .i64 q.tt)).setCell ⟨w.heap.size, 4, none⟩ (.int .i64 q.id)).setCell ⟨w.heap.size, 5, none⟩ (.bool q.df)).setCell ⟨w.heap.size, 6, none⟩ (.bool false)).setCell ⟨w.heap.size, 7, none⟩ (.int .i64 q.off)).setCell ⟨w.heap.size, 8, none⟩ (.string txt)) = w4 at g9 t9 ⊢
  obtain ⟨d0, -⟩ := blk_cell (k := 0) g9 rfl
  obtain ⟨d1, -⟩ := blk_cell (k := 1) g9 rfl
  obtain ⟨d2, -⟩ := blk_cell (k := 2) g9 rfl
  obtain ⟨d3, -⟩ := blk_cell (k := 3) g9 rfl
  obtain ⟨d4, -⟩ := blk_cell (k := 4) g9 rfl
  obtain ⟨d5, -⟩ := blk_cell (k := 5) g9 rfl
  obtain ⟨d6, -⟩ := blk_cell (k := 6) g9 rfl
  obtain ⟨d7, -⟩ := blk_cell (k := 7) g9 rfl
  obtain ⟨d8, -⟩ := blk_cell (k := 8) g9 rfl
  simp only [List.getElem_toArray, List.getElem_cons_zero, List.getElem_cons_succ] at d0 d1 d2 d3 d4 d5 d6 d7 d8
  refine bodyPost_ret (v := pv { q with mf := false, s := txt }) (by simp [results, Try.results56, go_sem, d0, d1, d2, d3, d4, d5, d6, d7, d8]) rfl ?_
  exact ⟨by rw [HWD.out], t9⟩
end Go.Proofs.Ytecboengeheapaa
