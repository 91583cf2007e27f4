/- The chapter's examples, as the laws check them. -/
import Derived.Test.YtecboengeheapaaRtV
namespace Go.Proofs.Ytecboengeheapaa
open Go.RowKit Go.Maps
set_option linter.unusedVariables false
attribute [local go_sem] Oper.semAt_some
abbrev exW (w : World) : World := ((w.alloc (po pOne)).alloc (po pTwo)).alloc (po pOdd)
theorem ex_init {w w1 w2 w3 : World} {T1 T2 T3 : Nat} {S1 S2 S3 : Nat → Prop} (hb1 : Below (exW w).heap.size (exW w) w1) (h1 : TabS w1 (exW w).heap.size T1 0 [] S1) (hb2 : Below w1.heap.size w1 w2) (h2 : TabS w2 w1.heap.size T2 0 [] S2) (hb3 : Below w2.heap.size w2 w3) (h3 : TabS w3 w2.heap.size T3 0 [] S3) : ExI w ⟨T1, 0, [], S1⟩ ⟨T2, 0, [], S2⟩ ⟨T3, 0, [], S3⟩ w3 := by
  have e0 : (exW w).heap.size = w.heap.size + 3 := by simp
  have l1 := hb1.size
  have l2 := hb2.size
  have l3 := hb3.size
  have b0 : Below w.heap.size w (exW w) := (((Below.refl _ w).alloc (Nat.le_refl _) _).alloc (by simp) _).alloc (by simp; omega) _
  have b13 : Below w1.heap.size w1 w3 := hb2.trans (hb3.mono l2)
  have b03 : Below (exW w).heap.size (exW w) w3 := hb1.trans (b13.mono l1)
  have c1 : (exW w).heap[w.heap.size]? = some (po pOne) := blk_alloc (blk_alloc (blk_new w _) _) _
  have c2 : (exW w).heap[w.heap.size + 1]? = some (po pTwo) := by
    have := blk_alloc (blk_new (w.alloc (po pOne)) (po pTwo)) (po pOdd)
    simpa using this
  have c3 : (exW w).heap[w.heap.size + 2]? = some (po pOdd) := by
    have := blk_new ((w.alloc (po pOne)).alloc (po pTwo)) (po pOdd)
    simpa using this
  refine ⟨blk_below c1 b03 (blk_lt c1), blk_below c2 b03 (blk_lt c2), blk_below c3 b03 (blk_lt c3), (h1.below b13).base (by omega), (h2.below hb3).base (by omega), h3.base (by omega), fun k a b => ?_, fun k a b => ?_, fun k a b => ?_, b0.trans (b03.mono b0.size)⟩
  · have := (h1.bd k a).2; have := (h2.bd k b).1; omega
  · have := (h1.bd k a).2; have := (h3.bd k b).1; omega
  · have := (h2.bd k a).2; have := (h3.bd k b).1; omega
/-- what every operation of a region reads -/
structure ExS (w w' : World) : Prop where
  p1 : w'.heap[w.heap.size]? = some (po pOne)
  p2 : w'.heap[w.heap.size + 1]? = some (po pTwo)
  p3 : w'.heap[w.heap.size + 1 + 1]? = some (po pOdd)
theorem ExI.s {w : World} {a b c : Tq} {W : World} (h : ExI w a b c W) : ExS w W := ⟨h.p1, h.p2, h.p3⟩
theorem row_touch {w w' : World} {base size n : Nat} {e : TypeId} {v : Value} {xs : List Value} {S : Nat → Prop} (h : w.ownsRow base e size v n xs) (ht : Touch S w w') (hS : ∀ k, S k → k < base) : w'.ownsRow base e size v n xs :=
  row_of_block h fun k hk => ht.block k (h.lt k hk).2 (fun hs => by have := hS k hs; have := (h.lt k hk).1; omega)
theorem ExI.sizes {w : World} {a b c : Tq} {W : World} (h : ExI w a b c W) {n m : Int} (hn : (a.L.length : Int) = n) (hm : (sumL a.L : Int) = m) (hs : a.L.length ≤ 1000) :
    Calls Try.prog 38 #[.pointer (some ⟨a.T, 0, none⟩)] W fun e W' => e = .returned (.tuple #[.int .i64 n, .int .i64 m]) ∧ ExI w a b c W' := by
  refine (sizes_s h.ta hs).mono ?_
  rintro e W' ⟨rfl, hb⟩
  rw [hn, hm]
  exact ⟨rfl, h.below hb⟩
theorem ExI.tick {w : World} {a b c : Tq} {W : World} (h : ExI w a b c W) (now : Int) (hl : a.L.length ≤ 1) (h1 : -9223372036854775808 ≤ now) (h2 : now ≤ 9223372036854775807) (hst : ∀ x ∈ a.L, -9223372036854775808 ≤ x.st ∧ x.st ≤ 9223372036854775807) {O : List Pk} {L' : List Dg} {n : Nat} (hn : O.length = n) (ho : outL now a.L = O ∧ remL now a.L = L') :
    Calls Try.prog 34 #[.pointer (some ⟨a.T, 0, none⟩), .int .i64 now] W fun e W' => ∃ q cp, e = .returned (.slice q n cp) ∧ W'.ownsRow W.heap.size 26 9 (.slice q n cp) n (flatP O) ∧ Touch a.S W W' ∧ (∀ k, a.S k → k < W.heap.size) ∧ ∃ S', ExI w ⟨a.T, a.c, L', S'⟩ b c W' := by
  refine (tick_s h.ta hl now h1 h2 hst).mono ?_
  rintro e W' ⟨v, rfl, hr, hO⟩
  rw [ho.1, hn] at hr
  rw [ho.2] at hO
  obtain ⟨q, cp, rfl, -⟩ := row_shp hr
  obtain ⟨S', h4, h5, h6⟩ := hO
  exact ⟨q, cp, rfl, hr, h5, fun k hk => (h.ta.bd k hk).2, h.step ⟨S', h4, h5, h6⟩⟩
theorem row_lit (W : World) (p : Pk) : (W.alloc (po p)).ownsRow W.heap.size 26 9 (.slice (some ⟨W.heap.size, 0, none⟩) 1 1) 1 (flatP [p]) :=
  ⟨rfl, .inr ⟨_, 1, _, rfl, Nat.le_refl _, blk_new W _, Nat.le_refl _, by decide, rfl, rfl⟩⟩
abbrev pEnd : Pk := ⟨1, 2, 0, 1, 0, false, false, 0, ⟨#[120]⟩⟩
theorem pk_cells {W : World} {b : Nat} {p : Pk} (h : W.heap[b]? = some (po p)) : W.cell? ⟨b, 0, none⟩ = some (.int .i64 p.fr) ∧ W.cell? ⟨b, 1, none⟩ = some (.int .i64 p.to) ∧ W.cell? ⟨b, 2, none⟩ = some (.int .i64 p.pr) ∧ W.cell? ⟨b, 3, none⟩ = some (.int .i64 p.tt) ∧ W.cell? ⟨b, 4, none⟩ = some (.int .i64 p.id) ∧ W.cell? ⟨b, 5, none⟩ = some (.bool p.df) ∧ W.cell? ⟨b, 6, none⟩ = some (.bool p.mf) ∧ W.cell? ⟨b, 7, none⟩ = some (.int .i64 p.off) ∧ W.cell? ⟨b, 8, none⟩ = some (.string p.s) :=
  ⟨(blk_cell h rfl).1, (blk_cell h rfl).1, (blk_cell h rfl).1, (blk_cell h rfl).1, (blk_cell h rfl).1, (blk_cell h rfl).1, (blk_cell h rfl).1, (blk_cell h rfl).1, (blk_cell h rfl).1⟩
set_option maxRecDepth 20000 in
set_option maxHeartbeats 3200000 in
theorem examples_any (w : World) : Calls Try.prog 27 #[] w fun e w' => e = .returned (.bool true) ∧ Below w.heap.size w w' := by
  go_enter Try.func27, Try.ntmps27
  go_wp2_with fail
  refine (new_s _).mono ?_
  rintro e w1 ⟨T1, S1, rfl, hb1, hT1⟩
  have H1 := Lib.hid (And.intro hb1 hT1)
  clear hb1 hT1
  go_wp2_with fail
  refine (new_s _).mono ?_
  rintro e w2 ⟨T2, S2, rfl, hb2, hT2⟩
  have H2 := Lib.hid (And.intro hb2 hT2)
  clear hb2 hT2
  go_wp2_with fail
  refine (new_s _).mono ?_
  rintro e w3 ⟨T3, S3, rfl, hb3, hT3⟩
  have HE3 := Lib.hid (ex_init H1.out.1 H1.out.2 H2.out.1 H2.out.2 hb3 hT3)
  clear hb3 hT3 H1 H2
  go_upto_region 8 with fail
  refine wp_region_noPanic ?_
  refine wp_region_held_drew (S := ExS w) (by kernel_rfl) (HE3.out.drew.s) (fun hHeld => ?_)
  first
    | (refine wpAnyH_take (i := 0) (oi := ⟨some 31, _, _, _, _, _⟩) (v := ?va0) rfl (by kernel_rfl) (by kernel_rfl) (by kernel_rfl) (fun _ _ _ h => h) (Or.inl ⟨by rfl, ?hya0⟩) hHeld ?rra0
       case hya0 => (intro wq hSw; obtain ⟨a0, a1, a2, a3, a4, a5, a6, a7, a8⟩ := pk_cells hSw.p1; obtain ⟨b0, b1, b2, b3, b4, b5, b6, b7, b8⟩ := pk_cells hSw.p2; obtain ⟨c0, c1, c2, c3, c4, c5, c6, c7, c8⟩ := pk_cells hSw.p3; dsimp only at a0 a1 a2 a3 a4 a5 a6 a7 a8 b0 b1 b2 b3 b4 b5 b6 b7 b8 c0 c1 c2 c3 c4 c5 c6 c7 c8; clear hSw; go_simp; try with_reducible rfl))
    | (refine wpAnyH_take (i := 0) (oi := ⟨some 31, _, _, _, _, _⟩) (v := undef) rfl (by kernel_rfl) (by kernel_rfl) (by kernel_rfl) (fun _ _ _ h => h) (Or.inr ⟨by rfl, rfl⟩) hHeld ?rra0)
  try simp only [Act.put, List.setIfInBounds_toArray, List.set_cons_zero, List.set_cons_succ]
  first
    | (refine wpAnyH_take (i := 1) (oi := ⟨some 32, _, _, _, _, _⟩) (v := ?va1) rfl (by kernel_rfl) (by kernel_rfl) (by kernel_rfl) (fun _ _ _ h => h) (Or.inl ⟨by rfl, ?hya1⟩) hHeld ?rra1
       case hya1 => (intro wq hSw; obtain ⟨a0, a1, a2, a3, a4, a5, a6, a7, a8⟩ := pk_cells hSw.p1; obtain ⟨b0, b1, b2, b3, b4, b5, b6, b7, b8⟩ := pk_cells hSw.p2; obtain ⟨c0, c1, c2, c3, c4, c5, c6, c7, c8⟩ := pk_cells hSw.p3; dsimp only at a0 a1 a2 a3 a4 a5 a6 a7 a8 b0 b1 b2 b3 b4 b5 b6 b7 b8 c0 c1 c2 c3 c4 c5 c6 c7 c8; clear hSw; go_simp; try with_reducible rfl))
    | (refine wpAnyH_take (i := 1) (oi := ⟨some 32, _, _, _, _, _⟩) (v := undef) rfl (by kernel_rfl) (by kernel_rfl) (by kernel_rfl) (fun _ _ _ h => h) (Or.inr ⟨by rfl, rfl⟩) hHeld ?rra1)
  try simp only [Act.put, List.setIfInBounds_toArray, List.set_cons_zero, List.set_cons_succ]
  first
    | (refine wpAnyH_take (i := 3) (oi := ⟨some 34, _, _, _, _, _⟩) (v := ?va3) rfl (by kernel_rfl) (by kernel_rfl) (by kernel_rfl) (fun _ _ _ h => h) (Or.inl ⟨by rfl, ?hya3⟩) hHeld ?rra3
       case hya3 => (intro wq hSw; obtain ⟨a0, a1, a2, a3, a4, a5, a6, a7, a8⟩ := pk_cells hSw.p1; obtain ⟨b0, b1, b2, b3, b4, b5, b6, b7, b8⟩ := pk_cells hSw.p2; obtain ⟨c0, c1, c2, c3, c4, c5, c6, c7, c8⟩ := pk_cells hSw.p3; dsimp only at a0 a1 a2 a3 a4 a5 a6 a7 a8 b0 b1 b2 b3 b4 b5 b6 b7 b8 c0 c1 c2 c3 c4 c5 c6 c7 c8; clear hSw; go_simp; try with_reducible rfl))
    | (refine wpAnyH_take (i := 3) (oi := ⟨some 34, _, _, _, _, _⟩) (v := undef) rfl (by kernel_rfl) (by kernel_rfl) (by kernel_rfl) (fun _ _ _ h => h) (Or.inr ⟨by rfl, rfl⟩) hHeld ?rra3)
  try simp only [Act.put, List.setIfInBounds_toArray, List.set_cons_zero, List.set_cons_succ]
  first
    | (refine wpAnyH_take (i := 4) (oi := ⟨some 35, _, _, _, _, _⟩) (v := ?va4) rfl (by kernel_rfl) (by kernel_rfl) (by kernel_rfl) (fun _ _ _ h => h) (Or.inl ⟨by rfl, ?hya4⟩) hHeld ?rra4
       case hya4 => (intro wq hSw; obtain ⟨a0, a1, a2, a3, a4, a5, a6, a7, a8⟩ := pk_cells hSw.p1; obtain ⟨b0, b1, b2, b3, b4, b5, b6, b7, b8⟩ := pk_cells hSw.p2; obtain ⟨c0, c1, c2, c3, c4, c5, c6, c7, c8⟩ := pk_cells hSw.p3; dsimp only at a0 a1 a2 a3 a4 a5 a6 a7 a8 b0 b1 b2 b3 b4 b5 b6 b7 b8 c0 c1 c2 c3 c4 c5 c6 c7 c8; clear hSw; go_simp; try with_reducible rfl))
    | (refine wpAnyH_take (i := 4) (oi := ⟨some 35, _, _, _, _, _⟩) (v := undef) rfl (by kernel_rfl) (by kernel_rfl) (by kernel_rfl) (fun _ _ _ h => h) (Or.inr ⟨by rfl, rfl⟩) hHeld ?rra4)
  try simp only [Act.put, List.setIfInBounds_toArray, List.set_cons_zero, List.set_cons_succ]
  refine wpAnyH_ready (rs := [2]) (by kernel_rfl) (by simp) ?_
  refine AllReadyH.cons (o := ⟨some 33, _, _, _, _, _⟩) rfl (fun K hK => ?_) AllReadyH.nil
  go_simp
  refine (HE3.out.drew.put pOne ex_t1 ok_one fr_one (by simp) (by simp) (by simp)).mono ?_
  rintro e w4 ⟨rfl, S4, hE⟩
  have HE4 := Lib.hid hE
  clear hE HE3
  refine hK.out _ _ (HE4.out.s) (fun hHeld2 => ?_)
  clear hK K hHeld
  have hHeld := hHeld2
  clear hHeld2
  try simp only [Act.put, List.setIfInBounds_toArray, List.set_cons_zero, List.set_cons_succ]
  refine wpAnyH_ready (rs := [5]) (by kernel_rfl) (by simp) ?_
  refine AllReadyH.cons (o := ⟨some 36, _, _, _, _, _⟩) rfl (fun K hK => ?_) AllReadyH.nil
  go_simp
  refine (HE4.out.put pTwo ex_t2 ok_two fr_two (by simp) (by simp) (by simp)).mono ?_
  rintro e w5 ⟨rfl, S5, hE⟩
  have HE5 := Lib.hid hE
  clear hE HE4
  refine hK.out _ _ (HE5.out.s) (fun hHeld2 => ?_)
  clear hK K hHeld
  have hHeld := hHeld2
  clear hHeld2
  try simp only [Act.put, List.setIfInBounds_toArray, List.set_cons_zero, List.set_cons_succ]
  first
    | (refine wpAnyH_take (i := 6) (oi := ⟨some 37, _, _, _, _, _⟩) (v := ?va6) rfl (by kernel_rfl) (by kernel_rfl) (by kernel_rfl) (fun _ _ _ h => h) (Or.inl ⟨by rfl, ?hya6⟩) hHeld ?rra6
       case hya6 => (intro wq hSw; obtain ⟨a0, a1, a2, a3, a4, a5, a6, a7, a8⟩ := pk_cells hSw.p1; obtain ⟨b0, b1, b2, b3, b4, b5, b6, b7, b8⟩ := pk_cells hSw.p2; obtain ⟨c0, c1, c2, c3, c4, c5, c6, c7, c8⟩ := pk_cells hSw.p3; dsimp only at a0 a1 a2 a3 a4 a5 a6 a7 a8 b0 b1 b2 b3 b4 b5 b6 b7 b8 c0 c1 c2 c3 c4 c5 c6 c7 c8; clear hSw; go_simp; try with_reducible rfl))
    | (refine wpAnyH_take (i := 6) (oi := ⟨some 37, _, _, _, _, _⟩) (v := undef) rfl (by kernel_rfl) (by kernel_rfl) (by kernel_rfl) (fun _ _ _ h => h) (Or.inr ⟨by rfl, rfl⟩) hHeld ?rra6)
  try simp only [Act.put, List.setIfInBounds_toArray, List.set_cons_zero, List.set_cons_succ]
  first
    | (refine wpAnyH_take (i := 7) (oi := ⟨some 7, _, _, _, _, _⟩) (v := ?va7) rfl (by kernel_rfl) (by kernel_rfl) (by kernel_rfl) (fun _ _ _ h => h) (Or.inl ⟨by rfl, ?hya7⟩) hHeld ?rra7
       case hya7 => (intro wq hSw; obtain ⟨a0, a1, a2, a3, a4, a5, a6, a7, a8⟩ := pk_cells hSw.p1; obtain ⟨b0, b1, b2, b3, b4, b5, b6, b7, b8⟩ := pk_cells hSw.p2; obtain ⟨c0, c1, c2, c3, c4, c5, c6, c7, c8⟩ := pk_cells hSw.p3; dsimp only at a0 a1 a2 a3 a4 a5 a6 a7 a8 b0 b1 b2 b3 b4 b5 b6 b7 b8 c0 c1 c2 c3 c4 c5 c6 c7 c8; clear hSw; go_simp; try with_reducible rfl))
    | (refine wpAnyH_take (i := 7) (oi := ⟨some 7, _, _, _, _, _⟩) (v := undef) rfl (by kernel_rfl) (by kernel_rfl) (by kernel_rfl) (fun _ _ _ h => h) (Or.inr ⟨by rfl, rfl⟩) hHeld ?rra7)
  try simp only [Act.put, List.setIfInBounds_toArray, List.set_cons_zero, List.set_cons_succ]
  refine wpAnyH_done (by kernel_rfl) ?_ _
  refine NoPanic.normal ?_
  clear hHeld
  go_upto_region 9 with fail
  refine wp_region_noPanic ?_
  refine wp_region_held_drew (S := ExS w) (by kernel_rfl) (HE5.out.rot.drew.s) (fun hHeld => ?_)
  first
    | (refine wpAnyH_take (i := 0) (oi := ⟨some 38, _, _, _, _, _⟩) (v := ?vb0) rfl (by kernel_rfl) (by kernel_rfl) (by kernel_rfl) (fun _ _ _ h => h) (Or.inl ⟨by rfl, ?hyb0⟩) hHeld ?rrb0
       case hyb0 => (intro wq hSw; obtain ⟨a0, a1, a2, a3, a4, a5, a6, a7, a8⟩ := pk_cells hSw.p1; obtain ⟨b0, b1, b2, b3, b4, b5, b6, b7, b8⟩ := pk_cells hSw.p2; obtain ⟨c0, c1, c2, c3, c4, c5, c6, c7, c8⟩ := pk_cells hSw.p3; dsimp only at a0 a1 a2 a3 a4 a5 a6 a7 a8 b0 b1 b2 b3 b4 b5 b6 b7 b8 c0 c1 c2 c3 c4 c5 c6 c7 c8; clear hSw; go_simp; try with_reducible rfl))
    | (refine wpAnyH_take (i := 0) (oi := ⟨some 38, _, _, _, _, _⟩) (v := undef) rfl (by kernel_rfl) (by kernel_rfl) (by kernel_rfl) (fun _ _ _ h => h) (Or.inr ⟨by rfl, rfl⟩) hHeld ?rrb0)
  try simp only [Act.put, List.setIfInBounds_toArray, List.set_cons_zero, List.set_cons_succ]
  first
    | (refine wpAnyH_take (i := 1) (oi := ⟨some 39, _, _, _, _, _⟩) (v := ?vb1) rfl (by kernel_rfl) (by kernel_rfl) (by kernel_rfl) (fun _ _ _ h => h) (Or.inl ⟨by rfl, ?hyb1⟩) hHeld ?rrb1
       case hyb1 => (intro wq hSw; obtain ⟨a0, a1, a2, a3, a4, a5, a6, a7, a8⟩ := pk_cells hSw.p1; obtain ⟨b0, b1, b2, b3, b4, b5, b6, b7, b8⟩ := pk_cells hSw.p2; obtain ⟨c0, c1, c2, c3, c4, c5, c6, c7, c8⟩ := pk_cells hSw.p3; dsimp only at a0 a1 a2 a3 a4 a5 a6 a7 a8 b0 b1 b2 b3 b4 b5 b6 b7 b8 c0 c1 c2 c3 c4 c5 c6 c7 c8; clear hSw; go_simp; try with_reducible rfl))
    | (refine wpAnyH_take (i := 1) (oi := ⟨some 39, _, _, _, _, _⟩) (v := undef) rfl (by kernel_rfl) (by kernel_rfl) (by kernel_rfl) (fun _ _ _ h => h) (Or.inr ⟨by rfl, rfl⟩) hHeld ?rrb1)
  try simp only [Act.put, List.setIfInBounds_toArray, List.set_cons_zero, List.set_cons_succ]
  first
    | (refine wpAnyH_take (i := 3) (oi := ⟨some 41, _, _, _, _, _⟩) (v := ?vb3) rfl (by kernel_rfl) (by kernel_rfl) (by kernel_rfl) (fun _ _ _ h => h) (Or.inl ⟨by rfl, ?hyb3⟩) hHeld ?rrb3
       case hyb3 => (intro wq hSw; obtain ⟨a0, a1, a2, a3, a4, a5, a6, a7, a8⟩ := pk_cells hSw.p1; obtain ⟨b0, b1, b2, b3, b4, b5, b6, b7, b8⟩ := pk_cells hSw.p2; obtain ⟨c0, c1, c2, c3, c4, c5, c6, c7, c8⟩ := pk_cells hSw.p3; dsimp only at a0 a1 a2 a3 a4 a5 a6 a7 a8 b0 b1 b2 b3 b4 b5 b6 b7 b8 c0 c1 c2 c3 c4 c5 c6 c7 c8; clear hSw; go_simp; try with_reducible rfl))
    | (refine wpAnyH_take (i := 3) (oi := ⟨some 41, _, _, _, _, _⟩) (v := undef) rfl (by kernel_rfl) (by kernel_rfl) (by kernel_rfl) (fun _ _ _ h => h) (Or.inr ⟨by rfl, rfl⟩) hHeld ?rrb3)
  try simp only [Act.put, List.setIfInBounds_toArray, List.set_cons_zero, List.set_cons_succ]
  first
    | (refine wpAnyH_take (i := 4) (oi := ⟨some 42, _, _, _, _, _⟩) (v := ?vb4) rfl (by kernel_rfl) (by kernel_rfl) (by kernel_rfl) (fun _ _ _ h => h) (Or.inl ⟨by rfl, ?hyb4⟩) hHeld ?rrb4
       case hyb4 => (intro wq hSw; obtain ⟨a0, a1, a2, a3, a4, a5, a6, a7, a8⟩ := pk_cells hSw.p1; obtain ⟨b0, b1, b2, b3, b4, b5, b6, b7, b8⟩ := pk_cells hSw.p2; obtain ⟨c0, c1, c2, c3, c4, c5, c6, c7, c8⟩ := pk_cells hSw.p3; dsimp only at a0 a1 a2 a3 a4 a5 a6 a7 a8 b0 b1 b2 b3 b4 b5 b6 b7 b8 c0 c1 c2 c3 c4 c5 c6 c7 c8; clear hSw; go_simp; try with_reducible rfl))
    | (refine wpAnyH_take (i := 4) (oi := ⟨some 42, _, _, _, _, _⟩) (v := undef) rfl (by kernel_rfl) (by kernel_rfl) (by kernel_rfl) (fun _ _ _ h => h) (Or.inr ⟨by rfl, rfl⟩) hHeld ?rrb4)
  try simp only [Act.put, List.setIfInBounds_toArray, List.set_cons_zero, List.set_cons_succ]
  first
    | (refine wpAnyH_take (i := 7) (oi := ⟨some 45, _, _, _, _, _⟩) (v := ?vb7) rfl (by kernel_rfl) (by kernel_rfl) (by kernel_rfl) (fun _ _ _ h => h) (Or.inl ⟨by rfl, ?hyb7⟩) hHeld ?rrb7
       case hyb7 => (intro wq hSw; obtain ⟨a0, a1, a2, a3, a4, a5, a6, a7, a8⟩ := pk_cells hSw.p1; obtain ⟨b0, b1, b2, b3, b4, b5, b6, b7, b8⟩ := pk_cells hSw.p2; obtain ⟨c0, c1, c2, c3, c4, c5, c6, c7, c8⟩ := pk_cells hSw.p3; dsimp only at a0 a1 a2 a3 a4 a5 a6 a7 a8 b0 b1 b2 b3 b4 b5 b6 b7 b8 c0 c1 c2 c3 c4 c5 c6 c7 c8; clear hSw; go_simp; try with_reducible rfl))
    | (refine wpAnyH_take (i := 7) (oi := ⟨some 45, _, _, _, _, _⟩) (v := undef) rfl (by kernel_rfl) (by kernel_rfl) (by kernel_rfl) (fun _ _ _ h => h) (Or.inr ⟨by rfl, rfl⟩) hHeld ?rrb7)
  try simp only [Act.put, List.setIfInBounds_toArray, List.set_cons_zero, List.set_cons_succ]
  first
    | (refine wpAnyH_take (i := 8) (oi := ⟨some 46, _, _, _, _, _⟩) (v := ?vb8) rfl (by kernel_rfl) (by kernel_rfl) (by kernel_rfl) (fun _ _ _ h => h) (Or.inl ⟨by rfl, ?hyb8⟩) hHeld ?rrb8
       case hyb8 => (intro wq hSw; obtain ⟨a0, a1, a2, a3, a4, a5, a6, a7, a8⟩ := pk_cells hSw.p1; obtain ⟨b0, b1, b2, b3, b4, b5, b6, b7, b8⟩ := pk_cells hSw.p2; obtain ⟨c0, c1, c2, c3, c4, c5, c6, c7, c8⟩ := pk_cells hSw.p3; dsimp only at a0 a1 a2 a3 a4 a5 a6 a7 a8 b0 b1 b2 b3 b4 b5 b6 b7 b8 c0 c1 c2 c3 c4 c5 c6 c7 c8; clear hSw; go_simp; try with_reducible rfl))
    | (refine wpAnyH_take (i := 8) (oi := ⟨some 46, _, _, _, _, _⟩) (v := undef) rfl (by kernel_rfl) (by kernel_rfl) (by kernel_rfl) (fun _ _ _ h => h) (Or.inr ⟨by rfl, rfl⟩) hHeld ?rrb8)
  try simp only [Act.put, List.setIfInBounds_toArray, List.set_cons_zero, List.set_cons_succ]
  refine wpAnyH_ready (rs := [2]) (by kernel_rfl) (by simp) ?_
  refine AllReadyH.cons (o := ⟨some 40, _, _, _, _, _⟩) rfl (fun K hK => ?_) AllReadyH.nil
  go_simp
  refine (HE5.out.rot.drew.put pTwo ex_u1 ok_two fr_two (by simp) (by simp) (by simp)).mono ?_
  rintro e w6 ⟨rfl, S6, hE⟩
  have HE6 := Lib.hid hE
  clear hE HE5
  refine hK.out _ _ (HE6.out.s) (fun hHeld2 => ?_)
  clear hK K hHeld
  have hHeld := hHeld2
  clear hHeld2
  try simp only [Act.put, List.setIfInBounds_toArray, List.set_cons_zero, List.set_cons_succ]
  refine wpAnyH_ready (rs := [5]) (by kernel_rfl) (by simp) ?_
  refine AllReadyH.cons (o := ⟨some 43, _, _, _, _, _⟩) rfl (fun K hK => ?_) AllReadyH.nil
  go_simp
  refine (HE6.out.put pOne ex_u2 ok_one fr_one (by simp) (by simp) (by simp)).mono ?_
  rintro e w7 ⟨rfl, S7, hE⟩
  have HE7 := Lib.hid hE
  clear hE HE6
  refine hK.out _ _ (HE7.out.s) (fun hHeld2 => ?_)
  clear hK K hHeld
  have hHeld := hHeld2
  clear hHeld2
  try simp only [Act.put, List.setIfInBounds_toArray, List.set_cons_zero, List.set_cons_succ]
  first
    | (refine wpAnyH_take (i := 6) (oi := ⟨some 44, _, _, _, _, _⟩) (v := ?vb6) rfl (by kernel_rfl) (by kernel_rfl) (by kernel_rfl) (fun _ _ _ h => h) (Or.inl ⟨by rfl, ?hyb6⟩) hHeld ?rrb6
       case hyb6 => (intro wq hSw; obtain ⟨a0, a1, a2, a3, a4, a5, a6, a7, a8⟩ := pk_cells hSw.p1; obtain ⟨b0, b1, b2, b3, b4, b5, b6, b7, b8⟩ := pk_cells hSw.p2; obtain ⟨c0, c1, c2, c3, c4, c5, c6, c7, c8⟩ := pk_cells hSw.p3; dsimp only at a0 a1 a2 a3 a4 a5 a6 a7 a8 b0 b1 b2 b3 b4 b5 b6 b7 b8 c0 c1 c2 c3 c4 c5 c6 c7 c8; clear hSw; go_simp; try with_reducible rfl))
    | (refine wpAnyH_take (i := 6) (oi := ⟨some 44, _, _, _, _, _⟩) (v := undef) rfl (by kernel_rfl) (by kernel_rfl) (by kernel_rfl) (fun _ _ _ h => h) (Or.inr ⟨by rfl, rfl⟩) hHeld ?rrb6)
  try simp only [Act.put, List.setIfInBounds_toArray, List.set_cons_zero, List.set_cons_succ]
  refine wpAnyH_ready (rs := [9]) (by kernel_rfl) (by simp) ?_
  refine AllReadyH.cons (o := ⟨some 47, _, _, _, _, _⟩) rfl (fun K hK => ?_) AllReadyH.nil
  go_simp
  refine (HE7.out.put pOne ex_u3 ok_one fr_one (by simp) (by simp) (by simp)).mono ?_
  rintro e w8 ⟨rfl, S8, hE⟩
  have HE8 := Lib.hid hE
  clear hE HE7
  refine hK.out _ _ (HE8.out.s) (fun hHeld2 => ?_)
  clear hK K hHeld
  have hHeld := hHeld2
  clear hHeld2
  try simp only [Act.put, List.setIfInBounds_toArray, List.set_cons_zero, List.set_cons_succ]
  first
    | (refine wpAnyH_take (i := 10) (oi := ⟨some 48, _, _, _, _, _⟩) (v := ?vb10) rfl (by kernel_rfl) (by kernel_rfl) (by kernel_rfl) (fun _ _ _ h => h) (Or.inl ⟨by rfl, ?hyb10⟩) hHeld ?rrb10
       case hyb10 => (intro wq hSw; obtain ⟨a0, a1, a2, a3, a4, a5, a6, a7, a8⟩ := pk_cells hSw.p1; obtain ⟨b0, b1, b2, b3, b4, b5, b6, b7, b8⟩ := pk_cells hSw.p2; obtain ⟨c0, c1, c2, c3, c4, c5, c6, c7, c8⟩ := pk_cells hSw.p3; dsimp only at a0 a1 a2 a3 a4 a5 a6 a7 a8 b0 b1 b2 b3 b4 b5 b6 b7 b8 c0 c1 c2 c3 c4 c5 c6 c7 c8; clear hSw; go_simp; try with_reducible rfl))
    | (refine wpAnyH_take (i := 10) (oi := ⟨some 48, _, _, _, _, _⟩) (v := undef) rfl (by kernel_rfl) (by kernel_rfl) (by kernel_rfl) (fun _ _ _ h => h) (Or.inr ⟨by rfl, rfl⟩) hHeld ?rrb10)
  try simp only [Act.put, List.setIfInBounds_toArray, List.set_cons_zero, List.set_cons_succ]
  first
    | (refine wpAnyH_take (i := 11) (oi := ⟨some 8, _, _, _, _, _⟩) (v := ?vb11) rfl (by kernel_rfl) (by kernel_rfl) (by kernel_rfl) (fun _ _ _ h => h) (Or.inl ⟨by rfl, ?hyb11⟩) hHeld ?rrb11
       case hyb11 => (intro wq hSw; obtain ⟨a0, a1, a2, a3, a4, a5, a6, a7, a8⟩ := pk_cells hSw.p1; obtain ⟨b0, b1, b2, b3, b4, b5, b6, b7, b8⟩ := pk_cells hSw.p2; obtain ⟨c0, c1, c2, c3, c4, c5, c6, c7, c8⟩ := pk_cells hSw.p3; dsimp only at a0 a1 a2 a3 a4 a5 a6 a7 a8 b0 b1 b2 b3 b4 b5 b6 b7 b8 c0 c1 c2 c3 c4 c5 c6 c7 c8; clear hSw; go_simp; try with_reducible rfl))
    | (refine wpAnyH_take (i := 11) (oi := ⟨some 8, _, _, _, _, _⟩) (v := undef) rfl (by kernel_rfl) (by kernel_rfl) (by kernel_rfl) (fun _ _ _ h => h) (Or.inr ⟨by rfl, rfl⟩) hHeld ?rrb11)
  try simp only [Act.put, List.setIfInBounds_toArray, List.set_cons_zero, List.set_cons_succ]
  refine wpAnyH_done (by kernel_rfl) ?_ _
  refine NoPanic.normal ?_
  clear hHeld
  go_upto_region 10 with fail
  refine wp_region_noPanic ?_
  refine wp_region_held_drew (S := ExS w) (by kernel_rfl) (HE8.out.rot.drew.s) (fun hHeld => ?_)
  first
    | (refine wpAnyH_take (i := 0) (oi := ⟨some 49, _, _, _, _, _⟩) (v := ?vc0) rfl (by kernel_rfl) (by kernel_rfl) (by kernel_rfl) (fun _ _ _ h => h) (Or.inl ⟨by rfl, ?hyc0⟩) hHeld ?rrc0
       case hyc0 => (intro wq hSw; obtain ⟨a0, a1, a2, a3, a4, a5, a6, a7, a8⟩ := pk_cells hSw.p1; obtain ⟨b0, b1, b2, b3, b4, b5, b6, b7, b8⟩ := pk_cells hSw.p2; obtain ⟨c0, c1, c2, c3, c4, c5, c6, c7, c8⟩ := pk_cells hSw.p3; dsimp only at a0 a1 a2 a3 a4 a5 a6 a7 a8 b0 b1 b2 b3 b4 b5 b6 b7 b8 c0 c1 c2 c3 c4 c5 c6 c7 c8; clear hSw; go_simp; try with_reducible rfl))
    | (refine wpAnyH_take (i := 0) (oi := ⟨some 49, _, _, _, _, _⟩) (v := undef) rfl (by kernel_rfl) (by kernel_rfl) (by kernel_rfl) (fun _ _ _ h => h) (Or.inr ⟨by rfl, rfl⟩) hHeld ?rrc0)
  try simp only [Act.put, List.setIfInBounds_toArray, List.set_cons_zero, List.set_cons_succ]
  first
    | (refine wpAnyH_take (i := 1) (oi := ⟨some 50, _, _, _, _, _⟩) (v := ?vc1) rfl (by kernel_rfl) (by kernel_rfl) (by kernel_rfl) (fun _ _ _ h => h) (Or.inl ⟨by rfl, ?hyc1⟩) hHeld ?rrc1
       case hyc1 => (intro wq hSw; obtain ⟨a0, a1, a2, a3, a4, a5, a6, a7, a8⟩ := pk_cells hSw.p1; obtain ⟨b0, b1, b2, b3, b4, b5, b6, b7, b8⟩ := pk_cells hSw.p2; obtain ⟨c0, c1, c2, c3, c4, c5, c6, c7, c8⟩ := pk_cells hSw.p3; dsimp only at a0 a1 a2 a3 a4 a5 a6 a7 a8 b0 b1 b2 b3 b4 b5 b6 b7 b8 c0 c1 c2 c3 c4 c5 c6 c7 c8; clear hSw; go_simp; try with_reducible rfl))
    | (refine wpAnyH_take (i := 1) (oi := ⟨some 50, _, _, _, _, _⟩) (v := undef) rfl (by kernel_rfl) (by kernel_rfl) (by kernel_rfl) (fun _ _ _ h => h) (Or.inr ⟨by rfl, rfl⟩) hHeld ?rrc1)
  try simp only [Act.put, List.setIfInBounds_toArray, List.set_cons_zero, List.set_cons_succ]
  first
    | (refine wpAnyH_take (i := 3) (oi := ⟨some 52, _, _, _, _, _⟩) (v := ?vc3) rfl (by kernel_rfl) (by kernel_rfl) (by kernel_rfl) (fun _ _ _ h => h) (Or.inl ⟨by rfl, ?hyc3⟩) hHeld ?rrc3
       case hyc3 => (intro wq hSw; obtain ⟨a0, a1, a2, a3, a4, a5, a6, a7, a8⟩ := pk_cells hSw.p1; obtain ⟨b0, b1, b2, b3, b4, b5, b6, b7, b8⟩ := pk_cells hSw.p2; obtain ⟨c0, c1, c2, c3, c4, c5, c6, c7, c8⟩ := pk_cells hSw.p3; dsimp only at a0 a1 a2 a3 a4 a5 a6 a7 a8 b0 b1 b2 b3 b4 b5 b6 b7 b8 c0 c1 c2 c3 c4 c5 c6 c7 c8; clear hSw; go_simp; try with_reducible rfl))
    | (refine wpAnyH_take (i := 3) (oi := ⟨some 52, _, _, _, _, _⟩) (v := undef) rfl (by kernel_rfl) (by kernel_rfl) (by kernel_rfl) (fun _ _ _ h => h) (Or.inr ⟨by rfl, rfl⟩) hHeld ?rrc3)
  try simp only [Act.put, List.setIfInBounds_toArray, List.set_cons_zero, List.set_cons_succ]
  first
    | (refine wpAnyH_take (i := 4) (oi := ⟨some 53, _, _, _, _, _⟩) (v := ?vc4) rfl (by kernel_rfl) (by kernel_rfl) (by kernel_rfl) (fun _ _ _ h => h) (Or.inl ⟨by rfl, ?hyc4⟩) hHeld ?rrc4
       case hyc4 => (intro wq hSw; obtain ⟨a0, a1, a2, a3, a4, a5, a6, a7, a8⟩ := pk_cells hSw.p1; obtain ⟨b0, b1, b2, b3, b4, b5, b6, b7, b8⟩ := pk_cells hSw.p2; obtain ⟨c0, c1, c2, c3, c4, c5, c6, c7, c8⟩ := pk_cells hSw.p3; dsimp only at a0 a1 a2 a3 a4 a5 a6 a7 a8 b0 b1 b2 b3 b4 b5 b6 b7 b8 c0 c1 c2 c3 c4 c5 c6 c7 c8; clear hSw; go_simp; try with_reducible rfl))
    | (refine wpAnyH_take (i := 4) (oi := ⟨some 53, _, _, _, _, _⟩) (v := undef) rfl (by kernel_rfl) (by kernel_rfl) (by kernel_rfl) (fun _ _ _ h => h) (Or.inr ⟨by rfl, rfl⟩) hHeld ?rrc4)
  try simp only [Act.put, List.setIfInBounds_toArray, List.set_cons_zero, List.set_cons_succ]
  first
    | (refine wpAnyH_take (i := 7) (oi := ⟨some 56, _, _, _, _, _⟩) (v := ?vc7) rfl (by kernel_rfl) (by kernel_rfl) (by kernel_rfl) (fun _ _ _ h => h) (Or.inl ⟨by rfl, ?hyc7⟩) hHeld ?rrc7
       case hyc7 => (intro wq hSw; obtain ⟨a0, a1, a2, a3, a4, a5, a6, a7, a8⟩ := pk_cells hSw.p1; obtain ⟨b0, b1, b2, b3, b4, b5, b6, b7, b8⟩ := pk_cells hSw.p2; obtain ⟨c0, c1, c2, c3, c4, c5, c6, c7, c8⟩ := pk_cells hSw.p3; dsimp only at a0 a1 a2 a3 a4 a5 a6 a7 a8 b0 b1 b2 b3 b4 b5 b6 b7 b8 c0 c1 c2 c3 c4 c5 c6 c7 c8; clear hSw; go_simp; try with_reducible rfl))
    | (refine wpAnyH_take (i := 7) (oi := ⟨some 56, _, _, _, _, _⟩) (v := undef) rfl (by kernel_rfl) (by kernel_rfl) (by kernel_rfl) (fun _ _ _ h => h) (Or.inr ⟨by rfl, rfl⟩) hHeld ?rrc7)
  try simp only [Act.put, List.setIfInBounds_toArray, List.set_cons_zero, List.set_cons_succ]
  first
    | (refine wpAnyH_take (i := 8) (oi := ⟨some 57, _, _, _, _, _⟩) (v := ?vc8) rfl (by kernel_rfl) (by kernel_rfl) (by kernel_rfl) (fun _ _ _ h => h) (Or.inl ⟨by rfl, ?hyc8⟩) hHeld ?rrc8
       case hyc8 => (intro wq hSw; obtain ⟨a0, a1, a2, a3, a4, a5, a6, a7, a8⟩ := pk_cells hSw.p1; obtain ⟨b0, b1, b2, b3, b4, b5, b6, b7, b8⟩ := pk_cells hSw.p2; obtain ⟨c0, c1, c2, c3, c4, c5, c6, c7, c8⟩ := pk_cells hSw.p3; dsimp only at a0 a1 a2 a3 a4 a5 a6 a7 a8 b0 b1 b2 b3 b4 b5 b6 b7 b8 c0 c1 c2 c3 c4 c5 c6 c7 c8; clear hSw; go_simp; try with_reducible rfl))
    | (refine wpAnyH_take (i := 8) (oi := ⟨some 57, _, _, _, _, _⟩) (v := undef) rfl (by kernel_rfl) (by kernel_rfl) (by kernel_rfl) (fun _ _ _ h => h) (Or.inr ⟨by rfl, rfl⟩) hHeld ?rrc8)
  try simp only [Act.put, List.setIfInBounds_toArray, List.set_cons_zero, List.set_cons_succ]
  refine wpAnyH_ready (rs := [2]) (by kernel_rfl) (by simp) ?_
  refine AllReadyH.cons (o := ⟨some 51, _, _, _, _, _⟩) rfl (fun K hK => ?_) AllReadyH.nil
  go_simp
  refine (HE8.out.rot.drew.put pOne ex_t1 ok_one fr_one (by simp) (by simp) (by simp)).mono ?_
  rintro e w9 ⟨rfl, S9, hE⟩
  have HE9 := Lib.hid hE
  clear hE HE8
  refine hK.out _ _ (HE9.out.s) (fun hHeld2 => ?_)
  clear hK K hHeld
  have hHeld := hHeld2
  clear hHeld2
  try simp only [Act.put, List.setIfInBounds_toArray, List.set_cons_zero, List.set_cons_succ]
  refine wpAnyH_ready (rs := [5]) (by kernel_rfl) (by simp) ?_
  refine AllReadyH.cons (o := ⟨some 54, _, _, _, _, _⟩) rfl (fun K hK => ?_) AllReadyH.nil
  go_simp
  refine (HE9.out.put pOdd ex_v2 ok_odd fr_odd (by simp) (by simp) (by simp)).mono ?_
  rintro e w10 ⟨rfl, S10, hE⟩
  have HE10 := Lib.hid hE
  clear hE HE9
  refine hK.out _ _ (HE10.out.s) (fun hHeld2 => ?_)
  clear hK K hHeld
  have hHeld := hHeld2
  clear hHeld2
  try simp only [Act.put, List.setIfInBounds_toArray, List.set_cons_zero, List.set_cons_succ]
  first
    | (refine wpAnyH_take (i := 6) (oi := ⟨some 55, _, _, _, _, _⟩) (v := ?vc6) rfl (by kernel_rfl) (by kernel_rfl) (by kernel_rfl) (fun _ _ _ h => h) (Or.inl ⟨by rfl, ?hyc6⟩) hHeld ?rrc6
       case hyc6 => (intro wq hSw; obtain ⟨a0, a1, a2, a3, a4, a5, a6, a7, a8⟩ := pk_cells hSw.p1; obtain ⟨b0, b1, b2, b3, b4, b5, b6, b7, b8⟩ := pk_cells hSw.p2; obtain ⟨c0, c1, c2, c3, c4, c5, c6, c7, c8⟩ := pk_cells hSw.p3; dsimp only at a0 a1 a2 a3 a4 a5 a6 a7 a8 b0 b1 b2 b3 b4 b5 b6 b7 b8 c0 c1 c2 c3 c4 c5 c6 c7 c8; clear hSw; go_simp; try with_reducible rfl))
    | (refine wpAnyH_take (i := 6) (oi := ⟨some 55, _, _, _, _, _⟩) (v := undef) rfl (by kernel_rfl) (by kernel_rfl) (by kernel_rfl) (fun _ _ _ h => h) (Or.inr ⟨by rfl, rfl⟩) hHeld ?rrc6)
  try simp only [Act.put, List.setIfInBounds_toArray, List.set_cons_zero, List.set_cons_succ]
  refine wpAnyH_ready (rs := [9]) (by kernel_rfl) (by simp) ?_
  refine AllReadyH.cons (o := ⟨some 58, _, _, _, _, _⟩) rfl (fun K hK => ?_) AllReadyH.nil
  go_simp
  refine (HE10.out.put pTwo ex_v3 ok_two fr_two (by simp) (by simp) (by simp)).mono ?_
  rintro e w11 ⟨rfl, S11, hE⟩
  have HE11 := Lib.hid hE
  clear hE HE10
  refine hK.out _ _ (HE11.out.s) (fun hHeld2 => ?_)
  clear hK K hHeld
  have hHeld := hHeld2
  clear hHeld2
  try simp only [Act.put, List.setIfInBounds_toArray, List.set_cons_zero, List.set_cons_succ]
  first
    | (refine wpAnyH_take (i := 10) (oi := ⟨some 59, _, _, _, _, _⟩) (v := ?vc10) rfl (by kernel_rfl) (by kernel_rfl) (by kernel_rfl) (fun _ _ _ h => h) (Or.inl ⟨by rfl, ?hyc10⟩) hHeld ?rrc10
       case hyc10 => (intro wq hSw; obtain ⟨a0, a1, a2, a3, a4, a5, a6, a7, a8⟩ := pk_cells hSw.p1; obtain ⟨b0, b1, b2, b3, b4, b5, b6, b7, b8⟩ := pk_cells hSw.p2; obtain ⟨c0, c1, c2, c3, c4, c5, c6, c7, c8⟩ := pk_cells hSw.p3; dsimp only at a0 a1 a2 a3 a4 a5 a6 a7 a8 b0 b1 b2 b3 b4 b5 b6 b7 b8 c0 c1 c2 c3 c4 c5 c6 c7 c8; clear hSw; go_simp; try with_reducible rfl))
    | (refine wpAnyH_take (i := 10) (oi := ⟨some 59, _, _, _, _, _⟩) (v := undef) rfl (by kernel_rfl) (by kernel_rfl) (by kernel_rfl) (fun _ _ _ h => h) (Or.inr ⟨by rfl, rfl⟩) hHeld ?rrc10)
  try simp only [Act.put, List.setIfInBounds_toArray, List.set_cons_zero, List.set_cons_succ]
  first
    | (refine wpAnyH_take (i := 11) (oi := ⟨some 9, _, _, _, _, _⟩) (v := ?vc11) rfl (by kernel_rfl) (by kernel_rfl) (by kernel_rfl) (fun _ _ _ h => h) (Or.inl ⟨by rfl, ?hyc11⟩) hHeld ?rrc11
       case hyc11 => (intro wq hSw; obtain ⟨a0, a1, a2, a3, a4, a5, a6, a7, a8⟩ := pk_cells hSw.p1; obtain ⟨b0, b1, b2, b3, b4, b5, b6, b7, b8⟩ := pk_cells hSw.p2; obtain ⟨c0, c1, c2, c3, c4, c5, c6, c7, c8⟩ := pk_cells hSw.p3; dsimp only at a0 a1 a2 a3 a4 a5 a6 a7 a8 b0 b1 b2 b3 b4 b5 b6 b7 b8 c0 c1 c2 c3 c4 c5 c6 c7 c8; clear hSw; go_simp; try with_reducible rfl))
    | (refine wpAnyH_take (i := 11) (oi := ⟨some 9, _, _, _, _, _⟩) (v := undef) rfl (by kernel_rfl) (by kernel_rfl) (by kernel_rfl) (fun _ _ _ h => h) (Or.inr ⟨by rfl, rfl⟩) hHeld ?rrc11)
  try simp only [Act.put, List.setIfInBounds_toArray, List.set_cons_zero, List.set_cons_succ]
  refine wpAnyH_done (by kernel_rfl) ?_ _
  refine NoPanic.normal ?_
  clear hHeld
  go_wp2_with fail
  refine (HE11.out.rot.rot.sizes (n := 1) (m := 8) rfl rfl (by simp)).mono ?_
  rintro e w12 ⟨rfl, hE⟩
  have HE12 := Lib.hid hE
  clear hE HE11
  go_wp2_with fail
  refine (HE12.out.rot.sizes (n := 1) (m := 0) rfl rfl (by simp)).mono ?_
  rintro e w13 ⟨rfl, hE⟩
  have HE13 := Lib.hid hE
  clear hE HE12
  go_wp2_with fail
  refine (HE13.out.rot.rot.tick 29 (by simp) (by decide) (by decide) (by simp) (n := 0) rfl ex_out29).mono ?_
  rintro e w14 ⟨q1, c1, rfl, -, -, -, S14, hE⟩
  have HE14 := Lib.hid hE
  clear hE HE13
  go_wp2_with fail
  refine (HE14.out.tick 30 (by simp) (by decide) (by decide) (by simp) (n := 1) rfl ex_out30).mono ?_
  rintro e w15 ⟨q2, c2, rfl, hR15, -, -, S15, hE⟩
  have HR15 := Lib.hid hR15
  have HE15 := Lib.hid hE
  have HL15 := Lib.hid (fun k (hk : S11 k) => (HE14.out.tb.bd k hk).2)
  clear hE HE14 hR15
  go_wp2_with fail
  refine (HE15.out.rot.tick 30 (by simp) (by decide) (by decide) (by simp) (n := 0) rfl ex_outR).mono ?_
  rintro e w16 ⟨q3, c3, rfl, -, hT16, -, S16, hE⟩
  have HR16 := Lib.hid (row_touch HR15.out hT16 HL15.out)
  have HE16 := Lib.hid hE
  clear hE HE15 hT16 HR15 HL15
  have hp1 := pk_cells HE16.out.p1
  obtain ⟨a0, a1, a2, a3, a4, a5, a6, a7, a8⟩ := hp1
  dsimp only at a0 a1 a2 a3 a4 a5 a6 a7 a8
  go_wp2_with fail
  have hnil := put_nil 0 pOne w16
  unfold resV at hnil
  refine hnil.mono ?_
  clear hnil
  rintro e w17 ⟨rfl, hb17⟩
  clear a0 a1 a2 a3 a4 a5 a6 a7 a8
  have HB17 := Lib.hid hb17
  clear hb17
  go_wp2_with fail
  have hbad := fun W => put_bad T1 0 pz (by decide) (by decide) W
  unfold resV at hbad
  refine (hbad _).mono ?_
  clear hbad
  rintro e w18 ⟨rfl, hb18⟩
  have HB18 := Lib.hid hb18
  clear hb18
  have hB : Below w16.heap.size w16 (w18.alloc (po pz)) := ((HB17.out.alloc HB17.out.size (po pz)).trans (HB18.out.mono (by have := HB17.out.size; simp; omega))).alloc (by have := HB17.out.size; have := HB18.out.size; simp at this; omega) _
  have hE19 := HE16.out.below hB
  have hR19 := row_of_block HR16.out fun k hk => hB.block k (HR16.out.lt k hk).2
  have HE19 := Lib.hid hE19
  have HR19 := Lib.hid hR19
  clear hE19 hR19 hB
  go_upto_region 19 with fail
  have e1 : (⟨#[45]⟩ : ByteArray) ++ ⟨#[97, 98, 99, 100, 101, 102, 103, 104, 105, 106]⟩ = ⟨#[45, 97, 98, 99, 100, 101, 102, 103, 104, 105, 106]⟩ := rfl
  have e2 : (⟨#[45, 97, 98, 99, 100, 101, 102, 103, 104, 105, 106]⟩ : ByteArray) ++ ⟨#[45]⟩ = ⟨#[45, 97, 98, 99, 100, 101, 102, 103, 104, 105, 106, 45]⟩ := rfl
  have e3 : (⟨#[45]⟩ : ByteArray) ++ ⟨#[33]⟩ ++ ⟨#[33]⟩ = ⟨#[45, 33, 33]⟩ := rfl
  have hp1 := pk_cells HE19.out.p1
  obtain ⟨a0, a1, a2, a3, a4, a5, a6, a7, a8⟩ := hp1
  dsimp only at a0 a1 a2 a3 a4 a5 a6 a7 a8
  simp only [e1, e2, e3]
  clear e1 e2 e3
  go_wp2_with fail
  have hlit := row_lit (w18.alloc (po pz)) pOne
  have hsz : (w18.alloc (po pz)).heap.size = w18.heap.size + 1 := by simp
  have hq : (Value.slice (some ⟨(w18.alloc (po pz)).heap.size, 0, none⟩) 1 1) = Value.slice (some ⟨w18.heap.size + 1, 0, none⟩) 1 1 := by rw [hsz]
  rw [hq] at hlit
  refine (same_eq (L := [pOne]) (HR19.out.alloc (po pOne)) hlit (by simp)).mono ?_
  clear hlit hsz hq
  rintro e w20 ⟨rfl, hb20⟩
  have HB20 := Lib.hid hb20
  clear hb20 a0 a1 a2 a3 a4 a5 a6 a7 a8
  go_wp2_with fail
  refine (lput_w 0 pEnd (by decide) (by decide) rfl rfl).mono ?_
  rintro e w21 ⟨rfl, hb21⟩
  have HB21 := Lib.hid hb21
  clear hb21
  go_wp2_with fail
  go_ret
  refine ⟨?_, ?_⟩
  · rfl
  · have hb20 := HB20.out
    have hb21 := HB21.out
    have hl := HE19.out.bl
    have s1 := hl.size
    simp at s1
    refine ((hl.alloc hl.size _).trans (hb20.mono ?_)).trans (hb21.mono ?_)
    · simp; omega
    · have := hb20.size
      simp at this
      omega
end Go.Proofs.Ytecboengeheapaa
