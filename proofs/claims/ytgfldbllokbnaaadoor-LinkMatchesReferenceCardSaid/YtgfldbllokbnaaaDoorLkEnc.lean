/- Contract of link.Encode. -/
import Derived.Test.YtgfldbllokbnaaaDoorLkMem
import Derived.Test.YtgfldbllokbnaaaDoorLkWr
import Derived.Test.YtgfldbllokbnaaaDoorCrcExact
import Derived.Deep.AppendLies
namespace Go.Proofs.YtgfldbllokbnaaaDoor
open Go.RowKit Go.Shelf
attribute [local go_sem] Oper.semAt_some

/-- the fixed fields' values -/
def fV (a b c n : Int) : Fin 4 → Int
  | 0 => a
  | 1 => b
  | 2 => c
  | 3 => n
def flat (a b c n : Int) (pre : List (Fin 4)) : List Value := pre.flatMap fun i => [.int .i64 (fV a b c n i), .int .i64 (fSz i)]
theorem flat_length (a b c n : Int) (pre : List (Fin 4)) : (flat a b c n pre).length = pre.length * 2 := by
  induction pre with
  | nil => rfl
  | cons i t ih => simp only [flat, List.flatMap_cons, List.length_append, List.length_cons] at ih ⊢; rw [ih]; simp; omega
theorem flat_snoc (a b c n : Int) (pre : List (Fin 4)) (x : Fin 4) : flat a b c n (pre ++ [x]) = flat a b c n pre ++ [.int .i64 (fV a b c n x), .int .i64 (fSz x)] := by
  simp [flat]
theorem infoSized : (Tryd.prog.info? 50).map (fun i => (i.zero, i.size, i.bytes)) = some (some (.agg #[.int .i64 0, .int .i64 0]), 2, 16) := by kernel_rfl

/-- the same by index -/
def nfF (a b c n : Int) : Nat → Int
  | 0 => a
  | 1 => b
  | 2 => c
  | _ => n
def bfF : Nat → Int
  | 2 => 1
  | _ => 2
theorem hdr_cat (a b c n : Int) : catN (nfF a b c n) bfF 4 = ((beS 2 a ++ beS 2 b) ++ beS 1 c) ++ beS 2 n := by
  simp [catN, nfF, bfF]

/-- the bytes ahead of the checksum, and the encoding -/
def bodyS (a b c : Int) (s : ByteArray) : ByteArray := (((beS 2 a ++ beS 2 b) ++ beS 1 c) ++ beS 2 (s.size : Int)) ++ s
def encS (a b c : Int) (s : ByteArray) : ByteArray := bodyS a b c s ++ beS 4 ((crcN (bodyS a b c s).data.toList : Nat) : Int)

theorem encode_no (a b c : Int) (s : ByteArray) (w : World) (h : ¬ okF a b c s.size) :
    Calls Tryd.prog 11 #[fv a b c s] w fun e w' => e = .returned (.tuple #[.string ByteArray.empty, .int .i64 40]) ∧ Below w.heap.size w w' := by
  have hd : decide (okF a b c s.size) = false := decide_eq_false h
  go_enter Tryd.func11, Tryd.ntmps11
  go_wp2_with fail
  refine (valid_any _ _ _ _ _).mono ?_
  rintro e w1 ⟨rfl, rfl⟩
  rw [hd]
  go_wp2
  go_ret2
  exact ⟨rfl, ((Below.refl _ w).alloc (Nat.le_refl _) _).alloc (by simp) _⟩

set_option maxRecDepth 100000 in
set_option maxHeartbeats 3000000 in
theorem encode_in (a b c : Int) (s : ByteArray) (w : World) (h : okF a b c s.size) :
    CallsIn Fence.wide 3 Tryd.prog 11 #[fv a b c s] w fun e w' => e = .returned (.tuple #[.string (encS a b c s), .int .i64 0]) ∧ Below w.heap.size w w' := by
  have hro : Fence.wide.round = none := rfl
  have h1 : 1 ≤ 3 := by decide
  have hd : decide (okF a b c s.size) = true := decide_eq_true h
  refine callsIn_of_wp_marks Tryd.func11 rfl trivial ?_ hro
  simp only [Tryd.ntmps11, List.size_toArray, List.length_cons, List.length_nil, Nat.reduceAdd, Nat.reduceSub, Array.replicate_succ, Array.replicate_zero, List.push_toArray, List.append_toArray, List.nil_append, List.cons_append]
  gi_wp2_with (refine ⟨trivial, ?_⟩; gi_at_call 15; refine (callsIn_wide.2 (valid_any _ _ _ _ _)).mono ?_; rintro e w1 ⟨rfl, rfl⟩; rw [hd])
  refine ⟨trivial, ?_⟩
  refine (fields_in Fence.wide _ trivial hro _ _ _).mono ?_
  rintro e w5 ⟨rfl, hw5⟩
  have hF5 : w5.heap[w.heap.size]? = some (fo a b c s) := by rw [hw5]; exact blk_alloc (blk_alloc (blk_alloc (blk_alloc (blk_alloc (blk_new w _) _) _) _) _) _
  have hL5 : w5.heap[w.heap.size + 1 + 1]? = some (.cells #[.int .i64 (s.size : Int)] 3) := by
    rw [hw5]; have := blk_alloc (blk_alloc (blk_alloc (blk_new ((w.alloc (fo a b c s)).alloc (fo a b c s)) (.cells #[.int .i64 (s.size : Int)] 3)) (.cells #[.slice none 0 0] 43)) (.cells #[.pointer (some ⟨w.heap.size, 0, none⟩)] 47)) (.cells #[.pointer (some ⟨w.heap.size + 1 + 1, 0, none⟩)] 48)
    simp only [World.size_alloc] at this; exact this
  have hH5 : w5.heap[w.heap.size + 1 + 1 + 1]? = some (.cells #[.slice none 0 0] 43) := by
    rw [hw5]; have := blk_alloc (blk_alloc (blk_new (((w.alloc (fo a b c s)).alloc (fo a b c s)).alloc (.cells #[.int .i64 (s.size : Int)] 3)) (.cells #[.slice none 0 0] 43)) (.cells #[.pointer (some ⟨w.heap.size, 0, none⟩)] 47)) (.cells #[.pointer (some ⟨w.heap.size + 1 + 1, 0, none⟩)] 48)
    simp only [World.size_alloc] at this; exact this
  have hP5 : w5.heap[w.heap.size + 1 + 1 + 1 + 1]? = some (.cells #[.pointer (some ⟨w.heap.size, 0, none⟩)] 47) := by
    rw [hw5]; have := blk_alloc (blk_new ((((w.alloc (fo a b c s)).alloc (fo a b c s)).alloc (.cells #[.int .i64 (s.size : Int)] 3)).alloc (.cells #[.slice none 0 0] 43)) (.cells #[.pointer (some ⟨w.heap.size, 0, none⟩)] 47)) (.cells #[.pointer (some ⟨w.heap.size + 1 + 1, 0, none⟩)] 48)
    simp only [World.size_alloc] at this; exact this
  have hQ5 : w5.heap[w.heap.size + 1 + 1 + 1 + 1 + 1]? = some (.cells #[.pointer (some ⟨w.heap.size + 1 + 1, 0, none⟩)] 48) := by
    rw [hw5]; have := blk_new (((((w.alloc (fo a b c s)).alloc (fo a b c s)).alloc (.cells #[.int .i64 (s.size : Int)] 3)).alloc (.cells #[.slice none 0 0] 43)).alloc (.cells #[.pointer (some ⟨w.heap.size, 0, none⟩)] 47)) (.cells #[.pointer (some ⟨w.heap.size + 1 + 1, 0, none⟩)] 48)
    simp only [World.size_alloc] at this; exact this
  have hs5 : w5.heap.size = w.heap.size + 6 := by rw [hw5]; simp
  have hB5 : Below w.heap.size w w5 := by rw [hw5]; exact ((((((Below.refl _ w).alloc (Nat.le_refl _) _).alloc (by simp) _).alloc (by simp; omega) _).alloc (by simp; omega) _).alloc (by simp; omega) _).alloc (by simp; omega) _
  clear hw5
  gi_wp2
  refine wpIn_rangeFunc_ownF hro h1 (gf := 33) (lb := #[.pointer (some ⟨w.heap.size + 1 + 1 + 1 + 1, 0, none⟩), .pointer (some ⟨w.heap.size + 1 + 1 + 1 + 1 + 1, 0, none⟩)]) rfl trivial (enters_of Tryd.func33 (by kernel_rfl) rfl)
    (fields_stops Fence.wide _ trivial hro (by decide) (w.heap.size + 1 + 1 + 1 + 1) w.heap.size (w.heap.size + 1 + 1) w5 (by omega) (blk_cell hP5 rfl).1 (blk_cell hQ5 rfl).1)
    (fun h k => ⟨k.1.trans h.1, k.2.trans h.2⟩)
    (fun W l o o' hl h _ _ => ⟨World.putObj_heap_other (by omega), World.putObj_heap_other (by omega)⟩) (Below.refl _ _) (fun _ => rfl)
    (fun pre W => (((W.heap[w.heap.size]? = some (fo a b c s) ∧ W.heap[w.heap.size + 1 + 1]? = some (.cells #[.int .i64 (s.size : Int)] 3 (0, 0))) ∧
      (W.heap[w.heap.size + 1 + 1 + 1 + 1]? = some (.cells #[.pointer (some ⟨w.heap.size, 0, none⟩)] 47 (0, 0)) ∧ W.heap[w.heap.size + 1 + 1 + 1 + 1 + 1]? = some (.cells #[.pointer (some ⟨w.heap.size + 1 + 1, 0, none⟩)] 48 (0, 0)))) ∧
      (∃ v, Boxed W (w.heap.size + 1 + 1 + 1) 43 v ∧ W.ownsRow w.heap.size 50 2 v pre.length (flat a b c s.size pre) ∧ True)) ∧ Below w.heap.size w W)
    (fun _ _ _ => False)
    (OwnFrom.and (OwnFrom.and (OwnFrom.and (OwnFrom.and (Own.from (cells_own _ (fun _ => _) _) _) (Own.from (cells_own _ (fun _ => _) _) _)) (OwnFrom.and (Own.from (cells_own _ (fun _ => _) _) _) (Own.from (cells_own _ (fun _ => _) _) _)))
      (Own.from (holdsRow_own w.heap.size (w.heap.size + 1 + 1 + 1) 43 50 2 (fun pre => pre.length) (fun pre => flat a b c s.size pre) (fun _ _ => True)) _)) (ownFrom_below (Nat.le_refl _) (by omega)))
    (fun _ _ _ _ _ hs _ _ => hs)
    ⟨⟨⟨⟨hF5, hL5⟩, hP5, hQ5⟩, _, hH5, World.ownsRow_nil _ _ _ _, trivial⟩, hB5⟩
    (fun x => { tmps := #[fv a b c s, .pointer (some ⟨w.heap.size, 0, none⟩), .string ⟨#[]⟩, .int .i64 0, .pointer (some ⟨w.heap.size + 1 + 1, 0, none⟩), .pointer (some ⟨w.heap.size + 1 + 1 + 1, 0, none⟩),
      .pointer (some (fAt w.heap.size (w.heap.size + 1 + 1) x)), .int .i64 (fSz x), undef, fv a b c s, .bool true, .bool false, .pointer (some ⟨w.heap.size, 3, none⟩), .string s, .int .i64 (s.size : Int),
      .func (.func 33) #[] #[.pointer (some ⟨w.heap.size + 1 + 1 + 1 + 1, 0, none⟩), .pointer (some ⟨w.heap.size + 1 + 1 + 1 + 1 + 1, 0, none⟩)],
      .pointer (some (fAt w.heap.size (w.heap.size + 1 + 1) x)), .int .i64 (fSz x), undef, undef, undef, undef, undef, undef, undef, undef, undef, undef, undef, undef, undef, undef, undef, undef, undef, undef, undef, undef], defers := [] }) ?assign ?body ?done ?stop
  case assign =>
    intro l x W K hK
    unfold fenc
    gi_wp2
    exact hK
  case body =>
    rintro l pre x W ⟨⟨⟨⟨hF, hL⟩, hP, hQ⟩, v, hv, hrow, -⟩, hB⟩ hlt
    have hc := hv.cell
    have hA : W.cell? (fAt w.heap.size (w.heap.size + 1 + 1) x) = some (.int .i64 (fV a b c s.size x)) := by
      obtain rfl | rfl | rfl | rfl : x = 0 ∨ x = 1 ∨ x = 2 ∨ x = 3 := by revert x; decide
      · exact (blk_cell hF rfl).1
      · exact (blk_cell hF rfl).1
      · exact (blk_cell hF rfl).1
      · exact (blk_cell hL rfl).1
    obtain ⟨i0, hi, hz0, hz1, hz2⟩ := info_parts infoSized
    have hB' := hB.size
    gi_wp2
    refine region_round (by kernel_rfl) (fun ⟨_, _, h⟩ => h) (by kernel_rfl) (fun _ => True) trivial (fun _ => ?_)
    have hn3 : w.heap.size + 1 + 1 + 1 ≠ W.heap.size := by have := hv.lt; omega
    have hAw := cell_lt hA
    have hA2 : ∀ o, (W.alloc o).cell? (fAt w.heap.size (w.heap.size + 1 + 1) x) = some (.int .i64 (fV a b c s.size x)) := fun o => cell_alloc hA o
    have hc2 : ∀ o, (W.alloc o).cell? ⟨w.heap.size + 1 + 1 + 1, 0, none⟩ = some v := fun o => cell_alloc hc o
    refine wpAnyH_take (i := 1) (oi := ⟨some 19, _, _, _, _, _⟩) (v := ?v0) rfl (by kernel_rfl) (by kernel_rfl) (by kernel_rfl) (fun _ _ _ h => h) (Or.inl ⟨by rfl, ?hy0⟩) trivial ?rr0
    case hy0 => (intro w hSw; go_simp; try with_reducible rfl)
    try simp only [Act.put, List.setIfInBounds_toArray, List.set_cons_zero, List.set_cons_succ]
    refine wpAnyH_take (i := 2) (oi := ⟨some 20, _, _, _, _, _⟩) (v := ?v1) rfl (by kernel_rfl) (by kernel_rfl) (by kernel_rfl) (fun _ _ _ h => h) (Or.inl ⟨by rfl, ?hy1⟩) trivial ?rr1
    case hy1 => (intro w hSw; go_simp; try with_reducible rfl)
    try simp only [Act.put, List.setIfInBounds_toArray, List.set_cons_zero, List.set_cons_succ]
    refine wpAnyH_take (i := 4) (oi := ⟨some 22, _, _, _, _, _⟩) (v := ?v2) rfl (by kernel_rfl) (by kernel_rfl) (by kernel_rfl) (fun _ _ _ h => h) (Or.inl ⟨by rfl, ?hy2⟩) trivial ?rr2
    case hy2 => (intro w hSw; go_simp; try with_reducible rfl)
    try simp only [Act.put, List.setIfInBounds_toArray, List.set_cons_zero, List.set_cons_succ]
    refine wpAnyH_ready (rs := [0, 3]) (by kernel_rfl) (by simp) ?_
    refine AllReadyH.cons (o := ⟨some 18, _, _, _, _, _⟩) rfl (fun K hK => ?b3x0) (AllReadyH.cons (o := ⟨some 21, _, _, _, _, _⟩) rfl (fun K hK => ?b3x3) AllReadyH.nil)
    case b3x0 =>
      go_simp
      refine hK.out _ _ trivial (fun _ => ?_)
      clear hK K
      try simp only [Act.put, List.setIfInBounds_toArray, List.set_cons_zero, List.set_cons_succ]
      refine wpAnyH_ready (rs := [3]) (by kernel_rfl) (by simp) ?_
      refine AllReadyH.cons (o := ⟨some 21, _, _, _, _, _⟩) rfl (fun K hK => ?_) AllReadyH.nil
      go_simp
      refine hK.out _ _ trivial (fun _ => ?_)
      clear hK K
      try simp only [Act.put, List.setIfInBounds_toArray, List.set_cons_zero, List.set_cons_succ]
      refine wpAnyH_take (i := 5) (oi := ⟨some 23, _, _, _, _, _⟩) (v := ?v4) rfl (by kernel_rfl) (by kernel_rfl) (by kernel_rfl) (fun _ _ _ h => h) (Or.inl ⟨by rfl, ?hy4⟩) trivial ?rr4
      case hy4 => (intro w hSw; go_simp; try with_reducible rfl)
      try simp only [Act.put, List.setIfInBounds_toArray, List.set_cons_zero, List.set_cons_succ]
      refine wpAnyH_ready (rs := [6]) (by kernel_rfl) (by simp) ?_
      refine AllReadyH.cons (o := ⟨some 24, _, _, _, _, _⟩) rfl (fun K hK => ?_) AllReadyH.nil
      go_simp
      refine hK.out _ _ trivial (fun _ => ?_)
      clear hK K
      try simp only [Act.put, List.setIfInBounds_toArray, List.set_cons_zero, List.set_cons_succ]
      refine wpAnyH_ready (rs := [7]) (by kernel_rfl) (by simp) ?_
      refine AllReadyH.cons (o := ⟨some 25, _, _, _, _, _⟩) rfl (fun K hK => ?_) AllReadyH.nil
      refine step_append_lies _ rfl (.tmp 18) (.tmp 24) 43 rfl w.heap.size 50 i0 (.agg #[.int .i64 0, .int .i64 0]) 2 16 Tryd.underlying43 hi hz0 hz1 hz2 rfl (by decide) v pre.length _ (by simp [Act.eval]) (by exact hrow.alloc _)
        ⟨W.heap.size, 0, none⟩ 1 1 [.int .i64 (fV a b c s.size x), .int .i64 (fSz x)] (by simp [Act.eval]) rfl (World.news_of_block (blk_new W.drew _)) (by simp [Value.oneCell']) (by decide) (by unfold maxLen; omega) (by omega) (by simp; omega) (W.heap.size + 1) (by simp) ?_
      intro g cap w3 hown3 hgrow hat hlt3
      have hg3 : (W.alloc (.cells #[.int .i64 (fV a b c s.size x), .int .i64 (fSz x)] 50)).grownBy w3 v.ownBlock := ⟨hgrow.os, hgrow.tape, hgrow.output, hgrow.size, hgrow.block⟩
      obtain ⟨hv1, hv2, hr2, hk2, hb2⟩ := hv.appended (by decide) hrow hB.size (by omega) hown3 hg3
      obtain ⟨f1, f2⟩ := blk_appended hF (by decide) hrow hg3 (B := w.heap.size + 1 + 1 + 1) (by omega) (.slice (some ⟨g, 0, none⟩) (pre.length + 1) cap)
      obtain ⟨l1, l2⟩ := blk_appended hL (by decide) hrow hg3 (B := w.heap.size + 1 + 1 + 1) (by omega) (.slice (some ⟨g, 0, none⟩) (pre.length + 1) cap)
      obtain ⟨p1, p2⟩ := blk_appended hP (by decide) hrow hg3 (B := w.heap.size + 1 + 1 + 1) (by omega) (.slice (some ⟨g, 0, none⟩) (pre.length + 1) cap)
      obtain ⟨q1, q2⟩ := blk_appended hQ (by decide) hrow hg3 (B := w.heap.size + 1 + 1 + 1) (by omega) (.slice (some ⟨g, 0, none⟩) (pre.length + 1) cap)
      have hc1 := hv1.cell
      have hf1 := hv1.frozen
      refine hK.out _ _ trivial (fun _ => ?_)
      clear hK K
      try simp only [Act.put, List.setIfInBounds_toArray, List.set_cons_zero, List.set_cons_succ]
      refine wpAnyH_ready (rs := [8]) (by kernel_rfl) (by simp) ?_
      refine AllReadyH.cons (o := ⟨none, _, _, _, _, _⟩) rfl (fun K hK => ?_) AllReadyH.nil
      go_simp
      refine hK.out _ _ trivial (fun _ => ?_)
      clear hK K
      try simp only [Act.put, List.setIfInBounds_toArray, List.set_cons_zero, List.set_cons_succ]
      refine wpAnyH_done (by kernel_rfl) ?_ _
      refine ⟨hk2, ⟨p2.trans hP.symm, q2.trans hQ.symm⟩, ⟨⟨⟨f2, l2⟩, p2, q2⟩, _, hv2, ?_, trivial⟩, hB.trans hb2⟩
      rw [flat_snoc, List.length_append]; exact hr2
    case b3x3 =>
      go_simp
      refine hK.out _ _ trivial (fun _ => ?_)
      clear hK K
      try simp only [Act.put, List.setIfInBounds_toArray, List.set_cons_zero, List.set_cons_succ]
      refine wpAnyH_take (i := 5) (oi := ⟨some 23, _, _, _, _, _⟩) (v := ?v5) rfl (by kernel_rfl) (by kernel_rfl) (by kernel_rfl) (fun _ _ _ h => h) (Or.inl ⟨by rfl, ?hy5⟩) trivial ?rr5
      case hy5 => (intro w hSw; go_simp; try with_reducible rfl)
      try simp only [Act.put, List.setIfInBounds_toArray, List.set_cons_zero, List.set_cons_succ]
      refine wpAnyH_ready (rs := [0, 6]) (by kernel_rfl) (by simp) ?_
      refine AllReadyH.cons (o := ⟨some 18, _, _, _, _, _⟩) rfl (fun K hK => ?b6x0) (AllReadyH.cons (o := ⟨some 24, _, _, _, _, _⟩) rfl (fun K hK => ?b6x6) AllReadyH.nil)
      case b6x0 =>
        go_simp
        refine hK.out _ _ trivial (fun _ => ?_)
        clear hK K
        try simp only [Act.put, List.setIfInBounds_toArray, List.set_cons_zero, List.set_cons_succ]
        refine wpAnyH_ready (rs := [6]) (by kernel_rfl) (by simp) ?_
        refine AllReadyH.cons (o := ⟨some 24, _, _, _, _, _⟩) rfl (fun K hK => ?_) AllReadyH.nil
        go_simp
        refine hK.out _ _ trivial (fun _ => ?_)
        clear hK K
        try simp only [Act.put, List.setIfInBounds_toArray, List.set_cons_zero, List.set_cons_succ]
        refine wpAnyH_ready (rs := [7]) (by kernel_rfl) (by simp) ?_
        refine AllReadyH.cons (o := ⟨some 25, _, _, _, _, _⟩) rfl (fun K hK => ?_) AllReadyH.nil
        refine step_append_lies _ rfl (.tmp 18) (.tmp 24) 43 rfl w.heap.size 50 i0 (.agg #[.int .i64 0, .int .i64 0]) 2 16 Tryd.underlying43 hi hz0 hz1 hz2 rfl (by decide) v pre.length _ (by simp [Act.eval]) (by exact hrow.alloc _)
          ⟨W.heap.size, 0, none⟩ 1 1 [.int .i64 (fV a b c s.size x), .int .i64 (fSz x)] (by simp [Act.eval]) rfl (World.news_of_block (blk_new W.drew _)) (by simp [Value.oneCell']) (by decide) (by unfold maxLen; omega) (by omega) (by simp; omega) (W.heap.size + 1) (by simp) ?_
        intro g cap w3 hown3 hgrow hat hlt3
        have hg3 : (W.alloc (.cells #[.int .i64 (fV a b c s.size x), .int .i64 (fSz x)] 50)).grownBy w3 v.ownBlock := ⟨hgrow.os, hgrow.tape, hgrow.output, hgrow.size, hgrow.block⟩
        obtain ⟨hv1, hv2, hr2, hk2, hb2⟩ := hv.appended (by decide) hrow hB.size (by omega) hown3 hg3
        obtain ⟨f1, f2⟩ := blk_appended hF (by decide) hrow hg3 (B := w.heap.size + 1 + 1 + 1) (by omega) (.slice (some ⟨g, 0, none⟩) (pre.length + 1) cap)
        obtain ⟨l1, l2⟩ := blk_appended hL (by decide) hrow hg3 (B := w.heap.size + 1 + 1 + 1) (by omega) (.slice (some ⟨g, 0, none⟩) (pre.length + 1) cap)
        obtain ⟨p1, p2⟩ := blk_appended hP (by decide) hrow hg3 (B := w.heap.size + 1 + 1 + 1) (by omega) (.slice (some ⟨g, 0, none⟩) (pre.length + 1) cap)
        obtain ⟨q1, q2⟩ := blk_appended hQ (by decide) hrow hg3 (B := w.heap.size + 1 + 1 + 1) (by omega) (.slice (some ⟨g, 0, none⟩) (pre.length + 1) cap)
        have hc1 := hv1.cell
        have hf1 := hv1.frozen
        refine hK.out _ _ trivial (fun _ => ?_)
        clear hK K
        try simp only [Act.put, List.setIfInBounds_toArray, List.set_cons_zero, List.set_cons_succ]
        refine wpAnyH_ready (rs := [8]) (by kernel_rfl) (by simp) ?_
        refine AllReadyH.cons (o := ⟨none, _, _, _, _, _⟩) rfl (fun K hK => ?_) AllReadyH.nil
        go_simp
        refine hK.out _ _ trivial (fun _ => ?_)
        clear hK K
        try simp only [Act.put, List.setIfInBounds_toArray, List.set_cons_zero, List.set_cons_succ]
        refine wpAnyH_done (by kernel_rfl) ?_ _
        refine ⟨hk2, ⟨p2.trans hP.symm, q2.trans hQ.symm⟩, ⟨⟨⟨f2, l2⟩, p2, q2⟩, _, hv2, ?_, trivial⟩, hB.trans hb2⟩
        rw [flat_snoc, List.length_append]; exact hr2
      case b6x6 =>
        go_simp
        refine hK.out _ _ trivial (fun _ => ?_)
        clear hK K
        try simp only [Act.put, List.setIfInBounds_toArray, List.set_cons_zero, List.set_cons_succ]
        refine wpAnyH_ready (rs := [0]) (by kernel_rfl) (by simp) ?_
        refine AllReadyH.cons (o := ⟨some 18, _, _, _, _, _⟩) rfl (fun K hK => ?_) AllReadyH.nil
        go_simp
        refine hK.out _ _ trivial (fun _ => ?_)
        clear hK K
        try simp only [Act.put, List.setIfInBounds_toArray, List.set_cons_zero, List.set_cons_succ]
        refine wpAnyH_ready (rs := [7]) (by kernel_rfl) (by simp) ?_
        refine AllReadyH.cons (o := ⟨some 25, _, _, _, _, _⟩) rfl (fun K hK => ?_) AllReadyH.nil
        refine step_append_lies _ rfl (.tmp 18) (.tmp 24) 43 rfl w.heap.size 50 i0 (.agg #[.int .i64 0, .int .i64 0]) 2 16 Tryd.underlying43 hi hz0 hz1 hz2 rfl (by decide) v pre.length _ (by simp [Act.eval]) (by exact hrow.alloc _)
          ⟨W.heap.size, 0, none⟩ 1 1 [.int .i64 (fV a b c s.size x), .int .i64 (fSz x)] (by simp [Act.eval]) rfl (World.news_of_block (blk_new W.drew _)) (by simp [Value.oneCell']) (by decide) (by unfold maxLen; omega) (by omega) (by simp; omega) (W.heap.size + 1) (by simp) ?_
        intro g cap w3 hown3 hgrow hat hlt3
        have hg3 : (W.alloc (.cells #[.int .i64 (fV a b c s.size x), .int .i64 (fSz x)] 50)).grownBy w3 v.ownBlock := ⟨hgrow.os, hgrow.tape, hgrow.output, hgrow.size, hgrow.block⟩
        obtain ⟨hv1, hv2, hr2, hk2, hb2⟩ := hv.appended (by decide) hrow hB.size (by omega) hown3 hg3
        obtain ⟨f1, f2⟩ := blk_appended hF (by decide) hrow hg3 (B := w.heap.size + 1 + 1 + 1) (by omega) (.slice (some ⟨g, 0, none⟩) (pre.length + 1) cap)
        obtain ⟨l1, l2⟩ := blk_appended hL (by decide) hrow hg3 (B := w.heap.size + 1 + 1 + 1) (by omega) (.slice (some ⟨g, 0, none⟩) (pre.length + 1) cap)
        obtain ⟨p1, p2⟩ := blk_appended hP (by decide) hrow hg3 (B := w.heap.size + 1 + 1 + 1) (by omega) (.slice (some ⟨g, 0, none⟩) (pre.length + 1) cap)
        obtain ⟨q1, q2⟩ := blk_appended hQ (by decide) hrow hg3 (B := w.heap.size + 1 + 1 + 1) (by omega) (.slice (some ⟨g, 0, none⟩) (pre.length + 1) cap)
        have hc1 := hv1.cell
        have hf1 := hv1.frozen
        refine hK.out _ _ trivial (fun _ => ?_)
        clear hK K
        try simp only [Act.put, List.setIfInBounds_toArray, List.set_cons_zero, List.set_cons_succ]
        refine wpAnyH_ready (rs := [8]) (by kernel_rfl) (by simp) ?_
        refine AllReadyH.cons (o := ⟨none, _, _, _, _, _⟩) rfl (fun K hK => ?_) AllReadyH.nil
        go_simp
        refine hK.out _ _ trivial (fun _ => ?_)
        clear hK K
        try simp only [Act.put, List.setIfInBounds_toArray, List.set_cons_zero, List.set_cons_succ]
        refine wpAnyH_done (by kernel_rfl) ?_ _
        refine ⟨hk2, ⟨p2.trans hP.symm, q2.trans hQ.symm⟩, ⟨⟨⟨f2, l2⟩, p2, q2⟩, _, hv2, ?_, trivial⟩, hB.trans hb2⟩
        rw [flat_snoc, List.length_append]; exact hr2
  case done =>
    rintro D ys W hD rfl ⟨⟨⟨⟨hF, hL⟩, hP, hQ⟩, v, hv, hrow, -⟩, hB⟩ hK
    obtain ⟨g, cap, rfl⟩ := ownsRow_succ (k := 3) hrow
    have hc := hv.cell
    have hS := (blk_cell (k := 3) hF rfl).1
    have hgl := (hrow.lt g rfl).2
    have hcells : ∀ j, j < 4 → W.cell? ⟨g, j * 2, none⟩ = some (.int .i64 (nfF a b c s.size j)) ∧ W.cell? ⟨g, j * 2 + 1, none⟩ = some (.int .i64 (bfF j)) := by
      intro j hj
      have e1 := hrow.cellAt (j * 2) (by show _ < 4 * 2; omega)
      have e2 := hrow.cellAt (j * 2 + 1) (by show _ < 4 * 2; omega)
      obtain rfl | rfl | rfl | rfl : j = 0 ∨ j = 1 ∨ j = 2 ∨ j = 3 := by omega
      all_goals exact ⟨e1, e2⟩
    have hbds : ∀ j, j < 4 → 1 ≤ bfF j ∧ bfF j ≤ 4 ∧ 0 ≤ nfF a b c s.size j ∧ nfF a b c s.size j < 256 ^ (bfF j).toNat := by
      intro j hj
      unfold okF at h
      obtain rfl | rfl | rfl | rfl : j = 0 ∨ j = 1 ∨ j = 2 ∨ j = 3 := by omega
      all_goals (simp only [nfF, bfF]; refine ⟨by omega, by omega, by omega, ?_⟩; simp; omega)
    gi_wp2
    refine wpIn_wide.2 ?_
    have hcs := catN_size (nfF a b c s.size) bfF 4 (fun j hj => ⟨(hbds j hj).1, (hbds j hj).2.1⟩)
    have hss : s.size ≤ 1024 := by unfold okF at h; omega
    have hcs' : ¬ 9223372036854775807 < (catN (nfF a b c s.size) bfF 4).size + s.size := by omega
    have hcells' : ∀ j, j < 4 → W.drew.cell? ⟨g, j * 2, none⟩ = some (.int .i64 (nfF a b c s.size j)) ∧ W.drew.cell? ⟨g, j * 2 + 1, none⟩ = some (.int .i64 (bfF j)) := hcells
    have hgl' : g < W.drew.heap.size := hgl
    have hl1 := cell_lt hc
    have hl2 := cell_lt hS
    simp only at hl1 hl2
    go_region_held3 (fun w' => w'.cell? ⟨w.heap.size + 1 + 1 + 1, 0, none⟩ = some (.slice (some ⟨g, 0, none⟩) 4 cap) ∧ w'.cell? ⟨w.heap.size, 3, none⟩ = some (.string s))
      (first | exact ⟨hc, hS⟩ | exact ⟨(hb2.cell (p := ⟨w.heap.size + 1 + 1 + 1, 0, none⟩) hl1).trans hc, (hb2.cell (p := ⟨w.heap.size, 3, none⟩) hl2).trans hS⟩)
      ((go_at_call 24; refine (write_any (nfF a b c s.size) bfF g 4 cap (by decide) _ hgl' hcells' hbds).mono ?_; rintro e w2 ⟨rfl, hb2⟩))
    have hcat : catN (nfF a b c s.size) bfF 4 ++ s = bodyS a b c s := by rw [hdr_cat]; rfl
    have hbs : (bodyS a b c s).size ≤ 1040 := by rw [← hcat, ByteArray.size_append]; omega
    rw [hcat]
    gi_wp2
    refine ⟨trivial, (callsIn_wide.2 (crc_any _ (by unfold maxLen; omega) _)).mono ?_⟩
    rintro e w3 ⟨rfl, hb3⟩
    obtain ⟨C, hC⟩ : ∃ C : Nat, crcN (bodyS a b c s).data.toList = C := ⟨_, rfl⟩
    have hCl : C < 4294967296 := by rw [← hC]; exact crcN_lt _
    rw [hC]
    gi_wp2
    refine ⟨trivial, (callsIn_wide.2 (write_any (fun _ => (C : Int)) (fun _ => 4) w3.heap.size 1 1 (by decide) _ (by simp) ?_ ?_)).mono ?_⟩
    · intro j hj
      obtain rfl : j = 0 := by omega
      exact ⟨by simp, by simp⟩
    · intro j hj
      exact ⟨by decide, by decide, by omega, by simp; omega⟩
    rintro e w4 ⟨rfl, hb4⟩
    have hcat2 : catN (fun _ => (C : Int)) (fun _ => 4) 1 = beS 4 (C : Int) := by simp [catN]
    have hb4s := beS_size 4 (C : Int) (by decide) (by decide)
    rw [hcat2]
    gi_wp2
    have hB4 : Below W.heap.size W w4 := ((Below.refl _ W).drew.trans (hb2.trans ((hb3.mono hb2.size).trans ((((Below.refl _ w3).alloc (Nat.le_refl _) _).trans (hb4.mono (by simp))).mono (Nat.le_trans hb2.size hb3.size)))))
    have hDl := (Array.getElem?_eq_some_iff.1 hK).1
    have hK4 := blk_below hK hB4 hDl
    refine ⟨by simp, .inl ⟨_, _, rfl, run_takeDeferred hK4, ?_⟩⟩
    exact ⟨_, results_tmp2 rfl _ _ _, by unfold encS; rw [hC]; rfl, (hB.trans (hB4.mono hB.size)).trans (belowK_b (w := w) (Nat.le_refl _) w4 D _ _ (by omega) hK4 rfl rfl)⟩
  case stop =>
    rintro D c pre W _ _ h _
    exact h.elim

/-- link.Encode, of a valid frame -/
theorem encode_yes (a b c : Int) (s : ByteArray) (w : World) (h : okF a b c s.size) :
    Calls Tryd.prog 11 #[fv a b c s] w fun e w' => e = .returned (.tuple #[.string (encS a b c s), .int .i64 0]) ∧ Below w.heap.size w w' :=
  callsIn_wide.1 (encode_in a b c s w h)
end Go.Proofs.YtgfldbllokbnaaaDoor
