/- Contract of the reader's header: the fixed fields. -/
import Derived.Test.YtgfldbllokbnaaaDoorLkHs
import Derived.Test.YtgfldbllokbnaaaDoorLkEnc
import Derived.WalkMore
import Derived.BigRegion
namespace Go.Proofs.YtgfldbllokbnaaaDoor
open Go.RowKit Go.Shelf
attribute [local go_sem] Oper.semAt_some

set_option maxRecDepth 100000 in
set_option maxHeartbeats 3000000 in
theorem header_in (s : ByteArray) (R : Nat) (w : World) (ea : Addr) (E : Env w ea) (hR : w.heap[R]? = some (ro s 0)) (hs : s.size ≤ maxLen) :
    CallsIn Fence.wide 3 Tryd.prog 36 #[.pointer (some ⟨R, 0, none⟩)] w fun e w' => w.grownBy w' (some R) ∧
      ((7 ≤ s.size ∧ e = .returned (.tuple #[fv (rdV s 0 2) (rdV s 2 2) (rdV s 4 1) ⟨#[]⟩, .int .i64 (rdV s 5 2), .nilIface]) ∧ w'.heap[R]? = some (ro s 7)) ∨
       (s.size < 7 ∧ ∃ a b c l k, e = .returned (.tuple #[fv a b c ⟨#[]⟩, .int .i64 l, .iface 93 (.pointer (some ea))]) ∧ w'.heap[R]? = some (ro s k))) := by
  have hro : Fence.wide.round = none := rfl
  have h1 : 1 ≤ 3 := by decide
  have hRl := blk_lt hR
  refine callsIn_of_wp_marks Tryd.func36 rfl trivial ?_ hro
  simp only [Tryd.ntmps36, List.size_toArray, List.length_cons, List.length_nil, Nat.reduceAdd, Nat.reduceSub, Array.replicate_succ, Array.replicate_zero, List.push_toArray, List.append_toArray, List.nil_append, List.cons_append]
  refine wpIn_wide.2 ?_
  go_wp2
  go_step3
  go_wp2
  go_step3
  go_wp2_with fail
  refine (callsIn_wide.1 (fields_in Fence.wide 2 trivial hro _ _ _)).mono ?_
  rintro e w5 ⟨rfl, hw5⟩
  have hBr5 : w5.heap[w.heap.size]? = some (.cells #[.pointer (some ⟨R, 0, none⟩)] 70) := by
    rw [hw5]; have := blk_alloc (blk_alloc (blk_alloc (blk_alloc (blk_alloc (blk_alloc (blk_new w (.cells #[.pointer (some ⟨R, 0, none⟩)] 70)) (fo 0 0 0 ⟨#[]⟩)) (fo 0 0 0 ⟨#[]⟩)) (.cells #[.int .i64 0] 3)) (.cells #[.nilIface] 57)) (.cells #[.pointer (some ⟨w.heap.size + 1 + 1, 0, none⟩)] 47)) (.cells #[.pointer (some ⟨w.heap.size + 1 + 1 + 1, 0, none⟩)] 48)
    (try simp only [World.size_alloc] at this); exact this
  have hRe5 : w5.heap[w.heap.size + 1]? = some (fo 0 0 0 ⟨#[]⟩) := by
    rw [hw5]; have := blk_alloc (blk_alloc (blk_alloc (blk_alloc (blk_alloc (blk_new (w.alloc (.cells #[.pointer (some ⟨R, 0, none⟩)] 70)) (fo 0 0 0 ⟨#[]⟩)) (fo 0 0 0 ⟨#[]⟩)) (.cells #[.int .i64 0] 3)) (.cells #[.nilIface] 57)) (.cells #[.pointer (some ⟨w.heap.size + 1 + 1, 0, none⟩)] 47)) (.cells #[.pointer (some ⟨w.heap.size + 1 + 1 + 1, 0, none⟩)] 48)
    (try simp only [World.size_alloc] at this); exact this
  have hF5 : w5.heap[w.heap.size + 1 + 1]? = some (fo 0 0 0 ⟨#[]⟩) := by
    rw [hw5]; have := blk_alloc (blk_alloc (blk_alloc (blk_alloc (blk_new ((w.alloc (.cells #[.pointer (some ⟨R, 0, none⟩)] 70)).alloc (fo 0 0 0 ⟨#[]⟩)) (fo 0 0 0 ⟨#[]⟩)) (.cells #[.int .i64 0] 3)) (.cells #[.nilIface] 57)) (.cells #[.pointer (some ⟨w.heap.size + 1 + 1, 0, none⟩)] 47)) (.cells #[.pointer (some ⟨w.heap.size + 1 + 1 + 1, 0, none⟩)] 48)
    (try simp only [World.size_alloc] at this); exact this
  have hL5 : w5.heap[w.heap.size + 1 + 1 + 1]? = some (.cells #[.int .i64 0] 3) := by
    rw [hw5]; have := blk_alloc (blk_alloc (blk_alloc (blk_new (((w.alloc (.cells #[.pointer (some ⟨R, 0, none⟩)] 70)).alloc (fo 0 0 0 ⟨#[]⟩)).alloc (fo 0 0 0 ⟨#[]⟩)) (.cells #[.int .i64 0] 3)) (.cells #[.nilIface] 57)) (.cells #[.pointer (some ⟨w.heap.size + 1 + 1, 0, none⟩)] 47)) (.cells #[.pointer (some ⟨w.heap.size + 1 + 1 + 1, 0, none⟩)] 48)
    (try simp only [World.size_alloc] at this); exact this
  have hE5 : w5.heap[w.heap.size + 1 + 1 + 1 + 1]? = some (.cells #[.nilIface] 57) := by
    rw [hw5]; have := blk_alloc (blk_alloc (blk_new ((((w.alloc (.cells #[.pointer (some ⟨R, 0, none⟩)] 70)).alloc (fo 0 0 0 ⟨#[]⟩)).alloc (fo 0 0 0 ⟨#[]⟩)).alloc (.cells #[.int .i64 0] 3)) (.cells #[.nilIface] 57)) (.cells #[.pointer (some ⟨w.heap.size + 1 + 1, 0, none⟩)] 47)) (.cells #[.pointer (some ⟨w.heap.size + 1 + 1 + 1, 0, none⟩)] 48)
    (try simp only [World.size_alloc] at this); exact this
  have hP5 : w5.heap[w.heap.size + 1 + 1 + 1 + 1 + 1]? = some (.cells #[.pointer (some ⟨w.heap.size + 1 + 1, 0, none⟩)] 47) := by
    rw [hw5]; have := blk_alloc (blk_new (((((w.alloc (.cells #[.pointer (some ⟨R, 0, none⟩)] 70)).alloc (fo 0 0 0 ⟨#[]⟩)).alloc (fo 0 0 0 ⟨#[]⟩)).alloc (.cells #[.int .i64 0] 3)).alloc (.cells #[.nilIface] 57)) (.cells #[.pointer (some ⟨w.heap.size + 1 + 1, 0, none⟩)] 47)) (.cells #[.pointer (some ⟨w.heap.size + 1 + 1 + 1, 0, none⟩)] 48)
    (try simp only [World.size_alloc] at this); exact this
  have hQ5 : w5.heap[w.heap.size + 1 + 1 + 1 + 1 + 1 + 1]? = some (.cells #[.pointer (some ⟨w.heap.size + 1 + 1 + 1, 0, none⟩)] 48) := by
    rw [hw5]; have := blk_new ((((((w.alloc (.cells #[.pointer (some ⟨R, 0, none⟩)] 70)).alloc (fo 0 0 0 ⟨#[]⟩)).alloc (fo 0 0 0 ⟨#[]⟩)).alloc (.cells #[.int .i64 0] 3)).alloc (.cells #[.nilIface] 57)).alloc (.cells #[.pointer (some ⟨w.heap.size + 1 + 1, 0, none⟩)] 47)) (.cells #[.pointer (some ⟨w.heap.size + 1 + 1 + 1, 0, none⟩)] 48)
    (try simp only [World.size_alloc] at this); exact this
  have hs5 : w5.heap.size = w.heap.size + 7 := by rw [hw5]; simp
  have hB5 : Below w.heap.size w w5 := by rw [hw5]; exact (((((((Below.refl _ w).alloc (Nat.le_refl _) _).alloc (by simp) _).alloc (by simp; omega) _).alloc (by simp; omega) _).alloc (by simp; omega) _).alloc (by simp; omega) _).alloc (by simp; omega) _
  clear hw5
  have hR5 := blk_below hR hB5 hRl
  have hG5 : w.grownBy w5 (some R) := grown_below hB5 _
  have E0 : R ≠ 0 := by
    rintro rfl
    have h1 := (blk_cell (k := 0) hR rfl).1
    unfold Env at E
    rw [E] at h1
    cases h1
  go_wp2
  refine (wpIn_wide (n := 3)).1 ?_
  refine wpIn_rangeFunc_ownF hro h1 (gf := 33) (lb := #[.pointer (some ⟨w.heap.size + 1 + 1 + 1 + 1 + 1, 0, none⟩), .pointer (some ⟨w.heap.size + 1 + 1 + 1 + 1 + 1 + 1, 0, none⟩)]) rfl trivial (enters_of Tryd.func33 (by kernel_rfl) rfl)
    (fields_stops Fence.wide _ trivial hro (by decide) (w.heap.size + 1 + 1 + 1 + 1 + 1) (w.heap.size + 1 + 1) (w.heap.size + 1 + 1 + 1) w5 (by omega) (blk_cell hP5 rfl).1 (blk_cell hQ5 rfl).1)
    (fun h k => ⟨k.1.trans h.1, k.2.trans h.2⟩)
    (fun W l o o' hl h _ _ => ⟨World.putObj_heap_other (by omega), World.putObj_heap_other (by omega)⟩) (Below.refl _ _) (fun _ => rfl)
    (fun pre W => (HdB R (w.heap.size + 1 + 1) (w.heap.size + 1 + 1 + 1) (w.heap.size + 1 + 1 + 1 + 1) s (hrun s pre) .nilIface W ∧ ((W.heap[w.heap.size]? = some (.cells #[.pointer (some ⟨R, 0, none⟩)] 70 (0, 0)) ∧ W.heap[w.heap.size + 1]? = some (.cells #[.int .i64 0, .int .i64 0, .int .i64 0, .string ⟨#[]⟩] 23 (0, 0))) ∧ (W.heap[w.heap.size + 1 + 1 + 1 + 1 + 1]? = some (.cells #[.pointer (some ⟨w.heap.size + 1 + 1, 0, none⟩)] 47 (0, 0)) ∧ W.heap[w.heap.size + 1 + 1 + 1 + 1 + 1 + 1]? = some (.cells #[.pointer (some ⟨w.heap.size + 1 + 1 + 1, 0, none⟩)] 48 (0, 0))))) ∧ (w.grownBy W (some R) ∧ (hrun s pre).pos ≤ s.size))
    (fun c pre W => (∃ h, HdB R (w.heap.size + 1 + 1) (w.heap.size + 1 + 1 + 1) (w.heap.size + 1 + 1 + 1 + 1) s h (.iface 93 (.pointer (some ea))) W ∧ ((W.heap[w.heap.size]? = some (.cells #[.pointer (some ⟨R, 0, none⟩)] 70 (0, 0)) ∧ W.heap[w.heap.size + 1]? = some (.cells #[.int .i64 0, .int .i64 0, .int .i64 0, .string ⟨#[]⟩] 23 (0, 0))) ∧ (W.heap[w.heap.size + 1 + 1 + 1 + 1 + 1]? = some (.cells #[.pointer (some ⟨w.heap.size + 1 + 1, 0, none⟩)] 47 (0, 0)) ∧ W.heap[w.heap.size + 1 + 1 + 1 + 1 + 1 + 1]? = some (.cells #[.pointer (some ⟨w.heap.size + 1 + 1 + 1, 0, none⟩)] 48 (0, 0))))) ∧ (w.grownBy W (some R) ∧ (c = .exit 0 ∧ s.size < (hrun s pre).pos)))
    (OwnFrom.and (OwnFrom.and (OwnFrom.and (OwnFrom.and (Own.from (cells_own R (fun pre => #[.string s, .int .i64 ((hrun s pre).pos : Int)]) _) _) (Own.from (cells_own _ (fun pre => #[.int .i64 (hrun s pre).a, .int .i64 (hrun s pre).b, .int .i64 (hrun s pre).c, .string ⟨#[]⟩]) _) _)) (OwnFrom.and (Own.from (cells_own _ (fun pre => #[.int .i64 (hrun s pre).l]) _) _) (Own.from (cells_own _ (fun _ => #[.nilIface]) _) _))) (OwnFrom.and (OwnFrom.and (Own.from (cells_own _ (fun _ => _) _) _) (Own.from (cells_own _ (fun _ => _) _) _)) (OwnFrom.and (Own.from (cells_own _ (fun _ => _) _) _) (Own.from (cells_own _ (fun _ => _) _) _)))) (OwnFrom.and (ownFrom_grown (by omega)) (ownFrom_pure _ _)))
    (fun c => OwnFrom.and (fun _ X Y row hs hg hr => ?ownx) (OwnFrom.and (ownFrom_grown (by omega)) (ownFrom_pure _ _)))
    ⟨⟨⟨⟨hR5, hF5⟩, hL5, hE5⟩, ⟨hBr5, hRe5⟩, hP5, hQ5⟩, hG5, Nat.zero_le _⟩
    (fun x => { tmps := #[.pointer (some ⟨R, 0, none⟩), .pointer (some ⟨w.heap.size, 0, none⟩), .pointer (some ⟨w.heap.size + 1, 0, none⟩), .int .i64 0, .nilIface, .pointer (some ⟨w.heap.size + 1 + 1, 0, none⟩), .pointer (some ⟨w.heap.size + 1 + 1 + 1, 0, none⟩), .pointer (some ⟨w.heap.size + 1 + 1 + 1 + 1, 0, none⟩), .pointer (some (fAt (w.heap.size + 1 + 1) (w.heap.size + 1 + 1 + 1) x)), .int .i64 ((nSz x : Nat) : Int), .func (.func 33) #[] #[.pointer (some ⟨w.heap.size + 1 + 1 + 1 + 1 + 1, 0, none⟩), .pointer (some ⟨w.heap.size + 1 + 1 + 1 + 1 + 1 + 1, 0, none⟩)], .pointer (some (fAt (w.heap.size + 1 + 1) (w.heap.size + 1 + 1 + 1) x)), .int .i64 ((nSz x : Nat) : Int), undef, undef, undef, undef, undef, undef, undef, undef, undef, undef, undef, undef, undef], defers := [] }) ?assign ?body ?done ?stop
  case ownx =>
    obtain ⟨h, H, F4⟩ := hs
    have k1 := fun (B : Nat) (cs : Array Value) (t : TypeId) (hb : X.heap[B]? = some (.cells cs t (0, 0))) => cells_own (β := Unit) B (fun _ => cs) t () X Y row hb hg (fun r e => (hr r e).2)
    exact ⟨h, ⟨⟨k1 _ _ _ H.1.1, k1 _ _ _ H.1.2⟩, k1 _ _ _ H.2.1, k1 _ _ _ H.2.2⟩, ⟨k1 _ _ _ F4.1.1, k1 _ _ _ F4.1.2⟩, k1 _ _ _ F4.2.1, k1 _ _ _ F4.2.2⟩
  case assign =>
    intro l x W K hK
    unfold fenc
    rw [(nSz_bd x).2.2]
    gi_wp2
    exact hK
  case body =>
    rintro l pre x W ⟨⟨H, ⟨hBr, hRe⟩, hP, hQ⟩, hG, hpos⟩ hlt
    obtain ⟨n1, n2, -⟩ := nSz_bd x
    have hp8 := hrun_pos s pre
    have cBr := (blk_cell (k := 0) hBr rfl).1
    have hd1 : R ≠ w.heap.size + 1 + 1 := by omega
    have hd2 : R ≠ w.heap.size + 1 + 1 + 1 := by omega
    have hd3 : R ≠ w.heap.size + 1 + 1 + 1 + 1 := by omega
    have hd4 : w.heap.size + 1 + 1 ≠ w.heap.size + 1 + 1 + 1 := by omega
    have hd5 : w.heap.size + 1 + 1 ≠ w.heap.size + 1 + 1 + 1 + 1 := by omega
    have hd6 : w.heap.size + 1 + 1 + 1 ≠ w.heap.size + 1 + 1 + 1 + 1 := by omega
    have hRA : R ≠ (fAt (w.heap.size + 1 + 1) (w.heap.size + 1 + 1 + 1) x).block := by rcases fAt_block (w.heap.size + 1 + 1) (w.heap.size + 1 + 1 + 1) x with h | h <;> rw [h] <;> omega
    have hAE : (fAt (w.heap.size + 1 + 1) (w.heap.size + 1 + 1 + 1) x).block ≠ w.heap.size + 1 + 1 + 1 + 1 := by rcases fAt_block (w.heap.size + 1 + 1) (w.heap.size + 1 + 1 + 1) x with h | h <;> rw [h] <;> omega
    have EW : Env W ea := (World.cell?_of_block (hG.block _ (cell_lt E) (fun e => E0 (by cases e; rfl)))).trans E
    by_cases hk : (hrun s pre).pos + nSz x ≤ s.size
    · clear EW
      gi_wp2
      refine ⟨trivial, (CallsIn.inRound l (callsIn_wide.2 (next_ok s (hrun s pre).pos (nSz x) R _ H.1.1 n1 (by omega) hk hs))).mono ?_⟩
      rintro e w2 ⟨rfl, w1, hb1, hw2⟩
      have H1 := H.below hb1
      have H3 := H1.store hd1 hd2 hd3 hd4 hd5 hd6 x (rdV s (hrun s pre).pos (nSz x)) .nilIface
      have hg2 : W.grownBy w2 (some R) := by rw [hw2]; exact (grown_below hb1 _).trans (grown_set _ _ _)
      have hko : KeepsOthers W w2 := by rw [hw2]; exact (keeps_below hb1).trans (KeepsOthers.setCell _ _ _)
      obtain ⟨u, hu, hfu⟩ := H1.at x
      have hA2 : w2.cell? (fAt (w.heap.size + 1 + 1) (w.heap.size + 1 + 1 + 1) x) = some (.int .i64 u) := by rw [hw2]; rw [World.cell?_setCell_far _ _ _ _ hRA]; exact hu
      have hA2f : w2.frozen? (fAt (w.heap.size + 1 + 1) (w.heap.size + 1 + 1 + 1) x) = false := by rw [hw2, World.frozen?_setCell]; exact hfu
      have hE2 : (w2.setCell (fAt (w.heap.size + 1 + 1) (w.heap.size + 1 + 1 + 1) x) (.int .i64 (rdV s (hrun s pre).pos (nSz x)))).cell? ⟨w.heap.size + 1 + 1 + 1 + 1, 0, none⟩ = some .nilIface := by
        rw [World.cell?_setCell_far _ _ _ _ hAE, hw2, World.cell?_setCell_far _ _ _ _ hd3]; exact (blk_cell (k := 0) H1.2.2 rfl).1
      have hE2f : w2.frozen? ⟨w.heap.size + 1 + 1 + 1 + 1, 0, none⟩ = false := by rw [hw2, World.frozen?_setCell]; exact (blk_cell (k := 0) H1.2.2 rfl).2
      rw [← hw2] at H3
      have hfix := fun k (hk0 : k ≠ R) (hk1 : k ≠ w.heap.size + 1 + 1) (hk2 : k ≠ w.heap.size + 1 + 1 + 1) (hk3 : k ≠ w.heap.size + 1 + 1 + 1 + 1) (hkl : k < W.heap.size) => keep_three (V := .int .i64 (rdV s (hrun s pre).pos (nSz x))) (e' := .nilIface) hg2 k x hk0 hk1 hk2 hk3 hkl
      have hG3 : w.grownBy ((w2.setCell (fAt (w.heap.size + 1 + 1) (w.heap.size + 1 + 1 + 1) x) (.int .i64 (rdV s (hrun s pre).pos (nSz x)))).setCell ⟨w.heap.size + 1 + 1 + 1 + 1, 0, none⟩ .nilIface) (some R) := ((hG.trans hg2).andThen (grown_set _ _ _) (fun j ej => by cases ej; rcases fAt_block (w.heap.size + 1 + 1) (w.heap.size + 1 + 1 + 1) x with h | h <;> (left; rw [h]; omega))).andThen (grown_set _ _ _) (fun j ej => by cases ej; left; exact (by omega : w.heap.size ≤ w.heap.size + 1 + 1 + 1 + 1))
      have hko3 : KeepsOthers W ((w2.setCell (fAt (w.heap.size + 1 + 1) (w.heap.size + 1 + 1 + 1) x) (.int .i64 (rdV s (hrun s pre).pos (nSz x)))).setCell ⟨w.heap.size + 1 + 1 + 1 + 1, 0, none⟩ .nilIface) := (hko.trans (KeepsOthers.setCell _ _ _)).trans (KeepsOthers.setCell _ _ _)
      clear hw2
      have kBr := (hfix (w.heap.size) (by omega) (by omega) (by omega) (by omega) (blk_lt hBr)).trans hBr
      have kRe := (hfix (w.heap.size + 1) (by omega) (by omega) (by omega) (by omega) (blk_lt hRe)).trans hRe
      have kP := hfix (w.heap.size + 1 + 1 + 1 + 1 + 1) (by omega) (by omega) (by omega) (by omega) (blk_lt hP)
      have kQ := hfix (w.heap.size + 1 + 1 + 1 + 1 + 1 + 1) (by omega) (by omega) (by omega) (by omega) (blk_lt hQ)
      gi_wp2
      refine ⟨hko3, ⟨kP, kQ⟩, ⟨⟨?_, ⟨kBr, kRe⟩, kP.trans hP, kQ.trans hQ⟩, hG3, ?_⟩⟩
      · rw [hrun_snoc]; exact H3
      · rw [hrun_snoc, put_pos]; exact hk
    · have hk' : s.size < (hrun s pre).pos + nSz x := by omega
      gi_wp2
      refine ⟨trivial, (CallsIn.inRound l (callsIn_wide.2 (next_no s (hrun s pre).pos (nSz x) R _ ea EW H.1.1 (by omega) (by omega) (by omega) hs))).mono ?_⟩
      rintro e w2 ⟨rfl, w1, hb1, hw2⟩
      have H1 := H.below hb1
      have H3 := H1.store hd1 hd2 hd3 hd4 hd5 hd6 x 0 (.iface 93 (.pointer (some ea)))
      have hg2 : W.grownBy w2 (some R) := by rw [hw2]; exact (grown_below hb1 _).trans (grown_set _ _ _)
      have hko : KeepsOthers W w2 := by rw [hw2]; exact (keeps_below hb1).trans (KeepsOthers.setCell _ _ _)
      obtain ⟨u, hu, hfu⟩ := H1.at x
      have hA2 : w2.cell? (fAt (w.heap.size + 1 + 1) (w.heap.size + 1 + 1 + 1) x) = some (.int .i64 u) := by rw [hw2]; rw [World.cell?_setCell_far _ _ _ _ hRA]; exact hu
      have hA2f : w2.frozen? (fAt (w.heap.size + 1 + 1) (w.heap.size + 1 + 1 + 1) x) = false := by rw [hw2, World.frozen?_setCell]; exact hfu
      have hE2 : (w2.setCell (fAt (w.heap.size + 1 + 1) (w.heap.size + 1 + 1 + 1) x) (.int .i64 0)).cell? ⟨w.heap.size + 1 + 1 + 1 + 1, 0, none⟩ = some .nilIface := by
        rw [World.cell?_setCell_far _ _ _ _ hAE, hw2, World.cell?_setCell_far _ _ _ _ hd3]; exact (blk_cell (k := 0) H1.2.2 rfl).1
      have hE2f : w2.frozen? ⟨w.heap.size + 1 + 1 + 1 + 1, 0, none⟩ = false := by rw [hw2, World.frozen?_setCell]; exact (blk_cell (k := 0) H1.2.2 rfl).2
      rw [← hw2] at H3
      have hfix := fun k (hk0 : k ≠ R) (hk1 : k ≠ w.heap.size + 1 + 1) (hk2 : k ≠ w.heap.size + 1 + 1 + 1) (hk3 : k ≠ w.heap.size + 1 + 1 + 1 + 1) (hkl : k < W.heap.size) => keep_three (V := .int .i64 0) (e' := (.iface 93 (.pointer (some ea)))) hg2 k x hk0 hk1 hk2 hk3 hkl
      have hG3 : w.grownBy ((w2.setCell (fAt (w.heap.size + 1 + 1) (w.heap.size + 1 + 1 + 1) x) (.int .i64 0)).setCell ⟨w.heap.size + 1 + 1 + 1 + 1, 0, none⟩ (.iface 93 (.pointer (some ea)))) (some R) := ((hG.trans hg2).andThen (grown_set _ _ _) (fun j ej => by cases ej; rcases fAt_block (w.heap.size + 1 + 1) (w.heap.size + 1 + 1 + 1) x with h | h <;> (left; rw [h]; omega))).andThen (grown_set _ _ _) (fun j ej => by cases ej; left; exact (by omega : w.heap.size ≤ w.heap.size + 1 + 1 + 1 + 1))
      have hko3 : KeepsOthers W ((w2.setCell (fAt (w.heap.size + 1 + 1) (w.heap.size + 1 + 1 + 1) x) (.int .i64 0)).setCell ⟨w.heap.size + 1 + 1 + 1 + 1, 0, none⟩ (.iface 93 (.pointer (some ea)))) := (hko.trans (KeepsOthers.setCell _ _ _)).trans (KeepsOthers.setCell _ _ _)
      clear hw2
      have kBr := (hfix (w.heap.size) (by omega) (by omega) (by omega) (by omega) (blk_lt hBr)).trans hBr
      have kRe := (hfix (w.heap.size + 1) (by omega) (by omega) (by omega) (by omega) (blk_lt hRe)).trans hRe
      have kP := hfix (w.heap.size + 1 + 1 + 1 + 1 + 1) (by omega) (by omega) (by omega) (by omega) (blk_lt hP)
      have kQ := hfix (w.heap.size + 1 + 1 + 1 + 1 + 1 + 1) (by omega) (by omega) (by omega) (by omega) (blk_lt hQ)
      gi_wp2
      refine ⟨hko3, ⟨⟨_, H3, ⟨kBr, kRe⟩, kP.trans hP, kQ.trans hQ⟩, hG3, rfl, ?_⟩⟩
      rw [hrun_snoc, put_pos]; exact hk'
  case done =>
    rintro D ys W hD rfl ⟨⟨H, ⟨hBr, hRe⟩, hP, hQ⟩, hG, hpos⟩ hK
    rw [hrun_all] at H hpos
    have f0 := (blk_cell (k := 0) H.1.2 rfl).1
    have f1 := (blk_cell (k := 1) H.1.2 rfl).1
    have f2 := (blk_cell (k := 2) H.1.2 rfl).1
    have f3 := (blk_cell (k := 3) H.1.2 rfl).1
    have l0 := (blk_cell (k := 0) H.2.1 rfl).1
    have e0 := (blk_cell (k := 0) H.2.2 rfl).1
    have r0 := blk_cell (k := 0) hRe rfl
    have r1 := blk_cell (k := 1) hRe rfl
    have r2 := blk_cell (k := 2) hRe rfl
    have r3 := blk_cell (k := 3) hRe rfl
    go_wp2
    go_region
    have hDl := (Array.getElem?_eq_some_iff.1 hK).1
    have q1 := blk_setc (k := 3) (blk_setc (k := 2) (blk_setc (k := 1) (blk_setc (k := 0) hRe (.int .i64 (rdV s 0 2))) (.int .i64 (rdV s 2 2))) (.int .i64 (rdV s 4 1))) (.string ⟨#[]⟩)
    have q2 : (((((W.setCell ⟨w.heap.size + 1, 0, none⟩ (.int .i64 (rdV s 0 2))).setCell ⟨w.heap.size + 1, 1, none⟩ (.int .i64 (rdV s 2 2))).setCell ⟨w.heap.size + 1, 2, none⟩ (.int .i64 (rdV s 4 1))).setCell ⟨w.heap.size + 1, 3, none⟩ (.string ⟨#[]⟩)).drew).heap[w.heap.size + 1]? = some (fo (rdV s 0 2) (rdV s 2 2) (rdV s 4 1) ⟨#[]⟩) := q1
    have q3 : (((((W.setCell ⟨w.heap.size + 1, 0, none⟩ (.int .i64 (rdV s 0 2))).setCell ⟨w.heap.size + 1, 1, none⟩ (.int .i64 (rdV s 2 2))).setCell ⟨w.heap.size + 1, 2, none⟩ (.int .i64 (rdV s 4 1))).setCell ⟨w.heap.size + 1, 3, none⟩ (.string ⟨#[]⟩)).drew).heap[D]? = some (.deferred (some [])) := blk_set (blk_set (blk_set (blk_set hK ⟨w.heap.size + 1, 0, none⟩ (by show w.heap.size + 1 ≠ D; omega) _) ⟨w.heap.size + 1, 1, none⟩ (by show w.heap.size + 1 ≠ D; omega) _) ⟨w.heap.size + 1, 2, none⟩ (by show w.heap.size + 1 ≠ D; omega) _) ⟨w.heap.size + 1, 3, none⟩ (by show w.heap.size + 1 ≠ D; omega) _
    have q4 : (((((W.setCell ⟨w.heap.size + 1, 0, none⟩ (.int .i64 (rdV s 0 2))).setCell ⟨w.heap.size + 1, 1, none⟩ (.int .i64 (rdV s 2 2))).setCell ⟨w.heap.size + 1, 2, none⟩ (.int .i64 (rdV s 4 1))).setCell ⟨w.heap.size + 1, 3, none⟩ (.string ⟨#[]⟩)).drew).heap[R]? = _ := blk_set (blk_set (blk_set (blk_set H.1.1 ⟨w.heap.size + 1, 0, none⟩ (by show w.heap.size + 1 ≠ R; omega) _) ⟨w.heap.size + 1, 1, none⟩ (by show w.heap.size + 1 ≠ R; omega) _) ⟨w.heap.size + 1, 2, none⟩ (by show w.heap.size + 1 ≠ R; omega) _) ⟨w.heap.size + 1, 3, none⟩ (by show w.heap.size + 1 ≠ R; omega) _
    have q5' := ((((hG.andThen (grown_set W ⟨w.heap.size + 1, 0, none⟩ (.int .i64 (rdV s 0 2))) (fun j ej => by cases ej; left; exact (by omega : w.heap.size ≤ w.heap.size + 1))).andThen (grown_set _ ⟨w.heap.size + 1, 1, none⟩ (.int .i64 (rdV s 2 2))) (fun j ej => by cases ej; left; exact (by omega : w.heap.size ≤ w.heap.size + 1))).andThen (grown_set _ ⟨w.heap.size + 1, 2, none⟩ (.int .i64 (rdV s 4 1))) (fun j ej => by cases ej; left; exact (by omega : w.heap.size ≤ w.heap.size + 1))).andThen (grown_set _ ⟨w.heap.size + 1, 3, none⟩ (.string ⟨#[]⟩)) (fun j ej => by cases ej; left; exact (by omega : w.heap.size ≤ w.heap.size + 1)))
    have q5 : w.grownBy (((((W.setCell ⟨w.heap.size + 1, 0, none⟩ (.int .i64 (rdV s 0 2))).setCell ⟨w.heap.size + 1, 1, none⟩ (.int .i64 (rdV s 2 2))).setCell ⟨w.heap.size + 1, 2, none⟩ (.int .i64 (rdV s 4 1))).setCell ⟨w.heap.size + 1, 3, none⟩ (.string ⟨#[]⟩)).drew) (some R) := ⟨q5'.os, q5'.tape, q5'.output, q5'.size, q5'.block⟩
    go_wp2
    revert q2 q3 q4 q5
    generalize (((((W.setCell ⟨w.heap.size + 1, 0, none⟩ (.int .i64 (rdV s 0 2))).setCell ⟨w.heap.size + 1, 1, none⟩ (.int .i64 (rdV s 2 2))).setCell ⟨w.heap.size + 1, 2, none⟩ (.int .i64 (rdV s 4 1))).setCell ⟨w.heap.size + 1, 3, none⟩ (.string ⟨#[]⟩)).drew) = W4
    intro q2 q3 q4 q5
    have q6 : (W4.putObj D (.deferred none)).heap[w.heap.size + 1]? = some (fo (rdV s 0 2) (rdV s 2 2) (rdV s 4 1) ⟨#[]⟩) := (World.putObj_heap_other (by omega)).trans q2
    have q7 := (World.putObj_heap_other (w := W4) (o := .deferred none) (r := D) (k := R) (by omega)).trans q4
    have q8 : w.grownBy (W4.putObj D (.deferred none)) (some R) := q5.andThen (grownBy_putObj' W4 D (.deferred none)) (fun j ej => by cases ej; left; omega)
    have g0 := (blk_cell (k := 0) q6 rfl).1
    have g1 := (blk_cell (k := 1) q6 rfl).1
    have g2 := (blk_cell (k := 2) q6 rfl).1
    have g3 := (blk_cell (k := 3) q6 rfl).1
    simp only [List.getElem_toArray, List.getElem_cons_zero, List.getElem_cons_succ] at g0 g1 g2 g3
    refine ⟨by simp, .inl ⟨_, _, rfl, run_takeDeferred q3, ?_⟩⟩
    refine ⟨.tuple #[fv (rdV s 0 2) (rdV s 2 2) (rdV s 4 1) ⟨#[]⟩, .int .i64 (rdV s 5 2), .nilIface], by simp [results, Tryd.results36, go_sem, g0, g1, g2, g3]; try rfl, q8, ?_⟩
    exact .inl ⟨hpos, rfl, q7⟩
  case stop =>
    rintro D c pre W hD hpre ⟨⟨h, H, ⟨hBr, hRe⟩, hP, hQ⟩, hG, rfl, hpos⟩ hK
    have hlt7 : s.size < 7 := by
      have h8 : pre = [] ∨ pre = [0] ∨ pre = [0, 1] ∨ pre = [0, 1, 2] ∨ pre = fAll := by
        obtain ⟨t, ht⟩ := hpre
        unfold fAll at ht ⊢
        rcases pre with _ | ⟨x0, _ | ⟨x1, _ | ⟨x2, _ | ⟨x3, _ | ⟨x4, pre⟩⟩⟩⟩⟩ <;> simp_all
      have : (hrun s pre).pos ≤ 7 := by
        rcases h8 with rfl | rfl | rfl | rfl | rfl
        · exact (by decide : (0 : Nat) ≤ 7)
        · exact (by decide : (2 : Nat) ≤ 7)
        · exact (by decide : (4 : Nat) ≤ 7)
        · exact (by decide : (5 : Nat) ≤ 7)
        · exact (by decide : (7 : Nat) ≤ 7)
      omega
    have f0 := (blk_cell (k := 0) H.1.2 rfl).1
    have f1 := (blk_cell (k := 1) H.1.2 rfl).1
    have f2 := (blk_cell (k := 2) H.1.2 rfl).1
    have f3 := (blk_cell (k := 3) H.1.2 rfl).1
    have l0 := (blk_cell (k := 0) H.2.1 rfl).1
    have e0 := (blk_cell (k := 0) H.2.2 rfl).1
    have r0 := blk_cell (k := 0) hRe rfl
    have r1 := blk_cell (k := 1) hRe rfl
    have r2 := blk_cell (k := 2) hRe rfl
    have r3 := blk_cell (k := 3) hRe rfl
    gi_wp2
    go_wp2
    go_region
    have hDl := (Array.getElem?_eq_some_iff.1 hK).1
    have q1 := blk_setc (k := 3) (blk_setc (k := 2) (blk_setc (k := 1) (blk_setc (k := 0) hRe (.int .i64 h.a)) (.int .i64 h.b)) (.int .i64 h.c)) (.string ⟨#[]⟩)
    have q2 : (((((W.setCell ⟨w.heap.size + 1, 0, none⟩ (.int .i64 h.a)).setCell ⟨w.heap.size + 1, 1, none⟩ (.int .i64 h.b)).setCell ⟨w.heap.size + 1, 2, none⟩ (.int .i64 h.c)).setCell ⟨w.heap.size + 1, 3, none⟩ (.string ⟨#[]⟩)).drew).heap[w.heap.size + 1]? = some (fo h.a h.b h.c ⟨#[]⟩) := q1
    have q3 : (((((W.setCell ⟨w.heap.size + 1, 0, none⟩ (.int .i64 h.a)).setCell ⟨w.heap.size + 1, 1, none⟩ (.int .i64 h.b)).setCell ⟨w.heap.size + 1, 2, none⟩ (.int .i64 h.c)).setCell ⟨w.heap.size + 1, 3, none⟩ (.string ⟨#[]⟩)).drew).heap[D]? = some (.deferred (some [])) := blk_set (blk_set (blk_set (blk_set hK ⟨w.heap.size + 1, 0, none⟩ (by show w.heap.size + 1 ≠ D; omega) _) ⟨w.heap.size + 1, 1, none⟩ (by show w.heap.size + 1 ≠ D; omega) _) ⟨w.heap.size + 1, 2, none⟩ (by show w.heap.size + 1 ≠ D; omega) _) ⟨w.heap.size + 1, 3, none⟩ (by show w.heap.size + 1 ≠ D; omega) _
    have q4 : (((((W.setCell ⟨w.heap.size + 1, 0, none⟩ (.int .i64 h.a)).setCell ⟨w.heap.size + 1, 1, none⟩ (.int .i64 h.b)).setCell ⟨w.heap.size + 1, 2, none⟩ (.int .i64 h.c)).setCell ⟨w.heap.size + 1, 3, none⟩ (.string ⟨#[]⟩)).drew).heap[R]? = _ := blk_set (blk_set (blk_set (blk_set H.1.1 ⟨w.heap.size + 1, 0, none⟩ (by show w.heap.size + 1 ≠ R; omega) _) ⟨w.heap.size + 1, 1, none⟩ (by show w.heap.size + 1 ≠ R; omega) _) ⟨w.heap.size + 1, 2, none⟩ (by show w.heap.size + 1 ≠ R; omega) _) ⟨w.heap.size + 1, 3, none⟩ (by show w.heap.size + 1 ≠ R; omega) _
    have q5' := ((((hG.andThen (grown_set W ⟨w.heap.size + 1, 0, none⟩ (.int .i64 h.a)) (fun j ej => by cases ej; left; exact (by omega : w.heap.size ≤ w.heap.size + 1))).andThen (grown_set _ ⟨w.heap.size + 1, 1, none⟩ (.int .i64 h.b)) (fun j ej => by cases ej; left; exact (by omega : w.heap.size ≤ w.heap.size + 1))).andThen (grown_set _ ⟨w.heap.size + 1, 2, none⟩ (.int .i64 h.c)) (fun j ej => by cases ej; left; exact (by omega : w.heap.size ≤ w.heap.size + 1))).andThen (grown_set _ ⟨w.heap.size + 1, 3, none⟩ (.string ⟨#[]⟩)) (fun j ej => by cases ej; left; exact (by omega : w.heap.size ≤ w.heap.size + 1)))
    have q5 : w.grownBy (((((W.setCell ⟨w.heap.size + 1, 0, none⟩ (.int .i64 h.a)).setCell ⟨w.heap.size + 1, 1, none⟩ (.int .i64 h.b)).setCell ⟨w.heap.size + 1, 2, none⟩ (.int .i64 h.c)).setCell ⟨w.heap.size + 1, 3, none⟩ (.string ⟨#[]⟩)).drew) (some R) := ⟨q5'.os, q5'.tape, q5'.output, q5'.size, q5'.block⟩
    go_wp2
    revert q2 q3 q4 q5
    generalize (((((W.setCell ⟨w.heap.size + 1, 0, none⟩ (.int .i64 h.a)).setCell ⟨w.heap.size + 1, 1, none⟩ (.int .i64 h.b)).setCell ⟨w.heap.size + 1, 2, none⟩ (.int .i64 h.c)).setCell ⟨w.heap.size + 1, 3, none⟩ (.string ⟨#[]⟩)).drew) = W4
    intro q2 q3 q4 q5
    have q6 : (W4.putObj D (.deferred none)).heap[w.heap.size + 1]? = some (fo h.a h.b h.c ⟨#[]⟩) := (World.putObj_heap_other (by omega)).trans q2
    have q7 := (World.putObj_heap_other (w := W4) (o := .deferred none) (r := D) (k := R) (by omega)).trans q4
    have q8 : w.grownBy (W4.putObj D (.deferred none)) (some R) := q5.andThen (grownBy_putObj' W4 D (.deferred none)) (fun j ej => by cases ej; left; omega)
    have g0 := (blk_cell (k := 0) q6 rfl).1
    have g1 := (blk_cell (k := 1) q6 rfl).1
    have g2 := (blk_cell (k := 2) q6 rfl).1
    have g3 := (blk_cell (k := 3) q6 rfl).1
    simp only [List.getElem_toArray, List.getElem_cons_zero, List.getElem_cons_succ] at g0 g1 g2 g3
    refine ⟨by simp, .inl ⟨_, _, rfl, run_takeDeferred q3, ?_⟩⟩
    refine ⟨.tuple #[fv h.a h.b h.c ⟨#[]⟩, .int .i64 h.l, .iface 93 (.pointer (some ea))], by simp [results, Tryd.results36, go_sem, g0, g1, g2, g3]; try rfl, q8, ?_⟩
    exact .inr ⟨hlt7, _, _, _, _, _, rfl, q7⟩
end Go.Proofs.YtgfldbllokbnaaaDoor
