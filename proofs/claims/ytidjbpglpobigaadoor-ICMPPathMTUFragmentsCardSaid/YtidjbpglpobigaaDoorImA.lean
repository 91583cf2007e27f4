/- The fields collected into a slice: slices.AppendSeq, slices.Collect. -/
import Derived.Test.YtidjbpglpobigaaDoorImF
import Derived.Test.YtidjbpglpobigaaDoorIpFg
import Derived.Deep.AppendLies
import Derived.Deep.Onto
import Derived.Laws.OwnMore
import Derived.Maps.OwnIn
import Derived.Maps.Range
namespace Go.Proofs.YtidjbpglpobigaaDoor
open Go.RowKit Go.Shelf Go.Maps
set_option linter.unusedVariables false
attribute [local go_sem] Oper.semAt_some

abbrev fdv (Fb o : Nat) (i : Fin 4) : Value := .agg #[.pointer (some (mAt Fb o i)), .int .i64 (mSz i)]
theorem infoFd : (Tryd.prog.info? 117).map (fun i => (i.zero, i.size, i.bytes)) = some (some (.agg #[.pointer none, .int .i64 0]), 2, 16) := by kernel_rfl
abbrev fcl (Fb o : Nat) (i : Fin 4) : List Value := [.pointer (some (mAt Fb o i)), .int .i64 (mSz i)]
abbrev fobj (Fb o : Nat) (i : Fin 4) : Obj := .cells #[.pointer (some (mAt Fb o i)), .int .i64 (mSz i)] 117
def flatF (Fb o : Nat) (L : List (Fin 4)) : List Value := L.flatMap fun i => fcl Fb o i
theorem flatF_snoc (Fb o : Nat) (L : List (Fin 4)) (k : Fin 4) : flatF Fb o (L ++ [k]) = flatF Fb o L ++ fcl Fb o k := by simp [flatF]

theorem mfields_H (F : Fence) (n : Nat) (hf : F.fn 90) (hro : F.round = none) (hn : 1 ≤ n) (Bm Fb o : Nat) (w : World)
    (h1 : w.heap[Bm]? = some (.cells #[.pointer (some ⟨Fb, o, none⟩)] 148)) :
    SeqStopsH F n Tryd.prog 90 #[.pointer (some ⟨Bm, 0, none⟩)] (menc Fb o) (fun _ W1 => W1.heap[Bm]? = w.heap[Bm]?) (fun pre _ => pre.length < 4) (fun ys => ys = mAll) (fun pre => pre <+: mAll) w := by
  intro l J Jx W hW hJa hJxa hH hJw hY h0
  have hW1 := (hW.block Bm (blk_lt h1)).trans h1
  refine (mfields1_in F n hf hro hn l Bm Fb o (J W.heap.size) Jx (fun pre x W1 hj hlen => ?_) W (blk_cell hW1 rfl).1 (h0 W (Below.refl _ W))).mono ?_
  · obtain ⟨fn, tmps, assign, body, hy, hR⟩ := hY W.heap.size pre x W1 (Nat.le_refl _) hj hlen
    refine ⟨fn, tmps, assign, body, hy, hR.mono ?_⟩
    rintro e W' (⟨rfl, h2, h3⟩ | ⟨rfl, h2⟩)
    · exact .inl ⟨rfl, h2, (hH _ _ _ h2).trans (hH _ _ _ hj).symm⟩
    · exact .inr ⟨rfl, h2⟩
  · rintro e W' ⟨⟨v, rfl⟩, (⟨ys, hys, hJ⟩ | ⟨pre, hp, hJ⟩)⟩
    · exact ⟨⟨v, rfl⟩, .inl ⟨_, ys, hys, hJ⟩⟩
    · exact ⟨⟨v, rfl⟩, .inr ⟨pre, hp, hJ⟩⟩

/-- the loop's state: the box of 's', the row -/
def FdI (w : World) (Fb o A B : Nat) (pre : List (Fin 4)) (W : World) : Prop :=
  (∃ v, W.heap[A]? = some (.cells #[v] 113 (0, 0)) ∧ W.ownsRow B 117 2 v pre.length (flatF Fb o pre)) ∧ Below w.heap.size w W ∧ w.heap.size ≤ B ∧ B ≤ W.heap.size
theorem FdI.own {w : World} {Fb o A B L : Nat} (hL : w.heap.size ≤ L) : OwnFrom L (FdI w Fb o A B) := by
  rintro s X Y row ⟨⟨v, hA, hr⟩, hb, hwB, hB⟩ hg hrow
  have hne : ∀ (k : Nat) (cs : Array Value) (t : TypeId), X.heap[k]? = some (.cells cs t (0, 0)) → row ≠ some k := fun k cs t h e => by
    obtain ⟨-, o, ho, hoc⟩ := hrow k e
    rw [h] at ho; cases ho; cases hoc
  have keep : ∀ (k : Nat) (cs : Array Value) (t : TypeId), X.heap[k]? = some (.cells cs t (0, 0)) → Y.heap[k]? = X.heap[k]? := fun k cs t h => hg.block k (blk_lt h) (by have := hne k cs t h; intro e; exact this e.symm)
  refine ⟨⟨v, (keep _ _ _ hA).trans hA, row_of_block hr (fun k e => ?_)⟩, hb.grown hg hb.size (fun k e => Nat.le_trans hL (hrow k e).1), hwB, Nat.le_trans hB hg.size⟩
  obtain ⟨-, cur, hcur⟩ := row_cells hr e
  exact keep _ _ _ hcur
theorem FdI.turn {w : World} {Fb o A B L r : Nat} {pre : List (Fin 4)} {X Y : World} (hA : A < L) (hwL : w.heap.size ≤ L) (h1 : L ≤ r) (h2 : r < B) (hg : X.grownBy Y (some r)) (h : FdI w Fb o A B pre X) : FdI w Fb o A B pre Y := by
  obtain ⟨⟨v, hA', hr⟩, hb, hwB, hB⟩ := h
  have keep : ∀ k, k ≠ r → k < X.heap.size → Y.heap[k]? = X.heap[k]? := fun k hk hl => hg.block k hl (by simpa using hk)
  refine ⟨⟨v, (keep _ (by omega) (blk_lt hA')).trans hA', row_of_block hr (fun k e => ?_)⟩, hb.grown hg hb.size (fun k e => by cases e; omega), hwB, Nat.le_trans hB hg.size⟩
  obtain ⟨hb2, cur, hcur⟩ := row_cells hr e
  exact keep _ (by omega) (blk_lt hcur)

set_option maxRecDepth 100000 in
set_option maxHeartbeats 3200000 in
theorem mappend_in (Bm Fb o : Nat) (w : World) (hB : w.heap[Bm]? = some (.cells #[.pointer (some ⟨Fb, o, none⟩)] 148)) :
    CallsIn Fence.wide 4 Tryd.prog 89 #[.slice none 0 0, .func (.func 90) #[] #[.pointer (some ⟨Bm, 0, none⟩)]] w fun e w' =>
      ∃ v, e = .returned v ∧ w'.ownsRow w.heap.size 117 2 v 4 (flatF Fb o mAll) ∧ Below w.heap.size w w' := by
  have hmb := blk_lt hB
  have hro : Fence.wide.round = none := rfl
  have hA5 := blk_new w (.cells #[.slice none 0 0] 113)
  have hb5 : Below w.heap.size w (w.alloc (.cells #[.slice none 0 0] 113)) := (Below.refl _ w).alloc (Nat.le_refl _) _
  have hm5 : (w.alloc (.cells #[.slice none 0 0] 113)).heap[Bm]? = w.heap[Bm]? := hb5.block Bm hmb
  have hst := mfields_H Fence.wide 3 trivial hro (by decide) Bm Fb o (w.alloc (.cells #[.slice none 0 0] 113)) (hm5.trans hB)
  have hsz : (w.alloc (.cells #[.slice none 0 0] 113)).heap.size = w.heap.size + 1 := by simp
  refine callsIn_of_wp_marks Tryd.func89 rfl trivial ?_ hro
  simp only [Tryd.ntmps89, List.size_toArray, List.length_cons, List.length_nil, Nat.reduceAdd, Nat.reduceSub, Array.replicate_succ, Array.replicate_zero, List.push_toArray, List.append_toArray, List.nil_append, List.cons_append]
  refine wpIn_wide.2 ?_
  go_wp2_with fail
  generalize w.alloc (.cells #[.slice none 0 0] 113) = w5 at hA5 hb5 hst hsz ⊢
  have HST := Lib.hid hst
  clear hst hm5
  refine (wpIn_wide (n := 4)).1 ?_
  have hwl : w.heap.size < w5.heap.size := by omega
  refine wpIn_rangeFunc_ownX hro (by decide) (gf := 90) (lb := #[.pointer (some ⟨Bm, 0, none⟩)]) rfl trivial (enters_of Tryd.func90 (by kernel_rfl) rfl)
    HST.out (Below.refl _ _) (fun _ => rfl)
    (FdI w Fb o w.heap.size) (fun _ _ _ => False) (fun B => FdI.own (by omega)) (fun _ _ _ _ _ hs _ _ => hs)
    (fun B pre W hI => (hI.2.1.block Bm hmb).trans (hb5.block Bm hmb).symm)
    (fun B pre X Y r h1 h2 hg hI => FdI.turn (L := w5.heap.size + 2) (by omega) (by omega) h1 h2 hg hI)
    (fun W' hW' => ⟨⟨_, blk_below hA5 hW' (blk_lt hA5), World.ownsRow_nil _ _ _ _⟩, hb5.trans (hW'.mono hb5.size), Nat.le_trans hb5.size hW'.size, Nat.le_refl _⟩)
    (fun x W0 => { tmps := #[.slice none 0 0, .func (.func 90) #[] #[.pointer (some ⟨Bm, 0, none⟩)], .pointer (some ⟨w.heap.size, 0, none⟩), undef, .slice none 0 0, .pointer (some ⟨W0.heap.size, 0, none⟩), .func (.func 90) #[] #[.pointer (some ⟨Bm, 0, none⟩)], fdv Fb o x, undef, undef, undef, undef, undef], defers := [] })
    (fun x W => W.alloc (fobj Fb o x)) (fun x W0 W => W.heap[W0.heap.size]? = some (fobj Fb o x) ∧ W0.heap.size < W.heap.size) (fun x W => (Below.refl _ W).alloc (Nat.le_refl _) _)
    (fun x W l o9 hl => ⟨(World.putObj_heap_other (by omega)).trans (blk_new W (fobj Fb o x)), by have h9 := (grownBy_putObj' (W.alloc (fobj Fb o x)) l o9).size; rw [World.size_alloc] at h9; omega⟩) (fun B pre W hI => hI.2.2.2) ?assign ?body ?done ?stop
  case assign =>
    intro l x W K hK
    unfold menc
    gi_wp2
    exact hK
  case body =>
    rintro l B pre x W0 W hLB hBW0 ⟨⟨v, hA, hrow⟩, hB, hwB, hBW⟩ hnx ⟨hf, hW0⟩
    have hpl : pre.length ≤ 1000 := by omega
    have f0 := (blk_cell (k := 0) hf rfl).1
    have f1 := (blk_cell (k := 1) hf rfl).1
    have a0 := (blk_cell (k := 0) hA rfl).1
    simp only [List.getElem_toArray, List.getElem_cons_zero, List.getElem_cons_succ] at f0 f1 a0
    obtain ⟨i0, hi, hz0, hz1, hz2⟩ := info_parts infoFd
    have hAl := blk_lt hA
    clear HST hnx
    gi_wp2_with (gi_at_builtin; refine wpListIn_append_own _ rfl _ _ 113 rfl B 117 i0 (.agg #[.pointer none, .int .i64 0]) 2 16 Tryd.underlying113 hi hz0 hz1 hz2 rfl (by decide) v pre.length _ rfl (hrow.alloc _) ⟨W.heap.size, 0, none⟩ 1 1 (fcl Fb o x) rfl rfl ?c1 ?c2 ?c3 ?c4 ?c5 ?_)
    case c1 =>
      intro j u hj
      exact World.news_of_block (blk_new W _) j u hj
    case c2 => intro u hu; simp at hu; rcases hu with rfl | rfl <;> rfl
    case c3 => unfold maxLen; omega
    case c4 => omega
    case c5 => simp; omega
    · intro v' w6 hown' hgrow _
      obtain ⟨vp, vc, hvs, -⟩ := row_shape hown'
      subst hvs
      have hvA : v.ownBlock ≠ some w.heap.size := fun e => by
        obtain ⟨-, cur, hcur⟩ := row_cells hrow e
        rw [hcur] at hA; cases hA
      have hA6 : w6.heap[w.heap.size]? = some (.cells #[v] 113 (0, 0)) := (hgrow.block _ (by simp; omega) hvA.symm).trans (blk_alloc hA _)
      obtain ⟨b0, bf⟩ := blk_cell (k := 0) hA6 rfl
      simp only [List.getElem_toArray, List.getElem_cons_zero] at b0
      have hsz6 := hgrow.size
      rw [World.size_alloc] at hsz6
      have hkeep : ∀ (k : Nat) (o : Obj), k ≠ w.heap.size → v.ownBlock ≠ some k → W.heap[k]? = some o → (w6.setCell ⟨w.heap.size, 0, none⟩ (.slice vp (pre.length + 1) vc)).heap[k]? = some o := fun k o h1 h2 h3 =>
        blk_set ((hgrow.block k (by have := blk_lt h3; simp; omega) h2.symm).trans (blk_alloc h3 _)) ⟨w.heap.size, 0, none⟩ (by simpa using h1.symm) _
      clear f0 f1 a0
      gi_wp2
      refine ⟨⟨by simp; omega, fun k o h1 h2 h3 => hkeep k o (by omega) (fun e => ?_) h2⟩, ⟨by simp; omega, fun k h1 h2 => ?_⟩, ⟨⟨_, blk_setc (k := 0) hA6 _, ?_⟩, ?_, hwB, ?_⟩⟩
      · obtain ⟨-, cur, hcur⟩ := row_cells hrow e
        rw [hcur] at h2; cases h2; cases h3
      · have hkl : k < W.heap.size := by omega
        exact (hkeep k _ (by omega) (fun e => by have := (row_cells hrow e).1; omega) (Array.getElem?_eq_getElem hkl)).trans (Array.getElem?_eq_getElem hkl).symm
      · have hN : w6.ownsRow B 117 2 (.slice vp (pre.length + 1) vc) (pre ++ [x]).length (flatF Fb o (pre ++ [x])) := by
          rw [flatF_snoc, List.length_append]; exact hown'
        refine row_of_block hN (fun k e => Below.heap_setCell _ _ _ _ (fun e2 => ?_))
        obtain ⟨-, cur, hcur⟩ := row_cells hN e
        rw [show k = w.heap.size from e2, hA6] at hcur; cases hcur
      · exact ((hB.alloc hB.size _).grown hgrow (by have := hB.size; simp; omega) (fun k e => by have := (row_cells hrow e).1; omega)).setCell (Nat.le_refl _) _
      · simp; omega
  case done =>
    rintro D B xs W hD rfl ⟨⟨v, hA, hrow⟩, hB, hwB, hBW⟩ hK
    have a0 := (blk_cell (k := 0) hA rfl).1
    simp only [List.getElem_toArray, List.getElem_cons_zero] at a0
    have hDl := (Array.getElem?_eq_some_iff.1 hK).1
    obtain ⟨vp, vc, hvs, -⟩ := row_shape hrow
    subst hvs
    go_wp2
    refine ⟨by simp, .inl ⟨_, _, rfl, run_takeDeferred hK, ?_⟩⟩
    refine ⟨_, results_tmp rfl _ _ _, _, rfl, ?_, hB.trans (belowK_b (w := w) (Nat.le_refl _) W D _ _ (by omega) hK rfl rfl)⟩
    refine (row_of_block hrow (fun k e => World.putObj_heap_other (fun e' => ?_))).mono ?_
    · obtain ⟨-, cur, hcur⟩ := row_cells hrow e
      subst e'
      rw [hcur] at hK; cases hK
    · exact hwB
  case stop =>
    rintro D c pre W _ _ h _
    exact h.elim

theorem mcollect_any (Bm Fb o : Nat) (w : World) (hB : w.heap[Bm]? = some (.cells #[.pointer (some ⟨Fb, o, none⟩)] 148)) :
    Calls Tryd.prog 67 #[.func (.func 90) #[] #[.pointer (some ⟨Bm, 0, none⟩)]] w fun e w' =>
      ∃ v, e = .returned v ∧ w'.ownsRow w.heap.size 117 2 v 4 (flatF Fb o mAll) ∧ Below w.heap.size w w' := by
  have H := callsIn_wide.1 (mappend_in Bm Fb o w hB)
  go_enter Tryd.func67, Tryd.ntmps67
  go_wp2_with fail
  refine H.mono ?_
  rintro e w' ⟨v, rfl, h2, h3⟩
  obtain ⟨q, c, rfl, -⟩ := row_shape h2
  go_wp2_with fail
  go_ret
  exact ⟨_, rfl, h2, h3⟩
end Go.Proofs.YtidjbpglpobigaaDoor
