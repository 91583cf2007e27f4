/- The keys collected into a slice: slices.AppendSeq, slices.Collect. -/
import Derived.Test.YtecboengeheapaaRtK1
import Derived.Deep.AppendLies
import Derived.Deep.Onto
import Derived.Laws.OwnMore
import Derived.Maps.OwnIn
import Derived.Maps.Range
namespace Go.Proofs.Ytecboengeheapaa
open Go.RowKit Go.Shelf Go.Maps
set_option linter.unusedVariables false
attribute [local go_sem] Oper.semAt_some

theorem infoK : (Try.prog.info? 94).map (fun i => (i.zero, i.size, i.bytes)) = some (some (kv ⟨0, 0, 0, 0⟩), 4, 32) := by kernel_rfl
abbrev kcl (k : Ky) : List Value := [.int .i64 k.fr, .int .i64 k.to, .int .i64 k.pr, .int .i64 k.id]
abbrev kobj (k : Ky) : Obj := .cells #[.int .i64 k.fr, .int .i64 k.to, .int .i64 k.pr, .int .i64 k.id] 94
def flatK (L : List Ky) : List Value := L.flatMap fun k => kcl k
theorem flatK_snoc (L : List Ky) (k : Ky) : flatK (L ++ [k]) = flatK L ++ kcl k := by simp [flatK]
theorem rowc {w : World} {base : Nat} {e : TypeId} {size : Nat} {v : Value} {n : Nat} {xs : List Value} (h : w.ownsRow base e size v n xs) {g : Nat} (hg : v.ownBlock = some g) : base ≤ g ∧ ∃ cur, w.heap[g]? = some (.cells cur e (0, 0)) := by
  rcases h.2 with ⟨rfl, _⟩ | ⟨g', cap, cur, rfl, e2, e3, _⟩
  · cases hg
  · simp only [Value.ownBlock, Option.some.injEq] at hg; subst hg; exact ⟨e2, cur, e3⟩
/-- the loop's state: the box of 's', the row -/
def ApI (w : World) (A B : Nat) (pre : List Ky) (W : World) : Prop :=
  (∃ v, W.heap[A]? = some (.cells #[v] 124 (0, 0)) ∧ W.ownsRow B 94 4 v pre.length (flatK pre)) ∧ Below w.heap.size w W ∧ w.heap.size ≤ B ∧ B ≤ W.heap.size
theorem ApI.own {w : World} {A B L : Nat} (hL : w.heap.size ≤ L) : OwnFrom L (ApI w A B) := by
  rintro s X Y row ⟨⟨v, hA, hr⟩, hb, hwB, hB⟩ hg hrow
  have hne : ∀ (k : Nat) (cs : Array Value) (t : TypeId), X.heap[k]? = some (.cells cs t (0, 0)) → row ≠ some k := fun k cs t h e => by
    obtain ⟨-, o, ho, hoc⟩ := hrow k e
    rw [h] at ho; cases ho; cases hoc
  have keep : ∀ (k : Nat) (cs : Array Value) (t : TypeId), X.heap[k]? = some (.cells cs t (0, 0)) → Y.heap[k]? = X.heap[k]? := fun k cs t h => hg.block k (blk_lt h) (by have := hne k cs t h; intro e; exact this e.symm)
  refine ⟨⟨v, (keep _ _ _ hA).trans hA, row_blk hr (fun k e => ?_)⟩, hb.grown hg hb.size (fun k e => Nat.le_trans hL (hrow k e).1), hwB, Nat.le_trans hB hg.size⟩
  obtain ⟨-, cur, hcur⟩ := rowc hr e
  exact keep _ _ _ hcur
theorem ApI.turn {w : World} {A B L r : Nat} {pre : List Ky} {X Y : World} (hA : A < L) (hwL : w.heap.size ≤ L) (h1 : L ≤ r) (h2 : r < B) (hg : X.grownBy Y (some r)) (h : ApI w A B pre X) : ApI w A B pre Y := by
  obtain ⟨⟨v, hA', hr⟩, hb, hwB, hB⟩ := h
  have keep : ∀ k, k ≠ r → k < X.heap.size → Y.heap[k]? = X.heap[k]? := fun k hk hl => hg.block k hl (by simpa using hk)
  refine ⟨⟨v, (keep _ (by omega) (blk_lt hA')).trans hA', row_blk hr (fun k e => ?_)⟩, hb.grown hg hb.size (fun k e => by cases e; omega), hwB, Nat.le_trans hB hg.size⟩
  obtain ⟨hb2, cur, hcur⟩ := rowc hr e
  exact keep _ (by omega) (blk_lt hcur)

set_option maxRecDepth 100000 in
set_option maxHeartbeats 3200000 in
theorem appendSeq_in (R : List PE) (hok : ∀ p ∈ R, okK p.x.k) (hR : R.Pairwise (fun p q => p.x.k ≠ q.x.k)) (hlen : R.length ≤ 1000) (Bm mb : Nat) (w : World) (hmb : mb < w.heap.size) (hB : w.heap[Bm]? = some (.cells #[.map (some mb)] 84)) (hown : w.ownsMap Try.prog 94 raw mb R.length (mapD R)) :
    CallsIn Fence.wide 4 Try.prog 102 #[.slice none 0 0, .func (.func 98) #[] #[.pointer (some ⟨Bm, 0, none⟩)]] w fun e w' =>
      ∃ v xs, e = .returned v ∧ xs.Perm (R.map (·.x.k)) ∧ w'.ownsRow w.heap.size 94 4 v xs.length (flatK xs) ∧ Below w.heap.size w w' := by
  have hro : Fence.wide.round = none := rfl
  have hA5 := blk_new w (.cells #[.slice none 0 0] 124)
  have hb5 : Below w.heap.size w (w.alloc (.cells #[.slice none 0 0] 124)) := (Below.refl _ w).alloc (Nat.le_refl _) _
  have hm5 : (w.alloc (.cells #[.slice none 0 0] 124)).heap[mb]? = w.heap[mb]? := hb5.block mb hmb
  have hst := keys_stops R hok hR Bm mb (w.alloc (.cells #[.slice none 0 0] 124)) (by simp; omega) (blk_alloc hB _) (map_of_block hown hm5)
  have hsz : (w.alloc (.cells #[.slice none 0 0] 124)).heap.size = w.heap.size + 1 := by simp
  refine callsIn_of_wp_marks Try.func102 rfl trivial ?_ hro
  simp only [Try.ntmps102, List.size_toArray, List.length_cons, List.length_nil, Nat.reduceAdd, Nat.reduceSub, Array.replicate_succ, Array.replicate_zero, List.push_toArray, List.append_toArray, List.nil_append, List.cons_append]
  refine wpIn_wide.2 ?_
  go_wp2_with fail
  generalize w.alloc (.cells #[.slice none 0 0] 124) = w5 at hA5 hb5 hst hsz ⊢
  have HST := Lib.hid hst
  clear hst hm5
  refine (wpIn_wide (n := 4)).1 ?_
  have hwl : w.heap.size < w5.heap.size := by omega
  refine wpIn_rangeFunc_ownX hro (by decide) (gf := 98) (lb := #[.pointer (some ⟨Bm, 0, none⟩)]) rfl trivial (enters_of Try.func98 (by kernel_rfl) rfl)
    HST.out (Below.refl _ _) (fun _ => rfl)
    (ApI w w.heap.size) (fun _ _ _ => False) (fun B => ApI.own (by omega)) (fun _ _ _ _ _ hs _ _ => hs)
    (fun B pre W hI => (hI.2.1.block mb hmb).trans (hb5.block mb hmb).symm)
    (fun B pre X Y r h1 h2 hg hI => ApI.turn (L := w5.heap.size + 2) (by omega) (by omega) h1 h2 hg hI)
    (fun W' hW' => ⟨⟨_, blk_below hA5 hW' (blk_lt hA5), World.ownsRow_nil _ _ _ _⟩, hb5.trans (hW'.mono hb5.size), Nat.le_trans hb5.size hW'.size, Nat.le_refl _⟩)
    (fun x W0 => { tmps := #[.slice none 0 0, .func (.func 98) #[] #[.pointer (some ⟨Bm, 0, none⟩)], .pointer (some ⟨w.heap.size, 0, none⟩), undef, .slice none 0 0, .pointer (some ⟨W0.heap.size, 0, none⟩), .func (.func 98) #[] #[.pointer (some ⟨Bm, 0, none⟩)], kv x, undef, undef, undef, undef, undef], defers := [] })
    (fun x W => W.alloc (kobj x)) (fun x W0 W => W.heap[W0.heap.size]? = some (kobj x) ∧ W0.heap.size < W.heap.size) (fun x W => (Below.refl _ W).alloc (Nat.le_refl _) _)
    (fun x W l o hl => ⟨(World.putObj_heap_other (by omega)).trans (blk_new W (kobj x)), by have h9 := (grownBy_putObj' (W.alloc (kobj x)) l o).size; rw [World.size_alloc] at h9; omega⟩) (fun B pre W hI => hI.2.2.2) ?assign ?body ?done ?stop
  case assign =>
    intro l x W K hK
    gi_wp2
    exact hK
  case body =>
    rintro l B pre x W0 W hLB hBW0 ⟨⟨v, hA, hrow⟩, hB, hwB, hBW⟩ hnx ⟨hf, hW0⟩
    have hpl : pre.length ≤ 1000 := by have := hnx.2; omega
    have f0 := (blk_cell (k := 0) hf rfl).1
    have f1 := (blk_cell (k := 1) hf rfl).1
    have f2 := (blk_cell (k := 2) hf rfl).1
    have f3 := (blk_cell (k := 3) hf rfl).1
    have a0 := (blk_cell (k := 0) hA rfl).1
    simp only [List.getElem_toArray, List.getElem_cons_zero, List.getElem_cons_succ] at f0 f1 f2 f3 a0
    obtain ⟨i0, hi, hz0, hz1, hz2⟩ := info_parts infoK
    have hAl := blk_lt hA
    clear HST hnx
    gi_wp2_with (gi_at_builtin; refine wpListIn_append_own _ rfl _ _ 124 rfl B 94 i0 (kv ⟨0, 0, 0, 0⟩) 4 32 Try.underlying124 hi hz0 hz1 hz2 rfl (by decide) v pre.length _ rfl (hrow.alloc _) ⟨W.heap.size, 0, none⟩ 1 1 (kcl x) rfl rfl ?c1 ?c2 ?c3 ?c4 ?c5 ?_)
    case c1 =>
      intro j u hj
      exact World.news_of_block (blk_new W _) j u hj
    case c2 => intro u hu; simp at hu; rcases hu with rfl | rfl | rfl | rfl <;> rfl
    case c3 => unfold maxLen; omega
    case c4 => omega
    case c5 => simp; omega
    · intro v' w6 hown' hgrow _
      obtain ⟨vp, vc, hvs, -⟩ := row_shp hown'
      subst hvs
      have hvA : v.ownBlock ≠ some w.heap.size := fun e => by
        obtain ⟨-, cur, hcur⟩ := rowc hrow e
        rw [hcur] at hA; cases hA
      have hA6 : w6.heap[w.heap.size]? = some (.cells #[v] 124 (0, 0)) := (hgrow.block _ (by simp; omega) hvA.symm).trans (blk_alloc hA _)
      obtain ⟨b0, bf⟩ := blk_cell (k := 0) hA6 rfl
      simp only [List.getElem_toArray, List.getElem_cons_zero] at b0
      have hsz6 := hgrow.size
      rw [World.size_alloc] at hsz6
      have hkeep : ∀ (k : Nat) (o : Obj), k ≠ w.heap.size → v.ownBlock ≠ some k → W.heap[k]? = some o → (w6.setCell ⟨w.heap.size, 0, none⟩ (.slice vp (pre.length + 1) vc)).heap[k]? = some o := fun k o h1 h2 h3 =>
        blk_set ((hgrow.block k (by have := blk_lt h3; simp; omega) h2.symm).trans (blk_alloc h3 _)) ⟨w.heap.size, 0, none⟩ (by simpa using h1.symm) _
      clear f0 f1 f2 f3 a0
      gi_wp2
      refine ⟨⟨by simp; omega, fun k o h1 h2 h3 => hkeep k o (by omega) (fun e => ?_) h2⟩, ⟨by simp; omega, fun k h1 h2 => ?_⟩, ⟨⟨_, blk_setc (k := 0) hA6 _, ?_⟩, ?_, hwB, ?_⟩⟩
      · obtain ⟨-, cur, hcur⟩ := rowc hrow e
        rw [hcur] at h2; cases h2; cases h3
      · have hkl : k < W.heap.size := by omega
        exact (hkeep k _ (by omega) (fun e => by have := (rowc hrow e).1; omega) (Array.getElem?_eq_getElem hkl)).trans (Array.getElem?_eq_getElem hkl).symm
      · have hN : w6.ownsRow B 94 4 (.slice vp (pre.length + 1) vc) (pre ++ [x]).length (flatK (pre ++ [x])) := by
          rw [flatK_snoc, List.length_append]; exact hown'
        refine row_blk hN (fun k e => Below.heap_setCell _ _ _ _ (fun e2 => ?_))
        obtain ⟨-, cur, hcur⟩ := rowc hN e
        rw [show k = w.heap.size from e2, hA6] at hcur; cases hcur
      · exact ((hB.alloc hB.size _).grown hgrow (by have := hB.size; simp; omega) (fun k e => by have := (rowc hrow e).1; omega)).setCell (Nat.le_refl _) _
      · simp; omega
  case done =>
    rintro D B xs W hD hxs ⟨⟨v, hA, hrow⟩, hB, hwB, hBW⟩ hK
    have a0 := (blk_cell (k := 0) hA rfl).1
    simp only [List.getElem_toArray, List.getElem_cons_zero] at a0
    have hDl := (Array.getElem?_eq_some_iff.1 hK).1
    obtain ⟨vp, vc, hvs, -⟩ := row_shp hrow
    subst hvs
    go_wp2
    refine ⟨by simp, .inl ⟨_, _, rfl, run_takeDeferred hK, ?_⟩⟩
    refine ⟨_, results_tmp rfl _ _ _, _, xs, rfl, hxs, ?_, hB.trans (belowK_b (w := w) (Nat.le_refl _) W D _ _ (by omega) hK rfl rfl)⟩
    refine (row_blk hrow (fun k e => World.putObj_heap_other (fun e' => ?_))).mono ?_
    · obtain ⟨-, cur, hcur⟩ := rowc hrow e
      subst e'
      rw [hcur] at hK; cases hK
    · exact hwB
  case stop =>
    rintro D c pre W _ _ h _
    exact h.elim
end Go.Proofs.Ytecboengeheapaa
