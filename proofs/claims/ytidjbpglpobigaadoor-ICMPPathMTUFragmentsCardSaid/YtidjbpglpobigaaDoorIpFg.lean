/- Contract of ip.Fragment. -/
import Derived.Test.YtidjbpglpobigaaDoorIpFr
import Derived.Deep.AppendLies
import Derived.Deep.Onto
import Derived.Laws.OwnMore
import Derived.Maps.OwnIn
import Derived.Maps.Range
namespace Go.Proofs.YtidjbpglpobigaaDoor
open Go.RowKit Go.Shelf Go.Maps
set_option linter.unusedVariables false
attribute [local go_sem] Oper.semAt_some

theorem infoP : (Tryd.prog.info? 31).map (fun i => (i.zero, i.size, i.bytes)) = some (some (pv pz), 9, 72) := by kernel_rfl

abbrev pcl (p : Pk) : List Value := [.int .i64 p.fr, .int .i64 p.to, .int .i64 p.pr, .int .i64 p.tt, .int .i64 p.id, .bool p.df, .bool p.mf, .int .i64 p.off, .string p.s]
def flatP (L : List Pk) : List Value := L.flatMap fun p => pcl p
theorem flatP_snoc (L : List Pk) (p : Pk) : flatP (L ++ [p]) = flatP L ++ pcl p := by simp [flatP]
theorem row_of_block {w w' : World} {base : Nat} {e : TypeId} {size : Nat} {v : Value} {n : Nat} {xs : List Value} (h : w.ownsRow base e size v n xs) (hk : ∀ k, v.ownBlock = some k → w'.heap[k]? = w.heap[k]?) : w'.ownsRow base e size v n xs := by
  refine ⟨h.1, ?_⟩
  rcases h.2 with h2 | ⟨g, cap, cur, e1, e2, e3, e4⟩
  · exact .inl h2
  · exact .inr ⟨g, cap, cur, e1, e2, (hk g (by rw [e1]; rfl)).trans e3, e4⟩
theorem row_shape {w : World} {base : Nat} {e : TypeId} {size : Nat} {v : Value} {n : Nat} {xs : List Value} (h : w.ownsRow base e size v n xs) : ∃ p c, v = .slice p n c ∧ (v.ownBlock = none ↔ p = none) := by
  rcases h.2 with ⟨rfl, rfl⟩ | ⟨g, cap, cur, rfl, _⟩
  · exact ⟨_, _, rfl, by simp [Value.ownBlock]⟩
  · exact ⟨_, _, rfl, by simp [Value.ownBlock]⟩
theorem row_cells {w : World} {base : Nat} {e : TypeId} {size : Nat} {v : Value} {n : Nat} {xs : List Value} (h : w.ownsRow base e size v n xs) {g : Nat} (hg : v.ownBlock = some g) : base ≤ g ∧ ∃ cur, w.heap[g]? = some (.cells cur e (0, 0)) := by
  rcases h.2 with ⟨rfl, _⟩ | ⟨g', cap, cur, rfl, e2, e3, _⟩
  · cases hg
  · simp only [Value.ownBlock, Option.some.injEq] at hg; subst hg; exact ⟨e2, cur, e3⟩
/-- the loop's state: the box of 'all', the row, the box of the length -/
def FgI (w : World) (A Lb n B : Nat) (pre : List Pk) (W : World) : Prop :=
  (∃ v, W.heap[A]? = some (.cells #[v] 39 (0, 0)) ∧ W.ownsRow B 31 9 v pre.length (flatP pre)) ∧ W.heap[Lb]? = some (.cells #[.int .i64 (n : Int)] 3 (0, 0)) ∧ Below w.heap.size w W ∧ w.heap.size ≤ B ∧ B ≤ W.heap.size

theorem FgI.own {w : World} {A Lb n B L : Nat} (hL : w.heap.size ≤ L) : OwnFrom L (FgI w A Lb n B) := by
  rintro s X Y row ⟨⟨v, hA, hr⟩, hc, hb, hwB, hB⟩ hg hrow
  have hne : ∀ (k : Nat) (cs : Array Value) (t : TypeId), X.heap[k]? = some (.cells cs t (0, 0)) → row ≠ some k := fun k cs t h e => by
    obtain ⟨-, o, ho, hoc⟩ := hrow k e
    rw [h] at ho; cases ho; cases hoc
  have keep : ∀ (k : Nat) (cs : Array Value) (t : TypeId), X.heap[k]? = some (.cells cs t (0, 0)) → Y.heap[k]? = X.heap[k]? := fun k cs t h => hg.block k (blk_lt h) (by have := hne k cs t h; intro e; exact this e.symm)
  refine ⟨⟨v, (keep _ _ _ hA).trans hA, row_of_block hr (fun k e => ?_)⟩, (keep _ _ _ hc).trans hc, hb.grown hg hb.size (fun k e => Nat.le_trans hL (hrow k e).1), hwB, Nat.le_trans hB hg.size⟩
  obtain ⟨-, cur, hcur⟩ := row_cells hr e
  exact keep _ _ _ hcur
theorem FgI.turn {w : World} {A Lb n B L r : Nat} {pre : List Pk} {X Y : World} (hA : A < L) (hLb : Lb < L) (hwL : w.heap.size ≤ L) (h1 : L ≤ r) (h2 : r < B) (hg : X.grownBy Y (some r)) (h : FgI w A Lb n B pre X) : FgI w A Lb n B pre Y := by
  obtain ⟨⟨v, hA', hr⟩, hc, hb, hwB, hB⟩ := h
  have keep : ∀ k, k ≠ r → k < X.heap.size → Y.heap[k]? = X.heap[k]? := fun k hk hl => hg.block k hl (by simpa using hk)
  refine ⟨⟨v, (keep _ (by omega) (blk_lt hA')).trans hA', row_of_block hr (fun k e => ?_)⟩, (keep _ (by omega) (blk_lt hc)).trans hc, hb.grown hg hb.size (fun k e => by cases e; omega), hwB, Nat.le_trans hB hg.size⟩
  obtain ⟨hb2, cur, hcur⟩ := row_cells hr e
  exact keep _ (by omega) (blk_lt hcur)

set_option maxRecDepth 100000 in
set_option maxHeartbeats 3200000 in
theorem fragment_in (p : Pk) (size : Int) (hs : p.s.size ≤ maxLen) (h : okW p p.s.size) (h68 : 68 ≤ size) (hbig : size - 20 < p.s.size) (hdf : p.df = false) (n : Nat) (hn : (n : Int) = size - 20 - (size - 20) % 8) (w : World) :
    CallsIn Fence.wide 8 Tryd.prog 35 #[pv p, .int .i64 size] w fun e w' => (∃ v, e = .returned (.tuple #[v, .int .i64 0]) ∧ w'.ownsRow w.heap.size 31 9 v (frL p n).length (flatP (frL p n))) ∧ Below w.heap.size w w' := by
  have hps : p.s.size ≤ 4000 ∧ 0 ≤ p.off ∧ p.off + p.s.size ≤ 4000 := by
    have := h.2.2.2.1; unfold okP at this; omega
  have hn48 : 48 ≤ n := by omega
  have hnN : frN p n ≤ 4000 := by unfold frN; exact Nat.le_trans (Nat.div_le_self _ _) (by omega)
  have hnl : n < p.s.size := by omega
  have hst := fun Pb Lb w hP hL => frag_stops p n (by omega) (by omega) hps.2.1 hps.2.2 hnl Pb Lb w hP hL
  have HST := Lib.hid hst
  clear hst
  obtain ⟨PP, hPP⟩ : ∃ PP, p = PP := ⟨_, rfl⟩
  have HPP := Lib.hid hPP
  clear hPP
  have hd : decide (okW p p.s.size) = true := decide_eq_true h
  have hV := valid_any p hs
  rw [hd] at hV
  have HV := Lib.hid hV
  clear hV hd
  have hF := fun (F : Fence) (m : Nat) (hf : F.fn 64) (hro : F.round = none) (n : Int) (w : World) => frag_in F m hf hro p n w
  have HF := Lib.hid hF
  clear hF
  have hP1 := blk_new w (po p)
  have hb0 : Below w.heap.size w (w.alloc (po p)) := (Below.refl _ w).alloc (Nat.le_refl _) _
  obtain ⟨fr, dst, pr, tt, id, df, mf, off, s⟩ := p
  simp only at hdf hbig hs
  subst hdf
  refine callsIn_of_wp_marks Tryd.func35 rfl trivial ?_ rfl
  simp only [Tryd.ntmps35, List.size_toArray, List.length_cons, List.length_nil, Nat.reduceAdd, Nat.reduceSub, Array.replicate_succ, Array.replicate_zero, List.push_toArray, List.append_toArray, List.nil_append, List.cons_append]
  refine wpIn_wide.2 ?_
  go_wp2_with fail
  refine (HV.out _).mono ?_
  rintro e w1 ⟨rfl, hb1⟩
  have hP2 := blk_below hP1 hb1 (blk_lt hP1)
  have hB1 := hb0.trans (hb1.mono hb0.size)
  have hPl := blk_lt hP2
  clear hb1 hb0 hP1
  have c0 := (blk_cell (k := 0) hP2 rfl).1
  have c1 := (blk_cell (k := 1) hP2 rfl).1
  have c2 := (blk_cell (k := 2) hP2 rfl).1
  have c3 := (blk_cell (k := 3) hP2 rfl).1
  have c4 := (blk_cell (k := 4) hP2 rfl).1
  have c5 := (blk_cell (k := 5) hP2 rfl).1
  have c6 := (blk_cell (k := 6) hP2 rfl).1
  have c7 := (blk_cell (k := 7) hP2 rfl).1
  have c8 := (blk_cell (k := 8) hP2 rfl).1
  simp only [List.getElem_toArray, List.getElem_cons_zero, List.getElem_cons_succ] at c0 c1 c2 c3 c4 c5 c6 c7 c8
  have k1 : (size < 68) = False := eq_false (by omega)
  have k2 : ((s.size : Int) ≤ size - 20) = False := eq_false (by omega)
  have k3 : wrap64 (size - 20) = size - 20 := IntWalk.wrap64_in _ ⟨by omega, by omega⟩
  have k4 : wrap64 (size - 20 - (size - 20) % 8) = (n : Int) := by rw [← hn]; exact IntWalk.wrap64_in _ ⟨by omega, by omega⟩
  go_wp2_with fail
  refine (callsIn_wide.1 (HF.out Fence.wide 2 trivial rfl _ _)).mono ?_
  rintro e w5 ⟨rfl, hw5⟩
  rw [← hn] at hw5
  have hA5 : w5.heap[w1.heap.size]? = some (.cells #[.slice none 0 0] 39) := by rw [hw5]; exact blk_alloc (blk_alloc (blk_new w1 _) _) _
  have hP5 : w5.heap[w1.heap.size + 1]? = some (po ⟨fr, dst, pr, tt, id, false, mf, off, s⟩) := by
    rw [hw5]; have := blk_alloc (blk_new (w1.alloc (.cells #[.slice none 0 0] 39)) (po ⟨fr, dst, pr, tt, id, false, mf, off, s⟩)) (.cells #[.int .i64 (n : Int)] 3)
    simp only [World.size_alloc] at this; exact this
  have hL5 : w5.heap[w1.heap.size + 1 + 1]? = some (.cells #[.int .i64 (n : Int)] 3) := by
    rw [hw5]; have := blk_new ((w1.alloc (.cells #[.slice none 0 0] 39)).alloc (po ⟨fr, dst, pr, tt, id, false, mf, off, s⟩)) (.cells #[.int .i64 (n : Int)] 3)
    simp only [World.size_alloc] at this; exact this
  have hs5 : w5.heap.size = w1.heap.size + 3 := by rw [hw5]; simp
  have hB5 : Below w.heap.size w w5 := by rw [hw5]; exact ((hB1.alloc hB1.size _).alloc (by have := hB1.size; simp; omega) _).alloc (by have := hB1.size; simp; omega) _
  have hB1s := hB1.size
  clear hw5 hP2 c0 c1 c2 c3 c4 c5 c6 c7 c8 k1 k2 k3 k4 HF HV
  have hro : Fence.wide.round = none := rfl
  go_wp2
  refine (wpIn_wide (n := 8)).1 ?_
  refine wpIn_rangeFunc_ownX hro (by decide) (gf := 87) (lb := #[.pointer (some ⟨w1.heap.size + 1, 0, none⟩), .pointer (some ⟨w1.heap.size + 1 + 1, 0, none⟩)]) rfl trivial (enters_of Tryd.func87 (by kernel_rfl) rfl)
    (HST.out (w1.heap.size + 1) (w1.heap.size + 1 + 1) w5 hP5 hL5) (Below.refl _ _) (fun _ => rfl)
    (FgI w w1.heap.size (w1.heap.size + 1 + 1) n) (fun _ _ _ => False) (fun B => FgI.own (by omega)) (fun _ _ _ _ _ hs _ _ => hs)
    (fun B pre W hI => (blk_cell (k := 0) hI.2.1 rfl).1)
    (fun B pre X Y r h1 h2 hg hI => FgI.turn (L := w5.heap.size + 2) (by omega) (by omega) (by omega) h1 h2 hg hI)
    (fun W' hW' => ⟨⟨_, blk_below hA5 hW' (blk_lt hA5), World.ownsRow_nil _ _ _ _⟩, blk_below hL5 hW' (blk_lt hL5), hB5.trans (hW'.mono hB5.size), Nat.le_trans hB5.size hW'.size, Nat.le_refl _⟩)
    (fun x W0 => { tmps := #[pv ⟨fr, dst, pr, tt, id, false, mf, off, s⟩, .int .i64 size, .pointer (some ⟨w.heap.size, 0, none⟩), undef, .slice none 0 0, .int .i64 0, .int .i64 (size - 20), .pointer (some ⟨w1.heap.size, 0, none⟩), .pointer (some ⟨W0.heap.size, 0, none⟩), .agg #[.int .i64 fr, .int .i64 dst, .int .i64 pr, .int .i64 tt, .int .i64 id, .bool false, .bool mf, .int .i64 off, .string s], .bool true, .bool false, .int .i64 size, .bool false, .int .i64 size, .int .i64 (size - 20), .pointer (some ⟨w.heap.size, 8, none⟩), .string s, .int .i64 (s.size : Int), .int .i64 (size - 20), .bool false, undef, undef, .pointer (some ⟨w.heap.size, 5, none⟩), .bool false, .agg #[.int .i64 fr, .int .i64 dst, .int .i64 pr, .int .i64 tt, .int .i64 id, .bool false, .bool mf, .int .i64 off, .string s], .int .i64 (size - 20), .int .i64 (size - 20), .int .i64 ((size - 20) % 8), .int .i64 (size - 20 - (size - 20) % 8), .func (.func 87) #[] #[.pointer (some ⟨w1.heap.size + 1, 0, none⟩), .pointer (some ⟨w1.heap.size + 1 + 1, 0, none⟩)], pv x, undef, undef, undef, undef, undef], defers := [] })
    (fun x W => W.alloc (po x)) (fun x W0 W => W.heap[W0.heap.size]? = some (po x) ∧ W0.heap.size < W.heap.size) (fun x W => (Below.refl _ W).alloc (Nat.le_refl _) _)
    (fun x W l o hl => ⟨(World.putObj_heap_other (by omega)).trans (blk_new W (po x)), by have h9 := (grownBy_putObj' (W.alloc (po x)) l o).size; rw [World.size_alloc] at h9; omega⟩) (fun B pre W hI => hI.2.2.2.2) ?assign ?body ?done ?stop
  case assign =>
    intro l x W K hK
    gi_wp2
    exact hK
  case body =>
    rintro l B pre x W0 W hLB hBW0 ⟨⟨v, hA, hrow⟩, hLc, hB, hwB, hBW⟩ hnx ⟨hf, hW0⟩
    have hpl : pre.length ≤ 4000 := Nat.le_trans hnx.1 hnN
    have f0 := (blk_cell (k := 0) hf rfl).1
    have f1 := (blk_cell (k := 1) hf rfl).1
    have f2 := (blk_cell (k := 2) hf rfl).1
    have f3 := (blk_cell (k := 3) hf rfl).1
    have f4 := (blk_cell (k := 4) hf rfl).1
    have f5 := (blk_cell (k := 5) hf rfl).1
    have f6 := (blk_cell (k := 6) hf rfl).1
    have f7 := (blk_cell (k := 7) hf rfl).1
    have f8 := (blk_cell (k := 8) hf rfl).1
    have a0 := (blk_cell (k := 0) hA rfl).1
    simp only [List.getElem_toArray, List.getElem_cons_zero, List.getElem_cons_succ] at f0 f1 f2 f3 f4 f5 f6 f7 f8 a0
    obtain ⟨i0, hi, hz0, hz1, hz2⟩ := info_parts infoP
    have hAl := blk_lt hA
    clear HST hnx
    gi_wp2_with (gi_at_builtin; refine wpListIn_append_own _ rfl _ _ 39 rfl B 31 i0 (pv pz) 9 72 Tryd.underlying39 hi hz0 hz1 hz2 rfl (by decide) v pre.length _ rfl (hrow.alloc _) ⟨W.heap.size, 0, none⟩ 1 1 (pcl x) rfl rfl ?c1 ?c2 ?c3 ?c4 ?c5 ?_)
    case c1 =>
      intro j u hj
      exact World.news_of_block (blk_new W _) j u hj
    case c2 => intro u hu; simp at hu; rcases hu with rfl | rfl | rfl | rfl | rfl | rfl | rfl | rfl | rfl <;> rfl
    case c3 => unfold maxLen; omega
    case c4 => omega
    case c5 => simp; omega
    · intro v' w6 hown' hgrow _
      obtain ⟨vp, vc, hvs, -⟩ := row_shape hown'
      subst hvs
      have hvA : v.ownBlock ≠ some w1.heap.size := fun e => by have := (row_cells hrow e).1; omega
      have hA6 : w6.heap[w1.heap.size]? = some (.cells #[v] 39 (0, 0)) := (hgrow.block _ (by simp; omega) hvA.symm).trans (blk_alloc hA _)
      obtain ⟨b0, bf⟩ := blk_cell (k := 0) hA6 rfl
      simp only [List.getElem_toArray, List.getElem_cons_zero] at b0
      have hsz6 := hgrow.size
      rw [World.size_alloc] at hsz6
      have hkeep : ∀ (k : Nat) (o : Obj), k ≠ w1.heap.size → v.ownBlock ≠ some k → W.heap[k]? = some o → (w6.setCell ⟨w1.heap.size, 0, none⟩ (.slice vp (pre.length + 1) vc)).heap[k]? = some o := fun k o h1 h2 h3 =>
        blk_set ((hgrow.block k (by have := blk_lt h3; simp; omega) h2.symm).trans (blk_alloc h3 _)) ⟨w1.heap.size, 0, none⟩ (by simpa using h1.symm) _
      have hgr : w.heap.size ≤ w1.heap.size := hB1s
      clear f0 f1 f2 f3 f4 f5 f6 f7 f8 a0
      gi_wp2
      refine ⟨⟨by simp; omega, fun k o h1 h2 h3 => hkeep k o (by omega) (fun e => ?_) h2⟩, ⟨by simp; omega, fun k h1 h2 => ?_⟩, ⟨⟨_, blk_setc (k := 0) hA6 _, ?_⟩, ?_, ?_, hwB, ?_⟩⟩
      · obtain ⟨-, cur, hcur⟩ := row_cells hrow e
        rw [hcur] at h2; cases h2; cases h3
      · have hkl : k < W.heap.size := by omega
        exact (hkeep k _ (by omega) (fun e => by have := (row_cells hrow e).1; omega) (Array.getElem?_eq_getElem hkl)).trans (Array.getElem?_eq_getElem hkl).symm
      · have hN : w6.ownsRow B 31 9 (.slice vp (pre.length + 1) vc) (pre ++ [x]).length (flatP (pre ++ [x])) := by
          rw [flatP_snoc, List.length_append]; exact hown'
        refine row_of_block hN (fun k e => Below.heap_setCell _ _ _ _ (by have := (row_cells hN e).1; show k ≠ w1.heap.size; omega))
      · exact hkeep _ _ (by omega) (fun e => by have := (row_cells hrow e).1; omega) hLc
      · exact ((hB.alloc hB.size _).grown hgrow (by have := hB.size; simp; omega) (fun k e => by have := (row_cells hrow e).1; omega)).setCell (by exact hgr) _
      · simp; omega
  case done =>
    rintro D B xs W hD rfl ⟨⟨v, hA, hrow⟩, hLc, hB, hwB, hBW⟩ hK
    have a0 := (blk_cell (k := 0) hA rfl).1
    simp only [List.getElem_toArray, List.getElem_cons_zero] at a0
    have hDl := (Array.getElem?_eq_some_iff.1 hK).1
    obtain ⟨vp, vc, hvs, -⟩ := row_shape hrow
    subst hvs
    go_wp2
    refine ⟨by simp, .inl ⟨_, _, rfl, run_takeDeferred hK, ?_⟩⟩
    refine ⟨_, results_tmp2 rfl _ _ _, ⟨_, rfl, ?_⟩, hB.trans (belowK_b (w := w) (Nat.le_refl _) W D _ _ (by omega) hK rfl rfl)⟩
    refine (row_of_block hrow (fun k e => World.putObj_heap_other (fun e' => ?_))).mono ?_
    · obtain ⟨-, cur, hcur⟩ := row_cells hrow e
      subst e'
      rw [hcur] at hK; cases hK
    · exact hwB
  case stop =>
    rintro D c pre W _ _ h _
    exact h.elim

/-- Fragment's results -/
def fgN (size : Int) : Nat := (size - 20 - (size - 20) % 8).toNat
def fgL (p : Pk) (size : Int) : List Pk := if ¬ okW p p.s.size then [] else if size < 68 then [] else if (p.s.size : Int) ≤ size - 20 then [p] else if p.df then [] else frL p (fgN size)
def fgE (p : Pk) (size : Int) : Int := if ¬ okW p p.s.size then 60 else if size < 68 then 2 else if (p.s.size : Int) ≤ size - 20 then 0 else if p.df then 61 else 0

set_option maxRecDepth 100000 in
set_option maxHeartbeats 3200000 in
theorem fragment_any (p : Pk) (size : Int) (hs : p.s.size ≤ maxLen) (h1 : -9223372036854775808 ≤ size) (h2 : size ≤ 9223372036854775807) (w : World) :
    Calls Tryd.prog 35 #[pv p, .int .i64 size] w fun e w' => (∃ v, e = .returned (.tuple #[v, .int .i64 (fgE p size)]) ∧ w'.ownsRow w.heap.size 31 9 v (fgL p size).length (flatP (fgL p size))) ∧ Below w.heap.size w w' := by
  by_cases h : okW p p.s.size
  · by_cases h68 : size < 68
    · have hd : decide (okW p p.s.size) = true := decide_eq_true h
      have hL : fgL p size = [] := by unfold fgL; rw [if_neg (by simpa using h), if_pos h68]
      have hE : fgE p size = 2 := by unfold fgE; rw [if_neg (by simpa using h), if_pos h68]
      rw [hL, hE]
      have hb0 : Below w.heap.size w (w.alloc (po p)) := (Below.refl _ w).alloc (Nat.le_refl _) _
      have h68' : (size < 68) = True := eq_true h68
      go_enter Tryd.func35, Tryd.ntmps35
      go_wp2_with fail
      refine (valid_any p hs _).mono ?_
      rintro e w1 ⟨rfl, hb1⟩
      rw [hd]
      go_wp2
      go_ret2
      exact ⟨⟨_, rfl, World.ownsRow_nil _ _ _ _⟩, hb0.trans (hb1.mono hb0.size)⟩
    · by_cases hfit : (p.s.size : Int) ≤ size - 20
      · have hd : decide (okW p p.s.size) = true := decide_eq_true h
        have hL : fgL p size = [p] := by unfold fgL; rw [if_neg (by simpa using h), if_neg h68, if_pos hfit]
        have hE : fgE p size = 0 := by unfold fgE; rw [if_neg (by simpa using h), if_neg h68, if_pos hfit]
        rw [hL, hE]
        have hb0 : Below w.heap.size w (w.alloc (po p)) := (Below.refl _ w).alloc (Nat.le_refl _) _
        have h68' : (size < 68) = False := eq_false h68
        have k3 : wrap64 (size - 20) = size - 20 := IntWalk.wrap64_in _ ⟨by omega, by omega⟩
        have hfit' : ((p.s.size : Int) ≤ size - 20) = True := eq_true hfit
        go_enter Tryd.func35, Tryd.ntmps35
        go_wp2_with fail
        refine (valid_any p hs _).mono ?_
        rintro e w1 ⟨rfl, hb1⟩
        rw [hd]
        have hP2 := blk_below (blk_new w (po p)) hb1 (by simp)
        have hB1 := hb0.trans (hb1.mono hb0.size)
        clear hb1 hb0
        have c0 := (blk_cell (k := 0) hP2 rfl).1
        have c1 := (blk_cell (k := 1) hP2 rfl).1
        have c2 := (blk_cell (k := 2) hP2 rfl).1
        have c3 := (blk_cell (k := 3) hP2 rfl).1
        have c4 := (blk_cell (k := 4) hP2 rfl).1
        have c5 := (blk_cell (k := 5) hP2 rfl).1
        have c6 := (blk_cell (k := 6) hP2 rfl).1
        have c7 := (blk_cell (k := 7) hP2 rfl).1
        have c8 := (blk_cell (k := 8) hP2 rfl).1
        simp only [List.getElem_toArray, List.getElem_cons_zero, List.getElem_cons_succ] at c0 c1 c2 c3 c4 c5 c6 c7 c8
        go_wp2
        go_ret2
        exact ⟨⟨_, rfl, World.ownsRow_lit w1 (pcl p).toArray 1 hB1.size (by decide) rfl⟩, hB1.alloc hB1.size _⟩
      · cases hdf : p.df
        · have hL : fgL p size = frL p (fgN size) := by unfold fgL; rw [if_neg (by simpa using h), if_neg h68, if_neg hfit, hdf]; rfl
          have hE : fgE p size = 0 := by unfold fgE; rw [if_neg (by simpa using h), if_neg h68, if_neg hfit, hdf]; rfl
          rw [hL, hE]
          exact callsIn_wide.1 (fragment_in p size hs h (by omega) (by omega) hdf (fgN size) (by unfold fgN; omega) w)
        · have hd : decide (okW p p.s.size) = true := decide_eq_true h
          have hL : fgL p size = [] := by unfold fgL; rw [if_neg (by simpa using h), if_neg h68, if_neg hfit, hdf]; rfl
          have hE : fgE p size = 61 := by unfold fgE; rw [if_neg (by simpa using h), if_neg h68, if_neg hfit, hdf]; rfl
          rw [hL, hE]
          have hb0 : Below w.heap.size w (w.alloc (po p)) := (Below.refl _ w).alloc (Nat.le_refl _) _
          have h68' : (size < 68) = False := eq_false h68
          have k3 : wrap64 (size - 20) = size - 20 := IntWalk.wrap64_in _ ⟨by omega, by omega⟩
          have hfit' : ((p.s.size : Int) ≤ size - 20) = False := eq_false hfit
          have HDF := Lib.hid hdf
          clear hdf
          go_enter Tryd.func35, Tryd.ntmps35
          go_wp2_with fail
          refine (valid_any p hs _).mono ?_
          rintro e w1 ⟨rfl, hb1⟩
          rw [hd]
          have hP2 := blk_below (blk_new w (po p)) hb1 (by simp)
          have hB1 := hb0.trans (hb1.mono hb0.size)
          clear hb1 hb0
          have c5 := (blk_cell (k := 5) hP2 rfl).1
          have c8 := (blk_cell (k := 8) hP2 rfl).1
          simp only [List.getElem_toArray, List.getElem_cons_zero, List.getElem_cons_succ] at c5 c8
          have hdf := HDF.out
          go_wp2
          go_ret2
          exact ⟨⟨_, rfl, World.ownsRow_nil _ _ _ _⟩, hB1⟩
  · have hd : decide (okW p p.s.size) = false := decide_eq_false h
    have hL : fgL p size = [] := by unfold fgL; rw [if_pos h]
    have hE : fgE p size = 60 := by unfold fgE; rw [if_pos h]
    rw [hL, hE]
    have hb0 : Below w.heap.size w (w.alloc (po p)) := (Below.refl _ w).alloc (Nat.le_refl _) _
    go_enter Tryd.func35, Tryd.ntmps35
    go_wp2_with fail
    refine (valid_any p hs _).mono ?_
    rintro e w1 ⟨rfl, hb1⟩
    rw [hd]
    go_wp2
    go_ret2
    exact ⟨⟨_, rfl, World.ownsRow_nil _ _ _ _⟩, hb0.trans (hb1.mono hb0.size)⟩
end Go.Proofs.YtidjbpglpobigaaDoor
