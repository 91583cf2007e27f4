/- Contracts of best and Lookup. -/
import Derived.Test.YtgfcpimklmgnbaaRoE
import Derived.Test.YtgfcpimklmgnbaaRoBl
import Derived.RegionTactic
import Derived.BigRegion
namespace Go.Proofs.Ytgfcpimklmgnbaa
open Go.RowKit Go.Shelf
set_option linter.unusedVariables false
attribute [local go_sem] Oper.semAt_some

def rz : Ro := ⟨0, 0, 0, 0⟩
def topR (o : Option Ro) : Ro := match o with | some r => r | none => rz
theorem longer_any (a b : Ro) (w : World) :
    Calls Try.prog 28 #[rv a, rv b] w fun e w' => e = .returned (.bool (decide (b.nb < a.nb))) ∧ Below w.heap.size w w' := by
  go_enter Try.func28, Try.ntmps28
  go_wp2
  go_ret
  exact ⟨rfl, ((Below.refl _ _).alloc (Nat.le_refl _) _).alloc (by simp) _⟩

/-- the loop's state: the best so far, whether there is one, the box of the closure, the box of the result -/
def BsI (w : World) (o : Option Ro) (W : World) : Prop :=
  W.heap[w.heap.size + 1 + 1]? = some (ro (topR o)) ∧ W.heap[w.heap.size + 1 + 1 + 1]? = some (.cells #[.bool o.isSome] 4 (0, 0)) ∧
  W.heap[w.heap.size]? = some (.cells #[.func (.func 28) #[] #[]] 63 (0, 0)) ∧ W.heap[w.heap.size + 1]? = some (ro rz) ∧ Below w.heap.size w W
theorem BsI.grown {w X Y : World} {o : Option Ro} {row : Option Nat} (h : BsI w o X) (hg : X.grownBy Y row) (hr : ∀ r, row = some r → w.heap.size + 4 ≤ r) : BsI w o Y := by
  obtain ⟨h1, h2, h3, h4, h5⟩ := h
  have keep : ∀ (k : Nat) (o : Obj), k < w.heap.size + 4 → X.heap[k]? = some o → Y.heap[k]? = some o := fun k o hk h => (hg.block k (blk_lt h) (by intro e; cases row with | none => cases e | some r => cases e; have := hr _ rfl; omega)).trans h
  exact ⟨keep _ _ (by omega) h1, keep _ _ (by omega) h2, keep _ _ (by omega) h3, keep _ _ (by omega) h4, h5.grown hg h5.size (fun r e => by have := hr r e; omega)⟩
theorem BsI.put {w W : World} {o : Option Ro} (h : BsI w o W) (x : Ro) :
    BsI w (some x) (((((W.setCell ⟨w.heap.size + 1 + 1, 0, none⟩ (.int .i64 x.na)).setCell ⟨w.heap.size + 1 + 1, 1, none⟩ (.int .i64 x.nb)).setCell ⟨w.heap.size + 1 + 1, 2, none⟩ (.int .i64 x.via)).setCell ⟨w.heap.size + 1 + 1, 3, none⟩ (.int .i64 x.face)).setCell ⟨w.heap.size + 1 + 1 + 1, 0, none⟩ (.bool true)) := by
  obtain ⟨h1, h2, h3, h4, h5⟩ := h
  have far : ∀ {V : World} {k : Nat} {a : Addr} {ob : Obj} (v : Value), V.heap[k]? = some ob → k ≠ a.block → (V.setCell a v).heap[k]? = some ob := fun v h hne => blk_set h _ (fun e => hne e.symm) v
  refine ⟨?_, ?_, ?_, ?_, ?_⟩
  · refine far _ ?_ (by simp)
    exact blk_setc (k := 3) (blk_setc (k := 2) (blk_setc (k := 1) (blk_setc (k := 0) h1 _) _) _) _
  · have := far (a := ⟨w.heap.size + 1 + 1, 3, none⟩) (.int .i64 x.face) (far (a := ⟨w.heap.size + 1 + 1, 2, none⟩) (.int .i64 x.via) (far (a := ⟨w.heap.size + 1 + 1, 1, none⟩) (.int .i64 x.nb) (far (a := ⟨w.heap.size + 1 + 1, 0, none⟩) (.int .i64 x.na) h2 (by simp)) (by simp)) (by simp)) (by simp)
    exact blk_setc (k := 0) this _
  · exact far _ (far _ (far _ (far _ (far _ h3 (by simp; omega)) (by simp; omega)) (by simp; omega)) (by simp; omega)) (by simp; omega)
  · exact far _ (far _ (far _ (far _ (far _ h4 (by simp)) (by simp)) (by simp)) (by simp)) (by simp)
  · exact ((((h5.setCell (by simp; omega) _).setCell (by simp; omega) _).setCell (by simp; omega) _).setCell (by simp; omega) _).setCell (by simp; omega) _
theorem puts_keep {w W : World} (k : Nat) (hk : w.heap.size + 4 ≤ k) (a b c d e : Value) :
    (((((W.setCell ⟨w.heap.size + 1 + 1, 0, none⟩ a).setCell ⟨w.heap.size + 1 + 1, 1, none⟩ b).setCell ⟨w.heap.size + 1 + 1, 2, none⟩ c).setCell ⟨w.heap.size + 1 + 1, 3, none⟩ d).setCell ⟨w.heap.size + 1 + 1 + 1, 0, none⟩ e).heap[k]? = W.heap[k]? := by
  have far : ∀ {V : World} {a : Addr} (v : Value), a.block < w.heap.size + 4 → (V.setCell a v).heap[k]? = V.heap[k]? := fun v h => Below.heap_setCell _ _ _ _ (by omega)
  exact (far _ (by simp)).trans ((far _ (by simp)).trans ((far _ (by simp)).trans ((far _ (by simp)).trans (far _ (by simp)))))
theorem body_end {n B : Nat} {W W' : World} (hs : W.heap.size ≤ W'.heap.size) (hB : B ≤ W.heap.size) (hk : ∀ k, n ≤ k → k < W.heap.size → W'.heap[k]? = W.heap[k]?) : KeepsFrom n W W' ∧ KeepsIn (n + 2) B W W' :=
  ⟨⟨hs, fun k o h1 h2 h3 => (hk k h1 (blk_lt h2)).trans h2⟩, ⟨hs, fun k h1 h2 => hk k (by omega) (by omega)⟩⟩

set_option maxRecDepth 100000 in
set_option maxHeartbeats 3200000 in
theorem best_in (fs : List Fc) (rs : List Ro) (to : Int) (vf vr : Value) (Fb Tb Rb : Nat) (w : World) (hf : FsAt w vf fs) (hr : RsAt w vr rs) (hto : InI to)
    (hFb : w.cell? ⟨Fb, 0, none⟩ = some vf) (hTb : w.cell? ⟨Tb, 0, none⟩ = some (.int .i64 to)) (hRb : w.cell? ⟨Rb, 0, none⟩ = some vr) :
    CallsIn Fence.wide 8 Try.prog 29 #[.func (.func 39) #[] #[.pointer (some ⟨Fb, 0, none⟩), .pointer (some ⟨Tb, 0, none⟩), .pointer (some ⟨Rb, 0, none⟩)], .func (.func 28) #[] #[]] w fun e w' =>
      e = .returned (.tuple #[rv (topR (bestC (candL fs rs to))), .bool (bestC (candL fs rs to)).isSome]) ∧ Below w.heap.size w w' := by
  have hcs := Lib.hid (cand_stops fs rs to vf vr Fb Tb Rb w hf hr hto hFb hTb hRb)
  clear hf hr hFb hTb hRb
  refine callsIn_of_wp_marks Try.func29 rfl trivial ?_ rfl
  simp only [Try.ntmps29, List.size_toArray, List.length_cons, List.length_nil, Nat.reduceAdd, Nat.reduceSub, Array.replicate_succ, Array.replicate_zero, List.push_toArray, List.append_toArray, List.nil_append, List.cons_append]
  refine wpIn_wide.2 ?_
  go_wp2_with fail
  have hw4 : ∀ W4 : World, W4 = ((((w.alloc (.cells #[.func (.func 28) #[] #[]] 63)).alloc (ro rz)).alloc (ro rz)).alloc (.cells #[.bool false] 4)) → BsI w none W4 ∧ W4.heap.size = w.heap.size + 4 := by
    rintro W4 rfl
    refine ⟨⟨?_, ?_, ?_, ?_, ?_⟩, by simp⟩
    · have := blk_alloc (blk_new ((w.alloc (.cells #[.func (.func 28) #[] #[]] 63)).alloc (ro rz)) (ro rz)) (.cells #[.bool false] 4)
      simp only [World.size_alloc] at this; exact this
    · have := blk_new (((w.alloc (.cells #[.func (.func 28) #[] #[]] 63)).alloc (ro rz)).alloc (ro rz)) (.cells #[.bool false] 4)
      simp only [World.size_alloc] at this; exact this
    · exact blk_alloc (blk_alloc (blk_alloc (blk_new w _) _) _) _
    · have := blk_alloc (blk_alloc (blk_new (w.alloc (.cells #[.func (.func 28) #[] #[]] 63)) (ro rz)) (ro rz)) (.cells #[.bool false] 4)
      simp only [World.size_alloc] at this; exact this
    · exact ((((Below.refl _ w).alloc (Nat.le_refl _) _).alloc (by simp) _).alloc (by simp; omega) _).alloc (by simp; omega) _
  have hro : Fence.wide.round = none := rfl
  show Code.wp _ _ _ _ ((((w.alloc (.cells #[.func (.func 28) #[] #[]] 63)).alloc (ro rz)).alloc (ro rz)).alloc (.cells #[.bool false] 4))
  obtain ⟨w4, hw4e⟩ : ∃ w4, ((((w.alloc (.cells #[.func (.func 28) #[] #[]] 63)).alloc (ro rz)).alloc (ro rz)).alloc (.cells #[.bool false] 4)) = w4 := ⟨_, rfl⟩
  obtain ⟨hb4, hs4⟩ := hw4 w4 hw4e.symm
  rw [hw4e]
  clear hw4 hw4e
  have HB4 := Lib.hid hb4
  clear hb4
  refine (wpIn_wide (n := 8)).1 ?_
  refine wpIn_rangeFunc_ownX hro (by decide) (gf := 39) (lb := #[.pointer (some ⟨Fb, 0, none⟩), .pointer (some ⟨Tb, 0, none⟩), .pointer (some ⟨Rb, 0, none⟩)]) rfl trivial (enters_of Try.func39 (by kernel_rfl) rfl)
    hcs.out HB4.out.2.2.2.2 (fun _ => rfl)
    (fun B pre W => BsI w (bestC pre) W ∧ B ≤ W.heap.size) (fun _ _ _ => False)
    (fun B s X Y row h hg hrow => ⟨h.1.grown hg (fun r e => by have := (hrow r e).1; omega), Nat.le_trans h.2 hg.size⟩) (fun _ _ _ _ _ hs _ _ => hs)
    (fun B pre W hI => hI.1.2.2.2.2)
    (fun B pre X Y r h1 h2 hg hI => ⟨hI.1.grown hg (fun r' e => by cases e; omega), Nat.le_trans hI.2 hg.size⟩)
    (fun W' hW' => ⟨HB4.out.grown (grown_none hW') (fun r e => by cases e), Nat.le_refl _⟩)
    (fun x W0 => { tmps := #[.func (.func 39) #[] #[.pointer (some ⟨Fb, 0, none⟩), .pointer (some ⟨Tb, 0, none⟩), .pointer (some ⟨Rb, 0, none⟩)], .func (.func 28) #[] #[], undef, .pointer (some ⟨w.heap.size, 0, none⟩), .pointer (some ⟨w.heap.size + 1, 0, none⟩), .bool false, .pointer (some ⟨w.heap.size + 1 + 1, 0, none⟩), .pointer (some ⟨w.heap.size + 1 + 1 + 1, 0, none⟩), .pointer (some ⟨W0.heap.size, 0, none⟩), .func (.func 39) #[] #[.pointer (some ⟨Fb, 0, none⟩), .pointer (some ⟨Tb, 0, none⟩), .pointer (some ⟨Rb, 0, none⟩)], rv x, undef, undef, undef, undef, undef, undef, undef, undef, undef, undef, undef], defers := [] })
    (fun x W => W.alloc (ro x)) (fun x W0 W => W.heap[W0.heap.size]? = some (ro x) ∧ W0.heap.size < W.heap.size) (fun x W => (Below.refl _ W).alloc (Nat.le_refl _) _)
    (fun x W l o hl => ⟨(World.putObj_heap_other (by omega)).trans (blk_new W (ro x)), by have h9 := (grownBy_putObj' (W.alloc (ro x)) l o).size; rw [World.size_alloc] at h9; omega⟩) (fun B pre W hI => hI.2) ?assign ?body ?done ?stop
  case assign =>
    intro l x W K hK
    gi_wp2
    exact hK
  case body =>
    rintro l B pre x W0 W hLB hBW0 ⟨hbs, hBW⟩ hnx ⟨hf, hW0⟩
    rw [hs4] at hLB
    have hsn := Lib.hid (bestC_snoc pre x)
    have f0 := (blk_cell (k := 0) hf rfl).1
    have f1 := (blk_cell (k := 1) hf rfl).1
    have f2 := (blk_cell (k := 2) hf rfl).1
    have f3 := (blk_cell (k := 3) hf rfl).1
    obtain ⟨b1, b2, b3, b4, b5⟩ := id hbs
    obtain ⟨a0, g0⟩ := blk_cell (k := 0) b1 rfl
    obtain ⟨a1, g1⟩ := blk_cell (k := 1) b1 rfl
    obtain ⟨a2, g2⟩ := blk_cell (k := 2) b1 rfl
    obtain ⟨a3, g3⟩ := blk_cell (k := 3) b1 rfl
    obtain ⟨d0, e0⟩ := blk_cell (k := 0) b2 rfl
    obtain ⟨l0, -⟩ := blk_cell (k := 0) b3 rfl
    have HBS := Lib.hid hbs
    simp only [List.getElem_toArray, List.getElem_cons_zero, List.getElem_cons_succ] at f0 f1 f2 f3 a0 a1 a2 a3 d0 l0
    clear hbs b1 b2 b3 b4 b5 hf
    cases hbc : bestC pre with
    | none =>
      rw [hbc] at HBS hsn a0 a1 a2 a3 d0
      simp only [topR, Option.isSome_none] at a0 a1 a2 a3 d0
      gi_wp2
      refine And.intro (a := ∀ (f : FuncId), (none : Option FuncId) = some f → Fence.wide.fn f) (fun f h => by cases h) ?_
      gi_wp2
      obtain ⟨e1, e2⟩ := body_end (n := w4.heap.size) (B := B) (W := W) (W' := (((((W.setCell ⟨w.heap.size + 1 + 1, 0, none⟩ (.int .i64 x.na)).setCell ⟨w.heap.size + 1 + 1, 1, none⟩ (.int .i64 x.nb)).setCell ⟨w.heap.size + 1 + 1, 2, none⟩ (.int .i64 x.via)).setCell ⟨w.heap.size + 1 + 1, 3, none⟩ (.int .i64 x.face)).setCell ⟨w.heap.size + 1 + 1 + 1, 0, none⟩ (.bool true))) (by simp) hBW (fun k h1 h2 => puts_keep k (by omega) _ _ _ _ _)
      exact ⟨e1, e2, by rw [hsn.out]; exact HBS.out.put x, by simpa using hBW⟩
    | some c =>
      rw [hbc] at HBS hsn a0 a1 a2 a3 d0
      simp only [topR, Option.isSome_some] at a0 a1 a2 a3 d0
      gi_wp2
      refine ⟨trivial, (CallsIn.inRound l (callsIn_wide.2 (longer_any x c W))).mono ?_⟩
      rintro e W2 ⟨rfl, hb2⟩
      have kc : ∀ {a : Addr} {v : Value}, W.cell? a = some v → W2.cell? a = some v := fun h => (hb2.cell (World.block_lt_of_cell? _ _ h)).trans h
      have kf : ∀ {a : Addr} {v : Value}, W.cell? a = some v → W.frozen? a = false → W2.frozen? a = false := fun h h' => (hb2.frozen (World.block_lt_of_cell? _ _ h)).trans h'
      have p0 := kc f0
      have p1 := kc f1
      have p2 := kc f2
      have p3 := kc f3
      have r0 := kc a0
      have r1 := kc a1
      have r2 := kc a2
      have r3 := kc a3
      have r4 := kc d0
      have s0 := kf a0 g0
      have s1 := kf a1 g1
      have s2 := kf a2 g2
      have s3 := kf a3 g3
      have s4 := kf d0 e0
      have HBS2 := Lib.hid (HBS.out.grown (grown_none hb2) (fun r e => by cases e))
      have HB2 := Lib.hid hb2
      clear f0 f1 f2 f3 a0 a1 a2 a3 d0 l0 g0 g1 g2 g3 e0 kc kf hb2 HBS
      by_cases hlt : c.nb < x.nb
      · rw [show stepC (some c) x = some x from by simp [stepC, hlt]] at hsn
        have hd : decide (c.nb < x.nb) = true := decide_eq_true hlt
        gi_wp2
        obtain ⟨e1, e2⟩ := body_end (n := w4.heap.size) (B := B) (W := W) (W' := (((((W2.setCell ⟨w.heap.size + 1 + 1, 0, none⟩ (.int .i64 x.na)).setCell ⟨w.heap.size + 1 + 1, 1, none⟩ (.int .i64 x.nb)).setCell ⟨w.heap.size + 1 + 1, 2, none⟩ (.int .i64 x.via)).setCell ⟨w.heap.size + 1 + 1, 3, none⟩ (.int .i64 x.face)).setCell ⟨w.heap.size + 1 + 1 + 1, 0, none⟩ (.bool true))) (by simpa using HB2.out.size) hBW (fun k h1 h2 => (puts_keep k (by omega) _ _ _ _ _).trans (HB2.out.block k h2))
        exact ⟨e1, e2, by rw [hsn.out]; exact HBS2.out.put x, by simpa using Nat.le_trans hBW HB2.out.size⟩
      · rw [show stepC (some c) x = some c from by simp [stepC, hlt]] at hsn
        have hd : decide (c.nb < x.nb) = false := decide_eq_false hlt
        gi_wp2
        obtain ⟨e1, e2⟩ := body_end (n := w4.heap.size) (B := B) (W := W) (W' := W2) HB2.out.size hBW (fun k h1 h2 => HB2.out.block k h2)
        exact ⟨e1, e2, by rw [hsn.out]; exact HBS2.out, Nat.le_trans hBW HB2.out.size⟩
  case done =>
    rintro D B xs W hD rfl ⟨hbs, hBW⟩ hK
    rw [hs4] at hD
    obtain ⟨o, ho⟩ : ∃ o, bestC (candL fs rs to) = o := ⟨_, rfl⟩
    rw [ho] at hbs
    have HO := Lib.hid ho
    clear ho
    obtain ⟨b1, b2, b3, b4, b5⟩ := id hbs
    have a0 := (blk_cell (k := 0) b1 rfl).1
    have a1 := (blk_cell (k := 1) b1 rfl).1
    have a2 := (blk_cell (k := 2) b1 rfl).1
    have a3 := (blk_cell (k := 3) b1 rfl).1
    have d0 := (blk_cell (k := 0) b2 rfl).1
    obtain ⟨l0, m0⟩ := blk_cell (k := 0) b4 rfl
    obtain ⟨l1, m1⟩ := blk_cell (k := 1) b4 rfl
    obtain ⟨l2, m2⟩ := blk_cell (k := 2) b4 rfl
    obtain ⟨l3, m3⟩ := blk_cell (k := 3) b4 rfl
    simp only [List.getElem_toArray, List.getElem_cons_zero, List.getElem_cons_succ] at a0 a1 a2 a3 d0 l0 l1 l2 l3
    have HBS := Lib.hid hbs
    have HB := Lib.hid b5
    clear hbs b1 b2 b3 b4 b5
    go_wp2_with fail
    go_region
    have hfar : ∀ {V : World} {k : Nat} {ob : Obj} (j : Nat) (v : Value), V.heap[k]? = some ob → k ≠ w.heap.size + 1 → (V.setCell ⟨w.heap.size + 1, j, none⟩ v).heap[k]? = some ob := fun j v h hne => blk_set h _ (fun e => hne e.symm) v
    obtain ⟨W5, hW5⟩ : ∃ W5, ((((W.setCell ⟨w.heap.size + 1, 0, none⟩ (.int .i64 (topR o).na)).setCell ⟨w.heap.size + 1, 1, none⟩ (.int .i64 (topR o).nb)).setCell ⟨w.heap.size + 1, 2, none⟩ (.int .i64 (topR o).via)).setCell ⟨w.heap.size + 1, 3, none⟩ (.int .i64 (topR o).face)).drew = W5 := ⟨_, rfl⟩
    have hK5 : W5.heap[D]? = some (.deferred (some [])) := by
      rw [← hW5]
      exact hfar _ _ (hfar _ _ (hfar _ _ (hfar _ _ hK (by omega)) (by omega)) (by omega)) (by omega)
    have hR5 : W5.heap[w.heap.size + 1]? = some (ro (topR o)) := by
      rw [← hW5]
      exact blk_setc (k := 3) (blk_setc (k := 2) (blk_setc (k := 1) (blk_setc (k := 0) HBS.out.2.2.2.1 _) _) _) _
    have hB5 : Below w.heap.size w W5 := by
      rw [← hW5]
      exact ((((HB.out.setCell (by simp) _).setCell (by simp) _).setCell (by simp) _).setCell (by simp) _).drew
    rw [hW5]
    clear hW5 l0 l1 l2 l3 m0 m1 m2 m3 a0 a1 a2 a3 d0
    go_wp2_with fail
    have hR6 : (W5.putObj D (.deferred none)).heap[w.heap.size + 1]? = some (ro (topR o)) := (World.putObj_heap_other (by omega)).trans hR5
    have x0 := (blk_cell (k := 0) hR6 rfl).1
    have x1 := (blk_cell (k := 1) hR6 rfl).1
    have x2 := (blk_cell (k := 2) hR6 rfl).1
    have x3 := (blk_cell (k := 3) hR6 rfl).1
    simp only [List.getElem_toArray, List.getElem_cons_zero, List.getElem_cons_succ] at x0 x1 x2 x3
    have hbb := hB5.trans (belowK_b (w := w) (Nat.le_refl _) W5 D _ (.deferred none) (by omega) hK5 rfl rfl)
    refine ⟨by simp, .inl ⟨_, _, rfl, run_takeDeferred hK5, ?_⟩⟩
    refine ⟨_, (by simp [results, Try.results29, go_sem, x0, x1, x2, x3]; try rfl), ?_⟩
    rw [HO.out]
    exact ⟨rfl, hbb⟩
  case stop =>
    rintro D c pre W _ _ h _
    exact h.elim
end Go.Proofs.Ytgfcpimklmgnbaa
