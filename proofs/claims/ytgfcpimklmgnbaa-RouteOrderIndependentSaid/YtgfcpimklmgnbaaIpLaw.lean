/- A law for the range over a function whose iterator writes memory of its own between two rounds: the blocks from where its call began up to B, where its first round begins; the loop's invariant does not read them. The contract says which element comes next (Nx). -/
import Derived.RangeFuncWrites
import Derived.Test.YtgfcpimklmgnbaaProg
namespace Go.Proofs.Ytgfcpimklmgnbaa
open Go.RowKit

/-- The blocks from lo up to hi lie as they lay. -/
structure KeepsIn (lo hi : Nat) (W W' : World) : Prop where
  size : W.heap.size ≤ W'.heap.size
  same : ∀ k, lo ≤ k → k < hi → W'.heap[k]? = W.heap[k]?

theorem KeepsIn.refl (lo hi : Nat) (W : World) : KeepsIn lo hi W W := ⟨Nat.le_refl _, fun _ _ _ => rfl⟩
theorem KeepsIn.trans {lo hi : Nat} {X Y Z : World} (h : KeepsIn lo hi X Y) (k : KeepsIn lo hi Y Z) : KeepsIn lo hi X Z :=
  ⟨Nat.le_trans h.size k.size, fun i h1 h2 => (k.same i h1 h2).trans (h.same i h1 h2)⟩
theorem KeepsIn.putObj {lo hi : Nat} (W : World) (l : Nat) (o : Obj) (hl : l < lo) : KeepsIn lo hi W (W.putObj l o) :=
  ⟨(grownBy_putObj' W l o).size, fun k h1 _ => World.putObj_heap_other (by omega)⟩

def SeqStopsH {α : Type} (F : Fence) (n : Nat) (P : Program) (g : Nat) (lb : Array Value) (encs : α → Array Value) (H : List α → World → Prop) (Nx : List α → α → Prop) (S Sp : List α → Prop) (w : World) : Prop :=
  ∀ (l : Nat) (J : Nat → List α → World → Prop) (Jx : List α → World → Prop) (W : World), Below w.heap.size w W → (∀ B, AbidesFrom W.heap.size (J B)) → AbidesFrom W.heap.size Jx →
    (∀ B pre W1, J B pre W1 → H pre W1) →
    (∀ B pre W1 W2 r, W.heap.size ≤ r → r < B → W1.grownBy W2 (some r) → J B pre W1 → J B pre W2) →
    (∀ B pre x W1, W.heap.size ≤ B → J B pre W1 → Nx pre x → YieldAt F (n - 1) P l (encs x) W1 fun e W' =>
      (e = .returned (.bool true) ∧ J B (pre ++ [x]) W' ∧ KeepsIn W.heap.size B W1 W') ∨ (e = .returned (.bool false) ∧ Jx (pre ++ [x]) W')) →
    (∀ W', Below W.heap.size W W' → J W'.heap.size [] W') →
    CallsIn F n P g (#[.func (.yield l) #[] #[]] ++ lb) W fun e W' => (∃ v, e = .returned v) ∧ ((∃ B xs, S xs ∧ J B xs W') ∨ (∃ pre, Sp pre ∧ Jx pre W'))

/-- How the body of a round may be left. -/
def ownPostH {α : Type} (L B : Nat) (I : List α → World → Prop) (Ix : Code → List α → World → Prop) (xs : List α) (W : World) : Exit → Act → World → Prop
  | .normal, _, W' => KeepsFrom L W W' ∧ KeepsIn (L + 2) B W W' ∧ I xs W'
  | .ret, _, W' => KeepsFrom L W W' ∧ Ix .ret xs W'
  | .exit id, _, W' => KeepsFrom L W W' ∧ Ix (.exit id) xs W'
  | .goto t, _, W' => KeepsFrom L W W' ∧ Ix (.goto t) xs W'
  | .panic _, _, _ => False
  | .outgrown, _, _ => False

variable {F : Fence} {n : Nat} {P : Program}

theorem wpIn_rangeFunc_ownX {α : Type} {g : Operand} {ps : Array Tmp} {assign body : Code} {Q : Exit → Act → World → Prop} {a : Act} {w : World}
    (hro : F.round = none) (h1 : 1 ≤ n) {gf : Nat} {lb : Array Value} (hg : a.eval g = .func (.func gf) #[] lb) (hFg : F.fn gf) (eg : ∀ args w, (callFunc gf args).run P w = .ok (.enter gf args) w)
    {encs : α → Array Value} {H : List α → World → Prop} {Nx : List α → α → Prop} {S Sp : List α → Prop} {w0 : World} (hseq : SeqStopsH F (n - 1) P gf lb encs H Nx S Sp w0)
    (hb0 : Below w0.heap.size w0 w) (hps : ∀ x, (encs x).size = ps.size)
    (I : Nat → List α → World → Prop) (Ix : Code → List α → World → Prop) (hI : ∀ B, OwnFrom w.heap.size (I B)) (hIx : ∀ c, OwnFrom w.heap.size (Ix c))
    (hH : ∀ B pre W, I B pre W → H pre W)
    (hIw : ∀ B pre W1 W2 r, w.heap.size + 2 ≤ r → r < B → W1.grownBy W2 (some r) → I B pre W1 → I B pre W2)
    (h0 : ∀ W', Below w.heap.size w W' → I W'.heap.size [] W') (a₁ : α → World → Act) (wa : α → World → World) (Bx : α → World → World → Prop) (hwa : ∀ x W, Below W.heap.size W (wa x W))
    (hBx : ∀ x W l o, l < W.heap.size → Bx x W ((wa x W).putObj l o)) (hIB : ∀ B pre W, I B pre W → B ≤ W.heap.size)
    (hassign : ∀ (l : Nat) (x : α) (W : World) (K : Act → World → Prop), K (a₁ x W) (wa x W) →
      assign.wpIn (F.inRound l) (n - 1 - 1) P (Exit.then K (fun _ _ _ => False)) { tmps := (ps.zip (encs x)).foldl (fun t (p, v) => t.setIfInBounds p v) a.tmps, defers := [] } W)
    (hbody : ∀ (l B : Nat) (pre : List α) (x : α) (W0 W : World), w.heap.size + 2 ≤ B → B ≤ W0.heap.size → I B pre W → Nx pre x → Bx x W0 W → body.wpIn (F.inRound l) (n - 1 - 1) P (ownPostH w.heap.size B (I B) Ix (pre ++ [x]) W) (a₁ x W0) W)
    (hdone : ∀ (D B : Nat) (xs : List α) (W : World), w.heap.size ≤ D → S xs → I B xs W → W.heap[D]? = some (.deferred (some [])) → Q .normal { a with defers := { target := .collected D, args := #[] } :: a.defers } W)
    (hstop : ∀ (D : Nat) (c : Code) (pre : List α) (W : World), w.heap.size ≤ D → Sp pre → Ix c pre W → W.heap[D]? = some (.deferred (some [])) → c.wpIn F n P Q { a with defers := { target := .collected D, args := #[] } :: a.defers } W) :
    (Code.rangeFunc g ps assign body).wpIn F n P Q a w := by
  refine wpIn_rangeFunc ?_
  intro fn hfn
  rw [hro]
  obtain ⟨rec, hrec⟩ : ∃ rec : LoopState → Option Code → Loop, rec = fun st pe => { state := st, pending := pe, fn, tmps := a.tmps, params := ps, assign, body, defers := w.heap.size } := ⟨_, rfl⟩
  obtain ⟨W1, hW1⟩ : ∃ W1, (w.alloc (.deferred (some []))).alloc (.loop (rec .ready none)) = W1 := ⟨_, rfl⟩
  have hz1 : W1.heap.size = w.heap.size + 2 := by rw [← hW1]; simp
  have hL1 : W1.heap[w.heap.size + 1]? = some (.loop (rec .ready none)) := by
    rw [← hW1]; have := World.alloc_heap_new (w.alloc (.deferred (some []))) (.loop (rec .ready none)); rwa [World.size_alloc] at this
  have hK1 : W1.heap[w.heap.size]? = some (.deferred (some [])) := by
    rw [← hW1]; exact (Below.heap_alloc _ _ _ (by simp)).trans (World.alloc_heap_new w _)
  have hbw : Below w.heap.size w W1 := by rw [← hW1]; exact ((Below.refl _ w).alloc (Nat.le_refl _) _).alloc (by simp) _
  have hb1 : Below w0.heap.size w0 W1 := hb0.trans (hbw.mono hb0.size)
  refine ⟨w.heap.size + 1, [{ target := .collected w.heap.size, args := #[] }], W1, { target := .fn (.func gf) lb, args := #[.func (.yield (w.heap.size + 1)) #[] #[]] }, W1, gf,
    #[.func (.yield (w.heap.size + 1)) #[] #[]] ++ lb, W1, ?_, ?_, ?_, ?_, fun _ => h1, ?_⟩
  · rw [← hW1, hrec]; exact run_enterLoop_outer _ _ _ _ _
  · simp only [resolve, hg]
    simp [go_sem]
  · intro f' hf'; simp [Target.leads] at hf'; subst hf'; exact hFg
  · simp [invoke, go_sem, eg]
  · have hnw : ∀ {A B : World} {row : Option Nat}, (∀ r, row = some r → W1.heap.size ≤ r ∧ ∃ o : Obj, A.heap[r]? = some o ∧ o.isWalk = true) → (∀ r, row = some r → w.heap.size ≤ r ∧ ∃ o : Obj, A.heap[r]? = some o ∧ o.isCells = false) :=
      fun hr r e => by obtain ⟨hB, o, ho, hw⟩ := hr r e; exact ⟨by omega, o, ho, Obj.not_cells_of_walk hw⟩
    refine (hseq (w.heap.size + 1)
      (fun B pre W => I B pre W ∧ W.heap[w.heap.size + 1]? = some (.loop (rec .ready none)) ∧ W.heap[w.heap.size]? = some (.deferred (some [])))
      (fun pre W => ∃ c, Ix c pre W ∧ W.heap[w.heap.size + 1]? = some (.loop (rec .done (some c))) ∧ W.heap[w.heap.size]? = some (.deferred (some [])))
      W1 hb1
      (fun Bq s A B row hs hg' hr => ⟨hI Bq s A B row hs.1 hg' (hnw (B := B) hr), (grownBy_keeps hg' (fun r e => (hr r e).2) hs.2.1 rfl).trans hs.2.1, (grownBy_keeps hg' (fun r e => (hr r e).2) hs.2.2 rfl).trans hs.2.2⟩)
      (fun s A B row hs hg' hr => by
        obtain ⟨c, hc, hl, hk⟩ := hs
        exact ⟨c, hIx c s A B row hc hg' (hnw (B := B) hr), (grownBy_keeps hg' (fun r e => (hr r e).2) hl rfl).trans hl, (grownBy_keeps hg' (fun r e => (hr r e).2) hk rfl).trans hk⟩)
      (fun B pre W h => hH B pre W h.1)
      (fun B pre X Y r h1' h2' hg' ⟨hi, hl, hk⟩ => ⟨hIw B pre X Y r (by omega) h2' hg' hi, (hg'.block _ (Array.getElem?_eq_some_iff.1 hl).1 (by simp; omega)).trans hl, (hg'.block _ (Array.getElem?_eq_some_iff.1 hk).1 (by simp; omega)).trans hk⟩)
      ?_ (fun W' hW' => ⟨h0 W' (hbw.trans (hW'.mono (by omega))), (hW'.block _ (by omega)).trans hL1, (hW'.block _ (by omega)).trans hK1⟩)).mono ?_
    · -- one round
      rintro Bq pre x V hBq ⟨hi0, hl0, hk0⟩ hnx
      have hy := run_yield (P := P) (args := encs x) hl0 (by rw [hrec]; exact hps x)
      rw [hrec] at hy
      have hlt0 : w.heap.size + 1 < V.heap.size := (Array.getElem?_eq_some_iff.1 hl0).1
      obtain ⟨W, hWe⟩ : ∃ W, wa x V = W := ⟨_, rfl⟩
      have hVW : Below V.heap.size V W := by rw [← hWe]; exact hwa x V
      have hbx0 : ∀ l o, l < V.heap.size → Bx x V (W.putObj l o) := by rw [← hWe]; exact hBx x V
      have hl := (hVW.block _ hlt0).trans hl0
      have hk := (hVW.block _ (by omega)).trans hk0
      have hi : I Bq pre W := hI Bq pre V W none hi0 ⟨hVW.os, hVW.tape, hVW.output, hVW.size, fun k hk' _ => hVW.block k hk'⟩ (fun r e => by cases e)
      have hlt : w.heap.size + 1 < W.heap.size := (Array.getElem?_eq_some_iff.1 hl).1
      have hBV := hIB _ _ _ hi0
      have hkp0 : KeepsIn W1.heap.size Bq V W := ⟨hVW.size, fun k _ h2 => hVW.block k (by omega)⟩
      refine ⟨fn, _, assign, body, hy, roundIn_of_wpIn hfn (hassign _ x V _ ?_)⟩
      rw [hWe]
      refine ⟨_, run_beginRound hl (by rw [hrec]), ?_⟩
      have hl2 : (W.putObj (w.heap.size + 1) (.loop { rec .ready none with state := .busy })).heap[w.heap.size + 1]? = some (.loop { rec .ready none with state := .busy }) := World.putObj_heap_same hlt
      have hk2 : (W.putObj (w.heap.size + 1) (.loop { rec .ready none with state := .busy })).heap[w.heap.size]? = some (.deferred (some [])) := (World.putObj_heap_other (by omega)).trans hk
      refine wpIn_mono (hbody _ Bq pre x V _ (by omega) hBV ((hI Bq).putObj _ hi (by omega) hl rfl) hnx (hbx0 _ _ (by omega))) ?_
      have fin : ∀ (jump : Option Code) (W3 : World), KeepsFrom w.heap.size (W.putObj (w.heap.size + 1) (.loop { rec .ready none with state := .busy })) W3 →
          (Instr.endRound (w.heap.size + 1) jump).run P W3 = .ok (.bool jump.isNone) (W3.putObj (w.heap.size + 1) (.loop (rec (if jump.isNone then .ready else .done) jump))) ∧
          W3.heap[w.heap.size + 1]? = some (.loop { rec .ready none with state := .busy }) ∧
          (W3.putObj (w.heap.size + 1) (.loop (rec (if jump.isNone then .ready else .done) jump))).heap[w.heap.size + 1]? = some (.loop (rec (if jump.isNone then .ready else .done) jump)) ∧
          (W3.putObj (w.heap.size + 1) (.loop (rec (if jump.isNone then .ready else .done) jump))).heap[w.heap.size]? = some (.deferred (some [])) := fun jump W3 hk3 => by
        have hl3 := hk3.same _ _ (by omega) hl2 rfl
        have := run_endRound (P := P) jump hl3
        rw [hrec] at this ⊢
        exact ⟨this, by rw [hrec] at hl3; exact hl3, World.putObj_heap_same (Array.getElem?_eq_some_iff.1 hl3).1, (World.putObj_heap_other (by omega)).trans (hk3.same _ _ (Nat.le_refl _) hk2 rfl)⟩
      rintro e a3 W3 hp
      cases e with
      | normal =>
        obtain ⟨hk3, hkp3, hi3⟩ := hp
        obtain ⟨hr, hl3, hl4, hk4⟩ := fin none W3 hk3
        exact ⟨_, _, hr, .inl ⟨rfl, ⟨(hI Bq).putObj _ hi3 (by omega) hl3 rfl, hl4, hk4⟩,
          ((hkp0.trans (KeepsIn.putObj W (w.heap.size + 1) _ (by omega))).trans (by rw [hz1]; exact hkp3)).trans (KeepsIn.putObj W3 (w.heap.size + 1) _ (by omega))⟩⟩
      | ret =>
        obtain ⟨hk3, hi3⟩ := hp
        obtain ⟨hr, hl3, hl4, hk4⟩ := fin (some .ret) W3 hk3
        exact ⟨_, _, hr, .inr ⟨rfl, .ret, (hIx _).putObj _ hi3 (by omega) hl3 rfl, hl4, hk4⟩⟩
      | exit id =>
        obtain ⟨hk3, hi3⟩ := hp
        obtain ⟨hr, hl3, hl4, hk4⟩ := fin (some (.exit id)) W3 hk3
        exact ⟨_, _, hr, .inr ⟨rfl, .exit id, (hIx _).putObj _ hi3 (by omega) hl3 rfl, hl4, hk4⟩⟩
      | goto t =>
        obtain ⟨hk3, hi3⟩ := hp
        obtain ⟨hr, hl3, hl4, hk4⟩ := fin (some (.goto t)) W3 hk3
        exact ⟨_, _, hr, .inr ⟨rfl, .goto t, (hIx _).putObj _ hi3 (by omega) hl3 rfl, hl4, hk4⟩⟩
      | panic ch => exact hp.elim
      | outgrown => exact hp.elim
    · -- behind the iterator
      rintro e W2 ⟨⟨v, rfl⟩, (⟨Bq, xs, hS, hi, hl, hk⟩ | ⟨pre, hSp, c, hi, hl, hk⟩)⟩
      · exact ⟨none, _, by have := run_endLoop (P := P) hl (by rw [hrec]; simp); rw [hrec] at this; exact this, hdone _ Bq xs _ (Nat.le_refl _) hS ((hI Bq).putObj _ hi (by omega) hl rfl) ((World.putObj_heap_other (by omega)).trans hk)⟩
      · exact ⟨some c, _, by have := run_endLoop (P := P) hl (by rw [hrec]; simp); rw [hrec] at this; exact this, hstop _ c pre _ (Nat.le_refl _) hSp ((hIx c).putObj _ hi (by omega) hl rfl) ((World.putObj_heap_other (by omega)).trans hk)⟩
end Go.Proofs.Ytgfcpimklmgnbaa
