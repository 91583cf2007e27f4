/- A region that draws its order, within a round of a range over a function: by the walk of the unfenced region. And small facts on blocks. -/
import Derived.Test.YtgfldbllokbnaaaDoorLkIt
import Derived.Deep.RegionHeld3
import Derived.Below
namespace Go.Proofs.YtgfldbllokbnaaaDoor
open Go.RowKit

theorem opIn_round {l n : Nat} {P : Program} {o : Oper} {a : Act} {w : World} {next : Act → World → Prop} {Q : Exit → Act → World → Prop} (hd : ∀ c, o.op ≠ .defer c) (h : o.wp P a w next Q) :
    o.wpIn (Fence.wide.inRound l) n P a w next Q := by
  refine ⟨fun _ _ => trivial, ?_⟩
  rw [show (Fence.wide.inRound l).round = some l from rfl, Oper.semAt_some l _ _ hd]
  unfold Oper.wp at h
  generalize (execOp a.eval o).run P w = r at h
  cases r with
  | ok x w' =>
    cases x with
    | value v => exact h
    | skip => exact h
    | defer d => exact h
    | enter f args => exact ⟨fun hs => (by cases hs), CallsIn.inRound (F := Fence.wide) l (callsIn_wide.2 h)⟩
    | row row args =>
      exact ⟨fun hs => (by cases hs), fun c cs _ => by
        obtain ⟨v, w'', r, s⟩ := h c cs
        exact ⟨v, w'', r, stepsIn_wide.2 s⟩⟩
    | _ => exact h.elim
  | halt x w' =>
    cases x with
    | panic v => exact h
    | _ => exact h.elim

theorem opsIn_round {l n : Nat} {P : Program} {ops : Array Oper} {Q : Exit → Act → World → Prop} (hL : ¬ LetsOut Q) (hd : ∀ (i : Nat) (o : Oper) c, ops[i]? = some o → o.op ≠ .defer c) :
    ∀ (is : List Nat) (a : Act) (w : World), wpOps P ops Q is a w → wpOpsIn (Fence.wide.inRound l) n P ops Q is a w
  | [], _, _, h => h
  | i :: rest, a, w, h => by
    unfold wpOps at h
    unfold wpOpsIn
    cases hi : ops[i]? with
    | none => rw [hi] at h; exact opsIn_round hL hd rest a w h
    | some o =>
      rw [hi] at h
      simp only at h ⊢
      split
      · rename_i hw
        rw [if_pos hw] at h
        rcases h with h | h
        · exact opIn_round (fun c => hd i o c hi) (Oper.wp_mono (fun a w h => opsIn_round hL hd rest a w h) h)
        · exact absurd h.2 hL
      · rename_i hw
        rw [if_neg hw] at h
        exact ⟨fun _ _ => trivial, opsIn_round hL hd rest _ w h⟩

theorem region_round {l n : Nat} {P : Program} {id : Nat} {ops : Array Oper} {Q : Exit → Act → World → Prop} {a : Act} {w : World} (hm : P.follows .mixedOrders = true) (hL : ¬ LetsOut Q)
    (hd : (ops.toList.all fun o => match o.op with | .defer _ => false | _ => true) = true) (S : World → Prop) (hS : S w.drew)
    (h : S w.drew → wpAnyH P .any ops Q S ops.size (Array.replicate ops.size false) a w.drew) : (Code.region id ops true).wpIn (Fence.wide.inRound l) n P Q a w := by
  refine wpIn_region_draw fun t => opsIn_round hL (fun i o c hi hc => ?_) _ _ _ ?_
  · have := List.all_eq_true.1 hd o (Array.mem_toList_iff.2 (Array.mem_of_getElem? hi))
    rw [hc] at this
    cases this
  · simp only [Region.schedule, hm, Bool.true_or, if_true]
    exact wpAny_sound ops.size t _ a _ (wpAny_of_held _ _ _ _ (h hS))

/-! ### blocks -/
theorem blk_new (W : World) (o : Obj) : (W.alloc o).heap[W.heap.size]? = some o := World.alloc_heap_new W o
theorem blk_lt {W : World} {B : Nat} {o : Obj} (h : W.heap[B]? = some o) : B < W.heap.size := (Array.getElem?_eq_some_iff.1 h).1
theorem blk_alloc {W : World} {B : Nat} {o : Obj} (h : W.heap[B]? = some o) (o' : Obj) : (W.alloc o').heap[B]? = some o := (Below.heap_alloc W o' B (blk_lt h)).trans h
theorem blk_below {W W' : World} {B n : Nat} {o : Obj} (h : W.heap[B]? = some o) (hb : Below n W W') (hn : B < n) : W'.heap[B]? = some o := (hb.block B hn).trans h
theorem blk_set {W : World} {B : Nat} {o : Obj} (h : W.heap[B]? = some o) (p : Addr) (hp : p.block ≠ B) (v : Value) : (W.setCell p v).heap[B]? = some o := (Below.heap_setCell W p v B (fun e => hp e.symm)).trans h
theorem cells_own {β : Type} (B : Nat) (cs : β → Array Value) (t : TypeId) : Own (fun s W => W.heap[B]? = some (.cells (cs s) t (0, 0))) := fun s X Y row hs hg hrow =>
  (hg.block B (blk_lt hs) (fun e' => by obtain ⟨o, ho, hc⟩ := hrow B e'.symm; rw [hs] at ho; cases ho; cases hc)).trans hs
theorem blk_cell {W : World} {B k : Nat} {cs : Array Value} {t : TypeId} {v : Value} (h : W.heap[B]? = some (.cells cs t (0, 0))) (hv : cs[k]? = some v) : W.cell? ⟨B, k, none⟩ = some v ∧ W.frozen? ⟨B, k, none⟩ = false := by
  constructor <;> simp [World.cell?, World.frozen?, h, hv]
theorem cell_lt {W : World} {a : Addr} {v : Value} (h : W.cell? a = some v) : a.block < W.heap.size := World.block_lt_of_cell? W a h
theorem cell_alloc {W : World} {a : Addr} {v : Value} (h : W.cell? a = some v) (o : Obj) : (W.alloc o).cell? a = some v := by
  rw [World.cell?_of_block (Below.heap_alloc W o a.block (cell_lt h))]; exact h
/-- a block of another type than the row's is as it was behind the append and the store -/
theorem blk_appended {W w1 : World} {tmp : Obj} {k B n₀ size m : Nat} {cs : Array Value} {t e : TypeId} {v : Value} {xs : List Value} (h : W.heap[k]? = some (.cells cs t (0, 0))) (hte : t ≠ e) (hr : W.ownsRow n₀ e size v m xs)
    (hg : (W.alloc tmp).grownBy w1 v.ownBlock) (hkB : B ≠ k) (v' : Value) : w1.heap[k]? = some (.cells cs t (0, 0)) ∧ (w1.setCell ⟨B, 0, none⟩ v').heap[k]? = some (.cells cs t (0, 0)) := by
  have h1 : w1.heap[k]? = some (.cells cs t (0, 0)) := by
    refine (hg.block k (blk_lt (blk_alloc h tmp)) (fun e' => ?_)).trans (blk_alloc h tmp)
    rcases hr.2 with ⟨rfl, _⟩ | ⟨g, cap, cur, rfl, _, hgb, _⟩
    · simp [Value.ownBlock] at e'
    · obtain rfl : k = g := by simpa [Value.ownBlock] using e'
      rw [hgb] at h
      simp at h
      exact hte h.2.symm
  exact ⟨h1, blk_set h1 _ hkB _⟩
end Go.Proofs.YtgfldbllokbnaaaDoor
