/- A region that draws, within a round of a range over a function, by an invariant on what has been listed; a world that differs in new blocks and a few others. -/
import Derived.Test.YtidjbpglpobigaaDoorImM
import Derived.Test.YtidjbpglpobigaaDoorIpF
import Derived.Deep.RegionHeld3
import Derived.Below
namespace Go.Proofs.YtidjbpglpobigaaDoor
open Go.RowKit

theorem opIn_round {l n : Nat} {P : Program} {o : Oper} {a : Act} {w : World} {next : Act → World → Prop} {Q : Exit → Act → World → Prop} (hd : ∀ c, o.op ≠ .defer c) (h : o.wp P a w next Q) :
    o.wpIn (Fence.wide.inRound l) n P a w next Q := by
  refine ⟨fun _ _ => trivial, ?_⟩
  rw [show (Fence.wide.inRound l).round = some l from rfl, Oper.semAt_some l _ _ hd]
  unfold Oper.wp at h
  generalize (execOp a.eval o).run P w = r at h
  cases r with
  | ok x w' =>
    cases x with
    | value v => exact h
    | skip => exact h
    | defer d => exact h
    | enter f args => exact ⟨fun hs => (by cases hs), CallsIn.inRound (F := Fence.wide) l (callsIn_wide.2 h)⟩
    | row row args =>
      exact ⟨fun hs => (by cases hs), fun c cs _ => by
        obtain ⟨v, w'', r, s⟩ := h c cs
        exact ⟨v, w'', r, stepsIn_wide.2 s⟩⟩
    | _ => exact h.elim
  | halt x w' =>
    cases x with
    | panic v => exact h
    | _ => exact h.elim

theorem opsIn_round {l n : Nat} {P : Program} {ops : Array Oper} {Q : Exit → Act → World → Prop} (hL : ¬ LetsOut Q) (hd : ∀ (i : Nat) (o : Oper) c, ops[i]? = some o → o.op ≠ .defer c) :
    ∀ (is : List Nat) (a : Act) (w : World), wpOps P ops Q is a w → wpOpsIn (Fence.wide.inRound l) n P ops Q is a w
  | [], _, _, h => h
  | i :: rest, a, w, h => by
    unfold wpOps at h
    unfold wpOpsIn
    cases hi : ops[i]? with
    | none => rw [hi] at h; exact opsIn_round hL hd rest a w h
    | some o =>
      rw [hi] at h
      simp only at h ⊢
      split
      · rename_i hw
        rw [if_pos hw] at h
        rcases h with h | h
        · exact opIn_round (fun c => hd i o c hi) (Oper.wp_mono (fun a w h => opsIn_round hL hd rest a w h) h)
        · exact absurd h.2 hL
      · rename_i hw
        rw [if_neg hw] at h
        exact ⟨fun _ _ => trivial, opsIn_round hL hd rest _ w h⟩

theorem region_round_inv {l n : Nat} {P : Program} {id : Nat} {ops : Array Oper} {Q : Exit → Act → World → Prop} {a : Act} {w : World} (hm : P.follows .mixedOrders = true) (hL : ¬ LetsOut Q)
    (hdf : (ops.toList.all fun o => match o.op with | .defer _ => false | _ => true) = true) (I : Array Bool → Act → World → Prop)
    (h0 : I (Array.replicate ops.size false) a w.drew)
    (hd : ∀ l a w, I l a w → Region.ready .any ops l = [] → Q .normal a w)
    (hs : ∀ l a w i, I l a w → i ∈ Region.ready .any ops l → wpOp P ops Q i (I (l.setIfInBounds i true)) a w) : (Code.region id ops true).wpIn (Fence.wide.inRound l) n P Q a w := by
  refine wpIn_region_draw fun t => opsIn_round hL (fun i o c hi hc => ?_) _ _ _ ?_
  · have := List.all_eq_true.1 hdf o (Array.mem_toList_iff.2 (Array.mem_of_getElem? hi))
    rw [hc] at this
    cases this
  · simp only [Region.schedule, hm, Bool.true_or, if_true]
    exact wpAny_sound ops.size t _ a _ (wpAny_inv I hd hs ops.size _ a _ h0 (by
      have := List.countP_le_length (p := fun i => !(Array.replicate ops.size false).getD i true) (l := List.range ops.size)
      rwa [List.length_range] at this))

/-- a world that differs from the first in new blocks and in the blocks of S alone -/
structure Touch (S : Nat → Prop) (w w' : World) : Prop where
  os : w'.os = w.os
  tape : w'.tape = w.tape
  output : w'.output = w.output
  size : w.heap.size ≤ w'.heap.size
  block : ∀ k, k < w.heap.size → ¬ S k → w'.heap[k]? = w.heap[k]?
theorem Touch.of {w w' : World} {S : Nat → Prop} (h : Below w.heap.size w w') : Touch S w w' := ⟨h.os, h.tape, h.output, h.size, fun k hk _ => h.block k hk⟩
theorem Touch.trans {S T : Nat → Prop} {w w1 w2 : World} (h : Touch S w w1) (h2 : Touch T w1 w2) (hs : ∀ k, T k → S k ∨ w.heap.size ≤ k) : Touch S w w2 :=
  ⟨h2.os.trans h.os, h2.tape.trans h.tape, h2.output.trans h.output, Nat.le_trans h.size h2.size, fun k hk hn => (h2.block k (Nat.lt_of_lt_of_le hk h.size) (fun ht => (hs k ht).elim hn (fun hle => absurd hk (by omega)))).trans (h.block k hk hn)⟩
theorem Touch.setc {S : Nat → Prop} {w w1 : World} (h : Touch S w w1) {a : Addr} (u : Value) (hs : S a.block) : Touch S w (w1.setCell a u) :=
  ⟨h.os, h.tape, h.output, by simp [h.size], fun k hk hn => (Below.heap_setCell w1 a u k (fun e => hn (by rw [e]; exact hs))).trans (h.block k hk hn)⟩
end Go.Proofs.YtidjbpglpobigaaDoor
