/- The state of the reader of the fixed fields. -/
import Derived.Test.YtgfldbllokbnaaaDoorLkRd
import Derived.Maps.Range
namespace Go.Proofs.YtgfldbllokbnaaaDoor
open Go.RowKit

theorem fin4 (x : Fin 4) : x = 0 ∨ x = 1 ∨ x = 2 ∨ x = 3 := by revert x; decide

structure HS where
  pos : Nat
  a : Int
  b : Int
  c : Int
  l : Int
def nSz : Fin 4 → Nat
  | 0 => 2
  | 1 => 2
  | 2 => 1
  | 3 => 2
theorem nSz_bd (x : Fin 4) : 1 ≤ nSz x ∧ nSz x ≤ 2 ∧ fSz x = (nSz x : Int) := by
  obtain rfl | rfl | rfl | rfl : x = 0 ∨ x = 1 ∨ x = 2 ∨ x = 3 := fin4 x
  all_goals exact ⟨by decide, by decide, by decide⟩
def HS.put (h : HS) (V : Int) : Fin 4 → HS
  | 0 => ⟨h.pos + 2, V, h.b, h.c, h.l⟩
  | 1 => ⟨h.pos + 2, h.a, V, h.c, h.l⟩
  | 2 => ⟨h.pos + 1, h.a, h.b, V, h.l⟩
  | 3 => ⟨h.pos + 2, h.a, h.b, h.c, V⟩
def HS.step (s : ByteArray) (h : HS) (x : Fin 4) : HS := h.put (rdV s h.pos (nSz x)) x
def hrun (s : ByteArray) (pre : List (Fin 4)) : HS := pre.foldl (HS.step s) ⟨0, 0, 0, 0, 0⟩
theorem hrun_snoc (s : ByteArray) (pre : List (Fin 4)) (x : Fin 4) : hrun s (pre ++ [x]) = (hrun s pre).put (rdV s (hrun s pre).pos (nSz x)) x := by
  simp [hrun, HS.step]
theorem put_pos (h : HS) (V : Int) (x : Fin 4) : (h.put V x).pos = h.pos + nSz x := by
  obtain rfl | rfl | rfl | rfl : x = 0 ∨ x = 1 ∨ x = 2 ∨ x = 3 := fin4 x
  all_goals rfl
theorem run_pos (s : ByteArray) : ∀ (pre : List (Fin 4)) (h : HS), (pre.foldl (HS.step s) h).pos ≤ h.pos + 2 * pre.length
  | [], h => by simp
  | x :: t, h => by
    have h1 := run_pos s t (h.step s x)
    have h2 : (h.step s x).pos = h.pos + nSz x := put_pos _ _ _
    have h3 := (nSz_bd x).2.1
    simp only [List.foldl_cons, List.length_cons]
    omega
theorem hrun_pos (s : ByteArray) (pre : List (Fin 4)) : (hrun s pre).pos ≤ 2 * pre.length := by have := run_pos s pre ⟨0, 0, 0, 0, 0⟩; simpa [hrun] using this

/-- what the reading leaves, all four read -/
theorem hrun_all (s : ByteArray) : hrun s fAll = ⟨7, rdV s 0 2, rdV s 2 2, rdV s 4 1, rdV s 5 2⟩ := rfl

abbrev HdB (R Fb Lb Eb : Nat) (s : ByteArray) (h : HS) (e : Value) (W : World) : Prop :=
  (W.heap[R]? = some (.cells #[.string s, .int .i64 (h.pos : Int)] 55 (0, 0)) ∧ W.heap[Fb]? = some (.cells #[.int .i64 h.a, .int .i64 h.b, .int .i64 h.c, .string ⟨#[]⟩] 23 (0, 0))) ∧
  (W.heap[Lb]? = some (.cells #[.int .i64 h.l] 3 (0, 0)) ∧ W.heap[Eb]? = some (.cells #[e] 57 (0, 0)))

theorem blk_setc {W : World} {B k : Nat} {cs : Array Value} {t : TypeId} {fz : Nat × Nat} (h : W.heap[B]? = some (.cells cs t fz)) (v : Value) : (W.setCell ⟨B, k, none⟩ v).heap[B]? = some (.cells (cs.setIfInBounds k v) t fz) := by
  obtain ⟨hlt, hk⟩ := Array.getElem?_eq_some_iff.1 h
  show (W.heap.modify B _)[B]? = _
  rw [Array.getElem?_eq_getElem (by rw [Array.size_modify]; exact hlt), Array.getElem_modify_self, hk]
  rfl
theorem grown_set (w : World) (a : Addr) (u : Value) : w.grownBy (w.setCell a u) (some a.block) :=
  ⟨rfl, rfl, rfl, by simp, fun k _ hk => Below.heap_setCell w a u k (fun e => hk (by rw [e]))⟩
theorem grown_below {w w' : World} (hb : Below w.heap.size w w') (row : Option Nat) : w.grownBy w' row := ⟨hb.os, hb.tape, hb.output, hb.size, fun k hk _ => hb.block k hk⟩
theorem keeps_below {w w' : World} (hb : Below w.heap.size w w') : KeepsOthers w w' := ⟨hb.size, fun k _ hk _ => (hb.block k (blk_lt hk)).trans hk⟩
theorem ownFrom_grown {β : Type} {w0 : World} {R B : Nat} (hB : w0.heap.size ≤ B) : OwnFrom B (fun (_ : β) W => w0.grownBy W (some R)) := fun _ _ _ _ hs hg hr => hs.andThen hg (fun j e => .inl (Nat.le_trans hB (hr j e).1))

theorem HdB.store {R Fb Lb Eb : Nat} {s : ByteArray} {h : HS} {e : Value} {W : World} (H : HdB R Fb Lb Eb s h e W) (d1 : R ≠ Fb) (d2 : R ≠ Lb) (d3 : R ≠ Eb) (d4 : Fb ≠ Lb) (d5 : Fb ≠ Eb) (d6 : Lb ≠ Eb) (x : Fin 4) (V : Int) (e' : Value) :
    HdB R Fb Lb Eb s (h.put V x) e' (((W.setCell ⟨R, 1, none⟩ (.int .i64 ((h.pos + nSz x : Nat) : Int))).setCell (fAt Fb Lb x) (.int .i64 V)).setCell ⟨Eb, 0, none⟩ e') := by
  obtain ⟨⟨hR, hF⟩, hL, hE⟩ := H
  have r1 := blk_setc (k := 1) hR (.int .i64 ((h.pos + nSz x : Nat) : Int))
  have f1 := blk_set hF ⟨R, 1, none⟩ d1 (.int .i64 ((h.pos + nSz x : Nat) : Int))
  have l1 := blk_set hL ⟨R, 1, none⟩ d2 (.int .i64 ((h.pos + nSz x : Nat) : Int))
  have e1 := blk_set hE ⟨R, 1, none⟩ d3 (.int .i64 ((h.pos + nSz x : Nat) : Int))
  obtain rfl | rfl | rfl | rfl : x = 0 ∨ x = 1 ∨ x = 2 ∨ x = 3 := fin4 x
  · exact ⟨⟨blk_set (blk_set r1 ⟨Fb, 0, none⟩ d1.symm _) ⟨Eb, 0, none⟩ d3.symm _, blk_set (blk_setc (k := 0) f1 _) ⟨Eb, 0, none⟩ d5.symm _⟩, blk_set (blk_set l1 ⟨Fb, 0, none⟩ d4 _) ⟨Eb, 0, none⟩ d6.symm _, blk_setc (k := 0) (blk_set e1 ⟨Fb, 0, none⟩ d5 _) _⟩
  · exact ⟨⟨blk_set (blk_set r1 ⟨Fb, 1, none⟩ d1.symm _) ⟨Eb, 0, none⟩ d3.symm _, blk_set (blk_setc (k := 1) f1 _) ⟨Eb, 0, none⟩ d5.symm _⟩, blk_set (blk_set l1 ⟨Fb, 1, none⟩ d4 _) ⟨Eb, 0, none⟩ d6.symm _, blk_setc (k := 0) (blk_set e1 ⟨Fb, 1, none⟩ d5 _) _⟩
  · exact ⟨⟨blk_set (blk_set r1 ⟨Fb, 2, none⟩ d1.symm _) ⟨Eb, 0, none⟩ d3.symm _, blk_set (blk_setc (k := 2) f1 _) ⟨Eb, 0, none⟩ d5.symm _⟩, blk_set (blk_set l1 ⟨Fb, 2, none⟩ d4 _) ⟨Eb, 0, none⟩ d6.symm _, blk_setc (k := 0) (blk_set e1 ⟨Fb, 2, none⟩ d5 _) _⟩
  · exact ⟨⟨blk_set (blk_set r1 ⟨Lb, 0, none⟩ d2.symm _) ⟨Eb, 0, none⟩ d3.symm _, blk_set (blk_set f1 ⟨Lb, 0, none⟩ d4.symm _) ⟨Eb, 0, none⟩ d5.symm _⟩, blk_set (blk_setc (k := 0) l1 _) ⟨Eb, 0, none⟩ d6.symm _, blk_setc (k := 0) (blk_set e1 ⟨Lb, 0, none⟩ d6 _) _⟩

theorem HdB.at {R Fb Lb Eb : Nat} {s : ByteArray} {h : HS} {e : Value} {W : World} (H : HdB R Fb Lb Eb s h e W) (x : Fin 4) : ∃ u, W.cell? (fAt Fb Lb x) = some (.int .i64 u) ∧ W.frozen? (fAt Fb Lb x) = false := by
  obtain ⟨⟨hR, hF⟩, hL, hE⟩ := H
  obtain rfl | rfl | rfl | rfl : x = 0 ∨ x = 1 ∨ x = 2 ∨ x = 3 := fin4 x
  · exact ⟨_, blk_cell hF rfl⟩
  · exact ⟨_, blk_cell hF rfl⟩
  · exact ⟨_, blk_cell hF rfl⟩
  · exact ⟨_, blk_cell hL rfl⟩
theorem fAt_block (Fb Lb : Nat) (x : Fin 4) : (fAt Fb Lb x).block = Fb ∨ (fAt Fb Lb x).block = Lb := by
  obtain rfl | rfl | rfl | rfl : x = 0 ∨ x = 1 ∨ x = 2 ∨ x = 3 := fin4 x
  · exact .inl rfl
  · exact .inl rfl
  · exact .inl rfl
  · exact .inr rfl
theorem HdB.below {R Fb Lb Eb : Nat} {s : ByteArray} {h : HS} {e : Value} {W W' : World} (H : HdB R Fb Lb Eb s h e W) (hb : Below W.heap.size W W') : HdB R Fb Lb Eb s h e W' :=
  ⟨⟨blk_below H.1.1 hb (blk_lt H.1.1), blk_below H.1.2 hb (blk_lt H.1.2)⟩, blk_below H.2.1 hb (blk_lt H.2.1), blk_below H.2.2 hb (blk_lt H.2.2)⟩
/-- what the body of a round leaves alone -/
theorem keep_three {R Fb Lb Eb : Nat} {W w2 : World} {V e' : Value} (hg : W.grownBy w2 (some R)) (k : Nat) (x : Fin 4) (h0 : k ≠ R) (h1 : k ≠ Fb) (h2 : k ≠ Lb) (h3 : k ≠ Eb) (hk : k < W.heap.size) :
    ((w2.setCell (fAt Fb Lb x) V).setCell ⟨Eb, 0, none⟩ e').heap[k]? = W.heap[k]? := by
  rw [Below.heap_setCell _ _ _ k h3, Below.heap_setCell _ _ _ k (by rcases fAt_block Fb Lb x with h | h <;> rw [h] <;> assumption)]
  exact hg.block k hk (fun e => h0 (by cases e; rfl))
end Go.Proofs.YtgfldbllokbnaaaDoor
