/- The program's table in memory, as one relation. -/
import Derived.Test.YtpkfjlbjahghgaaArTab
import Derived.Test.YtpkfjlbjahghgaaAeVal
import Derived.Maps.OwnSet
import Derived.Laws.AppendOwn
namespace Go.Proofs.Ytpkfjlbjahghgaa
open Go.RowKit
set_option linter.unusedVariables false

/-- a world that differs from the first in new blocks and in the blocks of S alone -/
structure Touch (S : Nat → Prop) (w w' : World) : Prop where
  os : w'.os = w.os
  tape : w'.tape = w.tape
  output : w'.output = w.output
  size : w.heap.size ≤ w'.heap.size
  block : ∀ k, k < w.heap.size → ¬ S k → w'.heap[k]? = w.heap[k]?
theorem Touch.of {w w' : World} {S : Nat → Prop} (h : Below w.heap.size w w') : Touch S w w' := ⟨h.os, h.tape, h.output, h.size, fun k hk _ => h.block k hk⟩
theorem Touch.grown {w w' : World} {S : Nat → Prop} {row : Option Nat} (h : w.grownBy w' row) (hs : ∀ k, row = some k → S k) : Touch S w w' := ⟨h.os, h.tape, h.output, h.size, fun k hk hn => h.block k hk (fun e => hn (hs k e.symm))⟩
theorem Touch.trans {S T : Nat → Prop} {w w1 w2 : World} (h : Touch S w w1) (h2 : Touch T w1 w2) (hs : ∀ k, T k → S k ∨ w.heap.size ≤ k) : Touch S w w2 :=
  ⟨h2.os.trans h.os, h2.tape.trans h.tape, h2.output.trans h.output, Nat.le_trans h.size h2.size, fun k hk hn => (h2.block k (Nat.lt_of_lt_of_le hk h.size) (fun ht => (hs k ht).elim hn (fun hle => absurd hk (by omega)))).trans (h.block k hk hn)⟩
theorem Touch.below {S : Nat → Prop} {w w1 : World} {B : Nat} (h : Touch S w w1) (hB : B ≤ w.heap.size) (hs : ∀ k, S k → B ≤ k) : Below B w w1 :=
  ⟨h.os, h.tape, h.output, h.size, fun k hk => h.block k (Nat.lt_of_lt_of_le hk hB) (fun hk2 => absurd (hs k hk2) (by omega))⟩

/-- an entry, its block, and the value of its slice of packets -/
structure PE where
  x : En
  b : Nat
  hv : Value
def entVal (p : PE) : Value := .iface (if p.x.known then 88 else 91) (.pointer (some ⟨p.b, 0, none⟩))
def mapE (R : List PE) : List (Lit × DataW Value) := R.map fun p => (.int .i64 p.x.addr, .held (entVal p))
abbrev mapD (R : List PE) : DataW Value := .map (mapE R)
def raw (v : Value) : Option (DataW Value × List MemPlace) := some (.held v, [])
def insP (p : PE) : List PE → List PE
  | [] => [p]
  | q :: r => if p.x.addr < q.x.addr then p :: q :: r else q :: insP p r
def dropP (R : List PE) (a : Int) : List PE := R.filter fun p => !decide (p.x.addr = a)
def putP (R : List PE) (p : PE) : List PE := insP p (dropP R p.x.addr)
def lookP (R : List PE) (a : Int) : Option PE := R.find? fun p => decide (p.x.addr = a)
def valOf : Option PE → Value
  | some p => entVal p
  | none => .nilIface

theorem mapE_ins (p : PE) : ∀ R, DataW.insert (.int .i64 p.x.addr, .held (entVal p)) (mapE R) = mapE (insP p R)
  | [] => rfl
  | q :: r => by
    have ih := mapE_ins p r
    simp only [mapE, insP, List.map_cons, DataW.insert, Lit.before, decide_eq_true_eq] at ih ⊢
    split
    · rfl
    · rw [ih]; rfl
theorem mapE_drop (R : List PE) (a : Int) : (mapE R).filter (fun p => !p.1.sameKey (.int .i64 a)) = mapE (dropP R a) := by
  induction R with
  | nil => rfl
  | cons q r ih =>
    simp only [mapE, dropP, List.map_cons, List.filter_cons] at ih ⊢
    have e : Lit.sameKey (.int .i64 q.x.addr) (.int .i64 a) = decide (q.x.addr = a) := by simp [Lit.sameKey]
    rw [e]
    split <;> simp_all
theorem mapD_put (R : List PE) (p : PE) : (mapD R).put (.int .i64 p.x.addr) (.held (entVal p)) = mapD (putP R p) := by
  simp only [DataW.put, mapE_drop, mapE_ins, putP]
theorem mapD_del (R : List PE) (a : Int) : (mapD R).del (.int .i64 a) = mapD (dropP R a) := by
  simp only [DataW.del, mapE_drop]
theorem mapD_at (R : List PE) (a : Int) : (mapD R).atKey (.int .i64 a) (.held .nilIface) = .held (valOf (lookP R a)) := by
  simp only [DataW.atKey]
  induction R with
  | nil => rfl
  | cons q r ih =>
    simp only [mapE, lookP, List.map_cons, List.find?_cons] at ih ⊢
    have e : Lit.sameKey (.int .i64 q.x.addr) (.int .i64 a) = decide (q.x.addr = a) := by simp [Lit.sameKey]
    rw [e]
    by_cases h : q.x.addr = a
    · simp [h, valOf]
    · simp only [h, decide_false] at ih ⊢
      exact ih

theorem insP_perm (p : PE) : ∀ R, (insP p R).Perm (p :: R)
  | [] => .refl _
  | q :: r => by
    unfold insP
    split
    · exact .refl _
    · exact ((insP_perm p r).cons q).trans (.swap p q r)
theorem insP_sorted (p : PE) : ∀ R : List PE, R.Pairwise (fun p q => p.x.addr < q.x.addr) → (∀ q ∈ R, q.x.addr ≠ p.x.addr) → (insP p R).Pairwise (fun p q => p.x.addr < q.x.addr)
  | [], _, _ => by simp [insP]
  | q :: r, h, hne => by
    obtain ⟨h1, h2⟩ := List.pairwise_cons.1 h
    unfold insP
    split
    · rename_i hlt
      refine List.pairwise_cons.2 ⟨fun y hy => ?_, h⟩
      rcases List.mem_cons.1 hy with rfl | hy
      · exact hlt
      · have := h1 y hy; omega
    · rename_i hlt
      have := hne q (by simp)
      refine List.pairwise_cons.2 ⟨fun y hy => ?_, insP_sorted p r h2 (fun y hy => hne y (by simp [hy]))⟩
      rcases List.mem_cons.1 ((insP_perm p r).mem_iff.1 hy) with rfl | hy
      · omega
      · exact h1 y hy
theorem dropP_ne {R : List PE} {a : Int} {q : PE} (h : q ∈ dropP R a) : q ∈ R ∧ q.x.addr ≠ a := by
  unfold dropP at h
  simpa using List.mem_filter.1 h

/-! the same on plain entries -/
def insE (p : En) : List En → List En
  | [] => [p]
  | q :: r => if p.addr < q.addr then p :: q :: r else q :: insE p r
def dropE (R : List En) (a : Int) : List En := R.filter fun p => !decide (p.addr = a)
def setE (R : List En) (p : En) : List En := insE p (dropE R p.addr)
def lookE (R : List En) (a : Int) : Option En := R.find? fun p => decide (p.addr = a)
theorem insP_map (p : PE) : ∀ R : List PE, (insP p R).map (·.x) = insE p.x (R.map (·.x))
  | [] => rfl
  | q :: r => by
    simp only [insP, insE, List.map_cons]
    split
    · rfl
    · rw [List.map_cons, insP_map p r]
theorem dropP_map (R : List PE) (a : Int) : (dropP R a).map (·.x) = dropE (R.map (·.x)) a := by
  simp only [dropP, dropE, List.filter_map]; rfl
theorem putP_map (R : List PE) (p : PE) : (putP R p).map (·.x) = setE (R.map (·.x)) p.x := by
  simp only [putP, setE, insP_map, dropP_map]
theorem lookP_map (R : List PE) (a : Int) : (lookP R a).map (·.x) = lookE (R.map (·.x)) a := by
  simp only [lookP, lookE, List.find?_map]; rfl

theorem lookP_some {R : List PE} {a : Int} {p : PE} (h : lookP R a = some p) : p ∈ R ∧ p.x.addr = a := by
  unfold lookP at h
  exact ⟨List.mem_of_find?_eq_some h, by simpa using List.find?_some h⟩
theorem lookP_none {R : List PE} {a : Int} (h : lookP R a = none) : ∀ p ∈ R, p.x.addr ≠ a := by
  unfold lookP at h
  simpa using h
theorem dropP_none {R : List PE} {a : Int} (h : ∀ p ∈ R, p.x.addr ≠ a) : dropP R a = R := by
  unfold dropP
  exact List.filter_eq_self.2 (fun p hp => by simpa using h p hp)

/-! ### in memory -/
abbrev pto (own mac : Int) (mb : Nat) (said : Bool) (when : Int) : Obj := .cells #[.int .i64 own, .int .i64 mac, .map (some mb), .bool said, .int .i64 when] 82
abbrev reso (x : En) : Obj := .cells #[.int .i64 x.mac, .int .i64 x.told, .int .i64 x.sent] 90
abbrev inco (x : En) (hv : Value) : Obj := .cells #[hv, .int .i64 x.tries, .int .i64 x.first, .int .i64 x.last] 94
def strs (l : List ByteArray) : List Value := l.map .string
def PE.blks (p : PE) : List Nat := p.b :: p.hv.ownBlock.toList
def allB (R : List PE) : List Nat := R.flatMap PE.blks

structure EntAt (w : World) (base : Nat) (p : PE) : Prop where
  low : base ≤ p.b
  res : p.x.known = true → w.heap[p.b]? = some (reso p.x) ∧ p.hv = .slice none 0 0
  inc : p.x.known = false → w.heap[p.b]? = some (inco p.x p.hv) ∧ w.ownsRow base 9 1 p.hv p.x.held.length (strs p.x.held)

structure TabP (w : World) (base T mb : Nat) (own mac : Int) (said : Bool) (when : Int) (R : List PE) : Prop where
  low : base ≤ T ∧ base ≤ mb
  blk : w.heap[T]? = some (pto own mac mb said when)
  map : w.ownsMap Try.prog 3 raw mb R.length (mapD R)
  ent : ∀ p ∈ R, EntAt w base p
  nodup : (T :: mb :: allB R).Nodup
  sorted : R.Pairwise (fun p q => p.x.addr < q.x.addr)
  ok : ∀ p ∈ R, okOne p.x.addr

theorem row_of_block {w w' : World} {base : Nat} {e : TypeId} {size : Nat} {v : Value} {n : Nat} {xs : List Value} (h : w.ownsRow base e size v n xs) (hk : ∀ k, v.ownBlock = some k → w'.heap[k]? = w.heap[k]?) : w'.ownsRow base e size v n xs := by
  refine ⟨h.1, ?_⟩
  rcases h.2 with h2 | ⟨g, cap, cur, e1, e2, e3, e4⟩
  · exact .inl h2
  · exact .inr ⟨g, cap, cur, e1, e2, (hk g (by rw [e1]; rfl)).trans e3, e4⟩
theorem map_of_block {w w' : World} {b n : Nat} {D : DataW Value} (h : w.ownsMap Try.prog 3 raw b n D) (hk : w'.heap[b]? = w.heap[b]?) : w'.ownsMap Try.prog 3 raw b n D := by
  obtain ⟨es, clock, hb, r⟩ := h
  exact ⟨es, clock, hk.trans hb, r⟩
theorem EntAt.kept {w w' : World} {base : Nat} {p : PE} (h : EntAt w base p) (hk : ∀ k ∈ p.blks, w'.heap[k]? = w.heap[k]?) : EntAt w' base p where
  low := h.low
  res := fun hx => ⟨(hk _ (by simp [PE.blks])).trans (h.res hx).1, (h.res hx).2⟩
  inc := fun hx => ⟨(hk _ (by simp [PE.blks])).trans (h.inc hx).1, row_of_block (h.inc hx).2 (fun k e => hk k (by simp [PE.blks, e]))⟩
theorem mem_allB {R : List PE} {p : PE} {k : Nat} (hp : p ∈ R) (hk : k ∈ p.blks) : k ∈ allB R := List.mem_flatMap.2 ⟨p, hp, hk⟩
theorem TabP.kept {w w' : World} {base T mb : Nat} {own mac when : Int} {said : Bool} {R : List PE} (h : TabP w base T mb own mac said when R) (hk : ∀ k ∈ T :: mb :: allB R, w'.heap[k]? = w.heap[k]?) : TabP w' base T mb own mac said when R where
  low := h.low
  blk := (hk _ (by simp)).trans h.blk
  map := map_of_block h.map (hk _ (by simp))
  ent := fun p hp => (h.ent p hp).kept (fun k hk2 => hk k (by simp [mem_allB hp hk2]))
  nodup := h.nodup
  sorted := h.sorted
  ok := h.ok
theorem EntAt.lt {w : World} {base : Nat} {p : PE} (h : EntAt w base p) : ∀ k ∈ p.blks, base ≤ k ∧ k < w.heap.size := by
  intro k hk
  unfold PE.blks at hk
  rcases List.mem_cons.1 hk with rfl | hk
  · cases hx : p.x.known
    · exact ⟨h.low, blk_lt (h.inc hx).1⟩
    · exact ⟨h.low, blk_lt (h.res hx).1⟩
  · cases hx : p.x.known
    · exact (h.inc hx).2.lt k (by simpa using hk)
    · rw [(h.res hx).2] at hk; simp [Value.ownBlock] at hk
theorem TabP.lt {w : World} {base T mb : Nat} {own mac when : Int} {said : Bool} {R : List PE} (h : TabP w base T mb own mac said when R) : ∀ k ∈ T :: mb :: allB R, base ≤ k ∧ k < w.heap.size := by
  intro k hk
  rcases List.mem_cons.1 hk with rfl | hk
  · exact ⟨h.low.1, blk_lt h.blk⟩
  rcases List.mem_cons.1 hk with rfl | hk
  · exact ⟨h.low.2, h.map.lt⟩
  obtain ⟨p, hp, hk⟩ := List.mem_flatMap.1 hk
  exact (h.ent p hp).lt k hk

/-- the table, its blocks a set -/
def Tab (w : World) (base T : Nat) (own mac : Int) (said : Bool) (when : Int) (L : List En) (S : Nat → Prop) : Prop :=
  ∃ mb R, TabP w base T mb own mac said when R ∧ L = R.map (·.x) ∧ S = fun k => k ∈ T :: mb :: allB R
theorem Tab.bd {w : World} {base T : Nat} {own mac when : Int} {said : Bool} {L : List En} {S : Nat → Prop} (h : Tab w base T own mac said when L S) : ∀ k, S k → base ≤ k ∧ k < w.heap.size := by
  obtain ⟨mb, R, h, -, rfl⟩ := h
  exact h.lt
theorem Tab.kept {w w' : World} {base T : Nat} {own mac when : Int} {said : Bool} {L : List En} {S : Nat → Prop} (h : Tab w base T own mac said when L S) (hk : ∀ k, S k → w'.heap[k]? = w.heap[k]?) : Tab w' base T own mac said when L S := by
  obtain ⟨mb, R, h, e, rfl⟩ := h
  exact ⟨mb, R, h.kept hk, e, rfl⟩
theorem Tab.below {w w' : World} {base T : Nat} {own mac when : Int} {said : Bool} {L : List En} {S : Nat → Prop} (h : Tab w base T own mac said when L S) (hb : Below w.heap.size w w') : Tab w' base T own mac said when L S :=
  h.kept fun k hk => hb.block k (h.bd k hk).2
theorem Tab.touch {w w' : World} {base T : Nat} {own mac when : Int} {said : Bool} {L : List En} {S S2 : Nat → Prop} (h : Tab w base T own mac said when L S) (ht : Touch S2 w w') (hd : ∀ k, S k → ¬ S2 k) : Tab w' base T own mac said when L S :=
  h.kept fun k hk => ht.block k (h.bd k hk).2 (hd k hk)
/-- what a call leaves of the table -/
def Tab' (w w' : World) (base T : Nat) (own mac : Int) (said : Bool) (when : Int) (L' : List En) (S : Nat → Prop) : Prop :=
  ∃ S', Tab w' base T own mac said when L' S' ∧ Touch S w w' ∧ ∀ k, S' k → S k ∨ w.heap.size ≤ k
end Go.Proofs.Ytpkfjlbjahghgaa
