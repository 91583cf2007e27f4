/- Incomplete datagrams as plain values, and the program's table in memory as one relation. -/
import Derived.Test.YtecboengeheapaaIpM
import Derived.Maps.OwnSet
import Derived.Laws.AppendOwn
import Derived.DeepKeys4
namespace Go.Proofs.Ytecboengeheapaa
open Go.RowKit Go.Maps
set_option linter.unusedVariables false

/-- a world that differs from the first in new blocks and in the blocks of S alone -/
structure Touch (S : Nat → Prop) (w w' : World) : Prop where
  os : w'.os = w.os
  tape : w'.tape = w.tape
  output : w'.output = w.output
  size : w.heap.size ≤ w'.heap.size
  block : ∀ k, k < w.heap.size → ¬ S k → w'.heap[k]? = w.heap[k]?
theorem Touch.of {w w' : World} {S : Nat → Prop} (h : Below w.heap.size w w') : Touch S w w' := ⟨h.os, h.tape, h.output, h.size, fun k hk _ => h.block k hk⟩
theorem Touch.grown {w w' : World} {S : Nat → Prop} {row : Option Nat} (h : w.grownBy w' row) (hs : ∀ k, row = some k → S k) : Touch S w w' := ⟨h.os, h.tape, h.output, h.size, fun k hk hn => h.block k hk (fun e => hn (hs k e.symm))⟩
theorem Touch.trans {S T : Nat → Prop} {w w1 w2 : World} (h : Touch S w w1) (h2 : Touch T w1 w2) (hs : ∀ k, T k → S k ∨ w.heap.size ≤ k) : Touch S w w2 :=
  ⟨h2.os.trans h.os, h2.tape.trans h.tape, h2.output.trans h.output, Nat.le_trans h.size h2.size, fun k hk hn => (h2.block k (Nat.lt_of_lt_of_le hk h.size) (fun ht => (hs k ht).elim hn (fun hle => absurd hk (by omega)))).trans (h.block k hk hn)⟩
theorem Touch.below {S : Nat → Prop} {w w1 : World} {B : Nat} (h : Touch S w w1) (hB : B ≤ w.heap.size) (hs : ∀ k, S k → B ≤ k) : Below B w w1 :=
  ⟨h.os, h.tape, h.output, h.size, fun k hk => h.block k (Nat.lt_of_lt_of_le hk hB) (fun hk2 => absurd (hs k hk2) (by omega))⟩
theorem Touch.mono {S T : Nat → Prop} {w w1 : World} (h : Touch S w w1) (hs : ∀ k, S k → T k) : Touch T w w1 := ⟨h.os, h.tape, h.output, h.size, fun k hk hn => h.block k hk (fun e => hn (hs k e))⟩

/-! ### plain values -/
structure Ky where
  fr : Int
  to : Int
  pr : Int
  id : Int
  deriving DecidableEq
def kyOf (p : Pk) : Ky := ⟨p.fr, p.to, p.pr, p.id⟩
def okK (k : Ky) : Prop := (0 ≤ k.fr ∧ k.fr ≤ 4294967295) ∧ (0 ≤ k.to ∧ k.to ≤ 4294967295) ∧ (0 ≤ k.pr ∧ k.pr ≤ 4294967295) ∧ (0 ≤ k.id ∧ k.id ≤ 4294967295)
theorem okK_of {p : Pk} {n : Int} (h : okW p n) : okK (kyOf p) := by
  obtain ⟨⟨h1, h2⟩, h3, ⟨h4, h5, -, -, h6, h7⟩, -⟩ := h
  unfold okK kyOf okU at *
  refine ⟨⟨by simp only; omega, by simp only; omega⟩, ?_, ⟨by simp only; omega, by simp only; omega⟩, ⟨by simp only; omega, by simp only; omega⟩⟩
  rcases h3 with ⟨a, b⟩ | a
  · exact ⟨by simp only; omega, by simp only; omega⟩
  · exact ⟨by simp only; omega, by simp only; omega⟩
abbrev kv (k : Ky) : Value := .agg #[.int .i64 k.fr, .int .i64 k.to, .int .i64 k.pr, .int .i64 k.id]
/-- an incomplete datagram -/
structure Dg where
  k : Ky
  num : Int
  st : Int
  rej : Bool
  fst : Pk
  txt : List UInt8
  rcv : List Bool
  fin : Bool
def byteV (x : UInt8) : Value := .int .u8 (x.toNat : Int)
def byt (l : List UInt8) : List Value := l.map byteV
def bls (l : List Bool) : List Value := l.map .bool

/-! ### keys -/
theorem laidOut : laidOutB Try.prog = true := by kernel_rfl
theorem lawK : Keyed Try.prog 94 := Keyed.of_law (Go.deep_law_laid laidOut (m := 3) (by decide) (by decide +kernel) (by kernel_rfl) (by kernel_rfl))
def kl (k : Ky) : Lit := .string (keyBytes [.int .i64 k.fr, .int .i64 k.to, .int .i64 k.pr, .int .i64 k.id])
theorem keyLitI (d : Nat) (a : Int) (h : 0 ≤ a ∧ a ≤ 4294967295) : Try.prog.keyLits (d + 1) 3 [.int .i64 a] = some [.int .i64 a] := by
  have e1 : IntKind.i64.min = -9223372036854775808 := rfl
  have e2 : IntKind.i64.max = 9223372036854775807 := rfl
  have hw : (Lit.int .i64 a).wf = true := by simp [Lit.wf, e1, e2]; omega
  simp only [Program.keyLits, Try.underlying3, hw, and_self, if_true]
theorem keyLitsK (d : Nat) {k : Ky} (h : okK k) : Try.prog.keyLits (d + 2) 94 [.int .i64 k.fr, .int .i64 k.to, .int .i64 k.pr, .int .i64 k.id] = some [.int .i64 k.fr, .int .i64 k.to, .int .i64 k.pr, .int .i64 k.id] := by
  have h1 := keyLitI d k.fr h.1
  have h2 := keyLitI d k.to h.2.1
  have h3 := keyLitI d k.pr h.2.2.1
  have h4 := keyLitI d k.id h.2.2.2
  have hc : Try.prog.cellsOf 3 = 1 := by kernel_rfl
  have hc2 : Try.prog.cellsOf 94 = 4 := by kernel_rfl
  unfold Program.keyLits
  simp only [Try.underlying94, hc2]
  simp [hc, h1, h2, h3, h4]
theorem keyK {k : Ky} (h : okK k) : keyOf Try.prog 94 (kv k) = some (kl k) := by
  have h1 : (Try.prog.keyType 94 && (kv k).formed Try.prog 94) = true := by
    have a : Try.prog.keyType 94 = true := by kernel_rfl
    have b : (kv k).formed Try.prog 94 = true := by kernel_rfl
    rw [a, b]; rfl
  have h2 : Try.prog.keyLits (Try.prog.types.size + 1) 94 (kv k).cells.toList = some [.int .i64 k.fr, .int .i64 k.to, .int .i64 k.pr, .int .i64 k.id] := by
    obtain ⟨n, hn⟩ : ∃ n, Try.prog.types.size = n + 1 := ⟨Try.prog.types.size - 1, by kernel_rfl⟩
    rw [hn]
    exact keyLitsK n h
  unfold keyOf
  simp only [Try.underlying94, h1, h2, if_true, Option.map_some]
  rfl
theorem kl_inj {a b : Ky} (ha : okK a) (hb : okK b) (h : kl a = kl b) : a = b := by
  have h1 := keyK ha
  have h2 := keyK hb
  rw [← h] at h2
  have := lawK.inj h1 h2
  cases a; cases b
  simp only [kv, Value.agg.injEq, Array.mk.injEq, List.cons.injEq, Value.int.injEq, true_and, and_true] at this
  simp only [Ky.mk.injEq]
  exact this
theorem kl_self {k : Ky} (h : okK k) : (kl k).sameKey (kl k) = true := WideAt.sameKey_self (lawK.key (keyK h))
theorem kl_same {a b : Ky} (ha : okK a) (hb : okK b) : (kl a).sameKey (kl b) = decide (a = b) := by
  by_cases h : a = b
  · subst h; rw [kl_self ha]; simp
  · cases hs : (kl a).sameKey (kl b)
    · simp [h]
    · exact absurd (kl_inj ha hb (WideAt.sameKey_eq hs)) h

/-! ### the map -/
/-- a datagram, its block, and the values of its two slices -/
structure PE where
  x : Dg
  b : Nat
  tv : Value
  rv : Value
def ptr (b : Nat) : Value := .pointer (some ⟨b, 0, none⟩)
def entVal (p : PE) : Value := ptr p.b
def mapE (R : List PE) : List (Lit × DataW Value) := R.map fun p => (kl p.x.k, .held (entVal p))
abbrev mapD (R : List PE) : DataW Value := .map (mapE R)
def raw (v : Value) : Option (DataW Value × List MemPlace) := some (.held v, [])
def insP (p : PE) : List PE → List PE
  | [] => [p]
  | q :: r => if (kl p.x.k).before (kl q.x.k) then p :: q :: r else q :: insP p r
def dropP (R : List PE) (a : Ky) : List PE := R.filter fun p => !decide (p.x.k = a)
def putP (R : List PE) (p : PE) : List PE := insP p (dropP R p.x.k)
def lookP (R : List PE) (a : Ky) : Option PE := R.find? fun p => decide (p.x.k = a)
def valOf : Option PE → Value
  | some p => entVal p
  | none => .pointer none

theorem mapE_ins (p : PE) : ∀ R, DataW.insert (kl p.x.k, .held (entVal p)) (mapE R) = mapE (insP p R)
  | [] => rfl
  | q :: r => by
    have ih := mapE_ins p r
    simp only [mapE, insP, List.map_cons, DataW.insert] at ih ⊢
    split
    · rfl
    · rw [ih]; rfl
theorem mapE_drop (R : List PE) (hR : ∀ p ∈ R, okK p.x.k) (a : Ky) (ha : okK a) : (mapE R).filter (fun p => !p.1.sameKey (kl a)) = mapE (dropP R a) := by
  induction R with
  | nil => rfl
  | cons q r ih =>
    have ih := ih (fun p hp => hR p (by simp [hp]))
    simp only [mapE, dropP, List.map_cons, List.filter_cons] at ih ⊢
    rw [kl_same (hR q (by simp)) ha]
    split <;> simp_all
theorem mapD_put (R : List PE) (hR : ∀ p ∈ R, okK p.x.k) (p : PE) (hp : okK p.x.k) : (mapD R).put (kl p.x.k) (.held (entVal p)) = mapD (putP R p) := by
  simp only [DataW.put, mapE_drop R hR _ hp, mapE_ins, putP]
theorem mapD_del (R : List PE) (hR : ∀ p ∈ R, okK p.x.k) (a : Ky) (ha : okK a) : (mapD R).del (kl a) = mapD (dropP R a) := by
  simp only [DataW.del, mapE_drop R hR _ ha]
theorem mapD_atz (R : List PE) (hR : ∀ p ∈ R, okK p.x.k) (a : Ky) (ha : okK a) (z : DataW Value) : (mapD R).atKey (kl a) z = match lookP R a with | some p => .held (entVal p) | none => z := by
  simp only [DataW.atKey]
  induction R with
  | nil => rfl
  | cons q r ih =>
    have ih := ih (fun p hp => hR p (by simp [hp]))
    simp only [mapE, lookP, List.map_cons, List.find?_cons] at ih ⊢
    rw [kl_same (hR q (by simp)) ha]
    by_cases h : q.x.k = a
    · simp [h]
    · simp only [h, decide_false] at ih ⊢
      exact ih
theorem mapD_at (R : List PE) (hR : ∀ p ∈ R, okK p.x.k) (a : Ky) (ha : okK a) : (mapD R).atKey (kl a) (.held (.pointer none)) = .held (valOf (lookP R a)) := by
  rw [mapD_atz R hR a ha]
  cases lookP R a <;> rfl

theorem insP_perm (p : PE) : ∀ R, (insP p R).Perm (p :: R)
  | [] => .refl _
  | q :: r => by
    unfold insP
    split
    · exact .refl _
    · exact ((insP_perm p r).cons q).trans (.swap p q r)
theorem dropP_ne {R : List PE} {a : Ky} {q : PE} (h : q ∈ dropP R a) : q ∈ R ∧ q.x.k ≠ a := by
  unfold dropP at h
  simpa using List.mem_filter.1 h
theorem lookP_some {R : List PE} {a : Ky} {p : PE} (h : lookP R a = some p) : p ∈ R ∧ p.x.k = a := by
  unfold lookP at h
  exact ⟨List.mem_of_find?_eq_some h, by simpa using List.find?_some h⟩
theorem lookP_none {R : List PE} {a : Ky} (h : lookP R a = none) : ∀ p ∈ R, p.x.k ≠ a := by
  unfold lookP at h
  simpa using h
theorem dropP_none {R : List PE} {a : Ky} (h : ∀ p ∈ R, p.x.k ≠ a) : dropP R a = R := by
  unfold dropP
  exact List.filter_eq_self.2 (fun p hp => by simpa using h p hp)
theorem look_split {R : List PE} {a : Ky} {p : PE} (h : lookP R a = some p) : ∃ A C, R = A ++ p :: C ∧ ∀ q ∈ A, q.x.k ≠ a := by
  unfold lookP at h
  obtain ⟨_, A, C, e, h2⟩ := List.find?_eq_some_iff_append.1 h
  exact ⟨A, C, e, fun q hq => by simpa using h2 q hq⟩

/-! ### in memory -/
abbrev rto (mb : Nat) (created : Int) : Obj := .cells #[.map (some mb), .int .i64 created] 86
abbrev dgo (x : Dg) (tv rv : Value) : Obj := .cells #[.int .i64 x.num, .int .i64 x.st, .bool x.rej, .int .i64 x.fst.fr, .int .i64 x.fst.to, .int .i64 x.fst.pr, .int .i64 x.fst.tt, .int .i64 x.fst.id, .bool x.fst.df, .bool x.fst.mf, .int .i64 x.fst.off, .string x.fst.s, tv, rv, .bool x.fin] 97
def PE.blks (p : PE) : List Nat := p.b :: (p.tv.ownBlock.toList ++ p.rv.ownBlock.toList)
def allB (R : List PE) : List Nat := R.flatMap PE.blks

structure EntAt (w : World) (base : Nat) (p : PE) : Prop where
  low : base ≤ p.b
  blk : w.heap[p.b]? = some (dgo p.x p.tv p.rv)
  txt : w.ownsRow base 5 1 p.tv p.x.txt.length (byt p.x.txt)
  rcv : w.ownsRow base 4 1 p.rv p.x.rcv.length (bls p.x.rcv)
  len : p.x.rcv.length = p.x.txt.length ∧ p.x.txt.length ≤ 4000

structure TabP (w : World) (base T mb : Nat) (cr : Int) (R : List PE) : Prop where
  low : base ≤ T ∧ base ≤ mb
  blk : w.heap[T]? = some (rto mb cr)
  map : w.ownsMap Try.prog 94 raw mb R.length (mapD R)
  ent : ∀ p ∈ R, EntAt w base p
  nodup : (T :: mb :: allB R).Nodup
  keys : R.Pairwise (fun p q => p.x.k ≠ q.x.k)
  ok : ∀ p ∈ R, okK p.x.k

theorem row_blk {w w' : World} {base : Nat} {e : TypeId} {size : Nat} {v : Value} {n : Nat} {xs : List Value} (h : w.ownsRow base e size v n xs) (hk : ∀ k, v.ownBlock = some k → w'.heap[k]? = w.heap[k]?) : w'.ownsRow base e size v n xs := by
  refine ⟨h.1, ?_⟩
  rcases h.2 with h2 | ⟨g, cap, cur, e1, e2, e3, e4⟩
  · exact .inl h2
  · exact .inr ⟨g, cap, cur, e1, e2, (hk g (by rw [e1]; rfl)).trans e3, e4⟩
theorem row_shp {w : World} {base : Nat} {e : TypeId} {size : Nat} {v : Value} {n : Nat} {xs : List Value} (h : w.ownsRow base e size v n xs) : ∃ p c, v = .slice p n c ∧ (v.ownBlock = none ↔ p = none) := by
  rcases h.2 with ⟨rfl, rfl⟩ | ⟨g, cap, cur, rfl, _⟩
  · exact ⟨_, _, rfl, by simp [Value.ownBlock]⟩
  · exact ⟨_, _, rfl, by simp [Value.ownBlock]⟩
theorem map_of_block {w w' : World} {b n : Nat} {D : DataW Value} (h : w.ownsMap Try.prog 94 raw b n D) (hk : w'.heap[b]? = w.heap[b]?) : w'.ownsMap Try.prog 94 raw b n D := by
  obtain ⟨es, clock, hb, r⟩ := h
  exact ⟨es, clock, hk.trans hb, r⟩
theorem EntAt.kept {w w' : World} {base : Nat} {p : PE} (h : EntAt w base p) (hk : ∀ k ∈ p.blks, w'.heap[k]? = w.heap[k]?) : EntAt w' base p where
  low := h.low
  blk := (hk _ (by simp [PE.blks])).trans h.blk
  txt := row_blk h.txt (fun k e => hk k (by simp [PE.blks, e]))
  rcv := row_blk h.rcv (fun k e => hk k (by simp [PE.blks, e]))
  len := h.len
theorem mem_allB {R : List PE} {p : PE} {k : Nat} (hp : p ∈ R) (hk : k ∈ p.blks) : k ∈ allB R := List.mem_flatMap.2 ⟨p, hp, hk⟩
theorem TabP.kept {w w' : World} {base T mb : Nat} {cr : Int} {R : List PE} (h : TabP w base T mb cr R) (hk : ∀ k ∈ T :: mb :: allB R, w'.heap[k]? = w.heap[k]?) : TabP w' base T mb cr R where
  low := h.low
  blk := (hk _ (by simp)).trans h.blk
  map := map_of_block h.map (hk _ (by simp))
  ent := fun p hp => (h.ent p hp).kept (fun k hk2 => hk k (by simp [mem_allB hp hk2]))
  nodup := h.nodup
  keys := h.keys
  ok := h.ok
theorem EntAt.lt {w : World} {base : Nat} {p : PE} (h : EntAt w base p) : ∀ k ∈ p.blks, base ≤ k ∧ k < w.heap.size := by
  intro k hk
  unfold PE.blks at hk
  rcases List.mem_cons.1 hk with rfl | hk
  · exact ⟨h.low, blk_lt h.blk⟩
  · rcases List.mem_append.1 hk with hk | hk
    · exact h.txt.lt k (by simpa using hk)
    · exact h.rcv.lt k (by simpa using hk)
theorem TabP.lt {w : World} {base T mb : Nat} {cr : Int} {R : List PE} (h : TabP w base T mb cr R) : ∀ k ∈ T :: mb :: allB R, base ≤ k ∧ k < w.heap.size := by
  intro k hk
  rcases List.mem_cons.1 hk with rfl | hk
  · exact ⟨h.low.1, blk_lt h.blk⟩
  rcases List.mem_cons.1 hk with rfl | hk
  · exact ⟨h.low.2, h.map.lt⟩
  obtain ⟨p, hp, hk⟩ := List.mem_flatMap.1 hk
  exact (h.ent p hp).lt k hk
theorem TabP.below {w w' : World} {base T mb : Nat} {cr : Int} {R : List PE} (h : TabP w base T mb cr R) (hb : Below w.heap.size w w') : TabP w' base T mb cr R := h.kept fun k hk => hb.block k (h.lt k hk).2

/-! ### operations -/
theorem zeroEnt (w : World) : (zeroValue 91).run Try.prog w = .ok (.pointer none) w := by kernel_rfl
theorem tab_look {w : World} {base T mb : Nat} {cr : Int} {R : List PE} (h : TabP w base T mb cr R) {a : Ky} (ha : okK a) :
    (Instr.lookup 84 (.map (some mb)) (kv a) false).run Try.prog w = .ok (valOf (lookP R a)) w := by
  obtain ⟨v, ps, hrun, hv⟩ := h.map.lookup lawK Try.underlying84 (zeroEnt w) (zd := .held (.pointer none)) (zp := []) rfl (keyK ha)
  rw [mapD_at R h.ok a ha] at hv
  unfold raw at hv
  cases hv
  exact hrun
theorem tab_len {w : World} {base T mb : Nat} {cr : Int} {R : List PE} (h : TabP w base T mb cr R) (ty : TypeId) :
    (Builtin.len_ #[84] ty #[.map (some mb)]).run Try.prog w = .ok (.int .i64 (R.length : Int)) w := by
  have := h.map.len Try.underlying84 ty
  simpa [Maps.size, mapE] using this
theorem mb_of {w : World} {base T mb : Nat} {cr : Int} {R : List PE} (h : TabP w base T mb cr R) :
    w.cell? ⟨T, 0, none⟩ = some (.map (some mb)) ∧ w.cell? ⟨T, 1, none⟩ = some (.int .i64 cr) :=
  ⟨(blk_cell (k := 0) h.blk rfl).1, (blk_cell (k := 1) h.blk rfl).1⟩
theorem map_tight {w : World} {b n : Nat} {R : List PE} (h : w.ownsMap Try.prog 94 raw b n (mapD R)) : w.ownsMap Try.prog 94 raw b R.length (mapD R) := by
  obtain ⟨es, clock, hb, F, hs, hD⟩ := h
  refine ⟨es, clock, hb, F, ?_, hD⟩
  have e : (mapE R).length = es.size := by
    injection hD with hD
    rw [hD, length_sorted]; simp
  rw [← e]; simp [mapE]

/-! ### one entry turns, comes, goes -/
theorem nodup_swap {l1 l2 x x' : List Nat} {N : Nat} (h : (l1 ++ (x ++ l2)).Nodup) (hlt : ∀ k ∈ l1 ++ (x ++ l2), k < N) (hx : x'.Nodup) (hin : ∀ k ∈ x', k ∈ x ∨ N ≤ k) : (l1 ++ (x' ++ l2)).Nodup := by
  rw [List.nodup_append] at h ⊢
  obtain ⟨a1, a2, a3⟩ := h
  rw [List.nodup_append] at a2 ⊢
  obtain ⟨b1, b2, b3⟩ := a2
  refine ⟨a1, ⟨hx, b2, fun k hk k2 hk2 => ?_⟩, fun k hk k2 hk2 => ?_⟩
  · rcases hin k hk with h | h
    · exact b3 k h k2 hk2
    · have := hlt k2 (by simp [hk2]); omega
  · rcases List.mem_append.1 hk2 with hk2 | hk2
    · rcases hin k2 hk2 with h | h
      · exact a3 k hk k2 (by simp [h])
      · have := hlt k (by simp [hk]); omega
    · exact a3 k hk k2 (by simp [hk2])
theorem allB_mid (A C : List PE) (p : PE) : allB (A ++ p :: C) = allB A ++ (p.blks ++ allB C) := by simp [allB]
theorem allB_perm {R R' : List PE} (h : R.Perm R') : (allB R).Perm (allB R') := h.flatMap_right _
theorem allB_sub {R R' : List PE} (h : R.Sublist R') : (allB R).Sublist (allB R') := by
  induction h with
  | slnil => exact .slnil
  | cons a _ ih => exact ih.trans (by simp [allB])
  | cons_cons a _ ih => simpa [allB] using ih
theorem keys_mid {A C : List PE} {p p' : PE} (hk : p'.x.k = p.x.k) (h : (A ++ p :: C).Pairwise (fun p q => p.x.k ≠ q.x.k)) : (A ++ p' :: C).Pairwise (fun p q => p.x.k ≠ q.x.k) := by
  rw [List.pairwise_append] at h ⊢
  obtain ⟨s1, s2, s3⟩ := h
  obtain ⟨s4, s5⟩ := List.pairwise_cons.1 s2
  refine ⟨s1, List.pairwise_cons.2 ⟨fun q hq => by rw [hk]; exact s4 q hq, s5⟩, fun q hq r hr => ?_⟩
  rcases List.mem_cons.1 hr with rfl | hr
  · rw [hk]; exact s3 q hq p (by simp)
  · exact s3 q hq r (by simp [hr])

theorem TabP.one {w w' : World} {base T mb : Nat} {cr : Int} {A C : List PE} {p : PE} (h : TabP w base T mb cr (A ++ p :: C)) (p' : PE) (ha : p'.x.k = p.x.k) (hb : p'.b = p.b)
    (he : EntAt w' base p') (hn : p'.blks.Nodup) (hrow : ∀ k ∈ p'.blks, k ∈ p.blks ∨ w.heap.size ≤ k) (ht : Touch (fun k => k ∈ p.blks) w w') : TabP w' base T mb cr (A ++ p' :: C) := by
  have hlt := fun k hk => (h.lt k hk).2
  have hnd := h.nodup
  rw [allB_mid] at hnd hlt
  have hnd' : (([T, mb] ++ allB A) ++ (p.blks ++ allB C)).Nodup := by simpa using hnd
  have hq : ∀ q, q ∈ A ∨ q ∈ C → ∀ k ∈ q.blks, k ∉ p.blks := by
    intro q hq k hk hkp
    rw [List.nodup_append] at hnd'
    obtain ⟨-, a2, a3⟩ := hnd'
    rw [List.nodup_append] at a2
    rcases hq with hq | hq
    · exact a3 k (by simp [mem_allB hq hk]) k (by simp [hkp]) rfl
    · exact a2.2.2 k hkp k (mem_allB hq hk) rfl
  have hT : ∀ k, k = T ∨ k = mb → k ∉ p.blks := by
    intro k hk hkp
    rw [List.nodup_append] at hnd'
    rcases hk with rfl | rfl
    · exact hnd'.2.2 k (by simp) k (by simp [hkp]) rfl
    · exact hnd'.2.2 k (by simp) k (by simp [hkp]) rfl
  refine ⟨h.low, (ht.block _ (hlt T (by simp)) (hT T (.inl rfl))).trans h.blk, ?_, ?_, ?_, keys_mid ha h.keys, ?_⟩
  · have e : mapD (A ++ p' :: C) = mapD (A ++ p :: C) := by
      simp [mapD, mapE, ha, entVal, hb]
    rw [e, show (A ++ p' :: C).length = (A ++ p :: C).length by simp]
    exact map_of_block h.map (ht.block _ (hlt mb (by simp)) (hT mb (.inr rfl)))
  · intro q hqm
    rcases List.mem_append.1 hqm with hq1 | hq1
    · exact (h.ent q (by simp [hq1])).kept (fun k hk => ht.block k ((h.ent q (by simp [hq1])).lt k hk).2 (hq q (.inl hq1) k hk))
    · rcases List.mem_cons.1 hq1 with rfl | hq1
      · exact he
      · exact (h.ent q (by simp [hq1])).kept (fun k hk => ht.block k ((h.ent q (by simp [hq1])).lt k hk).2 (hq q (.inr hq1) k hk))
  · rw [allB_mid]
    have := nodup_swap (N := w.heap.size) hnd' (by intro k hk; exact hlt k (by simpa using hk)) hn hrow
    simpa using this
  · intro q hqm
    rcases List.mem_append.1 hqm with hq1 | hq1
    · exact h.ok q (by simp [hq1])
    · rcases List.mem_cons.1 hq1 with rfl | hq1
      · rw [ha]; exact h.ok p (by simp)
      · exact h.ok q (by simp [hq1])

/-- an entry of new blocks comes in -/
theorem TabP.put {w w' : World} {base T mb : Nat} {cr : Int} {R : List PE} (h : TabP w base T mb cr R) (p : PE) (hok : okK p.x.k) (hno : ∀ q ∈ R, q.x.k ≠ p.x.k)
    (hm : ∃ n, w'.ownsMap Try.prog 94 raw mb n ((mapD R).put (kl p.x.k) (.held (entVal p)))) (hg : w.grownBy w' (some mb)) (he : EntAt w base p) (hn : p.blks.Nodup) (hf : ∀ k ∈ p.blks, k ∉ T :: mb :: allB R) :
    TabP w' base T mb cr (insP p R) := by
  have hperm := insP_perm p R
  have hnd := h.nodup
  have hmem : ∀ q ∈ insP p R, q = p ∨ q ∈ R := fun q hq => List.mem_cons.1 (hperm.mem_iff.1 hq)
  have hmb : ∀ q ∈ R, ∀ k ∈ q.blks, k ≠ mb := by
    intro q hq k hk e
    subst e
    have := (List.nodup_cons.1 (List.nodup_cons.1 hnd).2).1
    exact this (mem_allB hq hk)
  obtain ⟨n, hm⟩ := hm
  rw [mapD_put R h.ok p hok, putP, dropP_none hno] at hm
  refine ⟨h.low, ?_, map_tight hm, ?_, ?_, ?_, ?_⟩
  · have : T ≠ mb := by have := (List.nodup_cons.1 hnd).1; intro e; exact this (by simp [e])
    exact (hg.block T (blk_lt h.blk) (by simpa using this)).trans h.blk
  · intro q hq
    rcases hmem q hq with rfl | hq
    · exact he.kept (fun k hk => hg.block k (he.lt k hk).2 (fun e => hf k hk (by cases e; simp)))
    · exact (h.ent q hq).kept (fun k hk => hg.block k ((h.ent q hq).lt k hk).2 (fun e => hmb q hq k hk (by cases e; rfl)))
  · have h1 : (T :: mb :: allB (insP p R)).Perm (p.blks ++ (T :: mb :: allB R)) := by
      have : (allB (insP p R)).Perm (p.blks ++ allB R) := by
        have := allB_perm hperm
        simpa [allB] using this
      refine ((this.cons mb).cons T).trans ?_
      simp only [List.perm_iff_count]
      intro a
      simp only [List.count_cons, List.count_append]
      omega
    rw [h1.nodup_iff, List.nodup_append]
    exact ⟨hn, hnd, fun k hk k2 hk2 e => hf k hk (by rw [e]; exact hk2)⟩
  · refine (List.Perm.pairwise_iff (fun {a b} (hab : a.x.k ≠ b.x.k) => hab.symm) hperm).2 (List.pairwise_cons.2 ⟨fun q hq => (hno q hq).symm, h.keys⟩)
  · intro q hq
    rcases hmem q hq with rfl | hq
    · exact hok
    · exact h.ok q hq

/-- an entry goes -/
theorem TabP.del {w w' : World} {base T mb : Nat} {cr : Int} {R : List PE} (h : TabP w base T mb cr R) (a : Ky) (ha : okK a)
    (hm : ∃ n, w'.ownsMap Try.prog 94 raw mb n ((mapD R).del (kl a))) (hg : w.grownBy w' (some mb)) :
    TabP w' base T mb cr (dropP R a) := by
  have hsub : (dropP R a).Sublist R := List.filter_sublist
  have hnd := h.nodup
  have hmb : ∀ q ∈ R, ∀ k ∈ q.blks, k ≠ mb := by
    intro q hq k hk e
    subst e
    have := (List.nodup_cons.1 (List.nodup_cons.1 hnd).2).1
    exact this (mem_allB hq hk)
  obtain ⟨n, hm⟩ := hm
  rw [mapD_del R h.ok a ha] at hm
  refine ⟨h.low, ?_, map_tight hm, ?_, ?_, ?_, ?_⟩
  · have : T ≠ mb := by have := (List.nodup_cons.1 hnd).1; intro e; exact this (by simp [e])
    exact (hg.block T (blk_lt h.blk) (by simpa using this)).trans h.blk
  · intro q hq
    have hq := hsub.subset hq
    exact (h.ent q hq).kept (fun k hk => hg.block k ((h.ent q hq).lt k hk).2 (fun e => hmb q hq k hk (by cases e; rfl)))
  · exact hnd.sublist (((allB_sub hsub).cons_cons mb).cons_cons T)
  · exact h.keys.sublist hsub
  · exact fun q hq => h.ok q (hsub.subset hq)
end Go.Proofs.Ytecboengeheapaa
