/- ICMP messages as plain values. No program here. Contracts of icmp.within, icmp.rules, icmp.Valid. A region in whatever order, by an invariant on what has been listed. No program here. -/
import Derived.Test.YtidjbpglpobigaaDoorIpM
import Derived.Maps.OwnSet
import Derived.Maps.OwnOps
import Derived.BigRegion
import Derived.Laws.EntriesVeiled
import Derived.Deep.RegionHeld3
namespace Go.Proofs.YtidjbpglpobigaaDoor
section
open Go.RowKit
set_option linter.unusedVariables false

structure Ms where
  k : Int
  c : Int
  n : Int
  s : ByteArray
abbrev mv (m : Ms) : Value := .agg #[.int .i64 m.k, .int .i64 m.c, .int .i64 m.n, .string m.s]
abbrev mo (m : Ms) : Obj := .cells #[.int .i64 m.k, .int .i64 m.c, .int .i64 m.n, .string m.s] 23
/-- a message with its checksum -/
abbrev mcv (m : Ms) (q : Int) : Value := .agg #[.int .i64 m.k, .int .i64 m.c, .int .i64 m.n, .string m.s, .int .i64 q]
abbrev mco (m : Ms) (q : Int) : Obj := .cells #[.int .i64 m.k, .int .i64 m.c, .int .i64 m.n, .string m.s, .int .i64 q] 72
/-- the reader: what is left to read, then the message -/
abbrev mro (t : ByteArray) (m : Ms) (q : Int) : Obj := .cells #[.string t, .int .i64 m.k, .int .i64 m.c, .int .i64 m.n, .string m.s, .int .i64 q] 78
abbrev mz : Ms := ⟨0, 0, 0, ⟨#[]⟩⟩

/-- what a kind asks of code and number -/
def numK (k c n : Int) : Prop :=
  ((k = 1 ∨ k = 2) ∧ c = 0 ∧ 0 ≤ n ∧ n ≤ 4294967295) ∨ (k = 3 ∧ 1 ≤ c ∧ c ≤ 4 ∧ n = 0) ∨ (k = 4 ∧ 1 ≤ c ∧ c ≤ 2 ∧ n = 0) ∨ (k = 5 ∧ c = 0 ∧ 68 ≤ n ∧ n ≤ 1024)
def errK (k : Int) : Prop := k = 3 ∨ k = 4 ∨ k = 5
def roomK (k : Int) : Int := if k = 1 ∨ k = 2 then 500 else 28
/-- valid -/
def okM (m : Ms) : Prop := numK m.k m.c m.n ∧ (m.s.size : Int) ≤ roomK m.k
instance (k c n : Int) : Decidable (numK k c n) := by unfold numK; infer_instance
instance (k : Int) : Decidable (errK k) := by unfold errK; infer_instance
instance (m : Ms) : Decidable (okM m) := by unfold okM; infer_instance
/-- a valid error message -/
def okE (m : Ms) : Prop := errK m.k ∧ okM m
instance (m : Ms) : Decidable (okE m) := by unfold okE; infer_instance
theorem okM_room {m : Ms} (h : okM m) : m.s.size ≤ 500 := by
  have h2 := h.2
  unfold roomK at h2
  split at h2 <;> omega
theorem okE_room {m : Ms} (h : okE m) : m.s.size ≤ 28 := by
  have h2 := h.2.2
  have h1 := h.1
  unfold errK at h1
  unfold roomK at h2
  split at h2 <;> omega
end
section
attribute [local go_sem] Oper.semAt_some
open Go.RowKit Go.Maps
set_option linter.unusedVariables false

theorem within_any (n a b : Int) (w : World) :
    Calls Tryd.prog 57 #[.int .i64 n, .int .i64 a, .int .i64 b] w fun e w' => e = .returned (.bool (decide (a ≤ n ∧ n ≤ b))) ∧ w = w' := by
  go_enter Tryd.func57, Tryd.ntmps57
  go_wp2
  all_goals go_ret
  all_goals refine ⟨ret_bool ?_, rfl⟩
  all_goals first
    | (rw [Bool.eq_iff_iff, decide_eq_true_iff]; simp <;> omega)
    | (rw [Bool.eq_iff_iff, Bool.and_eq_true, decide_eq_true_iff, decide_eq_true_iff]; simp <;> omega)

/-! the rules -/
def rawR (v : Value) : Option (DataW Value × List MemPlace) := some (.held v, [])
theorem lawI : Keyed Tryd.prog 3 := int_keyed Tryd.underlying3
theorem keyI {a : Int} (h1 : -9223372036854775808 ≤ a) (h2 : a ≤ 9223372036854775807) : keyOf Tryd.prog 3 (.int .i64 a) = some (.int .i64 a) :=
  keyOf_int_mk Tryd.underlying3 (by have e1 : IntKind.i64.min = -9223372036854775808 := rfl; have e2 : IntKind.i64.max = 9223372036854775807 := rfl; simp [Lit.wf, e1, e2]; omega)
end
section
open Go.RowKit

theorem countP_drop {p p' : Nat → Bool} : ∀ (L : List Nat) (i : Nat), i ∈ L → (∀ j, p' j = true → p j = true) → p i = true → p' i = false → L.countP p' < L.countP p
  | [], _, h, _, _, _ => by cases h
  | x :: L, i, h, hm, h1, h2 => by
    have hle : L.countP p' ≤ L.countP p := List.countP_mono_left (fun j _ => hm j)
    rcases List.mem_cons.1 h with rfl | h
    · rw [List.countP_cons, List.countP_cons, h1, h2]
      simp
      omega
    · have ih := countP_drop L i h hm h1 h2
      have hx := hm x
      rw [List.countP_cons, List.countP_cons]
      cases h3 : p' x
      · simp; omega
      · rw [hx h3]; simpa using ih

theorem getD_set (l : Array Bool) (i j : Nat) (h : (!(l.setIfInBounds i true).getD j true) = true) : (!l.getD j true) = true ∧ j ≠ i := by
  rw [Array.getD_eq_getD_getElem?, Array.getElem?_setIfInBounds] at h
  rw [Array.getD_eq_getD_getElem?]
  by_cases e : i = j
  · subst e
    rw [if_pos rfl] at h
    split at h <;> simp at h
  · rw [if_neg e] at h
    exact ⟨h, fun e2 => e e2.symm⟩

theorem wpAny_inv {P : Program} {md : Region.Mode} {ops : Array Oper} {Q : Exit → Act → World → Prop} (I : Array Bool → Act → World → Prop)
    (hd : ∀ l a w, I l a w → Region.ready md ops l = [] → Q .normal a w)
    (hs : ∀ l a w i, I l a w → i ∈ Region.ready md ops l → wpOp P ops Q i (I (l.setIfInBounds i true)) a w) :
    ∀ (fuel : Nat) (l : Array Bool) (a : Act) (w : World), I l a w → (List.range ops.size).countP (fun i => !l.getD i true) ≤ fuel → wpAny P md ops Q fuel l a w
  | 0, l, a, w, h, hc => by
    have hr : Region.ready md ops l = [] := by
      unfold Region.ready
      rw [List.filter_eq_nil_iff]
      intro i hi hh
      have h2 := List.countP_eq_zero.1 (Nat.le_zero.1 hc) i hi
      simp only [Bool.and_eq_true] at hh
      exact h2 hh.1
    exact ⟨hr, hd l a w h hr⟩
  | fuel + 1, l, a, w, h, hc => by
    refine ⟨fun hr => hd l a w h hr, fun i hi => wpOp_mono (fun a' w' h' => wpAny_inv I hd hs fuel _ a' w' h' ?_) (hs l a w i h hi)⟩
    have hi2 := List.mem_filter.1 hi
    have hi3 : (!l.getD i true) = true := by
      have := hi2.2
      simp only [Bool.and_eq_true] at this
      exact this.1
    have := countP_drop (p := fun i => !l.getD i true) (p' := fun j => !(l.setIfInBounds i true).getD j true) (List.range ops.size) i hi2.1
      (fun j hj => (getD_set l i j hj).1) hi3 (by
        cases hb : !(l.setIfInBounds i true).getD i true
        · rfl
        · exact absurd rfl (getD_set l i i hb).2)
    omega

theorem wp_region_inv {P : Program} {id : Nat} {ops : Array Oper} {Q : Exit → Act → World → Prop} {a : Act} {w : World} (hm : P.follows .mixedOrders = true) (I : Array Bool → Act → World → Prop)
    (h0 : I (Array.replicate ops.size false) a w.drew)
    (hd : ∀ l a w, I l a w → Region.ready .any ops l = [] → Q .normal a w)
    (hs : ∀ l a w i, I l a w → i ∈ Region.ready .any ops l → wpOp P ops Q i (I (l.setIfInBounds i true)) a w) : (Code.region id ops true).wp P Q a w :=
  wp_region_any hm (wpAny_inv I hd hs ops.size _ a _ h0 (by
    have := List.countP_le_length (p := fun i => !(Array.replicate ops.size false).getD i true) (l := List.range ops.size)
    rwa [List.length_range] at this))
end
end Go.Proofs.YtidjbpglpobigaaDoor
