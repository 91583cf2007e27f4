/- The iterator maps.Keys gives, at the table's map: the keys come, each once, in some order. -/
import Derived.Test.YtecboengeheapaaRtTab
import Derived.Test.YtecboengeheapaaIpLaw
import Derived.RangeFuncNested
import Derived.RangeFuncBound
import Derived.RangeFuncCalls
import Derived.RangeFuncLeaves
import Derived.Shelf.SlIter.Keys
import Derived.OwnWalkIn
import Derived.TacticsInMore
import Derived.RegionIn
import Derived.LoopNIn
import Derived.LoopIn
namespace Go.Proofs.Ytecboengeheapaa
open Go.RowKit Go.Maps Go.Sort Go.Shelf
set_option linter.unusedVariables false
attribute [local go_sem] Oper.semAt_some

theorem ranges_blk {w w' : World} {b r n : Nat} {D : DataW Value} {left : Lit → Bool} {cnt : Nat} (h : w.ranges Try.prog 94 raw b r n D left cnt) (h1 : w'.heap[b]? = w.heap[b]?) (h2 : w'.heap[r]? = w.heap[r]?) : w'.ranges Try.prog 94 raw b r n D left cnt := by
  obtain ⟨es, clock, since, seen, c0, a1, a2, a3, a4, a5, a6⟩ := h
  exact ⟨es, clock, since, seen, c0, h1.trans a1, a2, a3, a4, h2.trans a5, a6⟩
theorem atKey_mem (R : List PE) (l : Lit) (v : DataW Value) (h : (mapD R).atKey l .nil = v) (hv : v ≠ .nil) : ∃ p ∈ R, kl p.x.k = l := by
  simp only [DataW.atKey] at h
  induction R with
  | nil => exact absurd h.symm hv
  | cons q r ih =>
    simp only [mapE, List.map_cons, List.find?_cons] at h ih
    cases hs : (kl q.x.k).sameKey l with
    | true => exact ⟨q, by simp, WideAt.sameKey_eq hs⟩
    | false =>
      rw [hs] at h
      obtain ⟨p, hp, e⟩ := ih h
      exact ⟨p, by simp [hp], e⟩

/-- what has come of the keys -/
structure Come (R : List PE) (left : Lit → Bool) (cnt : Nat) (pre : List Ky) : Prop where
  nd : pre.Nodup
  sub : ∀ k ∈ pre, k ∈ R.map (·.x.k)
  gone : ∀ k ∈ pre, left (kl k) = false
  all : ∀ p ∈ R, left (kl p.x.k) = false → p.x.k ∈ pre
  len : pre.length + cnt ≤ R.length
theorem Come.perm {R : List PE} {left : Lit → Bool} {cnt : Nat} {pre : List Ky} (h : Come R left cnt pre) (hR : R.Pairwise (fun p q => p.x.k ≠ q.x.k)) (hl : ∀ l, left l = false) : pre.Perm (R.map (·.x.k)) := by
  refine (List.perm_ext_iff_of_nodup h.nd (List.pairwise_map.2 hR)).2 (fun k => ⟨h.sub k, fun hk => ?_⟩)
  obtain ⟨p, hp, rfl⟩ := List.mem_map.1 hk
  exact h.all p hp (hl _)
theorem Come.step {R : List PE} {left : Lit → Bool} {cnt cnt' : Nat} {pre : List Ky} (h : Come R left cnt pre) (hok : ∀ p ∈ R, okK p.x.k) {p : PE} (hp : p ∈ R) (hl : left (kl p.x.k) = true) (hc : cnt' < cnt) :
    Come R (fun z => left z && !z.sameKey (kl p.x.k)) cnt' (pre ++ [p.x.k]) := by
  have hn : p.x.k ∉ pre := fun hm => by rw [h.gone _ hm] at hl; cases hl
  refine ⟨List.nodup_append.2 ⟨h.nd, by simp, fun a ha b hb => by simp at hb; subst hb; exact fun e => hn (e ▸ ha)⟩, ?_, ?_, ?_, by have := h.len; simp; omega⟩
  · intro k hk
    rcases List.mem_append.1 hk with hk | hk
    · exact h.sub k hk
    · simp at hk; subst hk; exact List.mem_map.2 ⟨p, hp, rfl⟩
  · intro k hk
    rcases List.mem_append.1 hk with hk | hk
    · simp [h.gone k hk]
    · simp at hk; subst hk; simp [kl_self (hok p hp)]
  · intro q hq hlq
    by_cases he : q.x.k = p.x.k
    · simp [he]
    · simp only [kl_same (hok q hq) (hok p hp), he, decide_false, Bool.not_false, Bool.and_true] at hlq
      exact List.mem_append.2 (.inl (h.all q hq hlq))

set_option maxRecDepth 100000 in
set_option maxHeartbeats 3200000 in
theorem keys_stops (R : List PE) (hok : ∀ p ∈ R, okK p.x.k) (hR : R.Pairwise (fun p q => p.x.k ≠ q.x.k)) (Bm mb : Nat) (w : World) (hmb : mb < w.heap.size) (hB : w.heap[Bm]? = some (.cells #[.map (some mb)] 84)) (hown : w.ownsMap Try.prog 94 raw mb R.length (mapD R)) :
    SeqStopsH Fence.wide 3 Try.prog 98 #[.pointer (some ⟨Bm, 0, none⟩)] (fun k : Ky => #[kv k]) (fun _ W => W.heap[mb]? = w.heap[mb]?) (fun pre k => okK k ∧ pre.length < R.length) (fun xs => xs.Perm (R.map (·.x.k))) (fun _ => True) w := by
  intro l J Jx W hW hJ hJx hH hJw hY h0
  have hBW := blk_below hB hW (blk_lt hB)
  have c0 := (blk_cell (k := 0) hBW rfl).1
  simp only [List.getElem_toArray, List.getElem_cons_zero] at c0
  have hownW : W.ownsMap Try.prog 94 raw mb R.length (mapD R) := map_of_block hown (hW.block mb hmb)
  have hmW : W.heap[mb]? = w.heap[mb]? := hW.block mb hmb
  have hsz : Maps.size (mapD R) = R.length := by simp [Maps.size, mapE]
  refine callsIn_of_wp Try.func98 rfl trivial ?_ rfl
  change Code.wpIn _ _ _ _ _ ⟨#[.func (.yield l) #[] #[], .pointer (some ⟨Bm, 0, none⟩), undef, undef, undef, undef, undef, undef, undef, undef, undef, undef, undef, undef], []⟩ _
  gi_wp2_with (first
    | (gi_at_range; refine wpListIn_range_own _ rfl _ 84 rfl 94 91 lawK Try.underlying84 raw mb R.length (mapD R) rfl hownW ?_; intro w0 hrg0 hg0 hs0)
    | gi_in)

  have hb0 : Below W.heap.size W w0 := ⟨hg0.os, hg0.tape, hg0.output, hg0.size, fun k hk => hg0.block k hk (by simp)⟩
  have hI0 := h0 _ hb0
  rw [hs0] at hI0
  have hSt : Come R (Maps.has (mapD R)) (Maps.size (mapD R)) [] := ⟨by simp, by simp, by simp, (fun p hp h => (by
    have h2 : Maps.has (mapD R) (kl p.x.k) = true := by rw [Maps.has_eq]; exact List.any_eq_true.2 ⟨(kl p.x.k, .held (entVal p)), List.mem_map.2 ⟨p, hp, rfl⟩, kl_self (hok p hp)⟩
    rw [h2] at h
    cases h)), by rw [hsz]; simp⟩
  have HST := Lib.hid hSt
  clear hSt
  gi_loopw [3] (fun _ wr => ∃ (left : Lit → Bool) (cnt : Nat) (pre : List Ky), wr.ranges Try.prog 94 raw mb W.heap.size R.length (mapD R) left cnt ∧ Hid (Come R left cnt pre) ∧ J (W.heap.size + 1) pre wr)
    (fun _ wr => wr.rangeLeft mb W.heap.size)
  case atStart => exact ⟨_, _, [], hrg0, HST, hI0⟩
  case round =>
    obtain ⟨left, cnt, pre, hrg, hC, hJ1⟩ := hrel
    have HRG := Lib.hid hrg
    gi_wp2_with (first
      | (gi_at_next; refine wpListIn_next_ranges _ rfl _ rfl 94 lawK raw (id : Value → Value) (id : Value → Value) (fun key kl hk => ⟨key, rfl⟩) (fun v _ _ => ⟨v, rfl⟩) mb W.heap.size R.length _ _ _ rfl HRG.out ?_ ?_)
      | gi_in)
    · intro hc0 hl0
      gi_wp2
      go_end0
      exact ⟨⟨_, rfl⟩, .inl ⟨_, pre, hC.out.perm hR hl0, hJ1⟩⟩
    · intro x c l0 yd yp w2 cnt2 hkey hlk hv hat hrg2 hlt hg2 hs2 hen
      have hkey : keyOf Try.prog 94 x = some l0 := hkey
      have hv : raw c = some (yd, yp) := hv
      unfold raw at hv
      cases hv
      obtain ⟨p, hp, hpk⟩ := atKey_mem R l0 _ (hat .nil) (by simp)
      subst hpk
      obtain rfl : x = kv p.x.k := lawK.inj hkey (keyK (hok p hp))
      have hJ2 : J (W.heap.size + 1) pre w2 := hJ _ pre wr w2 (some W.heap.size) hJ1 hg2 (fun r e => by cases e; exact ⟨Nat.le_refl _, hrg.iter_walk⟩)
      have hCs := Lib.hid (hC.out.step (cnt' := cnt2) hok hp hlk hlt)
      have hRG2 := Lib.hid hrg2
      have hpl : pre.length < R.length := by have := hC.out.len; omega
      obtain ⟨ko, hko⟩ : ∃ ko : Obj, (.cells #[.int .i64 p.x.k.fr, .int .i64 p.x.k.to, .int .i64 p.x.k.pr, .int .i64 p.x.k.id] 94) = ko := ⟨_, rfl⟩
      have hJ3 : J (W.heap.size + 1) pre (w2.alloc ko) := hJ _ pre w2 (w2.alloc ko) none hJ2 (World.grownBy_alloc w2 ko none) (fun r e => by cases e)
      have hsz2 : W.heap.size < wr.heap.size := by
        have h1 := hrg.lt
        exact h1
      obtain ⟨fn, tmps, assign, body, hy, hR1⟩ := hY (W.heap.size + 1) pre p.x.k (w2.alloc ko) (by omega) hJ3 ⟨hok p hp, hpl⟩
      have hm3 : (w2.alloc ko).heap[mb]? = w.heap[mb]? := hH _ _ _ hJ3
      have HRG3 := Lib.hid (hRG2.out.alloc ko)
      have HRGr := HRG
      clear hat hv hs2 hg2 hrg2 hRG2 hrg hJ2 hJ1
      rw [← hko] at hy hJ3 hm3 HRG3 hR1
      have HM3 := Lib.hid hm3
      have HJ3 := Lib.hid hJ3
      clear hko hm3 hJ3
      gi_wp2
      refine hR1.mono ?_
      rintro e W3 (⟨rfl, hJ4, hk3⟩ | ⟨rfl, hJ4⟩)
      · have h3 := ranges_blk HRG3.out ((hH _ _ _ hJ4).trans HM3.out.symm) (hk3.same _ (Nat.le_refl _) (by omega))
        have H3 := Lib.hid h3
        clear h3 hk3
        gi_wp2
        refine ⟨⟨_, cnt2, _, H3.out, hCs, hJ4⟩, ?_⟩
        rw [H3.out.left_eq, HRGr.out.left_eq]
        exact hlt
      · gi_wp2
        refine bodyPost_ret (results_none rfl _ _ _) rfl ?_
        exact ⟨⟨_, rfl⟩, .inr ⟨_, hJ4⟩⟩
end Go.Proofs.Ytecboengeheapaa
