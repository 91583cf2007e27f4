/- How the table's relation goes through a change of one entry. -/
import Derived.Test.YtpkfjlbjahghgaaAtHold
namespace Go.Proofs.Ytpkfjlbjahghgaa
open Go.RowKit Go.Maps
set_option linter.unusedVariables false

theorem nodup_swap {l1 l2 x x' : List Nat} {N : Nat} (h : (l1 ++ (x ++ l2)).Nodup) (hlt : ∀ k ∈ l1 ++ (x ++ l2), k < N) (hx : x'.Nodup) (hin : ∀ k ∈ x', k ∈ x ∨ N ≤ k) : (l1 ++ (x' ++ l2)).Nodup := by
  rw [List.nodup_append] at h ⊢
  obtain ⟨a1, a2, a3⟩ := h
  rw [List.nodup_append] at a2 ⊢
  obtain ⟨b1, b2, b3⟩ := a2
  refine ⟨a1, ⟨hx, b2, fun k hk k2 hk2 => ?_⟩, fun k hk k2 hk2 => ?_⟩
  · rcases hin k hk with h | h
    · exact b3 k h k2 hk2
    · have := hlt k2 (by simp [hk2]); omega
  · rcases List.mem_append.1 hk2 with hk2 | hk2
    · rcases hin k2 hk2 with h | h
      · exact a3 k hk k2 (by simp [h])
      · have := hlt k (by simp [hk]); omega
    · exact a3 k hk k2 (by simp [hk2])
theorem allB_mid (A C : List PE) (p : PE) : allB (A ++ p :: C) = allB A ++ (p.blks ++ allB C) := by simp [allB]
theorem allB_perm {R R' : List PE} (h : R.Perm R') : (allB R).Perm (allB R') := h.flatMap_right _
theorem allB_sub {R R' : List PE} (h : R.Sublist R') : (allB R).Sublist (allB R') := by
  induction h with
  | slnil => exact .slnil
  | cons a _ ih => exact ih.trans (by simp [allB])
  | cons_cons a _ ih => simpa [allB] using ih

theorem map_tight {w : World} {b n : Nat} {R : List PE} (h : w.ownsMap Try.prog 3 raw b n (mapD R)) : w.ownsMap Try.prog 3 raw b R.length (mapD R) := by
  obtain ⟨es, clock, hb, F, hs, hD⟩ := h
  refine ⟨es, clock, hb, F, ?_, hD⟩
  have e : (mapE R).length = es.size := by
    injection hD with hD
    rw [hD, length_sorted]; simp
  rw [← e]; simp [mapE]

/-- one entry turns in its own block and row -/
theorem TabP.one {w w' : World} {base T mb : Nat} {own mac when : Int} {said : Bool} {A C : List PE} {p : PE} (h : TabP w base T mb own mac said when (A ++ p :: C)) (p' : PE) (ha : p'.x.addr = p.x.addr) (hk : p'.x.known = p.x.known) (hb : p'.b = p.b)
    (he : EntAt w' base p') (hn : p'.blks.Nodup) (hrow : ∀ k ∈ p'.blks, k ∈ p.blks ∨ w.heap.size ≤ k) (ht : Touch (fun k => k ∈ p.blks) w w') : TabP w' base T mb own mac said when (A ++ p' :: C) := by
  have hlt := fun k hk => (h.lt k hk).2
  have hnd := h.nodup
  rw [allB_mid] at hnd hlt
  have hnd' : (([T, mb] ++ allB A) ++ (p.blks ++ allB C)).Nodup := by simpa using hnd
  have hq : ∀ q, q ∈ A ∨ q ∈ C → ∀ k ∈ q.blks, k ∉ p.blks := by
    intro q hq k hk hkp
    rw [List.nodup_append] at hnd'
    obtain ⟨-, a2, a3⟩ := hnd'
    rw [List.nodup_append] at a2
    rcases hq with hq | hq
    · exact a3 k (by simp [mem_allB hq hk]) k (by simp [hkp]) rfl
    · exact a2.2.2 k hkp k (mem_allB hq hk) rfl
  have hT : ∀ k, k = T ∨ k = mb → k ∉ p.blks := by
    intro k hk hkp
    rw [List.nodup_append] at hnd'
    rcases hk with rfl | rfl
    · exact hnd'.2.2 k (by simp) k (by simp [hkp]) rfl
    · exact hnd'.2.2 k (by simp) k (by simp [hkp]) rfl
  have hbl := h.lt
  refine ⟨h.low, (ht.block _ (hlt T (by simp)) (hT T (.inl rfl))).trans h.blk, ?_, ?_, ?_, ?_, ?_⟩
  · have e : mapD (A ++ p' :: C) = mapD (A ++ p :: C) := by
      simp [mapD, mapE, ha, entVal, hk, hb]
    rw [e, show (A ++ p' :: C).length = (A ++ p :: C).length by simp]
    exact map_of_block h.map (ht.block _ (hlt mb (by simp)) (hT mb (.inr rfl)))
  · intro q hqm
    rcases List.mem_append.1 hqm with hq1 | hq1
    · exact (h.ent q (by simp [hq1])).kept (fun k hk => ht.block k ((h.ent q (by simp [hq1])).lt k hk).2 (hq q (.inl hq1) k hk))
    · rcases List.mem_cons.1 hq1 with rfl | hq1
      · exact he
      · exact (h.ent q (by simp [hq1])).kept (fun k hk => ht.block k ((h.ent q (by simp [hq1])).lt k hk).2 (hq q (.inr hq1) k hk))
  · rw [allB_mid]
    have := nodup_swap (N := w.heap.size) hnd' (by intro k hk; exact hlt k (by simpa using hk)) hn hrow
    simpa using this
  · have := h.sorted
    rw [List.pairwise_append] at this ⊢
    obtain ⟨s1, s2, s3⟩ := this
    obtain ⟨s4, s5⟩ := List.pairwise_cons.1 s2
    refine ⟨s1, List.pairwise_cons.2 ⟨fun q hq => by rw [ha]; exact s4 q hq, s5⟩, fun q hq r hr => ?_⟩
    rcases List.mem_cons.1 hr with rfl | hr
    · rw [ha]; exact s3 q hq p (by simp)
    · exact s3 q hq r (by simp [hr])
  · intro q hqm
    rcases List.mem_append.1 hqm with hq1 | hq1
    · exact h.ok q (by simp [hq1])
    · rcases List.mem_cons.1 hq1 with rfl | hq1
      · rw [ha]; exact h.ok p (by simp)
      · exact h.ok q (by simp [hq1])

/-- an entry of new blocks comes in, in place of one of the same address -/
theorem TabP.put {w w' : World} {base T mb : Nat} {own mac when : Int} {said : Bool} {R : List PE} (h : TabP w base T mb own mac said when R) (p : PE) (hok : okOne p.x.addr)
    (hm : ∃ n, w'.ownsMap Try.prog 3 raw mb n ((mapD R).put (.int .i64 p.x.addr) (.held (entVal p)))) (hg : w.grownBy w' (some mb)) (he : EntAt w base p) (hn : p.blks.Nodup) (hf : ∀ k ∈ p.blks, k ∉ T :: mb :: allB R) :
    TabP w' base T mb own mac said when (putP R p) := by
  have hsub : (dropP R p.x.addr).Sublist R := List.filter_sublist
  have hperm := insP_perm p (dropP R p.x.addr)
  have hnd := h.nodup
  have hmem : ∀ q ∈ putP R p, q = p ∨ q ∈ R := fun q hq => (List.mem_cons.1 (hperm.mem_iff.1 hq)).imp id (fun h => hsub.subset h)
  have hmb : ∀ q ∈ R, ∀ k ∈ q.blks, k ≠ mb := by
    intro q hq k hk e
    subst e
    have := (List.nodup_cons.1 (List.nodup_cons.1 hnd).2).1
    exact this (mem_allB hq hk)
  obtain ⟨n, hm⟩ := hm
  rw [mapD_put] at hm
  refine ⟨h.low, ?_, map_tight hm, ?_, ?_, ?_, ?_⟩
  · have : T ≠ mb := by have := (List.nodup_cons.1 hnd).1; intro e; exact this (by simp [e])
    exact (hg.block T (blk_lt h.blk) (by simpa using this)).trans h.blk
  · intro q hq
    rcases hmem q hq with rfl | hq
    · exact he.kept (fun k hk => hg.block k (he.lt k hk).2 (fun e => hf k hk (by cases e; simp)))
    · exact (h.ent q hq).kept (fun k hk => hg.block k ((h.ent q hq).lt k hk).2 (fun e => hmb q hq k hk (by cases e; rfl)))
  · have h1 : (T :: mb :: allB (putP R p)).Perm (p.blks ++ (T :: mb :: allB (dropP R p.x.addr))) := by
      have : (allB (putP R p)).Perm (p.blks ++ allB (dropP R p.x.addr)) := by
        have := allB_perm hperm
        simpa [allB, putP] using this
      refine ((this.cons mb).cons T).trans ?_
      simp only [List.perm_iff_count]
      intro a
      simp only [List.count_cons, List.count_append]
      omega
    rw [h1.nodup_iff, List.nodup_append]
    have hs2 : (T :: mb :: allB (dropP R p.x.addr)).Sublist (T :: mb :: allB R) := ((allB_sub hsub).cons_cons mb).cons_cons T
    exact ⟨hn, hnd.sublist hs2, fun k hk k2 hk2 e => hf k hk (by rw [e]; exact hs2.subset hk2)⟩
  · exact insP_sorted p _ (h.sorted.sublist hsub) (fun q hq => (dropP_ne hq).2)
  · intro q hq
    rcases hmem q hq with rfl | hq
    · exact hok
    · exact h.ok q hq

/-- an entry goes -/
theorem TabP.del {w w' : World} {base T mb : Nat} {own mac when : Int} {said : Bool} {R : List PE} (h : TabP w base T mb own mac said when R) (a : Int)
    (hm : ∃ n, w'.ownsMap Try.prog 3 raw mb n ((mapD R).del (.int .i64 a))) (hg : w.grownBy w' (some mb)) :
    TabP w' base T mb own mac said when (dropP R a) := by
  have hsub : (dropP R a).Sublist R := List.filter_sublist
  have hnd := h.nodup
  have hmb : ∀ q ∈ R, ∀ k ∈ q.blks, k ≠ mb := by
    intro q hq k hk e
    subst e
    have := (List.nodup_cons.1 (List.nodup_cons.1 hnd).2).1
    exact this (mem_allB hq hk)
  obtain ⟨n, hm⟩ := hm
  rw [mapD_del] at hm
  refine ⟨h.low, ?_, map_tight hm, ?_, ?_, ?_, ?_⟩
  · have : T ≠ mb := by have := (List.nodup_cons.1 hnd).1; intro e; exact this (by simp [e])
    exact (hg.block T (blk_lt h.blk) (by simpa using this)).trans h.blk
  · intro q hq
    have hq := hsub.subset hq
    exact (h.ent q hq).kept (fun k hk => hg.block k ((h.ent q hq).lt k hk).2 (fun e => hmb q hq k hk (by cases e; rfl)))
  · exact hnd.sublist (((allB_sub hsub).cons_cons mb).cons_cons T)
  · exact h.sorted.sublist hsub
  · exact fun q hq => h.ok q (hsub.subset hq)

theorem look_split {R : List PE} {a : Int} {p : PE} (h : lookP R a = some p) : ∃ A C, R = A ++ p :: C ∧ ∀ q ∈ A, q.x.addr ≠ a := by
  unfold lookP at h
  obtain ⟨_, A, C, e, h2⟩ := List.find?_eq_some_iff_append.1 h
  exact ⟨A, C, e, fun q hq => by simpa using h2 q hq⟩

/-- what turns in a list of entries at an address -/
def updE (L : List En) (a : Int) (f : En → En) : List En := L.map fun x => if x.addr = a then f x else x
theorem upd_split {A C : List PE} {p : PE} {a : Int} (hs : (A ++ p :: C).Pairwise (fun p q => p.x.addr < q.x.addr)) (hp : p.x.addr = a) (f : En → En) (p' : PE) (hp' : p'.x = f p.x) :
    (A ++ p' :: C).map (·.x) = updE ((A ++ p :: C).map (·.x)) a f := by
  rw [List.pairwise_append] at hs
  obtain ⟨-, s2, s3⟩ := hs
  obtain ⟨s4, -⟩ := List.pairwise_cons.1 s2
  have hA : ∀ q ∈ A, q.x.addr ≠ a := fun q hq => by have := s3 q hq p (by simp); omega
  have hC : ∀ q ∈ C, q.x.addr ≠ a := fun q hq => by have := s4 q hq; omega
  simp only [updE, List.map_append, List.map_cons, List.map_map, hp, if_true, hp']
  congr 1
  · exact List.map_congr_left fun q hq => by simp [hA q hq]
  · congr 1
    exact List.map_congr_left fun q hq => by simp [hC q hq]
end Go.Proofs.Ytpkfjlbjahghgaa
