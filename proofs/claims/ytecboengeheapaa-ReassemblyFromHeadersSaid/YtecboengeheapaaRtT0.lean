/- What Tick leaves and gives, as plain values; the state of its loop. -/
import Derived.Test.YtecboengeheapaaRtF2
import Derived.Test.YtecboengeheapaaIpFg
import Derived.Test.YtecboengeheapaaRtK4
import Derived.Test.YtecboengeheapaaRtRnd
namespace Go.Proofs.Ytecboengeheapaa
open Go.RowKit Go.Shelf Go.Maps
set_option linter.unusedVariables false

def tickB (now : Int) (x : Dg) : Bool := decide (x.st ≤ now ∧ 30 ≤ now - x.st)
def remP (now : Int) (pre R : List PE) : List PE := R.filter fun q => !((pre.any fun z => decide (z.x.k = q.x.k)) && tickB now q.x)
def outP (now : Int) (pre : List PE) : List Pk := (pre.filter fun q => tickB now q.x && begun q.x).map fun q => q.x.fst
theorem remP_nil (now : Int) (R : List PE) : remP now [] R = R := by simp [remP]
theorem remP_snoc (now : Int) (pre R : List PE) (p : PE) (hp : ∀ q ∈ R, q.x.k = p.x.k → q = p) : remP now (pre ++ [p]) R = if tickB now p.x then dropP (remP now pre R) p.x.k else remP now pre R := by
  unfold remP dropP
  split
  · rename_i ht
    rw [List.filter_filter]
    refine List.filter_congr fun q hq => ?_
    by_cases hk : q.x.k = p.x.k
    · have := hp q hq hk
      subst this
      simp [ht]
    · have hk' : ¬ p.x.k = q.x.k := fun e => hk e.symm
      simp [hk, hk']
  · rename_i ht
    refine List.filter_congr fun q hq => ?_
    by_cases hk : q.x.k = p.x.k
    · have := hp q hq hk
      subst this
      simp [ht]
    · have hk' : ¬ p.x.k = q.x.k := fun e => hk e.symm
      simp [hk']
theorem outP_snoc (now : Int) (pre : List PE) (p : PE) : outP now (pre ++ [p]) = if tickB now p.x && begun p.x then outP now pre ++ [p.x.fst] else outP now pre := by
  unfold outP
  rw [List.filter_append, List.map_append]
  split
  · rename_i h; simp [h]
  · rename_i h; simp [h]
theorem remP_sub (now : Int) (pre R : List PE) : (remP now pre R).Sublist R := List.filter_sublist
theorem mem_rem (now : Int) (pre R : List PE) (p : PE) (hp : p ∈ R) (hn : ∀ z ∈ pre, z.x.k ≠ p.x.k) : p ∈ remP now pre R := by
  refine List.mem_filter.2 ⟨hp, ?_⟩
  have : (pre.any fun z => decide (z.x.k = p.x.k)) = false := by
    rw [List.any_eq_false]
    intro z hz
    simpa using hn z hz
  rw [this]; rfl
theorem look_mem {R : List PE} (hR : R.Pairwise (fun p q => p.x.k ≠ q.x.k)) {p : PE} (hp : p ∈ R) : lookP R p.x.k = some p := by
  cases h : lookP R p.x.k with
  | none => exact absurd rfl (lookP_none h p hp)
  | some q =>
    obtain ⟨hq, e⟩ := lookP_some h
    congr 1
    induction R with
    | nil => simp at hp
    | cons z r ih =>
      obtain ⟨h1, h2⟩ := List.pairwise_cons.1 hR
      rcases List.mem_cons.1 hp with ep | hp2
      · subst ep
        rcases List.mem_cons.1 hq with eq | hq2
        · exact eq
        · exact absurd e.symm (h1 q hq2)
      · rcases List.mem_cons.1 hq with eq | hq2
        · subst eq; exact absurd e (h1 p hp2)
        · refine ih h2 hp2 ?_ hq2
          have : ¬ z.x.k = p.x.k := h1 p hp2
          simp only [lookP, List.find?_cons, this, decide_false] at h
          exact h

/-- the loop's state -/
structure TkI (w : World) (base T mb : Nat) (cr now : Int) (R : List PE) (B : Nat) (pre : List PE) (W : World) : Prop where
  bt : W.heap[w.heap.size]? = some (.cells #[.pointer (some ⟨T, 0, none⟩)] 47 (0, 0))
  bn : W.heap[w.heap.size + 1]? = some (.cells #[.int .i64 now] 3 (0, 0))
  be : ∃ v, W.heap[w.heap.size + 2]? = some (.cells #[v] 29 (0, 0)) ∧ W.ownsRow B 26 9 v (outP now pre).length (flatP (outP now pre))
  bo : W.heap[w.heap.size + 3]? = some (.cells #[.pointer (some ⟨T, 0, none⟩)] 47 (0, 0))
  tab : TabP W base T mb cr (remP now pre R)
  t : Touch (fun k => k ∈ T :: mb :: allB R) w W
  pr : pre = R.take pre.length
  lo : w.heap.size + 4 ≤ B
  hi : B ≤ W.heap.size

theorem TkI.own {w : World} {base T mb : Nat} {cr now : Int} {R : List PE} (hlt : ∀ k ∈ T :: mb :: allB R, k < w.heap.size) {B L : Nat} (hL : w.heap.size + 4 ≤ L) : OwnFrom L (TkI w base T mb cr now R B) := by
  rintro s X Y row h hg hrow
  have hne : ∀ (k : Nat) (cs : Array Value) (t : TypeId), X.heap[k]? = some (.cells cs t (0, 0)) → row ≠ some k := fun k cs t h e => by
    obtain ⟨-, o, ho, hoc⟩ := hrow k e
    rw [h] at ho; cases ho; cases hoc
  have keep : ∀ (k : Nat) (cs : Array Value) (t : TypeId), X.heap[k]? = some (.cells cs t (0, 0)) → Y.heap[k]? = X.heap[k]? := fun k cs t h => hg.block k (blk_lt h) (by have := hne k cs t h; intro e; exact this e.symm)
  obtain ⟨v, hv, hr⟩ := h.be
  refine ⟨(keep _ _ _ h.bt).trans h.bt, (keep _ _ _ h.bn).trans h.bn, ⟨v, (keep _ _ _ hv).trans hv, row_blk hr (fun k e => ?_)⟩, (keep _ _ _ h.bo).trans h.bo, ?_, ?_, h.pr, h.lo, Nat.le_trans h.hi hg.size⟩
  · obtain ⟨-, cur, hcur⟩ := rowc hr e
    exact keep _ _ _ hcur
  · refine h.tab.kept fun k hk => hg.block k (h.tab.lt k hk).2 (fun e => ?_)
    have h1 := (hrow k e.symm).1
    have h2 : k ∈ T :: mb :: allB R := by
      rcases List.mem_cons.1 hk with e | hk
      · simp [e]
      rcases List.mem_cons.1 hk with e | hk
      · simp [e]
      · simp [(allB_sub (remP_sub now s R)).subset hk]
    have := hlt k h2
    omega
  · refine h.t.trans (T := fun k => L ≤ k) (Touch.grown hg (fun k e => (hrow k e).1)) (fun k hk => .inr (by omega))
theorem TkI.turn {w : World} {base T mb : Nat} {cr now : Int} {R : List PE} (hlt : ∀ k ∈ T :: mb :: allB R, k < w.heap.size) {B L r : Nat} {pre : List PE} {X Y : World} (hL : w.heap.size + 4 ≤ L) (h1 : L ≤ r) (h2 : r < B) (hg : X.grownBy Y (some r)) (h : TkI w base T mb cr now R B pre X) : TkI w base T mb cr now R B pre Y := by
  have keep : ∀ k, k ≠ r → k < X.heap.size → Y.heap[k]? = X.heap[k]? := fun k hk hl => hg.block k hl (by simpa using hk)
  obtain ⟨v, hv, hr⟩ := h.be
  refine ⟨(keep _ (by omega) (blk_lt h.bt)).trans h.bt, (keep _ (by omega) (blk_lt h.bn)).trans h.bn, ⟨v, (keep _ (by omega) (blk_lt hv)).trans hv, row_blk hr (fun k e => ?_)⟩, (keep _ (by omega) (blk_lt h.bo)).trans h.bo, ?_, ?_, h.pr, h.lo, Nat.le_trans h.hi hg.size⟩
  · obtain ⟨hb2, cur, hcur⟩ := rowc hr e
    exact keep _ (by omega) (blk_lt hcur)
  · refine h.tab.kept fun k hk => keep k (fun e => ?_) (h.tab.lt k hk).2
    have h2 : k ∈ T :: mb :: allB R := by
      rcases List.mem_cons.1 hk with e | hk
      · simp [e]
      rcases List.mem_cons.1 hk with e | hk
      · simp [e]
      · simp [(allB_sub (remP_sub now pre R)).subset hk]
    have := hlt k h2
    omega
  · refine h.t.trans (T := fun k => L ≤ k) (Touch.grown hg (fun k e => by cases e; exact h1)) (fun k hk => .inr (by omega))
theorem take_ne {R : List PE} (hR : R.Pairwise (fun p q => p.x.k ≠ q.x.k)) {n : Nat} {p : PE} (hp : R[n]? = some p) : ∀ z ∈ R.take n, z.x.k ≠ p.x.k := by
  intro z hz
  obtain ⟨i, hi, rfl⟩ := List.getElem_of_mem hz
  obtain ⟨hn, rfl⟩ := List.getElem?_eq_some_iff.1 hp
  have hin : i < n := by simp at hi; omega
  rw [List.getElem_take]
  exact List.pairwise_iff_getElem.1 hR i n (by omega) hn hin
theorem TkI.next {w : World} {base T mb : Nat} {cr now : Int} {R : List PE} {B : Nat} {pre : List PE} {W : World} (h : TkI w base T mb cr now R B pre W) (hR : R.Pairwise (fun p q => p.x.k ≠ q.x.k)) {p : PE} (hp : R[pre.length]? = some p) : p ∈ remP now pre R ∧ lookP (remP now pre R) p.x.k = some p := by
  have hm : p ∈ remP now pre R := mem_rem now pre R p (List.mem_of_getElem? hp) (by
    have := take_ne hR hp
    rw [← h.pr] at this
    exact this)
  exact ⟨hm, look_mem h.tab.keys hm⟩
theorem uniq {R : List PE} (hR : R.Pairwise (fun p q => p.x.k ≠ q.x.k)) {p : PE} (hp : p ∈ R) : ∀ q ∈ R, q.x.k = p.x.k → q = p := by
  intro q hq e
  have h1 := look_mem hR hq
  have h2 := look_mem hR hp
  rw [e, h2] at h1
  cases h1; rfl
theorem takeP_snoc {R pre : List PE} {p : PE} (h : pre = R.take pre.length) (hp : R[pre.length]? = some p) : pre ++ [p] = R.take (pre ++ [p]).length := by
  obtain ⟨hn, rfl⟩ := List.getElem?_eq_some_iff.1 hp
  rw [List.length_append, List.length_singleton, List.take_succ_eq_append_getElem hn, ← h]
/-- between two operations of the region that deletes -/
structure TS (T mb t0 kb : Nat) (k : Ky) (w' : World) : Prop where
  bt : w'.heap[t0]? = some (.cells #[.pointer (some ⟨T, 0, none⟩)] 47 (0, 0))
  x0 : w'.cell? ⟨T, 0, none⟩ = some (.map (some mb))
  bk : w'.heap[kb]? = some (kobj k)
theorem TS.grown {T mb t0 kb r : Nat} {k : Ky} {X Y : World} (h : TS T mb t0 kb k X) (hg : X.grownBy Y (some r)) (h1 : t0 ≠ r) (h2 : T ≠ r) (h3 : kb ≠ r) : TS T mb t0 kb k Y :=
  ⟨(hg.block _ (blk_lt h.bt) (by simpa using h1)).trans h.bt, hg.cell h.x0 (by simpa using h2), (hg.block _ (blk_lt h.bk) (by simpa using h3)).trans h.bk⟩

/-- a round that leaves the entry -/
theorem TkI.stay {w : World} {base T mb : Nat} {cr now : Int} {R : List PE} {B : Nat} {pre : List PE} {x : PE} {W : World} (h : TkI w base T mb cr now R B pre W) (h1 : remP now (pre ++ [x]) R = remP now pre R) (h2 : outP now (pre ++ [x]) = outP now pre) (h3 : pre ++ [x] = R.take (pre ++ [x]).length) : TkI w base T mb cr now R B (pre ++ [x]) W.drew := by
  refine ⟨h.bt, h.bn, ?_, h.bo, ?_, ⟨h.t.os, h.t.tape, h.t.output, h.t.size, h.t.block⟩, h3, h.lo, h.hi⟩
  · rw [h2]; exact h.be
  · rw [h1]; exact h.tab.below (Below.refl _ _).drew
/-- a round that deletes the entry, before it tells of it -/
theorem TkI.gone {w : World} {base T mb : Nat} {cr now : Int} {R : List PE} {B L : Nat} {pre : List PE} {x : PE} {W w9 : World} (hlt : ∀ k ∈ T :: mb :: allB R, k < w.heap.size) (h : TkI w base T mb cr now R B pre W) (hx : okK x.x.k) (h1 : remP now (pre ++ [x]) R = dropP (remP now pre R) x.x.k)
    (hown : w9.ownsMap Try.prog 94 raw mb (remP now pre R).length ((mapD (remP now pre R)).del (kl x.x.k))) (hg : W.grownBy w9 (some mb)) (hL : w.heap.size + 4 ≤ L) :
    TabP w9 base T mb cr (remP now (pre ++ [x]) R) ∧ w9.heap[w.heap.size]? = some (.cells #[.pointer (some ⟨T, 0, none⟩)] 47 (0, 0)) ∧ w9.heap[w.heap.size + 1]? = some (.cells #[.int .i64 now] 3 (0, 0)) ∧
      (∃ v, w9.heap[w.heap.size + 2]? = some (.cells #[v] 29 (0, 0)) ∧ w9.ownsRow B 26 9 v (outP now pre).length (flatP (outP now pre))) ∧ w9.heap[w.heap.size + 3]? = some (.cells #[.pointer (some ⟨T, 0, none⟩)] 47 (0, 0)) ∧
      Touch (fun k => k ∈ T :: mb :: allB R) w w9 ∧ KeepsFrom L W w9 ∧ KeepsIn (L + 2) B W w9 ∧ B ≤ w9.heap.size := by
  have hm := hlt mb (by simp)
  have keep : ∀ k, k ≠ mb → k < W.heap.size → w9.heap[k]? = W.heap[k]? := fun k hk hl => hg.block k hl (by simpa using hk)
  obtain ⟨v, hv, hr⟩ := h.be
  refine ⟨?_, (keep _ (by omega) (blk_lt h.bt)).trans h.bt, (keep _ (by omega) (blk_lt h.bn)).trans h.bn, ⟨v, (keep _ (by omega) (blk_lt hv)).trans hv, row_blk hr (fun k e => keep k (fun e2 => ?_) (hr.lt k e).2)⟩, (keep _ (by omega) (blk_lt h.bo)).trans h.bo, ?_, ⟨hg.size, fun k o h1 h2 h3 => (keep k (by omega) (blk_lt h2)).trans h2⟩, ⟨hg.size, fun k h1 h2 => keep k (by omega) (by have := h.hi; omega)⟩, Nat.le_trans h.hi hg.size⟩
  · rw [h1]; exact h.tab.del x.x.k hx ⟨_, hown⟩ hg
  · have := (rowc hr e).1; have := h.lo; omega
  · exact h.t.trans (T := fun k => k = mb) (Touch.grown hg (fun k e => by cases e; rfl)) (fun k hk => .inl (by simp [hk]))
/-- a round that deletes the entry and tells of it -/
theorem TkI.told {w : World} {base T mb : Nat} {cr now : Int} {R : List PE} {B L n g cap : Nat} {pre : List PE} {x : PE} {q : Pk} {v : Value} {W w9 w4 : World} (hlt : ∀ k ∈ T :: mb :: allB R, k < w.heap.size)
    (tab : TabP w9 base T mb cr (remP now (pre ++ [x]) R)) (b0 : w9.heap[w.heap.size]? = some (.cells #[.pointer (some ⟨T, 0, none⟩)] 47 (0, 0))) (b1 : w9.heap[w.heap.size + 1]? = some (.cells #[.int .i64 now] 3 (0, 0)))
    (hv : w9.heap[w.heap.size + 2]? = some (.cells #[v] 29 (0, 0))) (hr : w9.ownsRow B 26 9 v n (flatP (outP now pre))) (b3 : w9.heap[w.heap.size + 3]? = some (.cells #[.pointer (some ⟨T, 0, none⟩)] 47 (0, 0)))
    (t9 : Touch (fun k => k ∈ T :: mb :: allB R) w w9) (kf : KeepsFrom L W w9) (ki : KeepsIn (L + 2) B W w9) (hB9 : B ≤ w9.heap.size) (hlo : w.heap.size + 4 ≤ B) (hBW : B ≤ W.heap.size) (hL : w.heap.size + 4 ≤ L) (hpr : pre ++ [x] = R.take (pre ++ [x]).length)
    (h2 : outP now (pre ++ [x]) = outP now pre ++ [q]) (hn : (outP now pre).length = n) (hown4 : w4.ownsRow B 26 9 (.slice (some ⟨g, 0, none⟩) (n + 1) cap) (n + 1) (flatP (outP now pre) ++ pcl q)) (hg4 : (w9.drew.alloc (po q)).grownBy w4 v.ownBlock) :
    KeepsFrom L W (w4.setCell ⟨w.heap.size + 2, 0, none⟩ (.slice (some ⟨g, 0, none⟩) (n + 1) cap)) ∧ KeepsIn (L + 2) B W (w4.setCell ⟨w.heap.size + 2, 0, none⟩ (.slice (some ⟨g, 0, none⟩) (n + 1) cap)) ∧
      TkI w base T mb cr now R B (pre ++ [x]) (w4.setCell ⟨w.heap.size + 2, 0, none⟩ (.slice (some ⟨g, 0, none⟩) (n + 1) cap)) := by
  have hs1 : w9.heap.size ≤ w4.heap.size := by have := hg4.size; rw [World.size_alloc] at this; exact Nat.le_trans (Nat.le_succ _) this
  have k4 : ∀ k, v.ownBlock ≠ some k → k < w9.heap.size → w4.heap[k]? = w9.heap[k]? := fun k hk hl => (hg4.block k (by rw [World.size_alloc]; show k < w9.heap.size + 1; omega) (fun e => hk e.symm)).trans (Below.heap_alloc w9.drew _ k hl)
  have keep : ∀ k, v.ownBlock ≠ some k → k ≠ w.heap.size + 2 → k < w9.heap.size → (w4.setCell ⟨w.heap.size + 2, 0, none⟩ (.slice (some ⟨g, 0, none⟩) (n + 1) cap)).heap[k]? = w9.heap[k]? := fun k h1 h2 h3 => (Below.heap_setCell _ _ _ _ (fun e => h2 e)).trans (k4 k h1 h3)
  have hvB : ∀ k, v.ownBlock = some k → B ≤ k := fun k e => (rowc hr e).1
  have hv4 := (k4 _ (fun e => by have := hvB _ e; omega) (blk_lt hv)).trans hv
  have hv5 := blk_setc (k := 0) hv4 (.slice (some ⟨g, 0, none⟩) (n + 1) cap)
  simp only [List.setIfInBounds_toArray, List.set_cons_zero] at hv5
  have hgE : g ≠ w.heap.size + 2 := fun e => by
    have := (rowc hown4 (g := g) rfl).1; omega
  refine ⟨⟨?_, fun k o h1 h2 h3 => ?_⟩, ⟨?_, fun k h1 h2 => ?_⟩, ?_⟩
  · have := kf.size; simp; omega
  · have h4 := kf.same k o h1 h2 h3
    refine (keep k (fun e => ?_) (by omega) (blk_lt h4)).trans h4
    obtain ⟨-, cur, hcur⟩ := rowc hr e
    rw [hcur] at h4; cases h4; cases h3
  · have := ki.size; simp; omega
  · exact (keep k (fun e => by have := hvB _ e; omega) (by omega) (by omega)).trans (ki.same k h1 h2)
  · refine ⟨(keep _ (fun e => by have := hvB _ e; omega) (by omega) (blk_lt b0)).trans b0, (keep _ (fun e => by have := hvB _ e; omega) (by omega) (blk_lt b1)).trans b1, ⟨_, hv5, ?_⟩, (keep _ (fun e => by have := hvB _ e; omega) (by omega) (blk_lt b3)).trans b3, ?_, ?_, hpr, hlo, by simp; omega⟩
    · rw [h2, flatP_snoc, List.length_append, hn]
      exact row_blk hown4 (fun k e => Below.heap_setCell _ _ _ _ (fun e2 => by cases e; exact hgE e2))
    · refine tab.kept fun k hk => keep k (fun e => ?_) (fun e => ?_) (tab.lt k hk).2
      all_goals
        have h2 : k ∈ T :: mb :: allB R := by
          rcases List.mem_cons.1 hk with e | hk
          · simp [e]
          rcases List.mem_cons.1 hk with e | hk
          · simp [e]
          · simp [(allB_sub (remP_sub now _ R)).subset hk]
        have := hlt k h2
      · have := hvB _ e; omega
      · omega
    · refine (t9.trans (T := fun k => w.heap.size ≤ k) (w2 := w4) ?_ (fun k hk => .inr hk)).trans (T := fun k => k = w.heap.size + 2) (Touch.setc (Touch.of (Below.refl _ _)) _ rfl) (fun k hk => .inr (by omega))
      have t1 : Touch (fun k => w.heap.size ≤ k) w9 (w9.drew.alloc (po q)) := Touch.of (((Below.refl _ w9).drew).alloc (Nat.le_refl _) _)
      exact t1.trans (T := fun k => w.heap.size ≤ k) (Touch.grown hg4 (fun k e => by have := hvB _ e; omega)) (fun k hk => .inl hk)
end Go.Proofs.Ytecboengeheapaa
