/- The iterator over a table of at most one datagram. -/
import Derived.Test.YtecboengeheapaaRtK3
import Derived.Stop.RegionWithIn
namespace Go.Proofs.Ytecboengeheapaa
open Go.RowKit Go.Shelf Go.Maps
set_option linter.unusedVariables false
attribute [local go_sem] Oper.semAt_some

/-- what the iterator must find between two rounds -/
def OH (O : List PE) (Bm T mb : Nat) (pre : List PE) (W : World) : Prop :=
  W.cell? ⟨Bm, 0, none⟩ = some (.pointer (some ⟨T, 0, none⟩)) ∧ W.cell? ⟨T, 0, none⟩ = some (.map (some mb)) ∧
    ∀ p, O[pre.length]? = some p → (Instr.lookup 84 (.map (some mb)) (kv p.x.k) false).run Try.prog W = .ok (ptr p.b) W
def ONx (O : List PE) (pre : List PE) (p : PE) : Prop := O[pre.length]? = some p

theorem flatK_at (O : List Ky) (k : Nat) (h : k < O.length) (j : Nat) (hj : j < 4) : (flatK O)[k * 4 + j]? = (kcl O[k])[j]? := by
  induction O generalizing k with
  | nil => simp at h
  | cons a r ih =>
    simp only [flatK, List.flatMap_cons] at ih ⊢
    cases k with
    | zero => rw [Nat.zero_mul, Nat.zero_add, List.getElem?_append_left (by simp; omega)]; rfl
    | succ k =>
      rw [List.getElem?_append_right (by simp; omega)]
      have e : (k + 1) * 4 + j - (kcl a).length = k * 4 + j := by simp; omega
      rw [e, ih k (by simpa using h)]
      rfl

set_option maxRecDepth 100000 in
set_option maxHeartbeats 3200000 in
theorem order_stops (R : List PE) (hok : ∀ p ∈ R, okK p.x.k) (hR : R.Pairwise (fun p q => p.x.k ≠ q.x.k)) (hlen : R.length ≤ 1) (Bm T mb : Nat) (w : World) (hmb : mb < w.heap.size) (hown : w.ownsMap Try.prog 94 raw mb R.length (mapD R)) :
    SeqStopsH Fence.wide 7 Try.prog 82 #[.pointer (some ⟨Bm, 0, none⟩)] (fun p : PE => #[kv p.x.k, ptr p.b]) (OH R Bm T mb) (ONx R) (fun xs => xs = R) (fun _ => True) w := by
  intro l J Jx W hW hJ hJx hH hJw hY h0
  have h00 := h0 W (Below.refl _ _)
  obtain ⟨x1, x2, -⟩ := hH _ _ _ h00
  have hownW : W.ownsMap Try.prog 94 raw mb R.length (mapD R) := map_of_block hown (hW.block mb hmb)
  have hmW : mb < W.heap.size := hownW.lt
  have hS := sorted_small R W.heap.size mb (W.alloc (.cells #[.map (some mb)] 84)) hok hR hlen (by simp; omega) (blk_new W _) (map_of_block hownW (Below.heap_alloc W _ mb hmW)) 83 #[.pointer (some ⟨Bm, 0, none⟩)]
  obtain ⟨n, hn⟩ : ∃ n, R.length = n := ⟨_, rfl⟩
  rw [hn] at hS hlen
  have HN := Lib.hid hn
  clear hn
  have hfK : Fence.wide.fn 86 := trivial
  have hfS : Fence.wide.fn 85 := trivial
  have hbA : Below W.heap.size W (W.alloc (.cells #[.map (some mb)] 84)) := (Below.refl _ W).alloc (Nat.le_refl _) _
  refine callsIn_of_wp Try.func82 rfl trivial ?_ rfl
  simp only [Try.ntmps82, List.size_toArray, List.length_cons, List.length_nil, Nat.reduceAdd, Nat.reduceSub, Array.replicate_succ, Array.replicate_zero, List.push_toArray, List.append_toArray, List.nil_append, List.cons_append]
  gi_wp2_with (first
    | (gi_at_call 86; refine (callsIn_wide.2 (keysf_any mb _)).mono ?_; rintro e w' ⟨rfl, rfl⟩)
    | (gi_at_call 85; refine (callsIn_wide.2 hS).mono ?_; rintro e w0 ⟨q, c, rfl, hrow, hb⟩))
  have hbW : Below W.heap.size W w0 := hbA.trans (hb.mono hbA.size)
  have hI0 := h0 w0 hbW
  obtain ⟨B, hB⟩ : ∃ B, w0.heap.size = B := ⟨_, rfl⟩
  rw [hB] at hI0
  have hWB : W.heap.size ≤ B := hB ▸ hbW.size
  simp only [World.size_alloc] at hrow
  have HROW := Lib.hid hrow
  have hgt : ∀ k, k < n → ∃ g, q = some ⟨g, 0, none⟩ := by
    intro k hk
    rcases hrow.2 with ⟨e, h2⟩ | ⟨g, cap, cur, e, -⟩
    · omega
    · cases e; exact ⟨g, rfl⟩
  clear hrow hS hfK hfS hb hbA hbW x1 x2 h00 hown hownW
  gi_loopw [15] (fun i wr => ∃ k : Nat, k ≤ n ∧ i = .int .i64 (k : Int) ∧ KeepsIn W.heap.size B w0 wr ∧ ∃ pre : List PE, pre = R.take k ∧ J B pre wr) (fun i _ => n - (intOf i).toNat)
  case atStart => exact ⟨0, by omega, rfl, KeepsIn.refl _ _ _, [], by simp, hI0⟩
  case round =>
    obtain ⟨k, hk, rfl, hkeep, pre, hpre, hJ1⟩ := hrel
    rcases Nat.lt_or_ge k n with hkn | hkn
    · have hkl : k < R.length := by rw [HN.out]; exact hkn
      obtain ⟨g, rfl⟩ := hgt k hkn
      have hplen : pre.length = k := by rw [hpre, List.length_take]; omega
      have hrow' : wr.ownsRow (W.heap.size + 1) 94 4 (.slice (some ⟨g, 0, none⟩) n c) n (flatK (R.map (·.x.k))) := row_blk HROW.out (fun g e => hkeep.same g (by have := (HROW.out.lt g e).1; omega) (by have := (HROW.out.lt g e).2; omega))
      obtain ⟨p, hp⟩ : ∃ p, R[k] = p := ⟨_, rfl⟩
      have hpm : p ∈ R := hp ▸ List.getElem_mem _
      have hcell : ∀ j, j < 4 → wr.cell? ⟨g, k * 4 + j, none⟩ = (kcl p.x.k)[j]? := by
        intro j hj
        have h1 := hrow'.cellAt (k * 4 + j) (by omega)
        rw [h1, flatK_at _ k (by simpa using hkl) j hj]
        simp [hp]
      have k0 := hcell 0 (by decide)
      have k1 := hcell 1 (by decide)
      have k2 := hcell 2 (by decide)
      have k3 := hcell 3 (by decide)
      simp only [List.getElem?_cons_zero, List.getElem?_cons_succ, Nat.add_zero] at k0 k1 k2 k3
      have hJ2 : J B pre (wr.alloc (kobj p.x.k)) := hJ _ pre wr (wr.alloc (kobj p.x.k)) none hJ1 (World.grownBy_alloc wr _ none) (fun r e => by cases e)
      have hJ3 : J B pre (wr.alloc (kobj p.x.k)).drew := hJ _ pre _ _ none hJ2 ⟨rfl, rfl, rfl, Nat.le_refl _, fun _ _ _ => rfl⟩ (fun r e => by cases e)
      obtain ⟨c1, c2, c3⟩ := hH _ _ _ hJ3
      have hpo : R[pre.length]? = some p := by rw [hplen, List.getElem?_eq_getElem hkl, hp]
      have hl := c3 p hpo
      obtain ⟨fn, tmps, assign, body, hy, hR1⟩ := hY B pre p (wr.alloc (kobj p.x.k)).drew hWB hJ3 hpo
      have hki : (k : Int) < n := by omega
      clear hcell hrow' hJ1 hJ2 hJ3 c3
      gi_wp2
      have hR2 := hR1.mono (R' := fun e W' => ∃ b : Bool, e = .returned (.bool b) ∧ Hid ((b = true ∧ J B (pre ++ [p]) W' ∧ KeepsIn W.heap.size B (wr.alloc (kobj p.x.k)).drew W') ∨ (b = false ∧ Jx (pre ++ [p]) W'))) (by
        rintro e W2 (⟨rfl, h1, h2⟩ | ⟨rfl, h1⟩)
        · exact ⟨true, rfl, Lib.hid (.inl ⟨rfl, h1, h2⟩)⟩
        · exact ⟨false, rfl, Lib.hid (.inr ⟨rfl, h1⟩)⟩)
      clear hR1
      have hkp : KeepsIn W.heap.size B wr (wr.alloc (kobj p.x.k)).drew := ⟨by show wr.heap.size ≤ (wr.alloc _).heap.size; simp, fun j h1 h2 => Below.heap_alloc wr _ j (by have := hkeep.size; omega)⟩
      have hpre2 : pre ++ [p] = R.take (k + 1) := by rw [List.take_succ_eq_append_getElem hkl, hp, hpre]
      have HPRE := Lib.hid hpre2
      clear hpre2
      gi_region_with (refine hR2.mono ?_; rintro e W2 ⟨b, rfl, hd⟩)
      all_goals (
        rcases hd.out with ⟨rfl, h1, h2⟩ | ⟨rfl, h1⟩
        · gi_wp2
          refine ⟨⟨k + 1, by omega, by simp, (hkeep.trans hkp).trans h2, _, HPRE.out, h1⟩, ?_⟩
          show n - ((k : Int) + 1).toNat < n - (k : Int).toNat
          omega
        · gi_wp2
          refine bodyPost_ret (results_none rfl _ _ _) rfl ?_
          exact ⟨⟨_, rfl⟩, .inr ⟨_, h1⟩⟩)
    · obtain rfl : k = n := by omega
      have hkk : ((k : Int) < (k : Int)) = False := by simp
      have hpR : pre = R := by rw [hpre, List.take_of_length_le (by rw [HN.out]; exact Nat.le_refl _)]
      gi_wp2
      go_end0
      exact ⟨⟨_, rfl⟩, .inl ⟨B, pre, hpR, hJ1⟩⟩
end Go.Proofs.Ytecboengeheapaa
