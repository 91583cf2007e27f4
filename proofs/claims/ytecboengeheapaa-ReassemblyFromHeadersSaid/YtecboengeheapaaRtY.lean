/- Contract of the reference's Same, for equal lists. -/
import Derived.Test.YtecboengeheapaaRtX
import Derived.Test.YtecboengeheapaaIpEq
namespace Go.Proofs.Ytecboengeheapaa
open Go.RowKit Go.Maps
set_option linter.unusedVariables false
attribute [local go_sem] Oper.semAt_some

theorem flatP_get (O : List Pk) (k : Nat) (h : k < O.length) (j : Nat) (hj : j < 9) : (flatP O)[k * 9 + j]? = (pcl O[k])[j]? := by
  induction O generalizing k with
  | nil => simp at h
  | cons a r ih =>
    simp only [flatP, List.flatMap_cons] at ih ⊢
    cases k with
    | zero => rw [Nat.zero_mul, Nat.zero_add, List.getElem?_append_left (by simp; omega)]; rfl
    | succ k =>
      rw [List.getElem?_append_right (by simp; omega)]
      have e : (k + 1) * 9 + j - (pcl a).length = k * 9 + j := by simp; omega
      rw [e, ih k (by simpa using h)]
      rfl
theorem pk_row {w : World} {base n c : Nat} {q : Option Addr} {L : List Pk} (h : w.ownsRow base 26 9 (.slice q n c) n (flatP L)) (hn : L.length = n) {k : Nat} (hk : k < n) :
    ∃ g, q = some ⟨g, 0, none⟩ ∧ ∀ j, j < 9 → w.cell? ⟨g, k * 9 + j, none⟩ = (pcl (L[k]'(by omega)))[j]? := by
  rcases h.2 with ⟨e1, e2⟩ | ⟨g, cap, cur, e1, -⟩
  · omega
  · cases e1
    refine ⟨g, rfl, fun j hj => ?_⟩
    rw [h.cellAt (k * 9 + j) (by omega), flatP_get L k (by omega) j hj]

set_option maxRecDepth 20000 in
set_option maxHeartbeats 1600000 in
theorem same_eq {w : World} {base1 base2 : Nat} {va vb : Value} {L : List Pk} (ha : w.ownsRow base1 26 9 va L.length (flatP L)) (hb : w.ownsRow base2 26 9 vb L.length (flatP L)) (hl : L.length ≤ 1000) :
    Calls Try.prog 33 #[va, vb] w fun e w' => e = .returned (.bool true) ∧ Below w.heap.size w w' := by
  obtain ⟨n, hn⟩ : ∃ n, L.length = n := ⟨_, rfl⟩
  rw [hn] at ha hb hl
  obtain ⟨qa, ca, rfl, -⟩ := row_shp ha
  obtain ⟨qb, cb, rfl, -⟩ := row_shp hb
  have HA := Lib.hid ha
  have HB := Lib.hid hb
  clear ha hb
  go_enter Try.func33, Try.ntmps33
  go_wp2_with fail
  go_loopw [5] (fun i wr => ∃ k : Nat, k ≤ n ∧ i = .int .i64 (k : Int) ∧ Below w.heap.size w wr) (fun i _ => n - (intOf i).toNat)
  case atStart => exact ⟨0, by omega, rfl, Below.refl _ _⟩
  case round =>
    obtain ⟨k, hk, rfl, hbr⟩ := hrel
    rcases Nat.lt_or_ge k n with hkn | hkn
    · obtain ⟨ga, rfl, fa⟩ := pk_row (row_blk HA.out fun g e => hbr.block g (HA.out.lt g e).2) hn hkn
      obtain ⟨gb, rfl, fb⟩ := pk_row (row_blk HB.out fun g e => hbr.block g (HB.out.lt g e).2) hn hkn
      obtain ⟨p, hp⟩ : ∃ p, L[k]'(by omega) = p := ⟨_, rfl⟩
      rw [hp] at fa fb
      have a0 := fa 0 (by decide)
      have b0 := fb 0 (by decide)
      have a1 := fa 1 (by decide)
      have b1 := fb 1 (by decide)
      have a2 := fa 2 (by decide)
      have b2 := fb 2 (by decide)
      have a3 := fa 3 (by decide)
      have b3 := fb 3 (by decide)
      have a4 := fa 4 (by decide)
      have b4 := fb 4 (by decide)
      have a5 := fa 5 (by decide)
      have b5 := fb 5 (by decide)
      have a6 := fa 6 (by decide)
      have b6 := fb 6 (by decide)
      have a7 := fa 7 (by decide)
      have b7 := fb 7 (by decide)
      have a8 := fa 8 (by decide)
      have b8 := fb 8 (by decide)
      simp only [List.getElem?_cons_zero, List.getElem?_cons_succ, Nat.add_zero] at a0 b0 a1 b1 a2 b2 a3 b3 a4 b4 a5 b5 a6 b6 a7 b7 a8 b8
      have he := run_eq p wr.drew
      have hki : (k : Int) < (n : Int) := by omega
      have HBR := Lib.hid hbr
      clear hp fa fb hbr
      go_upto_region 6 with fail
      go_still_tail 8, (by kernel_rfl)
      change wpList _ _ _ _ _ wr.drew
      go_wp2
      refine ⟨⟨k + 1, by omega, by simp, HBR.out.drew⟩, ?_⟩
      show n - ((k : Int) + 1).toNat < n - (k : Int).toNat
      omega
    · obtain rfl : k = n := by omega
      have hkk : ((k : Int) < (k : Int)) = False := by simp
      go_wp2
      go_ret
      exact ⟨rfl, hbr⟩
end Go.Proofs.Ytecboengeheapaa
