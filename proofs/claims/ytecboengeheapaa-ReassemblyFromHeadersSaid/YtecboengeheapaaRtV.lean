/- What the chapter's examples come to, as plain values. -/
import Derived.Test.YtecboengeheapaaRtY
namespace Go.Proofs.Ytecboengeheapaa
open Go.RowKit Go.Maps
set_option linter.unusedVariables false

abbrev pOne : Pk := ⟨1, 2, 17, 5, 3, false, true, 0, ⟨#[97, 98, 99, 100, 101, 102, 103, 104]⟩⟩
abbrev pTwo : Pk := ⟨1, 2, 17, 4, 3, false, false, 8, ⟨#[105, 106]⟩⟩
abbrev pOdd : Pk := ⟨1, 2, 17, 5, 3, false, true, 0, ⟨#[97, 98, 99, 100, 101, 102, 103, 88]⟩⟩
abbrev kEx : Ky := ⟨1, 2, 17, 3⟩
theorem begun_pz {x : Dg} (h : x.fst = pz) : begun x = false := by
  unfold begun; rw [h, (pkEq_iff pz pz).2 rfl]; rfl
theorem begun_fr {x : Dg} (h : x.fst.fr ≠ 0) : begun x = true := by
  unfold begun
  cases hb : pkEq x.fst pz with
  | false => rfl
  | true =>
    have := (pkEq_iff _ _).1 hb
    rw [this] at h
    exact absurd rfl h
abbrev dOne (num : Int) : Dg := ⟨kEx, num, 0, false, pOne, [97, 98, 99, 100, 101, 102, 103, 104], [true, true, true, true, true, true, true, true], false⟩
abbrev dTwo : Dg := ⟨kEx, 0, 0, false, pz, [0, 0, 0, 0, 0, 0, 0, 0, 105, 106], [false, false, false, false, false, false, false, false, true, true], true⟩
theorem store_one (num : Int) : storeD (newD kEx num 0) pOne = dOne num := by
  unfold storeD
  rw [if_pos ⟨rfl, begun_pz rfl⟩]
  rfl
theorem store_two : storeD (newD kEx 0 0) pTwo = dTwo := by
  unfold storeD
  rw [if_neg (by decide)]
  rfl
theorem store_12 : storeD (dOne 0) pTwo = ⟨kEx, 0, 0, false, pOne, [97, 98, 99, 100, 101, 102, 103, 104, 105, 106], [true, true, true, true, true, true, true, true, true, true], true⟩ := by
  unfold storeD
  rw [if_neg (by decide)]
  rfl
theorem store_21 : storeD dTwo pOne = ⟨kEx, 0, 0, false, pOne, [97, 98, 99, 100, 101, 102, 103, 104, 105, 106], [true, true, true, true, true, true, true, true, true, true], true⟩ := by
  unfold storeD
  rw [if_pos ⟨rfl, begun_pz rfl⟩]
  rfl
theorem ok_one : okW pOne pOne.s.size := by decide
theorem ok_two : okW pTwo pTwo.s.size := by decide
theorem ok_odd : okW pOdd pOdd.s.size := by decide
theorem fr_one : isFr pOne := .inl rfl
theorem fr_two : isFr pTwo := .inr (by decide)
theorem fr_odd : isFr pOdd := .inl rfl

/-- the answer, the count and the list that Put leaves of a list -/
structure PutsTo (L : List Dg) (cr now : Int) (p : Pk) (r : ByteArray) (cr' : Int) (L' : List Dg) : Prop where
  r : strOf (pfV (openX L (kyOf p) cr now) p) (pfW (openX L (kyOf p) cr now) p) (pfE (openX L (kyOf p) cr now) p) = r
  c : openC L (kyOf p) cr = cr'
  l : putL2 L now cr p = L'
theorem ex_t1 : PutsTo [] 0 0 pOne ⟨#[45]⟩ 1 [dOne 0] := by
  have h := store_one 0
  refine ⟨?_, rfl, ?_⟩
  · have e : openX [] (kyOf pOne) 0 0 = newD kEx 0 0 := rfl
    rw [e]
    have hc : clash (newD kEx 0 0) pOne = false := rfl
    simp only [pfV, pfW, pfE, hc, h, Bool.or_false, Bool.false_eq_true, if_false]
    rfl
  · have e : openX [] (kyOf pOne) 0 0 = newD kEx 0 0 := rfl
    have hc : clash (newD kEx 0 0) pOne = false := rfl
    unfold putL2
    rw [e]
    simp only [pfX, hc, h, Bool.or_false, Bool.false_eq_true, if_false]
    rfl
abbrev dRej : Dg := ⟨kEx, 0, 0, true, pz, [], [], false⟩
theorem ex_t2 : PutsTo [dOne 0] 1 0 pTwo ⟨#[97, 98, 99, 100, 101, 102, 103, 104, 105, 106]⟩ 1 [] := by
  have e : openX [dOne 0] (kyOf pTwo) 1 0 = dOne 0 := rfl
  have hc : clash (dOne 0) pTwo = false := rfl
  refine ⟨?_, rfl, ?_⟩
  · rw [e]
    simp only [pfV, pfW, pfE, hc, store_12, Bool.or_false, Bool.false_eq_true, if_false]
    rfl
  · unfold putL2
    rw [e]
    simp only [pfX, hc, store_12, Bool.or_false, Bool.false_eq_true, if_false]
    rfl
theorem ex_u1 : PutsTo [] 0 0 pTwo ⟨#[45]⟩ 1 [dTwo] := by
  have e : openX [] (kyOf pTwo) 0 0 = newD kEx 0 0 := rfl
  have hc : clash (newD kEx 0 0) pTwo = false := rfl
  refine ⟨?_, rfl, ?_⟩
  · rw [e]
    simp only [pfV, pfW, pfE, hc, store_two, Bool.or_false, Bool.false_eq_true, if_false]
    rfl
  · unfold putL2
    rw [e]
    simp only [pfX, hc, store_two, Bool.or_false, Bool.false_eq_true, if_false]
    rfl
theorem ex_u2 : PutsTo [dTwo] 1 0 pOne ⟨#[97, 98, 99, 100, 101, 102, 103, 104, 105, 106]⟩ 1 [] := by
  have e : openX [dTwo] (kyOf pOne) 1 0 = dTwo := rfl
  have hc : clash dTwo pOne = false := rfl
  refine ⟨?_, rfl, ?_⟩
  · rw [e]
    simp only [pfV, pfW, pfE, hc, store_21, Bool.or_false, Bool.false_eq_true, if_false]
    rfl
  · unfold putL2
    rw [e]
    simp only [pfX, hc, store_21, Bool.or_false, Bool.false_eq_true, if_false]
    rfl
theorem ex_u3 : PutsTo [] 1 0 pOne ⟨#[45]⟩ 2 [dOne 1] := by
  have e : openX [] (kyOf pOne) 1 0 = newD kEx 1 0 := rfl
  have hc : clash (newD kEx 1 0) pOne = false := rfl
  have h := store_one 1
  refine ⟨?_, rfl, ?_⟩
  · rw [e]
    simp only [pfV, pfW, pfE, hc, h, Bool.or_false, Bool.false_eq_true, if_false]
    rfl
  · unfold putL2
    rw [e]
    simp only [pfX, hc, h, Bool.or_false, Bool.false_eq_true, if_false]
    rfl
theorem ex_v2 : PutsTo [dOne 0] 1 0 pOdd ⟨#[33]⟩ 1 [dRej] := by
  have e : openX [dOne 0] (kyOf pOdd) 1 0 = dOne 0 := rfl
  have hc : clash (dOne 0) pOdd = true := rfl
  refine ⟨?_, rfl, ?_⟩
  · rw [e]
    simp only [pfV, pfW, pfE, hc, Bool.or_true, if_true]
    rfl
  · unfold putL2
    rw [e]
    simp only [pfX, hc, Bool.or_true, if_true]
    rfl
theorem ex_v3 : PutsTo [dRej] 1 0 pTwo ⟨#[33]⟩ 1 [dRej] := by
  have e : openX [dRej] (kyOf pTwo) 1 0 = dRej := rfl
  refine ⟨?_, rfl, ?_⟩
  · rw [e]
    simp only [pfV, pfW, pfE, Bool.true_or, if_true]
    rfl
  · unfold putL2
    rw [e]
    simp only [pfX, Bool.true_or, if_true]
    rfl
theorem ex_out29 : outL 29 [dOne 1] = [] ∧ remL 29 [dOne 1] = [dOne 1] := ⟨rfl, rfl⟩
theorem ex_out30 : outL 30 [dOne 1] = [pOne] ∧ remL 30 [dOne 1] = [] := by
  refine ⟨?_, rfl⟩
  have hb : begun (dOne 1) = true := begun_fr (by decide)
  have ht : tickB 30 (dOne 1) = true := rfl
  unfold outL
  rw [List.filter_cons, if_pos (by rw [hb, ht]; rfl)]
  rfl
theorem ex_outR : outL 30 [dRej] = [] ∧ remL 30 [dRej] = [] := by
  refine ⟨?_, rfl⟩
  have hb : begun dRej = false := begun_pz rfl
  unfold outL
  rw [List.filter_cons, if_neg (by rw [hb]; simp)]
  rfl

/-! ### three tables in one world -/
structure Tq where
  T : Nat
  c : Int
  L : List Dg
  S : Nat → Prop
structure ExI (w : World) (a b c : Tq) (W : World) : Prop where
  p1 : W.heap[w.heap.size]? = some (po pOne)
  p2 : W.heap[w.heap.size + 1]? = some (po pTwo)
  p3 : W.heap[w.heap.size + 2]? = some (po pOdd)
  ta : TabS W (w.heap.size + 3) a.T a.c a.L a.S
  tb : TabS W (w.heap.size + 3) b.T b.c b.L b.S
  tc : TabS W (w.heap.size + 3) c.T c.c c.L c.S
  dab : ∀ k, a.S k → ¬ b.S k
  dac : ∀ k, a.S k → ¬ c.S k
  dbc : ∀ k, b.S k → ¬ c.S k
  bl : Below w.heap.size w W
theorem ExI.lo {w : World} {a b c : Tq} {W : World} (h : ExI w a b c W) : w.heap.size + 3 ≤ W.heap.size := blk_lt h.p3
theorem ExI.rot {w : World} {a b c : Tq} {W : World} (h : ExI w a b c W) : ExI w b c a W :=
  ⟨h.p1, h.p2, h.p3, h.tb, h.tc, h.ta, h.dbc, fun k h1 h2 => h.dab k h2 h1, fun k h1 h2 => h.dac k h2 h1, h.bl⟩
theorem ExI.below {w : World} {a b c : Tq} {W W' : World} (h : ExI w a b c W) (hb : Below W.heap.size W W') : ExI w a b c W' :=
  ⟨blk_below h.p1 hb (blk_lt h.p1), blk_below h.p2 hb (blk_lt h.p2), blk_below h.p3 hb (blk_lt h.p3), h.ta.below hb, h.tb.below hb, h.tc.below hb, h.dab, h.dac, h.dbc, h.bl.trans (hb.mono h.bl.size)⟩
theorem ExI.drew {w : World} {a b c : Tq} {W : World} (h : ExI w a b c W) : ExI w a b c W.drew := h.below (Below.refl _ W).drew
theorem ExI.step {w : World} {a b c : Tq} {W W' : World} (h : ExI w a b c W) {c' : Int} {L' : List Dg} (ho : TabO W W' (w.heap.size + 3) a.T c' L' a.S) : ∃ S', ExI w ⟨a.T, c', L', S'⟩ b c W' := by
  obtain ⟨S', h1, h2, h3⟩ := ho
  have hk : ∀ k o, k < w.heap.size + 3 → W.heap[k]? = some o → W'.heap[k]? = some o := fun k o hk ho => (h2.block k (blk_lt ho) (fun e => by have := (h.ta.bd k e).1; omega)).trans ho
  refine ⟨S', ⟨hk _ _ (by omega) h.p1, hk _ _ (by omega) h.p2, hk _ _ (by omega) h.p3, h1, h.tb.touch h2 (fun k h4 h5 => h.dab k h5 h4), h.tc.touch h2 (fun k h4 h5 => h.dac k h5 h4), fun k h4 h5 => ?_, fun k h4 h5 => ?_, h.dbc, ?_⟩⟩
  · rcases h3 k h4 with h6 | h6
    · exact h.dab k h6 h5
    · have := (h.tb.bd k h5).2; omega
  · rcases h3 k h4 with h6 | h6
    · exact h.dac k h6 h5
    · have := (h.tc.bd k h5).2; omega
  · exact h.bl.trans (h2.below h.bl.size (fun k hk => by have := (h.ta.bd k hk).1; omega))
theorem ExI.put {w : World} {a b c : Tq} {W : World} (h : ExI w a b c W) (p : Pk) {r : ByteArray} {c' : Int} {L' : List Dg} (hp : PutsTo a.L a.c 0 p r c' L') (hv : okW p p.s.size) (hf : isFr p) (h8 : a.L.length < 8) (h1 : 0 ≤ a.c) (h2 : a.c ≤ 1000000) :
    Calls Try.prog 39 #[.pointer (some ⟨a.T, 0, none⟩), .int .i64 0, pv p] W fun e W' => e = .returned (.string r) ∧ ∃ S', ExI w ⟨a.T, c', L', S'⟩ b c W' := by
  refine (lput_s h.ta h.lo 0 p hv hf (fun _ => h8) h1 h2).mono ?_
  rintro e W' ⟨rfl, ho⟩
  rw [hp.r]
  rw [hp.c, hp.l] at ho
  exact ⟨rfl, h.step ho⟩
end Go.Proofs.Ytecboengeheapaa
