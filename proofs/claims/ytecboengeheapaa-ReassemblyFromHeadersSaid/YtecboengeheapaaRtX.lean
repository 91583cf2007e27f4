/- The table with its blocks as a set: the contracts as the laws use them. -/
import Derived.Test.YtecboengeheapaaRtG
import Derived.Test.YtecboengeheapaaRtS
import Derived.Test.YtecboengeheapaaRtT
namespace Go.Proofs.Ytecboengeheapaa
open Go.RowKit Go.Maps
set_option linter.unusedVariables false
attribute [local go_sem] Oper.semAt_some

def TabS (w : World) (base T : Nat) (cr : Int) (L : List Dg) (S : Nat → Prop) : Prop := ∃ mb R, TabP w base T mb cr R ∧ R.map (·.x) = L ∧ S = fun k => k ∈ T :: mb :: allB R
theorem TabS.bd {w : World} {base T : Nat} {cr : Int} {L : List Dg} {S : Nat → Prop} (h : TabS w base T cr L S) : ∀ k, S k → base ≤ k ∧ k < w.heap.size := by
  obtain ⟨mb, R, h, -, rfl⟩ := h
  exact h.lt
theorem TabS.kept {w w' : World} {base T : Nat} {cr : Int} {L : List Dg} {S : Nat → Prop} (h : TabS w base T cr L S) (hk : ∀ k, S k → w'.heap[k]? = w.heap[k]?) : TabS w' base T cr L S := by
  obtain ⟨mb, R, h, e, rfl⟩ := h
  exact ⟨mb, R, h.kept hk, e, rfl⟩
theorem TabS.below {w w' : World} {base T : Nat} {cr : Int} {L : List Dg} {S : Nat → Prop} (h : TabS w base T cr L S) (hb : Below w.heap.size w w') : TabS w' base T cr L S := h.kept fun k hk => hb.block k (h.bd k hk).2
theorem TabS.touch {w w' : World} {base T : Nat} {cr : Int} {L : List Dg} {S S2 : Nat → Prop} (h : TabS w base T cr L S) (ht : Touch S2 w w') (hd : ∀ k, S k → ¬ S2 k) : TabS w' base T cr L S := h.kept fun k hk => ht.block k (h.bd k hk).2 (hd k hk)
/-- what a call leaves of the table -/
def TabO (w w' : World) (base T : Nat) (cr' : Int) (L' : List Dg) (S : Nat → Prop) : Prop := ∃ S', TabS w' base T cr' L' S' ∧ Touch S w w' ∧ ∀ k, S' k → S k ∨ w.heap.size ≤ k
theorem TabS.hT {w : World} {base T : Nat} {cr : Int} {L : List Dg} {S : Nat → Prop} (h : TabS w base T cr L S) : ∃ mb R, TabP w base T mb cr R ∧ R.map (·.x) = L ∧ S = fun k => k ∈ T :: mb :: allB R := h
theorem TabN.toO {w w' : World} {base T mb : Nat} {R : List PE} {cr' : Int} {L' : List Dg} (h : TabN w w' base T mb R cr' L') : TabO w w' base T cr' L' (fun k => k ∈ T :: mb :: allB R) := by
  obtain ⟨R', h1, h2, h3, h4⟩ := h
  refine ⟨_, ⟨mb, R', h1, h2, rfl⟩, h4, fun k hk => ?_⟩
  rcases List.mem_cons.1 hk with e | hk
  · exact .inl (by simp [e])
  rcases List.mem_cons.1 hk with e | hk
  · exact .inl (by simp [e])
  · rcases h3 k hk with h | h
    · exact .inl (by simp [h])
    · exact .inr h

def putV2 (L : List Dg) (now cr : Int) (p : Pk) : Value := resV (pfV (openX L (kyOf p) cr now) p) (pfW (openX L (kyOf p) cr now) p) (pfE (openX L (kyOf p) cr now) p)
def putL2 (L : List Dg) (now cr : Int) (p : Pk) : List Dg := turnL (openL L (kyOf p) cr now) (kyOf p) (pfX (openX L (kyOf p) cr now) p)
theorem new_s (w : World) : Calls Try.prog 28 #[] w fun e w' => ∃ T S, e = .returned (.pointer (some ⟨T, 0, none⟩)) ∧ Below w.heap.size w w' ∧ TabS w' w.heap.size T 0 [] S := by
  refine (new_any w).mono ?_
  rintro e w' ⟨T, mb, rfl, hb, hT⟩
  exact ⟨T, _, rfl, hb, mb, [], hT, rfl, rfl⟩
theorem TabS.base {w : World} {base base' T : Nat} {cr : Int} {L : List Dg} {S : Nat → Prop} (h : TabS w base T cr L S) (hb : base' ≤ base) : TabS w base' T cr L S := by
  obtain ⟨mb, R, h, e, rfl⟩ := h
  have hm : ∀ {t : TypeId} {s n : Nat} {v : Value} {xs : List Value}, w.ownsRow base t s v n xs → w.ownsRow base' t s v n xs := fun h => h.mono hb
  exact ⟨mb, R, ⟨⟨Nat.le_trans hb h.low.1, Nat.le_trans hb h.low.2⟩, h.blk, h.map, fun p hp => let q := h.ent p hp; ⟨Nat.le_trans hb q.low, q.blk, hm q.txt, hm q.rcv, q.len⟩, h.nodup, h.keys, h.ok⟩, e, rfl⟩
theorem put_s {w : World} {base T : Nat} {cr : Int} {L : List Dg} {S : Nat → Prop} (h : TabS w base T cr L S) (hbase : base ≤ w.heap.size) (now : Int) (p : Pk) (hv : okW p p.s.size) (hf : isFr p) (hl8 : lookL L (kyOf p) = none → L.length < 8) (hc1 : 0 ≤ cr) (hc2 : cr ≤ 1000000) :
    Calls Try.prog 31 #[.pointer (some ⟨T, 0, none⟩), .int .i64 now, pv p] w fun e w' => e = .returned (putV2 L now cr p) ∧ TabO w w' base T (openC L (kyOf p) cr) (putL2 L now cr p) S := by
  obtain ⟨mb, R, h, rfl, rfl⟩ := h
  refine (put_frag h hbase now p hv hf (fun e => ?_) hc1 hc2).mono ?_
  · have h1 := lookP_map R (kyOf p)
    rw [e] at h1
    have := hl8 h1.symm
    simpa using this
  · rintro e w' ⟨rfl, h1⟩
    exact ⟨rfl, h1.toO⟩
theorem sizes_s {w : World} {base T : Nat} {cr : Int} {L : List Dg} {S : Nat → Prop} (h : TabS w base T cr L S) (hn : L.length ≤ 1000) :
    Calls Try.prog 38 #[.pointer (some ⟨T, 0, none⟩)] w fun e w' => e = .returned (.tuple #[.int .i64 (L.length : Int), .int .i64 (sumL L : Int)]) ∧ Below w.heap.size w w' := by
  obtain ⟨mb, R, h, rfl, rfl⟩ := h
  have := sizes_tab h (by simpa using hn)
  simpa using this
def remL (now : Int) (L : List Dg) : List Dg := L.filter fun x => !tickB now x
def outL (now : Int) (L : List Dg) : List Pk := (L.filter fun x => tickB now x && begun x).map (·.fst)
theorem tick_s {w : World} {base T : Nat} {cr : Int} {L : List Dg} {S : Nat → Prop} (h : TabS w base T cr L S) (hn : L.length ≤ 1) (now : Int) (hn1 : -9223372036854775808 ≤ now) (hn2 : now ≤ 9223372036854775807) (hst : ∀ x ∈ L, -9223372036854775808 ≤ x.st ∧ x.st ≤ 9223372036854775807) :
    Calls Try.prog 34 #[.pointer (some ⟨T, 0, none⟩), .int .i64 now] w fun e w' => ∃ v, e = .returned v ∧ w'.ownsRow w.heap.size 26 9 v (outL now L).length (flatP (outL now L)) ∧ TabO w w' base T cr (remL now L) S := by
  obtain ⟨mb, R, h, rfl, rfl⟩ := h
  refine (callsIn_wide.1 (tick_in h (by simpa using hn) now hn1 hn2 (fun p hp => hst _ (List.mem_map.2 ⟨p, hp, rfl⟩)))).mono ?_
  rintro e w' ⟨v, rfl, hr, hT, ht⟩
  have e1 : outP now R = outL now (R.map (·.x)) := by
    unfold outP outL
    rw [List.filter_map, List.map_map]; rfl
  have e2 : (remP now R R).map (·.x) = remL now (R.map (·.x)) := by
    unfold remP remL
    rw [List.filter_map]
    congr 1
    refine List.filter_congr fun q hq => ?_
    have : (R.any fun z => decide (z.x.k = q.x.k)) = true := List.any_eq_true.2 ⟨q, hq, by simp⟩
    simp [this]
  rw [e1] at hr
  refine ⟨v, rfl, hr, _, ⟨mb, _, hT, e2, rfl⟩, ht, fun k hk => .inl ?_⟩
  rcases List.mem_cons.1 hk with e | hk
  · simp [e]
  rcases List.mem_cons.1 hk with e | hk
  · simp [e]
  · simp [(allB_sub (remP_sub now R R)).subset hk]

/-! ### the law's put -/
def strOf (V : Pk) (b : Bool) (e : Int) : ByteArray := if e ≠ 0 then ⟨#[33]⟩ else if b then V.s else ⟨#[45]⟩
theorem TabO.pre {w w1 w2 : World} {base T : Nat} {cr' : Int} {L' : List Dg} {S : Nat → Prop} (h : TabO w1 w2 base T cr' L' S) (hb : Below w.heap.size w w1) : TabO w w2 base T cr' L' S := by
  obtain ⟨S', h1, h2, h3⟩ := h
  exact ⟨S', h1, (Touch.of hb).trans h2 (fun k hk => .inl hk), fun k hk => (h3 k hk).imp id (fun h => Nat.le_trans hb.size h)⟩
theorem TabO.post {w w1 w2 : World} {base T : Nat} {cr' : Int} {L' : List Dg} {S : Nat → Prop} (h : TabO w w1 base T cr' L' S) (hb : Below w1.heap.size w1 w2) : TabO w w2 base T cr' L' S := by
  obtain ⟨S', h1, h2, h3⟩ := h
  exact ⟨S', h1.below hb, h2.trans (Touch.of (S := S) hb) (fun k hk => .inl hk), h3⟩
set_option maxRecDepth 20000 in
set_option maxHeartbeats 1600000 in
theorem lput_of {w : World} (t : Value) (now : Int) (p : Pk) (V : Pk) (b : Bool) (er : Int) {Q : World → Prop} (hQ2 : ∀ w2 w3, Q w2 → Below w2.heap.size w2 w3 → Q w3)
    (hp : Calls Try.prog 31 #[t, .int .i64 now, pv p] (w.alloc (po p)) fun e w2 => e = .returned (resV V b er) ∧ Q w2) :
    Calls Try.prog 39 #[t, .int .i64 now, pv p] w fun e w' => e = .returned (.string (strOf V b er)) ∧ Q w' := by
  unfold resV at hp
  unfold strOf
  have HH := Lib.hid hp
  clear hp
  go_enter Try.func39, Try.ntmps39
  go_wp2_with fail
  refine HH.out.mono ?_
  rintro e w2 ⟨rfl, hq⟩
  have hE := hQ2 _ (w2.alloc (po V)) hq ((Below.refl _ w2).alloc (Nat.le_refl _) _)
  have HE := Lib.hid hE
  clear hq hE
  by_cases he : er = 0
  · subst he
    cases b with
    | true =>
      go_wp2_with fail
      go_ret
      exact ⟨by simp, HE.out⟩
    | false =>
      go_wp2_with fail
      go_ret
      exact ⟨by simp, HE.out⟩
  · have he' : (er = 0) = False := eq_false he
    go_wp2_with fail
    go_ret
    exact ⟨by simp, HE.out⟩
theorem lput_s {w : World} {base T : Nat} {cr : Int} {L : List Dg} {S : Nat → Prop} (h : TabS w base T cr L S) (hbase : base ≤ w.heap.size) (now : Int) (p : Pk) (hv : okW p p.s.size) (hf : isFr p) (hl8 : lookL L (kyOf p) = none → L.length < 8) (hc1 : 0 ≤ cr) (hc2 : cr ≤ 1000000) :
    Calls Try.prog 39 #[.pointer (some ⟨T, 0, none⟩), .int .i64 now, pv p] w fun e w' => e = .returned (.string (strOf (pfV (openX L (kyOf p) cr now) p) (pfW (openX L (kyOf p) cr now) p) (pfE (openX L (kyOf p) cr now) p))) ∧ TabO w w' base T (openC L (kyOf p) cr) (putL2 L now cr p) S := by
  have hb : Below w.heap.size w (w.alloc (po p)) := (Below.refl _ w).alloc (Nat.le_refl _) _
  refine lput_of _ now p _ _ _ (fun w2 w3 h1 h2 => h1.post h2) ((put_s (h.below hb) (by simp; omega) now p hv hf hl8 hc1 hc2).mono ?_)
  rintro e w2 ⟨rfl, h1⟩
  exact ⟨rfl, h1.pre hb⟩
theorem lput_w {w : World} {T : Nat} (now : Int) (p : Pk) (hs : p.s.size ≤ maxLen) (hv : okW p p.s.size) (hm : p.mf = false) (ho : p.off = 0) :
    Calls Try.prog 39 #[.pointer (some ⟨T, 0, none⟩), .int .i64 now, pv p] w fun e w' => e = .returned (.string p.s) ∧ Below w.heap.size w w' := by
  have hb : Below w.heap.size w (w.alloc (po p)) := (Below.refl _ w).alloc (Nat.le_refl _) _
  have := lput_of (w := w) (.pointer (some ⟨T, 0, none⟩)) now p p true 0 (Q := fun w' => Below w.heap.size w w') (fun w2 w3 h1 h2 => h1.trans (h2.mono h1.size)) ((put_whole T now p hs hv hm ho _).mono (by
    rintro e w2 ⟨rfl, h1⟩
    exact ⟨rfl, hb.trans (h1.mono hb.size)⟩))
  simpa [strOf] using this
end Go.Proofs.Ytecboengeheapaa
