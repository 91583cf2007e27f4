/- Contract of Put: a nil table, a packet that is not valid, a complete datagram. -/
import Derived.Test.YtecboengeheapaaRtF2
import Derived.Test.YtecboengeheapaaIpH
namespace Go.Proofs.Ytecboengeheapaa
open Go.RowKit Go.Maps
set_option linter.unusedVariables false
attribute [local go_sem] Oper.semAt_some

/-- a packet is stored into a block -/
abbrev setP (W : World) (B : Nat) (q : Pk) : World := (((((((((W.setCell ⟨B, 0, none⟩ (.int .i64 q.fr)).setCell ⟨B, 1, none⟩ (.int .i64 q.to)).setCell ⟨B, 2, none⟩ (.int .i64 q.pr)).setCell ⟨B, 3, none⟩ (.int .i64 q.tt)).setCell ⟨B, 4, none⟩ (.int .i64 q.id)).setCell ⟨B, 5, none⟩ (.bool q.df)).setCell ⟨B, 6, none⟩ (.bool q.mf)).setCell ⟨B, 7, none⟩ (.int .i64 q.off)).setCell ⟨B, 8, none⟩ (.string q.s))
theorem setP_blk {W : World} {B : Nat} {q0 : Pk} (h : W.heap[B]? = some (po q0)) (q : Pk) : (setP W B q).heap[B]? = some (po q) := by
  have g0 := blk_setc (k := 0) h (.int .i64 q.fr)
  have g1 := blk_setc (k := 1) g0 (.int .i64 q.to)
  have g2 := blk_setc (k := 2) g1 (.int .i64 q.pr)
  have g3 := blk_setc (k := 3) g2 (.int .i64 q.tt)
  have g4 := blk_setc (k := 4) g3 (.int .i64 q.id)
  have g5 := blk_setc (k := 5) g4 (.bool q.df)
  have g6 := blk_setc (k := 6) g5 (.bool q.mf)
  have g7 := blk_setc (k := 7) g6 (.int .i64 q.off)
  have g8 := blk_setc (k := 8) g7 (.string q.s)
  simp only [List.setIfInBounds_toArray, List.set_cons_zero, List.set_cons_succ] at g8
  exact g8
theorem setP_touch {S : Nat → Prop} {w W : World} {B : Nat} (h : Touch S w W) (hB : S B) (q : Pk) : Touch S w (setP W B q) :=
  (Touch.setc (Touch.setc (Touch.setc (Touch.setc (Touch.setc (Touch.setc (Touch.setc (Touch.setc (Touch.setc h (a := ⟨B, 0, none⟩) (.int .i64 q.fr) hB) (a := ⟨B, 1, none⟩) (.int .i64 q.to) hB) (a := ⟨B, 2, none⟩) (.int .i64 q.pr) hB) (a := ⟨B, 3, none⟩) (.int .i64 q.tt) hB) (a := ⟨B, 4, none⟩) (.int .i64 q.id) hB) (a := ⟨B, 5, none⟩) (.bool q.df) hB) (a := ⟨B, 6, none⟩) (.bool q.mf) hB) (a := ⟨B, 7, none⟩) (.int .i64 q.off) hB) (a := ⟨B, 8, none⟩) (.string q.s) hB)
def resV (q : Pk) (b : Bool) (e : Int) : Value := .tuple #[pv q, .bool b, .int .i64 e]

set_option maxRecDepth 20000 in
set_option maxHeartbeats 1600000 in
theorem put_nil (now : Int) (p : Pk) (w : World) :
    Calls Try.prog 31 #[.pointer none, .int .i64 now, pv p] w fun e w' => e = .returned (resV pz false 1) ∧ Below w.heap.size w w' := by
  go_enter Try.func31, Try.ntmps31
  go_wp2_with fail
  go_returns
  refine ⟨rfl, ?_⟩
  go_grown

set_option maxRecDepth 20000 in
set_option maxHeartbeats 1600000 in
theorem put_bad (T : Nat) (now : Int) (p : Pk) (hs : p.s.size ≤ maxLen) (hv : ¬ okW p p.s.size) (w : World) :
    Calls Try.prog 31 #[.pointer (some ⟨T, 0, none⟩), .int .i64 now, pv p] w fun e w' => e = .returned (resV pz false 60) ∧ Below w.heap.size w w' := by
  have hd : decide (okW p p.s.size) = false := decide_eq_false hv
  have HV := Lib.hid hv
  clear hv
  go_enter Try.func31, Try.ntmps31
  go_wp2_with fail
  refine (valid_any p hs _).mono ?_
  rintro e w1 ⟨rfl, hb1⟩
  rw [hd]
  have hb : Below w.heap.size w w1 := (((Below.refl _ w).alloc (Nat.le_refl _) (po p)).alloc (by simp) (po pz)).trans (hb1.mono (by simp; omega))
  have hR := blk_below (blk_new (w.alloc (po p)) (po pz)) hb1 (by simp)
  rw [World.size_alloc] at hR
  have HR := Lib.hid hR
  have HB := Lib.hid hb
  obtain ⟨c0, f0⟩ := blk_cell (k := 0) hR rfl
  obtain ⟨c1, f1⟩ := blk_cell (k := 1) hR rfl
  obtain ⟨c2, f2⟩ := blk_cell (k := 2) hR rfl
  obtain ⟨c3, f3⟩ := blk_cell (k := 3) hR rfl
  obtain ⟨c4, f4⟩ := blk_cell (k := 4) hR rfl
  obtain ⟨c5, f5⟩ := blk_cell (k := 5) hR rfl
  obtain ⟨c6, f6⟩ := blk_cell (k := 6) hR rfl
  obtain ⟨c7, f7⟩ := blk_cell (k := 7) hR rfl
  obtain ⟨c8, f8⟩ := blk_cell (k := 8) hR rfl
  simp only [List.getElem_toArray, List.getElem_cons_zero, List.getElem_cons_succ] at c0 c1 c2 c3 c4 c5 c6 c7 c8
  clear hb1 hb hR
  go_wp2_with fail
  clear c0 c1 c2 c3 c4 c5 c6 c7 c8 f0 f1 f2 f3 f4 f5 f6 f7 f8
  have h1 := setP_blk HR.out pz
  have h2 := (setP_touch (S := fun k => w.heap.size ≤ k) (Touch.of HB.out) (by omega : w.heap.size ≤ w.heap.size + 1) pz).below (Nat.le_refl _) (fun k hk => hk)
  change bodyPost _ _ _ _ _ (setP w1 (w.heap.size + 1) pz)
  generalize setP w1 (w.heap.size + 1) pz = w2 at h1 h2 ⊢
  obtain ⟨c0, -⟩ := blk_cell (k := 0) h1 rfl
  obtain ⟨c1, -⟩ := blk_cell (k := 1) h1 rfl
  obtain ⟨c2, -⟩ := blk_cell (k := 2) h1 rfl
  obtain ⟨c3, -⟩ := blk_cell (k := 3) h1 rfl
  obtain ⟨c4, -⟩ := blk_cell (k := 4) h1 rfl
  obtain ⟨c5, -⟩ := blk_cell (k := 5) h1 rfl
  obtain ⟨c6, -⟩ := blk_cell (k := 6) h1 rfl
  obtain ⟨c7, -⟩ := blk_cell (k := 7) h1 rfl
  obtain ⟨c8, -⟩ := blk_cell (k := 8) h1 rfl
  simp only [List.getElem_toArray, List.getElem_cons_zero, List.getElem_cons_succ] at c0 c1 c2 c3 c4 c5 c6 c7 c8
  refine bodyPost_ret (v := resV pz false 60) (by simp [results, Try.results31, go_sem, resV, c0, c1, c2, c3, c4, c5, c6, c7, c8]) rfl ?_
  exact ⟨rfl, h2⟩

set_option maxRecDepth 20000 in
set_option maxHeartbeats 1600000 in
theorem put_whole (T : Nat) (now : Int) (p : Pk) (hs : p.s.size ≤ maxLen) (hv : okW p p.s.size) (hm : p.mf = false) (ho : p.off = 0) (w : World) :
    Calls Try.prog 31 #[.pointer (some ⟨T, 0, none⟩), .int .i64 now, pv p] w fun e w' => e = .returned (resV p true 0) ∧ Below w.heap.size w w' := by
  have hd : decide (okW p p.s.size) = true := decide_eq_true hv
  have HV := Lib.hid hv
  have HM := Lib.hid hm
  have HO := Lib.hid ho
  clear hv hm ho
  go_enter Try.func31, Try.ntmps31
  go_wp2_with fail
  refine (valid_any p hs _).mono ?_
  rintro e w1 ⟨rfl, hb1⟩
  rw [hd]
  have hb : Below w.heap.size w w1 := (((Below.refl _ w).alloc (Nat.le_refl _) (po p)).alloc (by simp) (po pz)).trans (hb1.mono (by simp; omega))
  have hR := blk_below (blk_new (w.alloc (po p)) (po pz)) hb1 (by simp)
  rw [World.size_alloc] at hR
  have hP := blk_below (blk_alloc (blk_new w (po p)) (po pz)) hb1 (by simp; omega)
  have HR := Lib.hid hR
  have HB := Lib.hid hb
  obtain ⟨c0, f0⟩ := blk_cell (k := 0) hR rfl
  obtain ⟨c1, f1⟩ := blk_cell (k := 1) hR rfl
  obtain ⟨c2, f2⟩ := blk_cell (k := 2) hR rfl
  obtain ⟨c3, f3⟩ := blk_cell (k := 3) hR rfl
  obtain ⟨c4, f4⟩ := blk_cell (k := 4) hR rfl
  obtain ⟨c5, f5⟩ := blk_cell (k := 5) hR rfl
  obtain ⟨c6, f6⟩ := blk_cell (k := 6) hR rfl
  obtain ⟨c7, f7⟩ := blk_cell (k := 7) hR rfl
  obtain ⟨c8, f8⟩ := blk_cell (k := 8) hR rfl
  simp only [List.getElem_toArray, List.getElem_cons_zero, List.getElem_cons_succ] at c0 c1 c2 c3 c4 c5 c6 c7 c8
  obtain ⟨b0, -⟩ := blk_cell (k := 0) hP rfl
  obtain ⟨b1, -⟩ := blk_cell (k := 1) hP rfl
  obtain ⟨b2, -⟩ := blk_cell (k := 2) hP rfl
  obtain ⟨b3, -⟩ := blk_cell (k := 3) hP rfl
  obtain ⟨b4, -⟩ := blk_cell (k := 4) hP rfl
  obtain ⟨b5, -⟩ := blk_cell (k := 5) hP rfl
  obtain ⟨b6, -⟩ := blk_cell (k := 6) hP rfl
  obtain ⟨b7, -⟩ := blk_cell (k := 7) hP rfl
  obtain ⟨b8, -⟩ := blk_cell (k := 8) hP rfl
  simp only [List.getElem_toArray, List.getElem_cons_zero, List.getElem_cons_succ] at b0 b1 b2 b3 b4 b5 b6 b7 b8
  have hz : p.off = 0 := HO.out
  have hz2 : (p.off = 0) = True := eq_true HO.out
  rw [HM.out] at b6
  rw [HO.out] at b7
  clear hb1 hb hR hP hz hz2
  go_wp2_with fail
  have hpq : p = { p with mf := false, off := 0 } := by obtain ⟨a0, a1, a2, a3, a4, a5, a6, a7, a8⟩ := p; have e1 := HM.out; have e2 := HO.out; simp only at e1 e2; subst e1 e2; rfl
  clear c0 c1 c2 c3 c4 c5 c6 c7 c8 f0 f1 f2 f3 f4 f5 f6 f7 f8 b0 b1 b2 b3 b4 b5 b6 b7 b8
  have h1 := setP_blk HR.out { p with mf := false, off := 0 }
  have h2 := (setP_touch (S := fun k => w.heap.size ≤ k) (Touch.of HB.out) (by omega : w.heap.size ≤ w.heap.size + 1) { p with mf := false, off := 0 }).below (Nat.le_refl _) (fun k hk => hk)
  change bodyPost _ _ _ _ _ (setP w1 (w.heap.size + 1) { p with mf := false, off := 0 })
  generalize setP w1 (w.heap.size + 1) { p with mf := false, off := 0 } = w2 at h1 h2 ⊢
  rw [← hpq] at h1
  obtain ⟨c0, -⟩ := blk_cell (k := 0) h1 rfl
  obtain ⟨c1, -⟩ := blk_cell (k := 1) h1 rfl
  obtain ⟨c2, -⟩ := blk_cell (k := 2) h1 rfl
  obtain ⟨c3, -⟩ := blk_cell (k := 3) h1 rfl
  obtain ⟨c4, -⟩ := blk_cell (k := 4) h1 rfl
  obtain ⟨c5, -⟩ := blk_cell (k := 5) h1 rfl
  obtain ⟨c6, -⟩ := blk_cell (k := 6) h1 rfl
  obtain ⟨c7, -⟩ := blk_cell (k := 7) h1 rfl
  obtain ⟨c8, -⟩ := blk_cell (k := 8) h1 rfl
  simp only [List.getElem_toArray, List.getElem_cons_zero, List.getElem_cons_succ] at c0 c1 c2 c3 c4 c5 c6 c7 c8
  refine bodyPost_ret (v := resV p true 0) (by simp [results, Try.results31, go_sem, resV, c0, c1, c2, c3, c4, c5, c6, c7, c8]) rfl ?_
  exact ⟨rfl, h2⟩

/-- a packet that is a fragment -/
def isFr (p : Pk) : Prop := p.mf = true ∨ p.off ≠ 0
/-- between two operations of Put's drawn region -/
structure PS (T mb P : Nat) (p : Pk) (w' : World) : Prop where
  x0 : w'.cell? ⟨T, 0, none⟩ = some (.map (some mb))
  box : w'.heap[P]? = some (po p)
/-- what Put leaves: the table with another list, its blocks the old ones or new -/
def TabN (w w' : World) (base T mb : Nat) (R : List PE) (cr' : Int) (L' : List Dg) : Prop :=
  ∃ R', TabP w' base T mb cr' R' ∧ R'.map (·.x) = L' ∧ (∀ j ∈ allB R', j ∈ allB R ∨ w.heap.size ≤ j) ∧ Touch (fun j => j ∈ T :: mb :: allB R) w w'

theorem fin_tab {w w6 : World} {base T mb : Nat} {c : Int} {R R6 : List PE} (hT : TabP w6 base T mb c R6) (hbl : ∀ j ∈ allB R6, j ∈ allB R ∨ (w.heap.size ≤ j ∧ j ≠ w.heap.size ∧ j ≠ w.heap.size + 1)) (hlt0 : ∀ j ∈ T :: mb :: allB R, base ≤ j ∧ j < w.heap.size)
    (ht : Touch (fun j => j ∈ T :: mb :: allB R) w w6) (q : Pk) : TabN w (setP w6 (w.heap.size + 1) q) base T mb R c (R6.map (·.x)) := by
  have h1 : Touch (fun j => j = w.heap.size + 1) w6 (setP w6 (w.heap.size + 1) q) := setP_touch (S := fun j => j = w.heap.size + 1) (Touch.of (Below.refl _ _)) rfl q
  refine ⟨R6, hT.kept (fun k hk => h1.block k (hT.lt k hk).2 (fun e => ?_)), rfl, fun j hj => (hbl j hj).imp id (fun h => h.1), ht.trans h1 (fun k hk => .inr (by omega))⟩
  subst e
  have h2 := (hlt0 T (by simp)).2
  have h3 := (hlt0 mb (by simp)).2
  rcases List.mem_cons.1 hk with e | hk
  · omega
  rcases List.mem_cons.1 hk with e | hk
  · omega
  rcases hbl _ hk with h4 | h4
  · have := (hlt0 (w.heap.size + 1) (List.mem_cons_of_mem _ (List.mem_cons_of_mem _ h4))).2; omega
  · omega
set_option maxRecDepth 20000 in
set_option maxHeartbeats 6400000 in
theorem put_frag {w : World} {base T mb : Nat} {cr : Int} {R : List PE} (h : TabP w base T mb cr R) (hbase : base ≤ w.heap.size) (now : Int) (p : Pk) (hv : okW p p.s.size) (hf : isFr p)
    (hl8 : lookP R (kyOf p) = none → R.length < 8) (hc1 : 0 ≤ cr) (hc2 : cr ≤ 1000000) :
    Calls Try.prog 31 #[.pointer (some ⟨T, 0, none⟩), .int .i64 now, pv p] w fun e w' =>
      e = .returned (resV (pfV (openX (R.map (·.x)) (kyOf p) cr now) p) (pfW (openX (R.map (·.x)) (kyOf p) cr now) p) (pfE (openX (R.map (·.x)) (kyOf p) cr now) p)) ∧
      TabN w w' base T mb R (openC (R.map (·.x)) (kyOf p) cr) (turnL (openL (R.map (·.x)) (kyOf p) cr now) (kyOf p) (pfX (openX (R.map (·.x)) (kyOf p) cr now) p)) := by
  have hk := okK_of hv
  obtain ⟨-, -, -, ⟨ho1, ho2, -⟩, hdv⟩ := id hv
  have hs0 : 0 < p.s.size := by
    rcases hdv with ⟨e1, e2⟩ | ⟨-, e2, -⟩
    · rcases hf with e3 | e3
      · rw [e1] at e3; cases e3
      · exact absurd e2 e3
    · omega
  have hsm : p.s.size ≤ 4000 := by omega
  have hd : decide (okW p p.s.size) = true := decide_eq_true hv
  obtain ⟨wh, hwh⟩ : ∃ wh, (!p.mf && decide (p.off = 0)) = wh := ⟨_, rfl⟩
  have hwh0 : wh = false := by
    rw [← hwh]
    rcases hf with e3 | e3
    · simp [e3]
    · simp [e3]
  subst hwh0
  have H := Lib.hid h
  have HV := Lib.hid hv
  have HW := Lib.hid hwh
  have HDV := Lib.hid hdv
  have HF := Lib.hid hf
  have hmx : p.s.size ≤ maxLen := by unfold maxLen; omega
  clear h hv hwh hdv hf
  go_enter Try.func31, Try.ntmps31
  go_wp2_with fail
  refine (valid_any p hmx _).mono ?_
  rintro e w1 ⟨rfl, hb1⟩
  rw [hd]
  have hb : Below w.heap.size w w1 := (((Below.refl _ w).alloc (Nat.le_refl _) (po p)).alloc (by simp) (po pz)).trans (hb1.mono (by simp; omega))
  have hR := blk_below (blk_new (w.alloc (po p)) (po pz)) hb1 (by simp)
  rw [World.size_alloc] at hR
  have hP := blk_below (blk_alloc (blk_new w (po p)) (po pz)) hb1 (by simp; omega)
  have HR := Lib.hid hR
  have HP := Lib.hid hP
  have HB := Lib.hid hb
  obtain ⟨b0, -⟩ := blk_cell (k := 0) hP rfl
  obtain ⟨b1, -⟩ := blk_cell (k := 1) hP rfl
  obtain ⟨b2, -⟩ := blk_cell (k := 2) hP rfl
  obtain ⟨b3, -⟩ := blk_cell (k := 3) hP rfl
  obtain ⟨b4, -⟩ := blk_cell (k := 4) hP rfl
  obtain ⟨b5, -⟩ := blk_cell (k := 5) hP rfl
  obtain ⟨b6, -⟩ := blk_cell (k := 6) hP rfl
  obtain ⟨b7, -⟩ := blk_cell (k := 7) hP rfl
  obtain ⟨b8, -⟩ := blk_cell (k := 8) hP rfl
  simp only [List.getElem_toArray, List.getElem_cons_zero, List.getElem_cons_succ] at b0 b1 b2 b3 b4 b5 b6 b7 b8
  clear hb1 hb hR hP hd
  go_upto_region 5 with fail
  go_cut [24] (fun v wx => v = .bool false ∧ w1 = wx)
  case first =>
    rcases HF.out with e3 | e3
    · rw [e3] at b6
      clear e3
      go_wp2
      go_meet
      exact ⟨rfl, rfl⟩
    · have hz : (p.off = 0) = False := eq_false e3
      obtain ⟨mf, hmf⟩ : ∃ mf, p.mf = mf := ⟨_, rfl⟩
      rw [hmf] at b6
      have HE3 := Lib.hid e3
      clear e3 hmf
      cases mf
      all_goals go_wp2
      all_goals go_meet
      all_goals refine ⟨?_, rfl⟩
      all_goals first | (simp; done) | (simp [HE3.out]; done)
  case rest =>
    obtain ⟨rfl, rfl⟩ := hcut
    go_wp2_with fail
    refine (key_any p _).mono ?_
    rintro e w2 ⟨rfl, hb2⟩
    have hP2 := blk_below HP.out hb2 (blk_lt HP.out)
    have hR2 := blk_below HR.out hb2 (blk_lt HR.out)
    have hB2 := HB.out.trans (hb2.mono HB.out.size)
    have h2 := H.out.below hB2
    have HP2 := Lib.hid hP2
    have HR2 := Lib.hid hR2
    have HB2 := Lib.hid hB2
    have H2 := Lib.hid h2
    clear hb2 hP2 hR2 hB2 h2 HP HR HB b0 b1 b2 b3 b4 b5 b6 b7 b8
    go_wp2_with fail
    refine (dof_any H2.out (by have := HB2.out.size; omega) now hk hl8 hc1 hc2).mono ?_
    rintro e w4 ⟨A, q, C, rfl, hT4, hL4, hqx, hqk, hbl4, ht4⟩
    have hlt0 := H.out.lt
    have hne : ∀ j, w.heap.size ≤ j → j < w2.heap.size → w4.heap[j]? = w2.heap[j]? := fun j h1 h2 => ht4.block j h2 (fun h3 => by have := (hlt0 j h3).2; omega)
    have hP4 := (hne _ (Nat.le_refl _) (blk_lt HP2.out)).trans HP2.out
    have hR4 := (hne _ (by omega) (blk_lt HR2.out)).trans HR2.out
    have hbl : ∀ j ∈ allB (A ++ q :: C), j ∈ allB R ∨ (w.heap.size ≤ j ∧ j ≠ w.heap.size ∧ j ≠ w.heap.size + 1) := fun j hj => by
      rcases hbl4 j hj with h3 | h3
      · exact .inl h3
      · have h4 := blk_lt HP2.out
        have h5 := blk_lt HR2.out
        have := HB2.out.size
        exact .inr ⟨by omega, by omega, by omega⟩
    have htw : Touch (fun j => j ∈ T :: mb :: allB R) w w4 := (Touch.of HB2.out).trans ht4 (fun j hj => .inl hj)
    have hEq := hT4.ent q (by simp)
    obtain ⟨c2, -⟩ := blk_cell (k := 2) hEq.blk rfl
    simp only [List.getElem_toArray, List.getElem_cons_zero, List.getElem_cons_succ] at c2
    obtain ⟨b0, -⟩ := blk_cell (k := 0) hP4 rfl
    obtain ⟨b1, -⟩ := blk_cell (k := 1) hP4 rfl
    obtain ⟨b2, -⟩ := blk_cell (k := 2) hP4 rfl
    obtain ⟨b3, -⟩ := blk_cell (k := 3) hP4 rfl
    obtain ⟨b4, -⟩ := blk_cell (k := 4) hP4 rfl
    obtain ⟨b5, -⟩ := blk_cell (k := 5) hP4 rfl
    obtain ⟨b6, -⟩ := blk_cell (k := 6) hP4 rfl
    obtain ⟨b7, -⟩ := blk_cell (k := 7) hP4 rfl
    obtain ⟨b8, -⟩ := blk_cell (k := 8) hP4 rfl
    simp only [List.getElem_toArray, List.getElem_cons_zero, List.getElem_cons_succ] at b0 b1 b2 b3 b4 b5 b6 b7 b8
    have HT4 := Lib.hid hT4
    have HL4 := Lib.hid hL4
    have HQX := Lib.hid hqx
    have HBL := Lib.hid hbl
    have HTW := Lib.hid htw
    have HP4 := Lib.hid hP4
    have HR4 := Lib.hid hR4
    have HEQ := Lib.hid hEq
    have HLT0 := Lib.hid hlt0
    clear hT4 hL4 hqx hbl htw hP4 hR4 hEq hbl4 ht4 hne hlt0
    unfold ptr
    go_upto_region 8 with fail
    go_cut [39] (fun v wx => v = .bool (q.x.rej || clash q.x p) ∧ Below w4.heap.size w4 wx)
    case first =>
      obtain ⟨rej, hrej⟩ : ∃ rej, q.x.rej = rej := ⟨_, rfl⟩
      rw [hrej] at c2
      have HRJ := Lib.hid hrej
      clear hrej
      cases rej with
      | true =>
        go_wp2_with fail
        go_meet
        exact ⟨by rw [HRJ.out]; rfl, Below.refl _ _⟩
      | false =>
        go_wp2_with fail
        refine (conflicts_any HEQ.out p ho1 (by omega) hsm).mono ?_
        rintro e w5 ⟨rfl, hb5⟩
        go_wp2_with fail
        go_meet
        exact ⟨by rw [HRJ.out]; simp, hb5⟩
    case rest =>
      obtain ⟨rfl, hb5⟩ := hcut
      clear c2 b0 b1 b2 b3 b4 b5 b6 b7 b8
      have hT5 := HT4.out.below hb5
      have hP5 := blk_below HP4.out hb5 (blk_lt HP4.out)
      have hR5 := blk_below HR4.out hb5 (blk_lt HR4.out)
      have ht5 := HTW.out.trans (Touch.of (S := fun j => j ∈ T :: mb :: allB R) hb5) (fun j hj => .inl hj)
      obtain ⟨B, hB⟩ : ∃ B, (q.x.rej || clash q.x p) = B := ⟨_, rfl⟩
      rw [hB]
      have hqb : ∀ j ∈ q.blks, j ≠ w.heap.size ∧ j ≠ w.heap.size + 1 := fun j hj => by
        rcases HBL.out j (mem_allB (by simp) hj) with h3 | h3
        · have := (HLT0.out j (by simp [h3])).2; constructor <;> omega
        · exact h3.2
      have hE5 := hT5.ent q (by simp)
      have HB' := Lib.hid hB
      have HT5 := Lib.hid hT5
      have HP5 := Lib.hid hP5
      have HR5 := Lib.hid hR5
      have HT5w := Lib.hid ht5
      have HQB := Lib.hid hqb
      have HE5 := Lib.hid hE5
      clear hb5 hT5 hP5 hR5 ht5 hB hqb hE5 HT4 HP4 HR4 HTW HEQ
      cases B with
      | true =>
        go_wp2_with fail
        refine (reject_any HE5.out.blk).mono ?_
        rintro e w6 ⟨rfl, hb6, ht6⟩
        have hT6 : TabP w6 base T mb (openC (R.map (·.x)) (kyOf p) cr) (A ++ ⟨rejD q.x, q.b, .slice none 0 0, .slice none 0 0⟩ :: C) := by
          refine HT5.out.one _ rfl rfl ⟨HE5.out.low, hb6, World.ownsRow_nil _ _ _ _, World.ownsRow_nil _ _ _ _, rfl, by simp [rejD]⟩ (by simp [PE.blks, Value.ownBlock]) (fun k hk => ?_) (ht6.mono (fun k hk => by simp [PE.blks, hk]))
          simp [PE.blks, Value.ownBlock] at hk
          simp [PE.blks, hk]
        have hR6 := (ht6.block _ (blk_lt HR5.out) (fun e => (HQB.out q.b (by simp [PE.blks])).2 e.symm)).trans HR5.out
        have hbl6 : ∀ j ∈ allB (A ++ (⟨rejD q.x, q.b, .slice none 0 0, .slice none 0 0⟩ : PE) :: C), j ∈ allB R ∨ (w.heap.size ≤ j ∧ j ≠ w.heap.size ∧ j ≠ w.heap.size + 1) := fun j hj => HBL.out j (by
          rw [allB_mid] at hj ⊢
          simp only [List.mem_append] at hj ⊢
          rcases hj with h3 | h3 | h3
          · exact .inl h3
          · simp [PE.blks, Value.ownBlock] at h3; exact .inr (.inl (by simp [PE.blks, h3]))
          · exact .inr (.inr h3))
        have hbT : ∀ j, j = q.b → j ∈ T :: mb :: allB R ∨ w.heap.size ≤ j := fun j e => by
          subst e
          rcases HBL.out q.b (mem_allB (p := q) (by simp) (by simp [PE.blks])) with h3 | h3
          · exact .inl (by simp [h3])
          · exact .inr h3.1
        have hF := fin_tab hT6 hbl6 HLT0.out (HT5w.out.trans ht6 hbT) pz
        have h1 := setP_blk hR6 pz
        have hset := set_mid (p' := ⟨rejD q.x, q.b, .slice none 0 0, .slice none 0 0⟩) HT5.out.keys hqk
        rw [hset] at hF
        obtain ⟨c0, f0⟩ := blk_cell (k := 0) hR6 rfl
        obtain ⟨c1, f1⟩ := blk_cell (k := 1) hR6 rfl
        obtain ⟨c2, f2⟩ := blk_cell (k := 2) hR6 rfl
        obtain ⟨c3, f3⟩ := blk_cell (k := 3) hR6 rfl
        obtain ⟨c4, f4⟩ := blk_cell (k := 4) hR6 rfl
        obtain ⟨c5, f5⟩ := blk_cell (k := 5) hR6 rfl
        obtain ⟨c6, f6⟩ := blk_cell (k := 6) hR6 rfl
        obtain ⟨c7, f7⟩ := blk_cell (k := 7) hR6 rfl
        obtain ⟨c8, f8⟩ := blk_cell (k := 8) hR6 rfl
        simp only [List.getElem_toArray, List.getElem_cons_zero, List.getElem_cons_succ] at c0 c1 c2 c3 c4 c5 c6 c7 c8
        clear hT6 hR6 hbl6 hbT hset hb6 ht6
        go_wp2_with fail
        clear c0 c1 c2 c3 c4 c5 c6 c7 c8 f0 f1 f2 f3 f4 f5 f6 f7 f8
        change bodyPost _ _ _ _ _ (setP w6 (w.heap.size + 1) pz)
        generalize setP w6 (w.heap.size + 1) pz = w9 at h1 hF ⊢
        obtain ⟨c0, -⟩ := blk_cell (k := 0) h1 rfl
        obtain ⟨c1, -⟩ := blk_cell (k := 1) h1 rfl
        obtain ⟨c2, -⟩ := blk_cell (k := 2) h1 rfl
        obtain ⟨c3, -⟩ := blk_cell (k := 3) h1 rfl
        obtain ⟨c4, -⟩ := blk_cell (k := 4) h1 rfl
        obtain ⟨c5, -⟩ := blk_cell (k := 5) h1 rfl
        obtain ⟨c6, -⟩ := blk_cell (k := 6) h1 rfl
        obtain ⟨c7, -⟩ := blk_cell (k := 7) h1 rfl
        obtain ⟨c8, -⟩ := blk_cell (k := 8) h1 rfl
        simp only [List.getElem_toArray, List.getElem_cons_zero, List.getElem_cons_succ] at c0 c1 c2 c3 c4 c5 c6 c7 c8
        refine bodyPost_ret (v := resV pz false 70) (by simp [results, Try.results31, go_sem, resV, c0, c1, c2, c3, c4, c5, c6, c7, c8]) rfl ?_
        refine ⟨?_, ?_⟩
        · rw [← HQX.out]
          simp [pfV, pfW, pfE, HB'.out]
        · rw [← HQX.out, ← HL4.out]
          simp only [pfX, HB'.out, if_true, turnL]
          exact hF
      | false =>
        have hP5 := HP5.out
        obtain ⟨b0, -⟩ := blk_cell (k := 0) hP5 rfl
        obtain ⟨b1, -⟩ := blk_cell (k := 1) hP5 rfl
        obtain ⟨b2, -⟩ := blk_cell (k := 2) hP5 rfl
        obtain ⟨b3, -⟩ := blk_cell (k := 3) hP5 rfl
        obtain ⟨b4, -⟩ := blk_cell (k := 4) hP5 rfl
        obtain ⟨b5, -⟩ := blk_cell (k := 5) hP5 rfl
        obtain ⟨b6, -⟩ := blk_cell (k := 6) hP5 rfl
        obtain ⟨b7, -⟩ := blk_cell (k := 7) hP5 rfl
        obtain ⟨b8, -⟩ := blk_cell (k := 8) hP5 rfl
        simp only [List.getElem_toArray, List.getElem_cons_zero, List.getElem_cons_succ] at b0 b1 b2 b3 b4 b5 b6 b7 b8
        clear hP5
        go_wp2_with fail
        refine (store_any HE5.out (by
          have hnd := HT5.out.nodup
          rw [allB_mid] at hnd
          have h2 := (List.nodup_cons.1 (List.nodup_cons.1 hnd).2).2
          exact (List.nodup_append.1 (List.nodup_append.1 h2).2.1).1) (by have := HT5w.out.size; omega) p ho1 hs0 (by omega)).mono ?_
        rintro e w6 ⟨rfl, tv, rv, hE6, hnd6, hin6, ht6⟩
        clear b0 b1 b2 b3 b4 b5 b6 b7 b8
        obtain ⟨y, hy⟩ : ∃ y, storeD q.x p = y := ⟨_, rfl⟩
        rw [hy] at hE6 hnd6 hin6
        have hyk : y.k = q.x.k := by rw [← hy]; rfl
        have hT6 : TabP w6 base T mb (openC (R.map (·.x)) (kyOf p) cr) (A ++ ⟨y, q.b, tv, rv⟩ :: C) := HT5.out.one _ hyk rfl hE6 hnd6 hin6 ht6
        have hR6 := (ht6.block _ (blk_lt HR5.out) (fun e => (HQB.out _ e).2 rfl)).trans HR5.out
        have hP6 := (ht6.block _ (blk_lt HP5.out) (fun e => (HQB.out _ e).1 rfl)).trans HP5.out
        have hs56 := ht6.size
        have hbl6 : ∀ j ∈ allB (A ++ (⟨y, q.b, tv, rv⟩ : PE) :: C), j ∈ allB R ∨ (w.heap.size ≤ j ∧ j ≠ w.heap.size ∧ j ≠ w.heap.size + 1) := fun j hj => by
          rw [allB_mid] at hj
          simp only [List.mem_append] at hj
          rcases hj with h3 | h3 | h3
          · exact HBL.out j (by rw [allB_mid]; simp [h3])
          · rcases hin6 j h3 with h4 | h4
            · exact HBL.out j (by rw [allB_mid]; simp [h4])
            · have h5 := blk_lt HR5.out; have h6 := HT5w.out.size; exact .inr ⟨by omega, by omega, by omega⟩
          · exact HBL.out j (by rw [allB_mid]; simp [h3])
        have hbT : ∀ j, j ∈ q.blks → j ∈ T :: mb :: allB R ∨ w.heap.size ≤ j := fun j e => by
          rcases HBL.out j (mem_allB (p := q) (by simp) e) with h3 | h3
          · exact .inl (by simp [h3])
          · exact .inr h3.1
        have ht6w := HT5w.out.trans ht6 hbT
        have hset := set_mid (p' := ⟨y, q.b, tv, rv⟩) HT5.out.keys hqk
        obtain ⟨cp, hcp⟩ : ∃ cp, compD y = cp := ⟨_, rfl⟩
        have hC6 := complete_any hE6
        simp only [hcp] at hC6
        have HC6 := Lib.hid hC6
        have HCP := Lib.hid hcp
        have HY := Lib.hid hy
        have HE6 := Lib.hid hE6
        have HT6 := Lib.hid hT6
        have HR6 := Lib.hid hR6
        have HP6 := Lib.hid hP6
        have HBL6 := Lib.hid hbl6
        have HT6w := Lib.hid ht6w
        have HSET := Lib.hid hset
        clear hC6 hcp hy hE6 hT6 hR6 hP6 hbl6 ht6w hset hnd6 hin6 ht6 hbT HT5 HP5 HR5 HT5w HE5 HQB HBL
        have hyk2 : y.k = kyOf p := by rw [hyk, hqk]
        clear hyk
        unfold ptr at HC6
        go_wp2_with fail
        refine HC6.out.mono ?_
        rintro e w7 ⟨rfl, rfl⟩
        clear HC6
        cases cp with
        | false =>
          have hF := fin_tab HT6.out HBL6.out HLT0.out HT6w.out pz
          have h1 := setP_blk HR6.out pz
          rw [HSET.out] at hF
          have hR6 := HR6.out
          obtain ⟨c0, f0⟩ := blk_cell (k := 0) hR6 rfl
          obtain ⟨c1, f1⟩ := blk_cell (k := 1) hR6 rfl
          obtain ⟨c2, f2⟩ := blk_cell (k := 2) hR6 rfl
          obtain ⟨c3, f3⟩ := blk_cell (k := 3) hR6 rfl
          obtain ⟨c4, f4⟩ := blk_cell (k := 4) hR6 rfl
          obtain ⟨c5, f5⟩ := blk_cell (k := 5) hR6 rfl
          obtain ⟨c6, f6⟩ := blk_cell (k := 6) hR6 rfl
          obtain ⟨c7, f7⟩ := blk_cell (k := 7) hR6 rfl
          obtain ⟨c8, f8⟩ := blk_cell (k := 8) hR6 rfl
          simp only [List.getElem_toArray, List.getElem_cons_zero, List.getElem_cons_succ] at c0 c1 c2 c3 c4 c5 c6 c7 c8
          clear hR6
          go_wp2_with fail
          clear c0 c1 c2 c3 c4 c5 c6 c7 c8 f0 f1 f2 f3 f4 f5 f6 f7 f8
          change bodyPost _ _ _ _ _ (setP w6 (w.heap.size + 1) pz)
          generalize setP w6 (w.heap.size + 1) pz = w9 at h1 hF ⊢
          obtain ⟨c0, -⟩ := blk_cell (k := 0) h1 rfl
          obtain ⟨c1, -⟩ := blk_cell (k := 1) h1 rfl
          obtain ⟨c2, -⟩ := blk_cell (k := 2) h1 rfl
          obtain ⟨c3, -⟩ := blk_cell (k := 3) h1 rfl
          obtain ⟨c4, -⟩ := blk_cell (k := 4) h1 rfl
          obtain ⟨c5, -⟩ := blk_cell (k := 5) h1 rfl
          obtain ⟨c6, -⟩ := blk_cell (k := 6) h1 rfl
          obtain ⟨c7, -⟩ := blk_cell (k := 7) h1 rfl
          obtain ⟨c8, -⟩ := blk_cell (k := 8) h1 rfl
          simp only [List.getElem_toArray, List.getElem_cons_zero, List.getElem_cons_succ] at c0 c1 c2 c3 c4 c5 c6 c7 c8
          refine bodyPost_ret (v := resV pz false 0) (by simp [results, Try.results31, go_sem, resV, c0, c1, c2, c3, c4, c5, c6, c7, c8]) rfl ?_
          refine ⟨?_, ?_⟩
          · rw [← HQX.out]
            simp [pfV, pfW, pfE, HB'.out, HY.out, HCP.out]
          · rw [← HQX.out, ← HL4.out]
            simp only [pfX, HB'.out, HY.out, HCP.out, if_false, turnL, Bool.false_eq_true]
            exact hF
        | true =>
          go_upto_region 14 with fail
          have hlt6 := fun j hj => (HT6.out.lt j hj).2
          have hnd6 := HT6.out.nodup
          refine wp_region_noPanic ?_
          refine wp_region_held_drew (S := PS T mb w.heap.size p) (by kernel_rfl) (⟨(mb_of HT6.out).1, HP6.out⟩) (fun hHeld => ?_)
          first
            | (refine wpAnyH_take (i := 0) (oi := ⟨some 50, _, _, _, _, _⟩) (v := ?v0) rfl (by kernel_rfl) (by kernel_rfl) (by kernel_rfl) (fun _ _ _ h => h) (Or.inl ⟨by rfl, ?hy0⟩) hHeld ?rr0
               case hy0 => (intro w hSw; have x0 := hSw.x0; obtain ⟨b0, -⟩ := blk_cell (k := 0) hSw.box rfl; obtain ⟨b1, -⟩ := blk_cell (k := 1) hSw.box rfl; obtain ⟨b2, -⟩ := blk_cell (k := 2) hSw.box rfl; obtain ⟨b3, -⟩ := blk_cell (k := 3) hSw.box rfl; obtain ⟨b4, -⟩ := blk_cell (k := 4) hSw.box rfl; obtain ⟨b5, -⟩ := blk_cell (k := 5) hSw.box rfl; obtain ⟨b6, -⟩ := blk_cell (k := 6) hSw.box rfl; obtain ⟨b7, -⟩ := blk_cell (k := 7) hSw.box rfl; obtain ⟨b8, -⟩ := blk_cell (k := 8) hSw.box rfl; simp only [List.getElem_toArray, List.getElem_cons_zero, List.getElem_cons_succ] at b0 b1 b2 b3 b4 b5 b6 b7 b8; clear hSw; go_simp; try with_reducible rfl))
            | (refine wpAnyH_take (i := 0) (oi := ⟨some 50, _, _, _, _, _⟩) (v := undef) rfl (by kernel_rfl) (by kernel_rfl) (by kernel_rfl) (fun _ _ _ h => h) (Or.inr ⟨by rfl, rfl⟩) hHeld ?rr0)
          try simp only [Act.put, List.setIfInBounds_toArray, List.set_cons_zero, List.set_cons_succ]
          first
            | (refine wpAnyH_take (i := 1) (oi := ⟨some 51, _, _, _, _, _⟩) (v := ?v1) rfl (by kernel_rfl) (by kernel_rfl) (by kernel_rfl) (fun _ _ _ h => h) (Or.inl ⟨by rfl, ?hy1⟩) hHeld ?rr1
               case hy1 => (intro w hSw; have x0 := hSw.x0; obtain ⟨b0, -⟩ := blk_cell (k := 0) hSw.box rfl; obtain ⟨b1, -⟩ := blk_cell (k := 1) hSw.box rfl; obtain ⟨b2, -⟩ := blk_cell (k := 2) hSw.box rfl; obtain ⟨b3, -⟩ := blk_cell (k := 3) hSw.box rfl; obtain ⟨b4, -⟩ := blk_cell (k := 4) hSw.box rfl; obtain ⟨b5, -⟩ := blk_cell (k := 5) hSw.box rfl; obtain ⟨b6, -⟩ := blk_cell (k := 6) hSw.box rfl; obtain ⟨b7, -⟩ := blk_cell (k := 7) hSw.box rfl; obtain ⟨b8, -⟩ := blk_cell (k := 8) hSw.box rfl; simp only [List.getElem_toArray, List.getElem_cons_zero, List.getElem_cons_succ] at b0 b1 b2 b3 b4 b5 b6 b7 b8; clear hSw; go_simp; try with_reducible rfl))
            | (refine wpAnyH_take (i := 1) (oi := ⟨some 51, _, _, _, _, _⟩) (v := undef) rfl (by kernel_rfl) (by kernel_rfl) (by kernel_rfl) (fun _ _ _ h => h) (Or.inr ⟨by rfl, rfl⟩) hHeld ?rr1)
          try simp only [Act.put, List.setIfInBounds_toArray, List.set_cons_zero, List.set_cons_succ]
          first
            | (refine wpAnyH_take (i := 2) (oi := ⟨some 52, _, _, _, _, _⟩) (v := ?v2) rfl (by kernel_rfl) (by kernel_rfl) (by kernel_rfl) (fun _ _ _ h => h) (Or.inl ⟨by rfl, ?hy2⟩) hHeld ?rr2
               case hy2 => (intro w hSw; have x0 := hSw.x0; obtain ⟨b0, -⟩ := blk_cell (k := 0) hSw.box rfl; obtain ⟨b1, -⟩ := blk_cell (k := 1) hSw.box rfl; obtain ⟨b2, -⟩ := blk_cell (k := 2) hSw.box rfl; obtain ⟨b3, -⟩ := blk_cell (k := 3) hSw.box rfl; obtain ⟨b4, -⟩ := blk_cell (k := 4) hSw.box rfl; obtain ⟨b5, -⟩ := blk_cell (k := 5) hSw.box rfl; obtain ⟨b6, -⟩ := blk_cell (k := 6) hSw.box rfl; obtain ⟨b7, -⟩ := blk_cell (k := 7) hSw.box rfl; obtain ⟨b8, -⟩ := blk_cell (k := 8) hSw.box rfl; simp only [List.getElem_toArray, List.getElem_cons_zero, List.getElem_cons_succ] at b0 b1 b2 b3 b4 b5 b6 b7 b8; clear hSw; go_simp; try with_reducible rfl))
            | (refine wpAnyH_take (i := 2) (oi := ⟨some 52, _, _, _, _, _⟩) (v := undef) rfl (by kernel_rfl) (by kernel_rfl) (by kernel_rfl) (fun _ _ _ h => h) (Or.inr ⟨by rfl, rfl⟩) hHeld ?rr2)
          try simp only [Act.put, List.setIfInBounds_toArray, List.set_cons_zero, List.set_cons_succ]
          first
            | (refine wpAnyH_take (i := 3) (oi := ⟨some 53, _, _, _, _, _⟩) (v := ?v3) rfl (by kernel_rfl) (by kernel_rfl) (by kernel_rfl) (fun _ _ _ h => h) (Or.inl ⟨by rfl, ?hy3⟩) hHeld ?rr3
               case hy3 => (intro w hSw; have x0 := hSw.x0; obtain ⟨b0, -⟩ := blk_cell (k := 0) hSw.box rfl; obtain ⟨b1, -⟩ := blk_cell (k := 1) hSw.box rfl; obtain ⟨b2, -⟩ := blk_cell (k := 2) hSw.box rfl; obtain ⟨b3, -⟩ := blk_cell (k := 3) hSw.box rfl; obtain ⟨b4, -⟩ := blk_cell (k := 4) hSw.box rfl; obtain ⟨b5, -⟩ := blk_cell (k := 5) hSw.box rfl; obtain ⟨b6, -⟩ := blk_cell (k := 6) hSw.box rfl; obtain ⟨b7, -⟩ := blk_cell (k := 7) hSw.box rfl; obtain ⟨b8, -⟩ := blk_cell (k := 8) hSw.box rfl; simp only [List.getElem_toArray, List.getElem_cons_zero, List.getElem_cons_succ] at b0 b1 b2 b3 b4 b5 b6 b7 b8; clear hSw; go_simp; try with_reducible rfl))
            | (refine wpAnyH_take (i := 3) (oi := ⟨some 53, _, _, _, _, _⟩) (v := undef) rfl (by kernel_rfl) (by kernel_rfl) (by kernel_rfl) (fun _ _ _ h => h) (Or.inr ⟨by rfl, rfl⟩) hHeld ?rr3)
          try simp only [Act.put, List.setIfInBounds_toArray, List.set_cons_zero, List.set_cons_succ]
          first
            | (refine wpAnyH_take (i := 4) (oi := ⟨some 54, _, _, _, _, _⟩) (v := ?v4) rfl (by kernel_rfl) (by kernel_rfl) (by kernel_rfl) (fun _ _ _ h => h) (Or.inl ⟨by rfl, ?hy4⟩) hHeld ?rr4
               case hy4 => (intro w hSw; have x0 := hSw.x0; obtain ⟨b0, -⟩ := blk_cell (k := 0) hSw.box rfl; obtain ⟨b1, -⟩ := blk_cell (k := 1) hSw.box rfl; obtain ⟨b2, -⟩ := blk_cell (k := 2) hSw.box rfl; obtain ⟨b3, -⟩ := blk_cell (k := 3) hSw.box rfl; obtain ⟨b4, -⟩ := blk_cell (k := 4) hSw.box rfl; obtain ⟨b5, -⟩ := blk_cell (k := 5) hSw.box rfl; obtain ⟨b6, -⟩ := blk_cell (k := 6) hSw.box rfl; obtain ⟨b7, -⟩ := blk_cell (k := 7) hSw.box rfl; obtain ⟨b8, -⟩ := blk_cell (k := 8) hSw.box rfl; simp only [List.getElem_toArray, List.getElem_cons_zero, List.getElem_cons_succ] at b0 b1 b2 b3 b4 b5 b6 b7 b8; clear hSw; go_simp; try with_reducible rfl))
            | (refine wpAnyH_take (i := 4) (oi := ⟨some 54, _, _, _, _, _⟩) (v := undef) rfl (by kernel_rfl) (by kernel_rfl) (by kernel_rfl) (fun _ _ _ h => h) (Or.inr ⟨by rfl, rfl⟩) hHeld ?rr4)
          try simp only [Act.put, List.setIfInBounds_toArray, List.set_cons_zero, List.set_cons_succ]
          refine wpAnyH_ready (rs := [5]) (by kernel_rfl) (by simp) ?_
          refine AllReadyH.cons (o := ⟨some 55, _, _, _, _, _⟩) rfl (fun K hK => ?_) AllReadyH.nil
          go_simp
          refine (key_any p _).mono ?_
          rintro e w8 ⟨rfl, hb8⟩
          refine hK.out _ _ (⟨(hb8.cell (p := ⟨T, 0, none⟩) (World.block_lt_of_cell? _ _ hHeld.x0)).trans hHeld.x0, blk_below hHeld.box hb8 (blk_lt hHeld.box)⟩) (fun hHeld2 => ?_)
          clear hK K hHeld
          have hHeld := hHeld2
          clear hHeld2
          try simp only [Act.put, List.setIfInBounds_toArray, List.set_cons_zero, List.set_cons_succ]
          refine wpAnyH_ready (rs := [6]) (by kernel_rfl) (by simp) ?_
          refine AllReadyH.cons (o := ⟨none, _, _, _, _, _⟩) rfl (fun K hK => ?_) AllReadyH.nil
          have hT8 := HT6.out.below (Below.trans (Below.drew (Below.refl _ w6)) hb8)
          obtain ⟨w9, hdel, hown9, hturn⟩ := hT8.map.drop lawK Try.underlying84 (keyK hk) 0
          have hg9 := hturn.grown
          have hTm : some T ≠ some mb := fun e => by cases e; exact (List.nodup_cons.1 hT8.nodup).1 (by simp)
          have hPm : some w.heap.size ≠ some mb := fun e => by cases e; have := (HLT0.out w.heap.size (by simp)).2; omega
          have hS9 : PS T mb w.heap.size p w9 := ⟨hg9.cell hHeld.x0 hTm, (hg9.block _ (blk_lt hHeld.box) hPm).trans hHeld.box⟩
          have hT9 := hT8.del (kyOf p) hk ⟨_, hown9⟩ hg9
          have HT9 := Lib.hid hT9
          have HG9 := Lib.hid hg9
          have HTU := Lib.hid hb8
          clear hT9 hT8 hown9 hturn hg9 hTm hPm
          go_simp
          refine hK.out _ _ (hS9) (fun hHeld2 => ?_)
          clear hK K hHeld
          have hHeld := hHeld2
          clear hHeld2
          try simp only [Act.put, List.setIfInBounds_toArray, List.set_cons_zero, List.set_cons_succ]
          refine wpAnyH_done (by kernel_rfl) ?_ _
          refine NoPanic.normal ?_
          have hb68 := Below.trans (Below.drew (Below.refl _ w6)) HTU.out
          have hE8 := HE6.out.below hb68
          have hmbq : ∀ j ∈ allB (A ++ (⟨y, q.b, tv, rv⟩ : PE) :: C), some j ≠ some mb := fun j hj e => by
            cases e
            exact (List.nodup_cons.1 (List.nodup_cons.1 hnd6).2).1 hj
          have hE9 : EntAt w9 base ⟨y, q.b, tv, rv⟩ := hE8.kept (fun j hj => HG9.out.block j (hE8.lt j hj).2 (hmbq j (mem_allB (by simp) hj)))
          have hR8 := blk_below HR6.out hb68 (blk_lt HR6.out)
          have hR9 := (HG9.out.block _ (blk_lt hR8) (fun e => by cases e; have := (HLT0.out (w.heap.size + 1) (by simp)).2; omega)).trans hR8
          have ht9 : Touch (fun j => j ∈ T :: mb :: allB R) w w9 := (HT6w.out.trans (Touch.of (S := fun j => j ∈ T :: mb :: allB R) hb68) (fun j hj => .inl hj)).trans (Touch.grown (S := fun j => j ∈ T :: mb :: allB R) HG9.out (fun j e => by cases e; simp)) (fun j hj => .inl hj)
          have hbl9 : ∀ j ∈ allB (dropP (A ++ (⟨y, q.b, tv, rv⟩ : PE) :: C) (kyOf p)), j ∈ allB R ∨ (w.heap.size ≤ j ∧ j ≠ w.heap.size ∧ j ≠ w.heap.size + 1) := fun j hj => HBL6.out j ((allB_sub List.filter_sublist).subset hj)
          have HE9 := Lib.hid hE9
          have HR9 := Lib.hid hR9
          have HTt := Lib.hid ht9
          have HBL9 := Lib.hid hbl9
          clear hb68 hE8 hmbq hE9 hR8 hR9 ht9 hbl9 hHeld hdel hS9 hlt6 hnd6
          go_wp2_with fail
          have HWH := whole_any HE9.out
          unfold ptr at HWH
          refine HWH.mono ?_
          rintro e w10 ⟨rfl, hb10⟩
          have hT10 := HT9.out.below hb10
          have hR10 := blk_below HR9.out hb10 (blk_lt HR9.out)
          have ht10 := HTt.out.trans (Touch.of (S := fun j => j ∈ T :: mb :: allB R) hb10) (fun j hj => .inl hj)
          have hF := fin_tab hT10 HBL9.out HLT0.out ht10 (wholeD y)
          have h1 := setP_blk hR10 (wholeD y)
          rw [dropP_map, HSET.out] at hF
          have hdd : dropL (setL ((A ++ q :: C).map (·.x)) (kyOf p) y) (kyOf p) = dropL ((A ++ q :: C).map (·.x)) (kyOf p) := by
            rw [dropL, dropL, setL, List.filter_map]
            induction (A ++ q :: C).map (·.x) with
            | nil => rfl
            | cons z r ih =>
              simp only [List.filter_cons, Function.comp_apply]
              by_cases hz : z.k = kyOf p
              · simp only [hz, if_true, hyk2, decide_true, Bool.not_true, Bool.false_eq_true, if_false]
                exact ih
              · simp only [hz, if_false, decide_false, Bool.not_false, if_true, List.map_cons]
                rw [ih]
          rw [hdd] at hF
          obtain ⟨c0, f0⟩ := blk_cell (k := 0) hR10 rfl
          obtain ⟨c1, f1⟩ := blk_cell (k := 1) hR10 rfl
          obtain ⟨c2, f2⟩ := blk_cell (k := 2) hR10 rfl
          obtain ⟨c3, f3⟩ := blk_cell (k := 3) hR10 rfl
          obtain ⟨c4, f4⟩ := blk_cell (k := 4) hR10 rfl
          obtain ⟨c5, f5⟩ := blk_cell (k := 5) hR10 rfl
          obtain ⟨c6, f6⟩ := blk_cell (k := 6) hR10 rfl
          obtain ⟨c7, f7⟩ := blk_cell (k := 7) hR10 rfl
          obtain ⟨c8, f8⟩ := blk_cell (k := 8) hR10 rfl
          simp only [List.getElem_toArray, List.getElem_cons_zero, List.getElem_cons_succ] at c0 c1 c2 c3 c4 c5 c6 c7 c8
          obtain ⟨W, hW⟩ : ∃ W, wholeD y = W := ⟨_, rfl⟩
          have HWW := Lib.hid hW
          rw [hW] at hF h1 ⊢
          have HWH := Lib.hid HWH
          clear hT10 hR10 ht10 hdd hb10 hW HWH
          go_wp2_with fail
          clear c0 c1 c2 c3 c4 c5 c6 c7 c8 f0 f1 f2 f3 f4 f5 f6 f7 f8
          change bodyPost _ _ _ _ _ (setP w10 (w.heap.size + 1) W)
          generalize setP w10 (w.heap.size + 1) W = w9 at h1 hF ⊢
          obtain ⟨c0, -⟩ := blk_cell (k := 0) h1 rfl
          obtain ⟨c1, -⟩ := blk_cell (k := 1) h1 rfl
          obtain ⟨c2, -⟩ := blk_cell (k := 2) h1 rfl
          obtain ⟨c3, -⟩ := blk_cell (k := 3) h1 rfl
          obtain ⟨c4, -⟩ := blk_cell (k := 4) h1 rfl
          obtain ⟨c5, -⟩ := blk_cell (k := 5) h1 rfl
          obtain ⟨c6, -⟩ := blk_cell (k := 6) h1 rfl
          obtain ⟨c7, -⟩ := blk_cell (k := 7) h1 rfl
          obtain ⟨c8, -⟩ := blk_cell (k := 8) h1 rfl
          simp only [List.getElem_toArray, List.getElem_cons_zero, List.getElem_cons_succ] at c0 c1 c2 c3 c4 c5 c6 c7 c8
          refine bodyPost_ret (v := resV W true 0) (by simp [results, Try.results31, go_sem, resV, c0, c1, c2, c3, c4, c5, c6, c7, c8]) rfl ?_
          refine ⟨?_, ?_⟩
          · rw [← HQX.out]
            simp [pfV, pfW, pfE, HB'.out, HY.out, HCP.out, HWW.out]
          · rw [← HQX.out, ← HL4.out]
            simp only [pfX, HB'.out, HY.out, HCP.out, if_false, if_true, turnL, Bool.false_eq_true]
            exact hF
end Go.Proofs.Ytecboengeheapaa
