/- Contract of store: a fragment that does not conflict is added. -/
import Derived.Test.YtecboengeheapaaRtE0
namespace Go.Proofs.Ytecboengeheapaa
open Go.RowKit
set_option linter.unusedVariables false
attribute [local go_sem] Oper.semAt_some

set_option maxRecDepth 20000 in
set_option maxHeartbeats 3200000 in
theorem store_any {w : World} {base : Nat} {p : PE} (h : EntAt w base p) (hnd : p.blks.Nodup) (hbase : base ≤ w.heap.size) (pk : Pk) (ho : 0 ≤ pk.off) (hs0 : 0 < pk.s.size) (hs : pk.off + (pk.s.size : Int) ≤ 4000) :
    Calls Try.prog 54 #[ptr p.b, pv pk] w fun e w' => e = .returned (.tuple #[]) ∧ ∃ tv rv, EntAt w' base ⟨storeD p.x pk, p.b, tv, rv⟩ ∧ (PE.blks ⟨storeD p.x pk, p.b, tv, rv⟩).Nodup ∧
      (∀ k ∈ PE.blks ⟨storeD p.x pk, p.b, tv, rv⟩, k ∈ p.blks ∨ w.heap.size ≤ k) ∧ Touch (fun k => k ∈ p.blks) w w' := by
  have hb0 : Below w.heap.size w (w.alloc (po pk)) := (Below.refl _ w).alloc (Nat.le_refl _) _
  have h0 := h.below hb0
  have hS : SI w base p w.heap.size pk p.x p.tv p.rv (w.alloc (po pk)) := ⟨h0.low, h0.blk, h0.txt, h0.rcv, blk_new w (po pk), List.nodup_cons.2 ⟨fun hk => by have := (h.lt _ hk).2; omega, hnd⟩, fun k hk => .inl hk, Touch.of hb0⟩
  have hlen := h.len
  obtain ⟨off, hoff⟩ : ∃ off : Nat, pk.off = (off : Int) := ⟨pk.off.toNat, by omega⟩
  obtain ⟨bg, hbg⟩ : ∃ bg, begun p.x = bg := ⟨_, rfl⟩
  have HS := Lib.hid hS
  have HOFF := Lib.hid hoff
  clear hoff
  have HB := Lib.hid (begun_any h0.blk)
  rw [hbg] at HB
  have H := Lib.hid h
  clear h h0 hS
  unfold ptr
  go_enter Try.func54, Try.ntmps54
  go_upto_region 1 with fail
  go_cut [13] (fun v wx => v = .bool (decide (off = 0) && !bg) ∧ w.alloc (po pk) = wx)
  case first =>
    have cp7 := (blk_cell (k := 7) HS.out.box rfl).1
    simp only [List.getElem_toArray, List.getElem_cons_zero, List.getElem_cons_succ] at cp7
    by_cases hz : pk.off = 0
    · have hz' : (pk.off = 0) = True := eq_true hz
      have hd : decide (off = 0) = true := decide_eq_true (by have := HOFF.out; omega)
      have HD := Lib.hid hd
      clear hd hz
      go_wp2_with fail
      refine HB.out.mono ?_
      rintro e w2 ⟨rfl, rfl⟩
      go_wp2
      go_meet
      exact ⟨by rw [HD.out]; simp [hz'], rfl⟩
    · have hz' : (pk.off = 0) = False := eq_false hz
      have hd : decide (off = 0) = false := decide_eq_false (by have := HOFF.out; omega)
      have HD := Lib.hid hd
      clear hd hz
      go_wp2_with fail
      go_meet
      exact ⟨by rw [HD.out]; simp, rfl⟩
  case rest =>
    obtain ⟨rfl, rfl⟩ := hcut
    clear HB
    generalize w.alloc (po pk) = w1 at HS ⊢
    obtain ⟨c, hc⟩ : ∃ c, (decide (off = 0) && !bg) = c := ⟨_, rfl⟩
    rw [hc]
    have hfs : fst1 p.x pk = if c = true then pk else p.x.fst := by
      unfold fst1
      rw [hbg, ← hc, HOFF.out]
      by_cases h1 : off = 0 <;> cases bg <;> simp [h1]
    have HFS := Lib.hid hfs
    clear hfs hc hbg
    go_upto_if 13 with fail
    go_cut [13] (fun v wx => v = .bool c ∧ SI w base p w.heap.size pk { p.x with fst := fst1 p.x pk } p.tv p.rv wx)
    case first =>
      cases c with
      | true =>
        have hf2 : fst1 p.x pk = pk := by rw [HFS.out]; rfl
        have hdb := HS.out.blk
        obtain ⟨d3, e3⟩ := blk_cell (k := 3) hdb rfl
        obtain ⟨d4, e4⟩ := blk_cell (k := 4) hdb rfl
        obtain ⟨d5, e5⟩ := blk_cell (k := 5) hdb rfl
        obtain ⟨d6, e6⟩ := blk_cell (k := 6) hdb rfl
        obtain ⟨d7, e7⟩ := blk_cell (k := 7) hdb rfl
        obtain ⟨d8, e8⟩ := blk_cell (k := 8) hdb rfl
        obtain ⟨d9, e9⟩ := blk_cell (k := 9) hdb rfl
        obtain ⟨d10, e10⟩ := blk_cell (k := 10) hdb rfl
        obtain ⟨d11, e11⟩ := blk_cell (k := 11) hdb rfl
        obtain ⟨b0, -⟩ := blk_cell (k := 0) HS.out.box rfl
        obtain ⟨b1, -⟩ := blk_cell (k := 1) HS.out.box rfl
        obtain ⟨b2, -⟩ := blk_cell (k := 2) HS.out.box rfl
        obtain ⟨b3, -⟩ := blk_cell (k := 3) HS.out.box rfl
        obtain ⟨b4, -⟩ := blk_cell (k := 4) HS.out.box rfl
        obtain ⟨b5, -⟩ := blk_cell (k := 5) HS.out.box rfl
        obtain ⟨b6, -⟩ := blk_cell (k := 6) HS.out.box rfl
        obtain ⟨b7, -⟩ := blk_cell (k := 7) HS.out.box rfl
        obtain ⟨b8, -⟩ := blk_cell (k := 8) HS.out.box rfl
        simp only [List.getElem_toArray, List.getElem_cons_zero, List.getElem_cons_succ] at d3 d4 d5 d6 d7 d8 d9 d10 d11 b0 b1 b2 b3 b4 b5 b6 b7 b8
        have HF2 := Lib.hid hf2
        have HDB := Lib.hid hdb
        clear hf2 hdb
        go_wp2_with fail
        clear d3 e3 d4 e4 d5 e5 d6 e6 d7 e7 d8 e8 d9 e9 d10 e10 d11 e11 b0 b1 b2 b3 b4 b5 b6 b7 b8
        have g3 := blk_setc (k := 3) HDB.out (.int .i64 pk.fr)
        have g4 := blk_setc (k := 4) g3 (.int .i64 pk.to)
        have g5 := blk_setc (k := 5) g4 (.int .i64 pk.pr)
        have g6 := blk_setc (k := 6) g5 (.int .i64 pk.tt)
        have g7 := blk_setc (k := 7) g6 (.int .i64 pk.id)
        have g8 := blk_setc (k := 8) g7 (.bool pk.df)
        have g9 := blk_setc (k := 9) g8 (.bool pk.mf)
        have g10 := blk_setc (k := 10) g9 (.int .i64 pk.off)
        have g11 := blk_setc (k := 11) g10 (.string pk.s)
        simp only [List.setIfInBounds_toArray, List.set_cons_zero, List.set_cons_succ] at g11
        have t3 := Touch.setc (Touch.of (S := fun k => k = p.b) (Below.refl _ w1)) (a := ⟨p.b, 3, none⟩) (.int .i64 pk.fr) rfl
        have t4 := Touch.setc (t3) (a := ⟨p.b, 4, none⟩) (.int .i64 pk.to) rfl
        have t5 := Touch.setc (t4) (a := ⟨p.b, 5, none⟩) (.int .i64 pk.pr) rfl
        have t6 := Touch.setc (t5) (a := ⟨p.b, 6, none⟩) (.int .i64 pk.tt) rfl
        have t7 := Touch.setc (t6) (a := ⟨p.b, 7, none⟩) (.int .i64 pk.id) rfl
        have t8 := Touch.setc (t7) (a := ⟨p.b, 8, none⟩) (.bool pk.df) rfl
        have t9 := Touch.setc (t8) (a := ⟨p.b, 9, none⟩) (.bool pk.mf) rfl
        have t10 := Touch.setc (t9) (a := ⟨p.b, 10, none⟩) (.int .i64 pk.off) rfl
        have t11 := Touch.setc (t10) (a := ⟨p.b, 11, none⟩) (.string pk.s) rfl
        go_meet
        refine ⟨rfl, HS.out.setb t11 ?_ rfl rfl⟩
        rw [HF2.out]
        exact g11
      | false =>
        have hf2 : fst1 p.x pk = p.x.fst := by rw [HFS.out]; rfl
        have HF2 := Lib.hid hf2
        clear hf2
        go_wp2_with fail
        go_meet
        refine ⟨rfl, HS.out.setb (Touch.of (Below.refl _ w1)) ?_ rfl rfl⟩
        rw [HF2.out]
        exact HS.out.blk
    case rest =>
      obtain ⟨rfl, hS1⟩ := hcut
      have HS1 := Lib.hid hS1
      clear hS1 HS HFS
      generalize HX1 : { p.x with fst := fst1 p.x pk } = x1 at HS1
      have ex1 : x1.txt = p.x.txt ∧ x1.rcv = p.x.rcv ∧ x1.fin = p.x.fin := by rw [← HX1]; exact ⟨rfl, rfl, rfl⟩
      have EX1 := Lib.hid ex1
      have HX := Lib.hid HX1
      clear ex1 HX1
      obtain ⟨fin, hfin⟩ : ∃ fin, x1.fin = fin := ⟨_, rfl⟩
      obtain ⟨mf, hmf⟩ : ∃ mf, pk.mf = mf := ⟨_, rfl⟩
      have HFIN := Lib.hid hfin
      have HMF := Lib.hid hmf
      clear hfin hmf
      go_upto_region 3 with fail
      go_cut [13] (fun v wx2 => v = .bool c ∧ SI w base p w.heap.size pk { x1 with fin := fin || !mf } p.tv p.rv wx2)
      case first =>
        obtain ⟨d14, f14⟩ := blk_cell (k := 14) HS1.out.blk rfl
        obtain ⟨b6, -⟩ := blk_cell (k := 6) HS1.out.box rfl
        simp only [List.getElem_toArray, List.getElem_cons_zero, List.getElem_cons_succ] at d14 b6
        have hbase1 := HS1.out
        have HBS := Lib.hid hbase1
        clear hbase1
        rw [HFIN.out] at d14
        rw [HMF.out] at b6
        clear HFIN HMF
        cases fin <;> cases mf
        all_goals go_wp2
        all_goals go_meet
        all_goals refine ⟨rfl, HBS.out.setb (Touch.setc (Touch.of (S := fun k => k = p.b) (Below.refl _ _)) _ rfl) ?_ rfl rfl⟩
        all_goals have g := blk_setc (k := 14) HBS.out.blk
        all_goals (refine (g _).trans ?_; simp)
      case rest =>
        obtain ⟨rfl, hS2⟩ := hcut
        have HS2 := Lib.hid hS2
        clear hS2 HS1
        generalize HX2 : { x1 with fin := fin || !mf } = x2 at HS2
        have ex2 : x2.txt = p.x.txt ∧ x2.rcv = p.x.rcv := by rw [← HX2]; exact ⟨EX1.out.1, EX1.out.2.1⟩
        have EX2 := Lib.hid ex2
        have HXX2 := Lib.hid HX2
        obtain ⟨m, hm⟩ : ∃ m, p.x.txt.length = m := ⟨_, rfl⟩
        obtain ⟨n, hn⟩ : ∃ n, endN pk = n := ⟨_, rfl⟩
        have hen : pk.off + (pk.s.size : Int) = (n : Int) := by rw [← hn]; unfold endN; have := HOFF.out; omega
        have hn4 : n ≤ 4000 := by omega
        have hm4 : m ≤ 4000 := by omega
        have hE := end_any pk ho (by omega) (by omega)
        rw [hen] at hE
        have HE := Lib.hid hE
        have HEN := Lib.hid hen
        have htx := HS2.out.txt
        rw [ex2.1, hm] at htx
        obtain ⟨q2, c2, hq2, -⟩ := row_shp htx
        have HTV := Lib.hid hq2
        have HM := Lib.hid hm
        have HN := Lib.hid hn
        have hwd : IntKind.i64.wrap ((n : Int) - (m : Int)) = (n : Int) - (m : Int) := IntWalk.i64_in _ (by omega)
        clear hE hen htx hq2 ex2 HX2 hm hn EX1
        go_upto_region 4 with fail
        go_cut [4] (fun v wx => v = .int .i64 ((n : Int) - (m : Int)) ∧ SI w base p w.heap.size pk x2 p.tv p.rv wx)
        case first =>
          refine wp_region_noPanic ?_
          refine wp_region_held_drew (S := SI w base p w.heap.size pk x2 p.tv p.rv) (by kernel_rfl) (HS2.out.drew) (fun hHeld => ?_)
          first
            | (refine wpAnyH_take (i := 0) (oi := ⟨some 30, _, _, _, _, _⟩) (v := ?v0) rfl (by kernel_rfl) (by kernel_rfl) (by kernel_rfl) (fun _ _ _ h => h) (Or.inl ⟨by rfl, ?hy0⟩) hHeld ?rr0
               case hy0 => (intro w hSw; obtain ⟨b0, -⟩ := blk_cell (k := 0) hSw.box rfl; obtain ⟨b1, -⟩ := blk_cell (k := 1) hSw.box rfl; obtain ⟨b2, -⟩ := blk_cell (k := 2) hSw.box rfl; obtain ⟨b3, -⟩ := blk_cell (k := 3) hSw.box rfl; obtain ⟨b4, -⟩ := blk_cell (k := 4) hSw.box rfl; obtain ⟨b5, -⟩ := blk_cell (k := 5) hSw.box rfl; obtain ⟨b6, -⟩ := blk_cell (k := 6) hSw.box rfl; obtain ⟨b7, -⟩ := blk_cell (k := 7) hSw.box rfl; obtain ⟨b8, -⟩ := blk_cell (k := 8) hSw.box rfl; obtain ⟨b12, -⟩ := blk_cell (k := 12) hSw.blk rfl; simp only [List.getElem_toArray, List.getElem_cons_zero, List.getElem_cons_succ] at b0 b1 b2 b3 b4 b5 b6 b7 b8 b12; rw [HTV.out] at b12; clear hSw; go_simp; try with_reducible rfl))
            | (refine wpAnyH_take (i := 0) (oi := ⟨some 30, _, _, _, _, _⟩) (v := undef) rfl (by kernel_rfl) (by kernel_rfl) (by kernel_rfl) (fun _ _ _ h => h) (Or.inr ⟨by rfl, rfl⟩) hHeld ?rr0)
          try simp only [Act.put, List.setIfInBounds_toArray, List.set_cons_zero, List.set_cons_succ]
          first
            | (refine wpAnyH_take (i := 2) (oi := ⟨some 32, _, _, _, _, _⟩) (v := ?v2) rfl (by kernel_rfl) (by kernel_rfl) (by kernel_rfl) (fun _ _ _ h => h) (Or.inl ⟨by rfl, ?hy2⟩) hHeld ?rr2
               case hy2 => (intro w hSw; obtain ⟨b0, -⟩ := blk_cell (k := 0) hSw.box rfl; obtain ⟨b1, -⟩ := blk_cell (k := 1) hSw.box rfl; obtain ⟨b2, -⟩ := blk_cell (k := 2) hSw.box rfl; obtain ⟨b3, -⟩ := blk_cell (k := 3) hSw.box rfl; obtain ⟨b4, -⟩ := blk_cell (k := 4) hSw.box rfl; obtain ⟨b5, -⟩ := blk_cell (k := 5) hSw.box rfl; obtain ⟨b6, -⟩ := blk_cell (k := 6) hSw.box rfl; obtain ⟨b7, -⟩ := blk_cell (k := 7) hSw.box rfl; obtain ⟨b8, -⟩ := blk_cell (k := 8) hSw.box rfl; obtain ⟨b12, -⟩ := blk_cell (k := 12) hSw.blk rfl; simp only [List.getElem_toArray, List.getElem_cons_zero, List.getElem_cons_succ] at b0 b1 b2 b3 b4 b5 b6 b7 b8 b12; rw [HTV.out] at b12; clear hSw; go_simp; try with_reducible rfl))
            | (refine wpAnyH_take (i := 2) (oi := ⟨some 32, _, _, _, _, _⟩) (v := undef) rfl (by kernel_rfl) (by kernel_rfl) (by kernel_rfl) (fun _ _ _ h => h) (Or.inr ⟨by rfl, rfl⟩) hHeld ?rr2)
          try simp only [Act.put, List.setIfInBounds_toArray, List.set_cons_zero, List.set_cons_succ]
          first
            | (refine wpAnyH_take (i := 3) (oi := ⟨some 33, _, _, _, _, _⟩) (v := ?v3) rfl (by kernel_rfl) (by kernel_rfl) (by kernel_rfl) (fun _ _ _ h => h) (Or.inl ⟨by rfl, ?hy3⟩) hHeld ?rr3
               case hy3 => (intro w hSw; obtain ⟨b0, -⟩ := blk_cell (k := 0) hSw.box rfl; obtain ⟨b1, -⟩ := blk_cell (k := 1) hSw.box rfl; obtain ⟨b2, -⟩ := blk_cell (k := 2) hSw.box rfl; obtain ⟨b3, -⟩ := blk_cell (k := 3) hSw.box rfl; obtain ⟨b4, -⟩ := blk_cell (k := 4) hSw.box rfl; obtain ⟨b5, -⟩ := blk_cell (k := 5) hSw.box rfl; obtain ⟨b6, -⟩ := blk_cell (k := 6) hSw.box rfl; obtain ⟨b7, -⟩ := blk_cell (k := 7) hSw.box rfl; obtain ⟨b8, -⟩ := blk_cell (k := 8) hSw.box rfl; obtain ⟨b12, -⟩ := blk_cell (k := 12) hSw.blk rfl; simp only [List.getElem_toArray, List.getElem_cons_zero, List.getElem_cons_succ] at b0 b1 b2 b3 b4 b5 b6 b7 b8 b12; rw [HTV.out] at b12; clear hSw; go_simp; try with_reducible rfl))
            | (refine wpAnyH_take (i := 3) (oi := ⟨some 33, _, _, _, _, _⟩) (v := undef) rfl (by kernel_rfl) (by kernel_rfl) (by kernel_rfl) (fun _ _ _ h => h) (Or.inr ⟨by rfl, rfl⟩) hHeld ?rr3)
          try simp only [Act.put, List.setIfInBounds_toArray, List.set_cons_zero, List.set_cons_succ]
          first
            | (refine wpAnyH_take (i := 4) (oi := ⟨some 34, _, _, _, _, _⟩) (v := ?v4) rfl (by kernel_rfl) (by kernel_rfl) (by kernel_rfl) (fun _ _ _ h => h) (Or.inl ⟨by rfl, ?hy4⟩) hHeld ?rr4
               case hy4 => (intro w hSw; obtain ⟨b0, -⟩ := blk_cell (k := 0) hSw.box rfl; obtain ⟨b1, -⟩ := blk_cell (k := 1) hSw.box rfl; obtain ⟨b2, -⟩ := blk_cell (k := 2) hSw.box rfl; obtain ⟨b3, -⟩ := blk_cell (k := 3) hSw.box rfl; obtain ⟨b4, -⟩ := blk_cell (k := 4) hSw.box rfl; obtain ⟨b5, -⟩ := blk_cell (k := 5) hSw.box rfl; obtain ⟨b6, -⟩ := blk_cell (k := 6) hSw.box rfl; obtain ⟨b7, -⟩ := blk_cell (k := 7) hSw.box rfl; obtain ⟨b8, -⟩ := blk_cell (k := 8) hSw.box rfl; obtain ⟨b12, -⟩ := blk_cell (k := 12) hSw.blk rfl; simp only [List.getElem_toArray, List.getElem_cons_zero, List.getElem_cons_succ] at b0 b1 b2 b3 b4 b5 b6 b7 b8 b12; rw [HTV.out] at b12; clear hSw; go_simp; try with_reducible rfl))
            | (refine wpAnyH_take (i := 4) (oi := ⟨some 34, _, _, _, _, _⟩) (v := undef) rfl (by kernel_rfl) (by kernel_rfl) (by kernel_rfl) (fun _ _ _ h => h) (Or.inr ⟨by rfl, rfl⟩) hHeld ?rr4)
          try simp only [Act.put, List.setIfInBounds_toArray, List.set_cons_zero, List.set_cons_succ]
          first
            | (refine wpAnyH_take (i := 5) (oi := ⟨some 35, _, _, _, _, _⟩) (v := ?v5) rfl (by kernel_rfl) (by kernel_rfl) (by kernel_rfl) (fun _ _ _ h => h) (Or.inl ⟨by rfl, ?hy5⟩) hHeld ?rr5
               case hy5 => (intro w hSw; obtain ⟨b0, -⟩ := blk_cell (k := 0) hSw.box rfl; obtain ⟨b1, -⟩ := blk_cell (k := 1) hSw.box rfl; obtain ⟨b2, -⟩ := blk_cell (k := 2) hSw.box rfl; obtain ⟨b3, -⟩ := blk_cell (k := 3) hSw.box rfl; obtain ⟨b4, -⟩ := blk_cell (k := 4) hSw.box rfl; obtain ⟨b5, -⟩ := blk_cell (k := 5) hSw.box rfl; obtain ⟨b6, -⟩ := blk_cell (k := 6) hSw.box rfl; obtain ⟨b7, -⟩ := blk_cell (k := 7) hSw.box rfl; obtain ⟨b8, -⟩ := blk_cell (k := 8) hSw.box rfl; obtain ⟨b12, -⟩ := blk_cell (k := 12) hSw.blk rfl; simp only [List.getElem_toArray, List.getElem_cons_zero, List.getElem_cons_succ] at b0 b1 b2 b3 b4 b5 b6 b7 b8 b12; rw [HTV.out] at b12; clear hSw; go_simp; try with_reducible rfl))
            | (refine wpAnyH_take (i := 5) (oi := ⟨some 35, _, _, _, _, _⟩) (v := undef) rfl (by kernel_rfl) (by kernel_rfl) (by kernel_rfl) (fun _ _ _ h => h) (Or.inr ⟨by rfl, rfl⟩) hHeld ?rr5)
          try simp only [Act.put, List.setIfInBounds_toArray, List.set_cons_zero, List.set_cons_succ]
          first
            | (refine wpAnyH_take (i := 6) (oi := ⟨some 36, _, _, _, _, _⟩) (v := ?v6) rfl (by kernel_rfl) (by kernel_rfl) (by kernel_rfl) (fun _ _ _ h => h) (Or.inl ⟨by rfl, ?hy6⟩) hHeld ?rr6
               case hy6 => (intro w hSw; obtain ⟨b0, -⟩ := blk_cell (k := 0) hSw.box rfl; obtain ⟨b1, -⟩ := blk_cell (k := 1) hSw.box rfl; obtain ⟨b2, -⟩ := blk_cell (k := 2) hSw.box rfl; obtain ⟨b3, -⟩ := blk_cell (k := 3) hSw.box rfl; obtain ⟨b4, -⟩ := blk_cell (k := 4) hSw.box rfl; obtain ⟨b5, -⟩ := blk_cell (k := 5) hSw.box rfl; obtain ⟨b6, -⟩ := blk_cell (k := 6) hSw.box rfl; obtain ⟨b7, -⟩ := blk_cell (k := 7) hSw.box rfl; obtain ⟨b8, -⟩ := blk_cell (k := 8) hSw.box rfl; obtain ⟨b12, -⟩ := blk_cell (k := 12) hSw.blk rfl; simp only [List.getElem_toArray, List.getElem_cons_zero, List.getElem_cons_succ] at b0 b1 b2 b3 b4 b5 b6 b7 b8 b12; rw [HTV.out] at b12; clear hSw; go_simp; try with_reducible rfl))
            | (refine wpAnyH_take (i := 6) (oi := ⟨some 36, _, _, _, _, _⟩) (v := undef) rfl (by kernel_rfl) (by kernel_rfl) (by kernel_rfl) (fun _ _ _ h => h) (Or.inr ⟨by rfl, rfl⟩) hHeld ?rr6)
          try simp only [Act.put, List.setIfInBounds_toArray, List.set_cons_zero, List.set_cons_succ]
          refine wpAnyH_ready (rs := [1]) (by kernel_rfl) (by simp) ?_
          refine AllReadyH.cons (o := ⟨some 31, _, _, _, _, _⟩) rfl (fun K hK => ?_) AllReadyH.nil
          go_simp
          refine (HE.out _).mono ?_
          rintro e w5 ⟨rfl, hb5⟩
          refine hK.out _ _ (hHeld.below hb5) (fun hHeld2 => ?_)
          clear hK K hHeld
          have hHeld := hHeld2
          clear hHeld2
          try simp only [Act.put, List.setIfInBounds_toArray, List.set_cons_zero, List.set_cons_succ]
          first
            | (refine wpAnyH_take (i := 7) (oi := ⟨some 37, _, _, _, _, _⟩) (v := ?v7) rfl (by kernel_rfl) (by kernel_rfl) (by kernel_rfl) (fun _ _ _ h => h) (Or.inl ⟨by rfl, ?hy7⟩) hHeld ?rr7
               case hy7 => (intro w hSw; obtain ⟨b0, -⟩ := blk_cell (k := 0) hSw.box rfl; obtain ⟨b1, -⟩ := blk_cell (k := 1) hSw.box rfl; obtain ⟨b2, -⟩ := blk_cell (k := 2) hSw.box rfl; obtain ⟨b3, -⟩ := blk_cell (k := 3) hSw.box rfl; obtain ⟨b4, -⟩ := blk_cell (k := 4) hSw.box rfl; obtain ⟨b5, -⟩ := blk_cell (k := 5) hSw.box rfl; obtain ⟨b6, -⟩ := blk_cell (k := 6) hSw.box rfl; obtain ⟨b7, -⟩ := blk_cell (k := 7) hSw.box rfl; obtain ⟨b8, -⟩ := blk_cell (k := 8) hSw.box rfl; obtain ⟨b12, -⟩ := blk_cell (k := 12) hSw.blk rfl; simp only [List.getElem_toArray, List.getElem_cons_zero, List.getElem_cons_succ] at b0 b1 b2 b3 b4 b5 b6 b7 b8 b12; rw [HTV.out] at b12; clear hSw; go_simp; try with_reducible rfl))
            | (refine wpAnyH_take (i := 7) (oi := ⟨some 37, _, _, _, _, _⟩) (v := undef) rfl (by kernel_rfl) (by kernel_rfl) (by kernel_rfl) (fun _ _ _ h => h) (Or.inr ⟨by rfl, rfl⟩) hHeld ?rr7)
          try simp only [Act.put, List.setIfInBounds_toArray, List.set_cons_zero, List.set_cons_succ]
          first
            | (refine wpAnyH_take (i := 8) (oi := ⟨some 4, _, _, _, _, _⟩) (v := ?v8) rfl (by kernel_rfl) (by kernel_rfl) (by kernel_rfl) (fun _ _ _ h => h) (Or.inl ⟨by rfl, ?hy8⟩) hHeld ?rr8
               case hy8 => (intro w hSw; obtain ⟨b0, -⟩ := blk_cell (k := 0) hSw.box rfl; obtain ⟨b1, -⟩ := blk_cell (k := 1) hSw.box rfl; obtain ⟨b2, -⟩ := blk_cell (k := 2) hSw.box rfl; obtain ⟨b3, -⟩ := blk_cell (k := 3) hSw.box rfl; obtain ⟨b4, -⟩ := blk_cell (k := 4) hSw.box rfl; obtain ⟨b5, -⟩ := blk_cell (k := 5) hSw.box rfl; obtain ⟨b6, -⟩ := blk_cell (k := 6) hSw.box rfl; obtain ⟨b7, -⟩ := blk_cell (k := 7) hSw.box rfl; obtain ⟨b8, -⟩ := blk_cell (k := 8) hSw.box rfl; obtain ⟨b12, -⟩ := blk_cell (k := 12) hSw.blk rfl; simp only [List.getElem_toArray, List.getElem_cons_zero, List.getElem_cons_succ] at b0 b1 b2 b3 b4 b5 b6 b7 b8 b12; rw [HTV.out] at b12; clear hSw; go_simp; try with_reducible rfl))
            | (refine wpAnyH_take (i := 8) (oi := ⟨some 4, _, _, _, _, _⟩) (v := undef) rfl (by kernel_rfl) (by kernel_rfl) (by kernel_rfl) (fun _ _ _ h => h) (Or.inr ⟨by rfl, rfl⟩) hHeld ?rr8)
          try simp only [Act.put, List.setIfInBounds_toArray, List.set_cons_zero, List.set_cons_succ]
          refine wpAnyH_done (by kernel_rfl) ?_ _
          refine NoPanic.normal ?_
          go_wp2_with fail
          go_meet
          exact ⟨rfl, hHeld⟩
        case rest =>
          obtain ⟨rfl, hS3⟩ := hcut
          have HS3 := Lib.hid hS3
          clear hS3 HS2 HE hwd
          obtain ⟨kp, hk⟩ : ∃ kp, n - m = kp := ⟨_, rfl⟩
          have HK := Lib.hid hk
          have HKK : Hid (n - m = kp) := Lib.hid hk
          have hki : m < n → ((kp : Nat) : Int) = (n : Int) - (m : Int) := fun h1 => by omega
          clear hk
          go_upto_if 39 with fail
          go_cut [4] (fun v wx => v = .int .i64 ((n : Int) - (m : Int)) ∧ ∃ tv rv, SI w base p w.heap.size pk { x2 with txt := x2.txt ++ List.replicate kp 0, rcv := x2.rcv ++ List.replicate kp false } tv rv wx)
          case first =>
            rcases Nat.lt_or_ge m n with hmn | hmn
            · have hc : ((0 : Int) < (n : Int) - (m : Int)) = True := eq_true (by omega)
              have hk0 : 0 < kp := by have := HK.out; omega
              obtain ⟨tv', W', hr, hB, hS⟩ := HS3.out.padT hbase kp hk0 (by rw [EX2.out.1, HM.out]; have := HK.out; omega)
              rw [hki hmn] at hr
              obtain ⟨q3, L3, c3, ev3⟩ : ∃ q L c, tv' = .slice q L c := by obtain ⟨q, c, e, -⟩ := row_shp hS.txt; exact ⟨q, _, c, e⟩
              subst ev3
              have c12 := (blk_cell (k := 12) HS3.out.blk rfl).1
              obtain ⟨d12, f12⟩ := blk_cell (k := 12) hB rfl
              simp only [List.getElem_toArray, List.getElem_cons_zero, List.getElem_cons_succ] at c12 d12
              have HS4 := Lib.hid hS
              have HR := Lib.hid hr
              clear hS hr hB
              go_upto_region 7 with (at_builtin; refine Lib.wpList_append_run _ rfl _ _ _ _ rfl _ _ rfl rfl _ _ HR.out ?_)
              clear c12 d12 f12 HR
              generalize W'.setCell ⟨p.b, 12, none⟩ (.slice q3 L3 c3) = w4 at HS4 ⊢
              obtain ⟨rv', W4, hr, hB, hS⟩ := HS4.out.padR hbase kp hk0 (by show x2.rcv.length + kp ≤ 8000; rw [EX2.out.2, hlen.1, HM.out]; have := HK.out; omega)
              rw [hki hmn] at hr
              obtain ⟨q4, L4, c4, ev4⟩ : ∃ q L c, rv' = .slice q L c := by obtain ⟨q, c, e, -⟩ := row_shp hS.rcv; exact ⟨q, _, c, e⟩
              subst ev4
              have c13 := (blk_cell (k := 13) HS4.out.blk rfl).1
              obtain ⟨d13, f13⟩ := blk_cell (k := 13) hB rfl
              simp only [List.getElem_toArray, List.getElem_cons_zero, List.getElem_cons_succ] at c13 d13
              have HS5 := Lib.hid hS
              have HR := Lib.hid hr
              clear hS hr hB
              go_wp2_with (at_builtin; refine Lib.wpList_append_run _ rfl _ _ _ _ rfl _ _ rfl rfl _ _ HR.out ?_)
              go_meet
              exact ⟨rfl, _, _, HS5.out⟩
            · have hc : ((0 : Int) < (n : Int) - (m : Int)) = False := eq_false (by omega)
              have hk0 : kp = 0 := by have := HK.out; omega
              subst hk0
              have HF := Lib.hid HS3.out
              go_wp2_with fail
              go_meet
              refine ⟨rfl, p.tv, p.rv, ?_⟩
              simpa using HF.out
          case rest =>
            obtain ⟨rfl, tv, rv, hS4⟩ := hcut
            clear HS3
            obtain ⟨x3, hx3⟩ : ∃ x3 : Dg, { x2 with txt := x2.txt ++ List.replicate kp 0, rcv := x2.rcv ++ List.replicate kp false } = x3 := ⟨_, rfl⟩
            rw [hx3] at hS4
            obtain ⟨L, hL⟩ : ∃ L, max m n = L := ⟨_, rfl⟩
            have hLt : x3.txt.length = L := by rw [← hx3]; simp only [List.length_append, List.length_replicate, EX2.out.1, HM.out]; have := HK.out; omega
            have hLr : x3.rcv.length = L := by rw [← hx3]; simp only [List.length_append, List.length_replicate, EX2.out.2, hlen.1, HM.out]; have := HK.out; omega
            have hon : off + pk.s.size = n := by have := HEN.out; have := HOFF.out; omega
            obtain ⟨g, c, etv⟩ : ∃ g c, tv = .slice (some ⟨g, 0, none⟩) L c := by
              have h1 := hS4.txt
              rw [hLt] at h1
              rcases h1.2 with ⟨-, h2⟩ | ⟨g, cap, cur, h2, -⟩
              · omega
              · exact ⟨g, cap, h2⟩
            obtain ⟨g2, c2, erv⟩ : ∃ g c, rv = .slice (some ⟨g, 0, none⟩) L c := by
              have h1 := hS4.rcv
              rw [hLr] at h1
              rcases h1.2 with ⟨-, h2⟩ | ⟨g, cap, cur, h2, -⟩
              · omega
              · exact ⟨g, cap, h2⟩
            subst etv erv
            obtain ⟨W5, hcp, hS5⟩ := hS4.drew.copy off pk.s hLt (by omega)
            have HCP := Lib.hid hcp
            have HS5 := Lib.hid hS5
            have HS4 := Lib.hid hS4
            have HX3 := Lib.hid hx3
            have HLR := Lib.hid hLr
            have HON := Lib.hid hon
            have hoL : off ≤ L := by omega
            have hnL : n ≤ L := by omega
            have hoL2 : L ≤ 4000 := by omega
            have hoC : off ≤ c := by
              have h1 := HS4.out.txt
              rcases h1.2 with ⟨h2, -⟩ | ⟨g, cap, cur, h2, _, _, h3, _⟩
              · cases h2
              · cases h2; omega
            have hLc : L ≤ c := by
              have h1 := HS4.out.txt
              rcases h1.2 with ⟨h2, -⟩ | ⟨g, cap, cur, h2, _, _, h3, _⟩
              · cases h2
              · cases h2; omega
            have hofc : off < c := by omega
            have hofc2 : (c - off = 0) = False := eq_false (by omega)
            have hofc3 : (off = c) = False := eq_false (by omega)
            have c12 := (blk_cell (k := 12) HS4.out.blk rfl).1
            have b7 := (blk_cell (k := 7) HS4.out.box rfl).1
            have b8 := (blk_cell (k := 8) HS4.out.box rfl).1
            simp only [List.getElem_toArray, List.getElem_cons_zero, List.getElem_cons_succ] at c12 b7 b8
            rw [HOFF.out] at b7
            clear hS4 hS5 hcp hx3 hLt hLr hon hL
            go_upto_region 8 with fail
            go_still_tail 9, (by kernel_rfl)
            change wpList _ _ _ _ _ wc.drew
            have hcp := HCP.out
            clear HCP
            go_upto_region 9 with fail
            clear c12 b7 b8 hcp
            have b8 := (blk_cell (k := 8) HS5.out.box rfl).1
            simp only [List.getElem_toArray, List.getElem_cons_zero, List.getElem_cons_succ] at b8
            have hsz := Lib.hid hs0
            obtain ⟨sz, hsze⟩ : ∃ sz, pk.s.size = sz := ⟨_, rfl⟩
            have HSZ := Lib.hid hsze
            obtain ⟨x4, hx4⟩ : ∃ x4 : Dg, { x3 with txt := x3.txt.take off ++ (pk.s.data.toList ++ x3.txt.drop (off + pk.s.size)) } = x4 := ⟨_, rfl⟩
            have HS6 := HS5.out
            rw [hx4] at HS6
            have HX4 := Lib.hid hx4
            have HT6 := Lib.hid HS6
            have hr4 : x4.rcv = x3.rcv := by rw [← hx4]
            have HR4 := Lib.hid hr4
            clear HS6 hx4 HS5 hr4
            have hsz4 : off + sz ≤ L := by rw [← hsze]; have := HON.out; omega
            rw [hsze] at hs0
            clear hs
            go_wp2_with fail
            clear b8
            go_loopw [71] (fun i wr => ∃ k : Nat, k ≤ sz ∧ i = .int .i64 (k : Int) ∧ SI w base p w.heap.size pk { x4 with rcv := fillR x4.rcv off k } (.slice (some ⟨g, 0, none⟩) L c) (.slice (some ⟨g2, 0, none⟩) L c2) wr) (fun i _ => sz - (intOf i).toNat)
            case atStart => exact ⟨0, by omega, rfl, HT6.out⟩
            case round =>
              obtain ⟨k, hk, rfl, hI⟩ := hrel
              have HI := Lib.hid hI
              rcases Nat.lt_or_ge k sz with hks | hks
              · have hki : (k : Int) < (sz : Int) := by omega
                have hm := hI.drew.mark (off + k) (by show (fillR x4.rcv off k).length = L; rw [fillR_len, HR4.out, HLR.out]) (by omega)
                have HMK := Lib.hid hm
                have c13 := (blk_cell (k := 13) hI.blk rfl).1
                have b7 := (blk_cell (k := 7) hI.box rfl).1
                simp only [List.getElem_toArray, List.getElem_cons_zero, List.getElem_cons_succ] at c13 b7
                rw [HOFF.out] at b7
                obtain ⟨bv, hbv, hfv⟩ : ∃ bv, wr.cell? ⟨g2, off + k, none⟩ = some (.bool bv) ∧ wr.frozen? ⟨g2, off + k, none⟩ = false := by
                  have h1 := hI.rcv
                  have hl2 : (fillR x4.rcv off k).length = L := by rw [fillR_len, HR4.out, HLR.out]
                  obtain ⟨g', e', hc'⟩ := bool_at (r := fillR x4.rcv off k) (n := L) (by simpa [hl2] using h1) hl2 (k := off + k) (by omega)
                  cases e'
                  refine ⟨_, hc', ?_⟩
                  rcases h1.2 with ⟨h2, -⟩ | ⟨gg, cap, cur, h2, _, h4, _⟩
                  · cases h2
                  · cases h2; simp [World.frozen?, h4]
                have hadd : IntKind.i64.wrap ((off : Int) + (k : Int)) = ((off + k : Nat) : Int) := by rw [IntWalk.i64_in _ (by omega)]; omega
                have hin : off + k < L := by omega
                clear hI hm
                go_upto_region 12 with fail
                go_still_tail 8, (by kernel_rfl)
                go_wp2
                refine ⟨⟨k + 1, by omega, by simp, HMK.out⟩, ?_⟩
                show sz - ((k : Int) + 1).toNat < sz - (k : Int).toNat
                omega
              · obtain rfl : k = sz := by omega
                have hki : ((k : Int) < (k : Int)) = False := by simp
                clear hI
                go_wp2
                refine bodyPost_end (v := .tuple #[]) (by simp [results, Try.results54, go_sem]; try rfl) rfl ?_
                have e : ({ x4 with rcv := fillR x4.rcv off k } : Dg) = storeD p.x pk := by
                  have hf : fin = p.x.fin := by rw [← HFIN.out, ← HX.out]
                  rw [store_eq (k := kp) HOFF.out HSZ.out hlen.1 (by rw [HM.out, HSZ.out.symm, HON.out]; exact HKK.out), ← HX4.out, ← HX3.out, ← HXX2.out, ← HX.out, hf, HMF.out]

                have hI := HI.out
                rw [e] at hI
                have hl1 : (storeD p.x pk).rcv.length = (storeD p.x pk).txt.length ∧ (storeD p.x pk).txt.length ≤ 4000 := by
                  have := HON.out; have := HM.out; have hsz3 : pk.s.data.toList.length = pk.s.size := by simp
                  have h5 := HSZ.out
                  rw [HSZ.out] at hsz3
                  simp only [storeD, putR, putT, List.length_map, List.length_range, hsz3, hlen.1, HM.out, HOFF.out, Int.toNat_natCast]
                  omega
                exact ⟨rfl, _, _, ⟨hI.low, hI.blk, hI.txt, hI.rcv, hl1⟩, (List.nodup_cons.1 hI.nd).2, hI.row, hI.t⟩
end Go.Proofs.Ytecboengeheapaa
