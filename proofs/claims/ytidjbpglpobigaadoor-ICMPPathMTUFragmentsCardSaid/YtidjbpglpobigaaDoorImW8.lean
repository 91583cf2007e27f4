/- The walk of ICMPPathMTUFragments. -/
import Derived.Test.YtidjbpglpobigaaDoorImPk
import Derived.Test.YtidjbpglpobigaaDoorIpPkf
import Derived.Test.YtidjbpglpobigaaDoorIpFq
import Derived.Deep.DeepCutAuto
import Derived.Deep.CutRange
import Derived.Deep.RegionHeld3
import Derived.BigRegion
namespace Go.Proofs.YtidjbpglpobigaaDoor
open Go.RowKit
set_option linter.unusedVariables false
attribute [local go_sem] Oper.semAt_some

theorem okW_df8 {fr dst pr tt id off : Int} {df mf : Bool} {s : ByteArray} (h : okW ⟨fr, dst, pr, tt, id, df, mf, off, s⟩ s.size) : okW ⟨fr, dst, pr, tt, id, false, mf, off, s⟩ s.size := by
  obtain ⟨h1, h2, h3, h4, h5⟩ := h
  refine ⟨h1, h2, h3, h4, ?_⟩
  rcases h5 with h | ⟨-, h⟩
  · exact .inl h
  · exact .inr ⟨rfl, h⟩

/-- a valid datagram about which no error of a valid kind goes out -/
theorem neO_big {n : Int} {p : Pk} (hp : okW p p.s.size) (h1 : 68 ≤ n) (h2 : n ≤ 1024) (h : ¬ neO 5 0 n p) : p.off ≠ 0 ∨ (p.off = 0 ∧ p.to = 4294967295) ∨ (p.off = 0 ∧ p.to ≠ 4294967295 ∧ p.pr = 1) := by
  by_cases e1 : p.off = 0
  · by_cases e2 : p.to = 4294967295
    · exact .inr (.inl ⟨e1, e2⟩)
    · by_cases e3 : crE p
      · exact .inr (.inr ⟨e1, e2, e3.1⟩)
      · exact absurd ⟨hp, e1, e2, e3, .inr (.inr rfl), .inr (.inr (.inr ⟨rfl, rfl, h1, h2⟩)), by have := neM_size 5 0 n p; show ((neM 5 0 n p).s.size : Int) ≤ 28; omega⟩ h
  · exact .inl e1

set_option maxRecDepth 100000 in
set_option maxHeartbeats 3200000 in
theorem walk_ICMPPathMTUFragments (x : Rw) (sz now : Int) (w : World) (hx : x.ok) (l1 : -9223372036854775808 ≤ sz) (u1 : sz ≤ 9223372036854775807) (l2 : -9223372036854775808 ≤ now) (u2 : now ≤ 9223372036854775807) (E : ∃ ea, Env w ea) :
    Calls Tryd.prog 12 #[rv x, .int .i64 sz, .int .i64 now] w fun e w' => e = .returned (.bool true) ∧ Below w.heap.size w w' := by
  obtain ⟨ea, E⟩ := E
  have hB := (Below.refl _ w).alloc (Nat.le_refl _) (ro x)
  have hX := blk_new w (ro x)
  go_enter Tryd.func12, Tryd.ntmps12
  go_wp2_with fail
  refine (msane_any _ ea (cell_alloc E _)).mono ?_
  rintro e w1 ⟨rfl, hb⟩
  replace hB := hB.trans (hb.mono hB.size)
  replace hX := blk_below hX hb (blk_lt hX)
  clear hb
  obtain ⟨x0, -⟩ := blk_cell (k := 0) hX rfl
  obtain ⟨x1, -⟩ := blk_cell (k := 1) hX rfl
  obtain ⟨x2, -⟩ := blk_cell (k := 2) hX rfl
  obtain ⟨x3, -⟩ := blk_cell (k := 3) hX rfl
  obtain ⟨x4, -⟩ := blk_cell (k := 4) hX rfl
  obtain ⟨x5, -⟩ := blk_cell (k := 5) hX rfl
  obtain ⟨x6, -⟩ := blk_cell (k := 6) hX rfl
  obtain ⟨x7, -⟩ := blk_cell (k := 7) hX rfl
  obtain ⟨x8, -⟩ := blk_cell (k := 8) hX rfl
  simp only [List.getElem_toArray, List.getElem_cons_zero, List.getElem_cons_succ] at x0 x1 x2 x3 x4 x5 x6 x7 x8
  go_wp2_with fail
  refine (packet_any x hx _).mono ?_
  rintro e w2 ⟨⟨p0, rfl, hp0, hp300⟩, hb⟩
  replace hB := hB.trans (hb.mono hB.size)
  clear hb hX
  clear x0 x1 x2 x3 x4 x5 x6 x7 x8
  obtain ⟨fr, dst, pr, tt, id, df, mf, off, ps⟩ := p0
  simp only at hp0 hp300
  have hp := okW_df8 hp0
  clear hp0
  have hP := blk_new w2 (po (⟨fr, dst, pr, tt, id, false, mf, off, ps⟩ : Pk))
  replace hB := hB.alloc hB.size (po (⟨fr, dst, pr, tt, id, false, mf, off, ps⟩ : Pk))
  obtain ⟨pn1, pn2⟩ := pickZ_bd sz 957 (by decide)
  obtain ⟨pt1, pt2⟩ := pickZ_bd now 1000000 (by decide)
  obtain ⟨n0, hn0⟩ : ∃ n0 : Nat, pickZ sz 957 = (n0 : Int) := ⟨(pickZ sz 957).toNat, by omega⟩
  have HP0 := Lib.hid (fun w => pick8_any sz 957 w l1 u1 (by omega) (by omega))
  have HP1 := Lib.hid (fun w => pick8_any now 1000000 w l2 u2 (by omega) (by omega))
  rw [hn0] at pn1 pn2 HP0
  clear l1 u1 l2 u2 hn0 pn1
  generalize pickZ now 1000000 = T at *
  have hpo : 0 ≤ off ∧ off ≤ 4000 := by have := hp.2.2.2.1; unfold okP at this; simp only at this; omega
  have hdst : 0 ≤ dst ∧ dst ≤ 4294967295 := by have := hp.2.1; unfold okU at this; simp only at this; omega
  have hpm : ps.size ≤ maxLen := Nat.le_trans hp300 (by decide)
  go_wp2_with fail
  refine (HP0.out _).mono ?_
  rintro e w3 ⟨rfl, rfl⟩
  go_wp2_with fail
  refine (HP1.out _).mono ?_
  rintro e w3 ⟨rfl, rfl⟩
  clear HP0 HP1
  by_cases ho : neO 5 0 (68 + n0) (⟨fr, dst, pr, tt, id, false, mf, off, ps⟩ : Pk)
  · have HN := Lib.hid (mnew_yes 5 0 (68 + n0) (by unfold b64i; omega) (⟨fr, dst, pr, tt, id, false, mf, off, ps⟩ : Pk) ho)
    obtain ⟨M, hM⟩ : ∃ M, neM 5 0 (68 + n0) (⟨fr, dst, pr, tt, id, false, mf, off, ps⟩ : Pk) = M := ⟨_, rfl⟩
    have hok : okM M := hM ▸ ho.2.2.2.2.2
    have HMn : Hid (M.n = 68 + (n0 : Int)) := by show M.n = _; rw [← hM]; rfl
    rw [hM] at HN
    clear hM ho
    have HE := Lib.hid (mencode_yes M hok)
    have HD := Lib.hid (fun w E => mdecode_enc M w ea E hok)
    generalize encM M = S at *
    clear hok
    obtain ⟨hFA, hFE⟩ := frag_all (⟨fr, dst, pr, tt, id, false, mf, off, ps⟩ : Pk) (68 + n0) hp rfl (by omega)
    have HFR : Hid (∀ w : World, Calls Tryd.prog 35 #[pv (⟨fr, dst, pr, tt, id, false, mf, off, ps⟩ : Pk), .int .i64 (68 + n0)] w fun e w' => (∃ g c, e = .returned (.tuple #[.slice (some ⟨g, 0, none⟩) (fgL (⟨fr, dst, pr, tt, id, false, mf, off, ps⟩ : Pk) (68 + n0)).length c, .int .i64 0]) ∧ w'.ownsRow w.heap.size 31 9 (.slice (some ⟨g, 0, none⟩) (fgL (⟨fr, dst, pr, tt, id, false, mf, off, ps⟩ : Pk) (68 + n0)).length c) (fgL (⟨fr, dst, pr, tt, id, false, mf, off, ps⟩ : Pk) (68 + n0)).length (flatP (fgL (⟨fr, dst, pr, tt, id, false, mf, off, ps⟩ : Pk) (68 + n0)))) ∧ Below w.heap.size w w') := by
      intro w
      refine (fragment_any (⟨fr, dst, pr, tt, id, false, mf, off, ps⟩ : Pk) (68 + n0) hpm (by omega) (by omega) w).mono ?_
      rintro e w' ⟨⟨v, rfl, hrow⟩, hb⟩
      rw [hFE]
      obtain ⟨g, c, rfl, -, -⟩ := hrow.form (by have := hFA.some; omega)
      exact ⟨⟨g, c, rfl, hrow⟩, hb⟩
    obtain ⟨L, hL⟩ : ∃ L, fgL (⟨fr, dst, pr, tt, id, false, mf, off, ps⟩ : Pk) (68 + n0) = L := ⟨_, rfl⟩
    rw [hL] at HFR hFA
    obtain ⟨K, hK⟩ : ∃ K, L.length = K := ⟨_, rfl⟩
    have HM := Lib.hid hK
    rw [hK] at HFR
    have hM1 : 1 ≤ K := hK ▸ hFA.some
    have hM2 : K ≤ 4001 := hK ▸ hFA.few
    have HFA := Lib.hid hFA
    clear hFA hFE hL hK hp
    go_wp2_with fail
    refine (HN.out _).mono ?_
    rintro e w4 ⟨rfl, hb⟩
    replace hB := hB.trans (hb.mono hB.size)
    replace hP := blk_alloc (blk_below hP hb (blk_lt hP)) (mo M)
    have hMb := blk_new w4 (mo M)
    replace hB := hB.alloc hB.size (mo M)
    clear hb HN
    go_wp2_with fail
    refine (HE.out _).mono ?_
    rintro e w5 ⟨rfl, hb⟩
    replace hB := hB.trans (hb.mono hB.size)
    replace hP := blk_below hP hb (blk_lt hP)
    clear hb HE hMb
    go_wp2_with fail
    refine (HD.out _ (E.stay hB)).mono ?_
    rintro e w6 ⟨rfl, hb⟩
    replace hB := hB.trans (hb.mono hB.size)
    replace hP := blk_alloc (blk_below hP hb (blk_lt hP)) (mo M)
    have hN := blk_new w6 (mo M)
    replace hB := hB.alloc hB.size (mo M)
    clear hb HD E
    go_wp2_with fail
    refine (pnew_any _).mono ?_
    rintro e w7 ⟨Q, rfl, hPl, hT, hb⟩
    have hwz := hB.size
    have hPz := blk_lt hP
    have hb8 := hb.size
    replace hB := hB.trans (hb.mono hB.size)
    replace hP := blk_below hP hb (blk_lt hP)
    replace hN := blk_below hN hb (blk_lt hN)
    clear hb
    obtain ⟨b8, hbe⟩ : ∃ b8, (w6.alloc (mo M)).heap.size = b8 := ⟨_, rfl⟩
    rw [hbe] at hPl hT hwz hPz hb8
    clear hbe
    obtain ⟨c0, -⟩ := blk_cell (k := 0) hP rfl
    obtain ⟨c1, -⟩ := blk_cell (k := 1) hP rfl
    obtain ⟨c2, -⟩ := blk_cell (k := 2) hP rfl
    obtain ⟨c3, -⟩ := blk_cell (k := 3) hP rfl
    obtain ⟨c4, -⟩ := blk_cell (k := 4) hP rfl
    obtain ⟨c5, -⟩ := blk_cell (k := 5) hP rfl
    obtain ⟨c6, -⟩ := blk_cell (k := 6) hP rfl
    obtain ⟨c7, -⟩ := blk_cell (k := 7) hP rfl
    obtain ⟨c8, -⟩ := blk_cell (k := 8) hP rfl
    simp only [List.getElem_toArray, List.getElem_cons_zero, List.getElem_cons_succ] at c0 c1 c2 c3 c4 c5 c6 c7 c8
    obtain ⟨y0, -⟩ := blk_cell (k := 0) hN rfl
    obtain ⟨y1, -⟩ := blk_cell (k := 1) hN rfl
    obtain ⟨y2, -⟩ := blk_cell (k := 2) hN rfl
    obtain ⟨y3, -⟩ := blk_cell (k := 3) hN rfl
    simp only [List.getElem_toArray, List.getElem_cons_zero, List.getElem_cons_succ] at y0 y1 y2 y3
    rw [HMn.out] at y2
    go_wp2_with fail
    refine (lower_add b8 Q (.slice none 0 0) [] T dst (68 + n0) _ hT hb8 (by decide) (fun x hx => by cases hx) rfl (by omega) (by omega) (by omega) (by omega) (by omega) (by omega)).mono ?_
    rintro e w8 ⟨rfl, ⟨v1, hT8⟩, ht8⟩
    rw [List.nil_append] at hT8
    have hb := ht8.below hb8 (fun k h => by rcases h with h | h; omega; cases h)
    replace hB := hB.trans (hb.mono hwz)
    replace hP := blk_below hP hb hPz
    clear hT ht8 hb hN
    clear y0 y1 y2 y3
    clear c0 c1 c2 c3 c4 c5 c6 c7 c8
    obtain ⟨c0, -⟩ := blk_cell (k := 0) hP rfl
    obtain ⟨c1, -⟩ := blk_cell (k := 1) hP rfl
    obtain ⟨c2, -⟩ := blk_cell (k := 2) hP rfl
    obtain ⟨c3, -⟩ := blk_cell (k := 3) hP rfl
    obtain ⟨c4, -⟩ := blk_cell (k := 4) hP rfl
    obtain ⟨c5, -⟩ := blk_cell (k := 5) hP rfl
    obtain ⟨c6, -⟩ := blk_cell (k := 6) hP rfl
    obtain ⟨c7, -⟩ := blk_cell (k := 7) hP rfl
    obtain ⟨c8, -⟩ := blk_cell (k := 8) hP rfl
    simp only [List.getElem_toArray, List.getElem_cons_zero, List.getElem_cons_succ] at c0 c1 c2 c3 c4 c5 c6 c7 c8
    have HZ : Hid (∀ W, Below w8.heap.size w8 W → Calls Tryd.prog 33 #[.pointer (some ⟨Q, 0, none⟩), .int .i64 T, .int .i64 dst, .int .i64 1024] W fun e w' => e = .returned (.int .i64 (68 + (n0 : Int))) ∧ Below W.heap.size W w') := by
      intro W hbW
      have := psize_go b8 Q v1 [⟨dst, 68 + n0, T⟩] T dst 1024 W (hT8.below hbW) (Nat.le_of_ble_eq_true rfl) dst (68 + n0) T (if_pos rfl) (.inr (by omega)) (by omega) (by omega)
      rw [show (if 68 + (n0 : Int) ≠ 0 ∧ T < T + 600 then min 1024 (68 + (n0 : Int)) else 1024) = 68 + (n0 : Int) from by
        rw [if_pos ⟨by omega, by omega⟩]; omega] at this
      exact this
    clear hT8
    go_wp2_with fail
    refine wp_region_noPanic ?_
    refine wp_region_held_drew (S := fun w' => w'.cell? ⟨w2.heap.size, 0, none⟩ = some (.int .i64 fr) ∧ w'.cell? ⟨w2.heap.size, 1, none⟩ = some (.int .i64 dst) ∧ w'.cell? ⟨w2.heap.size, 2, none⟩ = some (.int .i64 pr) ∧ w'.cell? ⟨w2.heap.size, 3, none⟩ = some (.int .i64 tt) ∧ w'.cell? ⟨w2.heap.size, 4, none⟩ = some (.int .i64 id) ∧ w'.cell? ⟨w2.heap.size, 5, none⟩ = some (.bool false) ∧ w'.cell? ⟨w2.heap.size, 6, none⟩ = some (.bool mf) ∧ w'.cell? ⟨w2.heap.size, 7, none⟩ = some (.int .i64 off) ∧ w'.cell? ⟨w2.heap.size, 8, none⟩ = some (.string ps) ∧ Below w8.heap.size w8 w') (by kernel_rfl) (⟨c0, c1, c2, c3, c4, c5, c6, c7, c8, (Below.refl _ _).drew⟩) (fun hHeld => ?_)
    first
      | (refine wpAnyH_take (i := 0) (oi := ⟨some 75, _, _, _, _, _⟩) (v := ?vf0) rfl (by kernel_rfl) (by kernel_rfl) (by kernel_rfl) (fun _ _ _ h => h) (Or.inl ⟨by rfl, ?hyf0⟩) hHeld ?rrf0
         case hyf0 => (intro w hSw; (try dsimp only at hSw); go_simp; try with_reducible rfl))
      | (refine wpAnyH_take (i := 0) (oi := ⟨some 75, _, _, _, _, _⟩) (v := undef) rfl (by kernel_rfl) (by kernel_rfl) (by kernel_rfl) (fun _ _ _ h => h) (Or.inr ⟨by rfl, rfl⟩) hHeld ?rrf0)
    try simp only [Act.put, List.setIfInBounds_toArray, List.set_cons_zero, List.set_cons_succ]
    first
      | (refine wpAnyH_take (i := 1) (oi := ⟨some 76, _, _, _, _, _⟩) (v := ?vf1) rfl (by kernel_rfl) (by kernel_rfl) (by kernel_rfl) (fun _ _ _ h => h) (Or.inl ⟨by rfl, ?hyf1⟩) hHeld ?rrf1
         case hyf1 => (intro w hSw; (try dsimp only at hSw); go_simp; try with_reducible rfl))
      | (refine wpAnyH_take (i := 1) (oi := ⟨some 76, _, _, _, _, _⟩) (v := undef) rfl (by kernel_rfl) (by kernel_rfl) (by kernel_rfl) (fun _ _ _ h => h) (Or.inr ⟨by rfl, rfl⟩) hHeld ?rrf1)
    try simp only [Act.put, List.setIfInBounds_toArray, List.set_cons_zero, List.set_cons_succ]
    first
      | (refine wpAnyH_take (i := 2) (oi := ⟨some 77, _, _, _, _, _⟩) (v := ?vf2) rfl (by kernel_rfl) (by kernel_rfl) (by kernel_rfl) (fun _ _ _ h => h) (Or.inl ⟨by rfl, ?hyf2⟩) hHeld ?rrf2
         case hyf2 => (intro w hSw; (try dsimp only at hSw); go_simp; try with_reducible rfl))
      | (refine wpAnyH_take (i := 2) (oi := ⟨some 77, _, _, _, _, _⟩) (v := undef) rfl (by kernel_rfl) (by kernel_rfl) (by kernel_rfl) (fun _ _ _ h => h) (Or.inr ⟨by rfl, rfl⟩) hHeld ?rrf2)
    try simp only [Act.put, List.setIfInBounds_toArray, List.set_cons_zero, List.set_cons_succ]
    first
      | (refine wpAnyH_take (i := 3) (oi := ⟨some 78, _, _, _, _, _⟩) (v := ?vf3) rfl (by kernel_rfl) (by kernel_rfl) (by kernel_rfl) (fun _ _ _ h => h) (Or.inl ⟨by rfl, ?hyf3⟩) hHeld ?rrf3
         case hyf3 => (intro w hSw; (try dsimp only at hSw); go_simp; try with_reducible rfl))
      | (refine wpAnyH_take (i := 3) (oi := ⟨some 78, _, _, _, _, _⟩) (v := undef) rfl (by kernel_rfl) (by kernel_rfl) (by kernel_rfl) (fun _ _ _ h => h) (Or.inr ⟨by rfl, rfl⟩) hHeld ?rrf3)
    try simp only [Act.put, List.setIfInBounds_toArray, List.set_cons_zero, List.set_cons_succ]
    first
      | (refine wpAnyH_take (i := 4) (oi := ⟨some 79, _, _, _, _, _⟩) (v := ?vf4) rfl (by kernel_rfl) (by kernel_rfl) (by kernel_rfl) (fun _ _ _ h => h) (Or.inl ⟨by rfl, ?hyf4⟩) hHeld ?rrf4
         case hyf4 => (intro w hSw; (try dsimp only at hSw); go_simp; try with_reducible rfl))
      | (refine wpAnyH_take (i := 4) (oi := ⟨some 79, _, _, _, _, _⟩) (v := undef) rfl (by kernel_rfl) (by kernel_rfl) (by kernel_rfl) (fun _ _ _ h => h) (Or.inr ⟨by rfl, rfl⟩) hHeld ?rrf4)
    try simp only [Act.put, List.setIfInBounds_toArray, List.set_cons_zero, List.set_cons_succ]
    refine wpAnyH_ready (rs := [5]) (by kernel_rfl) (by simp) ?_
    refine AllReadyH.cons (o := ⟨some 80, _, _, _, _, _⟩) rfl (fun K hK => ?_) AllReadyH.nil
    go_simp
    refine (HZ.out _ hHeld.2.2.2.2.2.2.2.2.2).mono ?_
    rintro e w9 ⟨rfl, hb9⟩
    refine hK.out _ _ (⟨keep_cell hb9 hHeld.1, keep_cell hb9 hHeld.2.1, keep_cell hb9 hHeld.2.2.1, keep_cell hb9 hHeld.2.2.2.1, keep_cell hb9 hHeld.2.2.2.2.1, keep_cell hb9 hHeld.2.2.2.2.2.1, keep_cell hb9 hHeld.2.2.2.2.2.2.1, keep_cell hb9 hHeld.2.2.2.2.2.2.2.1, keep_cell hb9 hHeld.2.2.2.2.2.2.2.2.1, hHeld.2.2.2.2.2.2.2.2.2.trans (hb9.mono hHeld.2.2.2.2.2.2.2.2.2.size)⟩) (fun hHeld2 => ?_)
    clear hK K hHeld
    have hHeld := hHeld2
    clear hHeld2
    try simp only [Act.put, List.setIfInBounds_toArray, List.set_cons_zero, List.set_cons_succ]
    refine wpAnyH_ready (rs := [6]) (by kernel_rfl) (by simp) ?_
    refine AllReadyH.cons (o := ⟨some 81, _, _, _, _, _⟩) rfl (fun K hK => ?_) AllReadyH.nil
    go_simp
    refine (HFR.out _).mono ?_
    rintro e w10 ⟨⟨g, cp, rfl, hrow⟩, hb10⟩
    refine hK.out _ _ (⟨keep_cell hb10 hHeld.1, keep_cell hb10 hHeld.2.1, keep_cell hb10 hHeld.2.2.1, keep_cell hb10 hHeld.2.2.2.1, keep_cell hb10 hHeld.2.2.2.2.1, keep_cell hb10 hHeld.2.2.2.2.2.1, keep_cell hb10 hHeld.2.2.2.2.2.2.1, keep_cell hb10 hHeld.2.2.2.2.2.2.2.1, keep_cell hb10 hHeld.2.2.2.2.2.2.2.2.1, hHeld.2.2.2.2.2.2.2.2.2.trans (hb10.mono hHeld.2.2.2.2.2.2.2.2.2.size)⟩) (fun hHeld2 => ?_)
    clear hK K hHeld
    have hHeld := hHeld2
    clear hHeld2
    try simp only [Act.put, List.setIfInBounds_toArray, List.set_cons_zero, List.set_cons_succ]
    first
      | (refine wpAnyH_take (i := 7) (oi := ⟨some 74, _, _, _, _, _⟩) (v := ?vf7) rfl (by kernel_rfl) (by kernel_rfl) (by kernel_rfl) (fun _ _ _ h => h) (Or.inl ⟨by rfl, ?hyf7⟩) hHeld ?rrf7
         case hyf7 => (intro w hSw; (try dsimp only at hSw); go_simp; try with_reducible rfl))
      | (refine wpAnyH_take (i := 7) (oi := ⟨some 74, _, _, _, _, _⟩) (v := undef) rfl (by kernel_rfl) (by kernel_rfl) (by kernel_rfl) (fun _ _ _ h => h) (Or.inr ⟨by rfl, rfl⟩) hHeld ?rrf7)
    try simp only [Act.put, List.setIfInBounds_toArray, List.set_cons_zero, List.set_cons_succ]
    first
      | (refine wpAnyH_take (i := 8) (oi := ⟨some 82, _, _, _, _, _⟩) (v := ?vf8) rfl (by kernel_rfl) (by kernel_rfl) (by kernel_rfl) (fun _ _ _ h => h) (Or.inl ⟨by rfl, ?hyf8⟩) hHeld ?rrf8
         case hyf8 => (intro w hSw; (try dsimp only at hSw); go_simp; try with_reducible rfl))
      | (refine wpAnyH_take (i := 8) (oi := ⟨some 82, _, _, _, _, _⟩) (v := undef) rfl (by kernel_rfl) (by kernel_rfl) (by kernel_rfl) (fun _ _ _ h => h) (Or.inr ⟨by rfl, rfl⟩) hHeld ?rrf8)
    try simp only [Act.put, List.setIfInBounds_toArray, List.set_cons_zero, List.set_cons_succ]
    first
      | (refine wpAnyH_take (i := 9) (oi := ⟨some 83, _, _, _, _, _⟩) (v := ?vf9) rfl (by kernel_rfl) (by kernel_rfl) (by kernel_rfl) (fun _ _ _ h => h) (Or.inl ⟨by rfl, ?hyf9⟩) hHeld ?rrf9
         case hyf9 => (intro w hSw; (try dsimp only at hSw); go_simp; try with_reducible rfl))
      | (refine wpAnyH_take (i := 9) (oi := ⟨some 83, _, _, _, _, _⟩) (v := undef) rfl (by kernel_rfl) (by kernel_rfl) (by kernel_rfl) (fun _ _ _ h => h) (Or.inr ⟨by rfl, rfl⟩) hHeld ?rrf9)
    try simp only [Act.put, List.setIfInBounds_toArray, List.set_cons_zero, List.set_cons_succ]
    first
      | (refine wpAnyH_take (i := 10) (oi := ⟨some 17, _, _, _, _, _⟩) (v := ?vf10) rfl (by kernel_rfl) (by kernel_rfl) (by kernel_rfl) (fun _ _ _ h => h) (Or.inl ⟨by rfl, ?hyf10⟩) hHeld ?rrf10
         case hyf10 => (intro w hSw; (try dsimp only at hSw); go_simp; try with_reducible rfl))
      | (refine wpAnyH_take (i := 10) (oi := ⟨some 17, _, _, _, _, _⟩) (v := undef) rfl (by kernel_rfl) (by kernel_rfl) (by kernel_rfl) (fun _ _ _ h => h) (Or.inr ⟨by rfl, rfl⟩) hHeld ?rrf10)
    try simp only [Act.put, List.setIfInBounds_toArray, List.set_cons_zero, List.set_cons_succ]
    first
      | (refine wpAnyH_take (i := 11) (oi := ⟨some 18, _, _, _, _, _⟩) (v := ?vf11) rfl (by kernel_rfl) (by kernel_rfl) (by kernel_rfl) (fun _ _ _ h => h) (Or.inl ⟨by rfl, ?hyf11⟩) hHeld ?rrf11
         case hyf11 => (intro w hSw; (try dsimp only at hSw); go_simp; try with_reducible rfl))
      | (refine wpAnyH_take (i := 11) (oi := ⟨some 18, _, _, _, _, _⟩) (v := undef) rfl (by kernel_rfl) (by kernel_rfl) (by kernel_rfl) (fun _ _ _ h => h) (Or.inr ⟨by rfl, rfl⟩) hHeld ?rrf11)
    try simp only [Act.put, List.setIfInBounds_toArray, List.set_cons_zero, List.set_cons_succ]
    refine wpAnyH_done (by kernel_rfl) ?_ _
    refine NoPanic.normal ?_
    have hBd := hB.drew
    have hB9 := hBd.trans (hb9.mono hBd.size)
    have hB10 := hB9.trans (hb10.mono hB9.size)
    have hP9 := blk_below (show w8.drew.heap[w2.heap.size]? = some (po (⟨fr, dst, pr, tt, id, false, mf, off, ps⟩ : Pk)) from hP) hb9 (blk_lt hP)
    have hP10 := blk_below hP9 hb10 (blk_lt hP9)
    have hgl := (hrow.lt g rfl).2
    have HROW := Lib.hid hrow
    have HB := Lib.hid hB10
    have hPl4 := blk_lt hP10
    clear hrow HFR HZ hB hBd hB9 hB10 hP hP9 hb9 hb10 hHeld c0 c1 c2 c3 c4 c5 c6 c7 c8 hPz hwz hPl hb8
    have hK0 : ((K : Int) == 0) = false := by simpa using (by omega : ¬ (K : Int) = 0)
    go_wp2_with fail
    go_loopw [19, 20] (fun a i wr => ∃ k : Nat, k ≤ K ∧ a = .string (catP (L.take k)) ∧ i = .int .i64 (k : Int) ∧ Hid (Below w10.heap.size w10 wr)) (fun _ i _ => K - (intOf i).toNat)
    case atStart => exact ⟨0, Nat.zero_le _, rfl, rfl, by first | exact Below.refl _ _ | exact (Below.refl _ _).drew⟩
    case round =>
      obtain ⟨k, hk, rfl, rfl, HBK⟩ := hrel
      by_cases hkM : k < K
      · obtain ⟨Fq, hQ⟩ := HFA.out.each k (by rw [HM.out]; exact hkM)
        have hPk := blk_below hP10 HBK.out (blk_lt hP10)
        have hkMi : (k : Int) < (K : Int) := by omega
        have hcat := HFA.out.sub k (by rw [HM.out]; omega)
        simp only at hcat
        have hcl : ∀ c, c < 9 → wr.cell? ⟨g, k * 9 + c, none⟩ = (pcl Fq)[c]? := fun c hc => by
          rw [HBK.out.cell (p := ⟨g, k * 9 + c, none⟩) hgl, HROW.out.cellAt (k * 9 + c) (by omega)]
          exact flatP_at L k Fq hQ.at' c hc
        have e0 := hcl 0 (by decide)
        have e1 := hcl 1 (by decide)
        have e2 := hcl 2 (by decide)
        have e3 := hcl 3 (by decide)
        have e4 := hcl 4 (by decide)
        have e5 := hcl 5 (by decide)
        have e6 := hcl 6 (by decide)
        have e7 := hcl 7 (by decide)
        have e8 := hcl 8 (by decide)
        simp only [List.getElem?_cons_succ, List.getElem?_cons_zero] at e0 e1 e2 e3 e4 e5 e6 e7 e8
        obtain ⟨A, hA⟩ : ∃ A, catP (L.take k) = A := ⟨_, rfl⟩
        rw [hA] at hcat
        have HQ := Lib.hid hQ
        have HA := Lib.hid hA
        clear hQ hA hcl
        rw [Nat.add_zero] at e0
        rw [HA.out]
        have hQs : Fq.s.size ≤ 300 := by have := HFA.out.sub (k + 1) (by rw [HM.out]; omega); rw [HQ.out.next, ByteArray.size_append] at this; simp only at this; omega
        go_wp2_with fail
        refine (encode_yes Fq (Nat.le_trans hQs (by decide)) HQ.out.ok _).mono ?_
        rintro e w5 ⟨rfl, hb⟩
        have HB5 : Hid (Below w10.heap.size w10 w5) := HBK.out.trans (hb.mono HBK.out.size)
        replace hPk := blk_below hPk hb (blk_lt hPk)
        replace e7 := keep_cell hb e7
        replace e8 := keep_cell hb e8
        clear hb HBK e0 e1 e2 e3 e4 e5 e6
        have hzs := enc_size Fq
        obtain ⟨SF, hS⟩ : ∃ SF, encP Fq = SF := ⟨_, rfl⟩
        rw [hS] at hzs
        try rw [hS]
        clear hS
        have hfit := HQ.out.fits
        have hoff := HQ.out.off
        rw [HA.out] at hoff
        simp only at hoff
        have g1 : ((68 : Int) + (n0 : Int) < (SF.size : Int)) = False := eq_false (by omega)
        have g2 : wrap64 (off + (A.size : Int)) = off + (A.size : Int) := IntWalk.wrap64_in _ ⟨by omega, by omega⟩
        have g3 : IntKind.i64.wrap (off + (A.size : Int)) = off + (A.size : Int) := wraps_i64 _ (by omega) (by omega)
        have g4 : IntKind.i64.wrap ((k : Int) + 1) = (k : Int) + 1 := wraps_i64 _ (by omega) (by omega)
        clear hzs hfit
        obtain ⟨c7, -⟩ := blk_cell (k := 7) hPk rfl
        simp only [List.getElem_toArray, List.getElem_cons_zero, List.getElem_cons_succ] at c7
        go_wp2
        refine wp_region_noPanic ?_
        refine wp_region_held_drew (S := fun w' => w'.cell? ⟨w2.heap.size, 7, none⟩ = some (.int .i64 off) ∧ w'.cell? ⟨g, k * 9 + 7, none⟩ = some (.int .i64 Fq.off)) (by kernel_rfl) (⟨c7, e7⟩) (fun hHeld => ?_)
        first
          | (refine wpAnyH_take (i := 0) (oi := ⟨some 98, _, _, _, _, _⟩) (v := ?vg0) rfl (by kernel_rfl) (by kernel_rfl) (by kernel_rfl) (fun _ _ _ h => h) (Or.inl ⟨by rfl, ?hyg0⟩) hHeld ?rrg0
             case hyg0 => (intro w hSw; (try dsimp only at hSw); go_simp; try with_reducible rfl))
          | (refine wpAnyH_take (i := 0) (oi := ⟨some 98, _, _, _, _, _⟩) (v := undef) rfl (by kernel_rfl) (by kernel_rfl) (by kernel_rfl) (fun _ _ _ h => h) (Or.inr ⟨by rfl, rfl⟩) hHeld ?rrg0)
        try simp only [Act.put, List.setIfInBounds_toArray, List.set_cons_zero, List.set_cons_succ]
        first
          | (refine wpAnyH_take (i := 1) (oi := ⟨some 99, _, _, _, _, _⟩) (v := ?vg1) rfl (by kernel_rfl) (by kernel_rfl) (by kernel_rfl) (fun _ _ _ h => h) (Or.inl ⟨by rfl, ?hyg1⟩) hHeld ?rrg1
             case hyg1 => (intro w hSw; (try dsimp only at hSw); go_simp; try with_reducible rfl))
          | (refine wpAnyH_take (i := 1) (oi := ⟨some 99, _, _, _, _, _⟩) (v := undef) rfl (by kernel_rfl) (by kernel_rfl) (by kernel_rfl) (fun _ _ _ h => h) (Or.inr ⟨by rfl, rfl⟩) hHeld ?rrg1)
        try simp only [Act.put, List.setIfInBounds_toArray, List.set_cons_zero, List.set_cons_succ]
        first
          | (refine wpAnyH_take (i := 2) (oi := ⟨some 100, _, _, _, _, _⟩) (v := ?vg2) rfl (by kernel_rfl) (by kernel_rfl) (by kernel_rfl) (fun _ _ _ h => h) (Or.inl ⟨by rfl, ?hyg2⟩) hHeld ?rrg2
             case hyg2 => (intro w hSw; (try dsimp only at hSw); go_simp; try with_reducible rfl))
          | (refine wpAnyH_take (i := 2) (oi := ⟨some 100, _, _, _, _, _⟩) (v := undef) rfl (by kernel_rfl) (by kernel_rfl) (by kernel_rfl) (fun _ _ _ h => h) (Or.inr ⟨by rfl, rfl⟩) hHeld ?rrg2)
        try simp only [Act.put, List.setIfInBounds_toArray, List.set_cons_zero, List.set_cons_succ]
        first
          | (refine wpAnyH_take (i := 3) (oi := ⟨some 101, _, _, _, _, _⟩) (v := ?vg3) rfl (by kernel_rfl) (by kernel_rfl) (by kernel_rfl) (fun _ _ _ h => h) (Or.inl ⟨by rfl, ?hyg3⟩) hHeld ?rrg3
             case hyg3 => (intro w hSw; (try dsimp only at hSw); go_simp; try with_reducible rfl))
          | (refine wpAnyH_take (i := 3) (oi := ⟨some 101, _, _, _, _, _⟩) (v := undef) rfl (by kernel_rfl) (by kernel_rfl) (by kernel_rfl) (fun _ _ _ h => h) (Or.inr ⟨by rfl, rfl⟩) hHeld ?rrg3)
        try simp only [Act.put, List.setIfInBounds_toArray, List.set_cons_zero, List.set_cons_succ]
        first
          | (refine wpAnyH_take (i := 4) (oi := ⟨some 102, _, _, _, _, _⟩) (v := ?vg4) rfl (by kernel_rfl) (by kernel_rfl) (by kernel_rfl) (fun _ _ _ h => h) (Or.inl ⟨by rfl, ?hyg4⟩) hHeld ?rrg4
             case hyg4 => (intro w hSw; (try dsimp only at hSw); go_simp; try with_reducible rfl))
          | (refine wpAnyH_take (i := 4) (oi := ⟨some 102, _, _, _, _, _⟩) (v := undef) rfl (by kernel_rfl) (by kernel_rfl) (by kernel_rfl) (fun _ _ _ h => h) (Or.inr ⟨by rfl, rfl⟩) hHeld ?rrg4)
        try simp only [Act.put, List.setIfInBounds_toArray, List.set_cons_zero, List.set_cons_succ]
        first
          | (refine wpAnyH_take (i := 5) (oi := ⟨some 103, _, _, _, _, _⟩) (v := ?vg5) rfl (by kernel_rfl) (by kernel_rfl) (by kernel_rfl) (fun _ _ _ h => h) (Or.inl ⟨by rfl, ?hyg5⟩) hHeld ?rrg5
             case hyg5 => (intro w hSw; (try dsimp only at hSw); go_simp; try with_reducible rfl))
          | (refine wpAnyH_take (i := 5) (oi := ⟨some 103, _, _, _, _, _⟩) (v := undef) rfl (by kernel_rfl) (by kernel_rfl) (by kernel_rfl) (fun _ _ _ h => h) (Or.inr ⟨by rfl, rfl⟩) hHeld ?rrg5)
        try simp only [Act.put, List.setIfInBounds_toArray, List.set_cons_zero, List.set_cons_succ]
        first
          | (refine wpAnyH_take (i := 6) (oi := ⟨some 104, _, _, _, _, _⟩) (v := ?vg6) rfl (by kernel_rfl) (by kernel_rfl) (by kernel_rfl) (fun _ _ _ h => h) (Or.inl ⟨by rfl, ?hyg6⟩) hHeld ?rrg6
             case hyg6 => (intro w hSw; (try dsimp only at hSw); go_simp; try with_reducible rfl))
          | (refine wpAnyH_take (i := 6) (oi := ⟨some 104, _, _, _, _, _⟩) (v := undef) rfl (by kernel_rfl) (by kernel_rfl) (by kernel_rfl) (fun _ _ _ h => h) (Or.inr ⟨by rfl, rfl⟩) hHeld ?rrg6)
        try simp only [Act.put, List.setIfInBounds_toArray, List.set_cons_zero, List.set_cons_succ]
        first
          | (refine wpAnyH_take (i := 7) (oi := ⟨some 105, _, _, _, _, _⟩) (v := ?vg7) rfl (by kernel_rfl) (by kernel_rfl) (by kernel_rfl) (fun _ _ _ h => h) (Or.inl ⟨by rfl, ?hyg7⟩) hHeld ?rrg7
             case hyg7 => (intro w hSw; (try dsimp only at hSw); go_simp; try with_reducible rfl))
          | (refine wpAnyH_take (i := 7) (oi := ⟨some 105, _, _, _, _, _⟩) (v := undef) rfl (by kernel_rfl) (by kernel_rfl) (by kernel_rfl) (fun _ _ _ h => h) (Or.inr ⟨by rfl, rfl⟩) hHeld ?rrg7)
        try simp only [Act.put, List.setIfInBounds_toArray, List.set_cons_zero, List.set_cons_succ]
        first
          | (refine wpAnyH_take (i := 8) (oi := ⟨some 106, _, _, _, _, _⟩) (v := ?vg8) rfl (by kernel_rfl) (by kernel_rfl) (by kernel_rfl) (fun _ _ _ h => h) (Or.inl ⟨by rfl, ?hyg8⟩) hHeld ?rrg8
             case hyg8 => (intro w hSw; (try dsimp only at hSw); go_simp; try with_reducible rfl))
          | (refine wpAnyH_take (i := 8) (oi := ⟨some 106, _, _, _, _, _⟩) (v := undef) rfl (by kernel_rfl) (by kernel_rfl) (by kernel_rfl) (fun _ _ _ h => h) (Or.inr ⟨by rfl, rfl⟩) hHeld ?rrg8)
        try simp only [Act.put, List.setIfInBounds_toArray, List.set_cons_zero, List.set_cons_succ]
        first
          | (refine wpAnyH_take (i := 9) (oi := ⟨some 107, _, _, _, _, _⟩) (v := ?vg9) rfl (by kernel_rfl) (by kernel_rfl) (by kernel_rfl) (fun _ _ _ h => h) (Or.inl ⟨by rfl, ?hyg9⟩) hHeld ?rrg9
             case hyg9 => (intro w hSw; (try dsimp only at hSw); go_simp; try with_reducible rfl))
          | (refine wpAnyH_take (i := 9) (oi := ⟨some 107, _, _, _, _, _⟩) (v := undef) rfl (by kernel_rfl) (by kernel_rfl) (by kernel_rfl) (fun _ _ _ h => h) (Or.inr ⟨by rfl, rfl⟩) hHeld ?rrg9)
        try simp only [Act.put, List.setIfInBounds_toArray, List.set_cons_zero, List.set_cons_succ]
        first
          | (refine wpAnyH_take (i := 10) (oi := ⟨some 108, _, _, _, _, _⟩) (v := ?vg10) rfl (by kernel_rfl) (by kernel_rfl) (by kernel_rfl) (fun _ _ _ h => h) (Or.inl ⟨by rfl, ?hyg10⟩) hHeld ?rrg10
             case hyg10 => (intro w hSw; (try dsimp only at hSw); go_simp; try with_reducible rfl))
          | (refine wpAnyH_take (i := 10) (oi := ⟨some 108, _, _, _, _, _⟩) (v := undef) rfl (by kernel_rfl) (by kernel_rfl) (by kernel_rfl) (fun _ _ _ h => h) (Or.inr ⟨by rfl, rfl⟩) hHeld ?rrg10)
        try simp only [Act.put, List.setIfInBounds_toArray, List.set_cons_zero, List.set_cons_succ]
        first
          | (refine wpAnyH_take (i := 11) (oi := ⟨some 109, _, _, _, _, _⟩) (v := ?vg11) rfl (by kernel_rfl) (by kernel_rfl) (by kernel_rfl) (fun _ _ _ h => h) (Or.inl ⟨by rfl, ?hyg11⟩) hHeld ?rrg11
             case hyg11 => (intro w hSw; (try dsimp only at hSw); go_simp; try with_reducible rfl))
          | (refine wpAnyH_take (i := 11) (oi := ⟨some 109, _, _, _, _, _⟩) (v := undef) rfl (by kernel_rfl) (by kernel_rfl) (by kernel_rfl) (fun _ _ _ h => h) (Or.inr ⟨by rfl, rfl⟩) hHeld ?rrg11)
        try simp only [Act.put, List.setIfInBounds_toArray, List.set_cons_zero, List.set_cons_succ]
        first
          | (refine wpAnyH_take (i := 12) (oi := ⟨some 110, _, _, _, _, _⟩) (v := ?vg12) rfl (by kernel_rfl) (by kernel_rfl) (by kernel_rfl) (fun _ _ _ h => h) (Or.inl ⟨by rfl, ?hyg12⟩) hHeld ?rrg12
             case hyg12 => (intro w hSw; (try dsimp only at hSw); go_simp; try with_reducible rfl))
          | (refine wpAnyH_take (i := 12) (oi := ⟨some 110, _, _, _, _, _⟩) (v := undef) rfl (by kernel_rfl) (by kernel_rfl) (by kernel_rfl) (fun _ _ _ h => h) (Or.inr ⟨by rfl, rfl⟩) hHeld ?rrg12)
        try simp only [Act.put, List.setIfInBounds_toArray, List.set_cons_zero, List.set_cons_succ]
        first
          | (refine wpAnyH_take (i := 13) (oi := ⟨some 111, _, _, _, _, _⟩) (v := ?vg13) rfl (by kernel_rfl) (by kernel_rfl) (by kernel_rfl) (fun _ _ _ h => h) (Or.inl ⟨by rfl, ?hyg13⟩) hHeld ?rrg13
             case hyg13 => (intro w hSw; (try dsimp only at hSw); go_simp; try with_reducible rfl))
          | (refine wpAnyH_take (i := 13) (oi := ⟨some 111, _, _, _, _, _⟩) (v := undef) rfl (by kernel_rfl) (by kernel_rfl) (by kernel_rfl) (fun _ _ _ h => h) (Or.inr ⟨by rfl, rfl⟩) hHeld ?rrg13)
        try simp only [Act.put, List.setIfInBounds_toArray, List.set_cons_zero, List.set_cons_succ]
        first
          | (refine wpAnyH_take (i := 14) (oi := ⟨some 112, _, _, _, _, _⟩) (v := ?vg14) rfl (by kernel_rfl) (by kernel_rfl) (by kernel_rfl) (fun _ _ _ h => h) (Or.inl ⟨by rfl, ?hyg14⟩) hHeld ?rrg14
             case hyg14 => (intro w hSw; (try dsimp only at hSw); go_simp; try with_reducible rfl))
          | (refine wpAnyH_take (i := 14) (oi := ⟨some 112, _, _, _, _, _⟩) (v := undef) rfl (by kernel_rfl) (by kernel_rfl) (by kernel_rfl) (fun _ _ _ h => h) (Or.inr ⟨by rfl, rfl⟩) hHeld ?rrg14)
        try simp only [Act.put, List.setIfInBounds_toArray, List.set_cons_zero, List.set_cons_succ]
        first
          | (refine wpAnyH_take (i := 15) (oi := ⟨some 113, _, _, _, _, _⟩) (v := ?vg15) rfl (by kernel_rfl) (by kernel_rfl) (by kernel_rfl) (fun _ _ _ h => h) (Or.inl ⟨by rfl, ?hyg15⟩) hHeld ?rrg15
             case hyg15 => (intro w hSw; (try dsimp only at hSw); go_simp; try with_reducible rfl))
          | (refine wpAnyH_take (i := 15) (oi := ⟨some 113, _, _, _, _, _⟩) (v := undef) rfl (by kernel_rfl) (by kernel_rfl) (by kernel_rfl) (fun _ _ _ h => h) (Or.inr ⟨by rfl, rfl⟩) hHeld ?rrg15)
        try simp only [Act.put, List.setIfInBounds_toArray, List.set_cons_zero, List.set_cons_succ]
        first
          | (refine wpAnyH_take (i := 16) (oi := ⟨some 114, _, _, _, _, _⟩) (v := ?vg16) rfl (by kernel_rfl) (by kernel_rfl) (by kernel_rfl) (fun _ _ _ h => h) (Or.inl ⟨by rfl, ?hyg16⟩) hHeld ?rrg16
             case hyg16 => (intro w hSw; (try dsimp only at hSw); go_simp; try with_reducible rfl))
          | (refine wpAnyH_take (i := 16) (oi := ⟨some 114, _, _, _, _, _⟩) (v := undef) rfl (by kernel_rfl) (by kernel_rfl) (by kernel_rfl) (fun _ _ _ h => h) (Or.inr ⟨by rfl, rfl⟩) hHeld ?rrg16)
        try simp only [Act.put, List.setIfInBounds_toArray, List.set_cons_zero, List.set_cons_succ]
        first
          | (refine wpAnyH_take (i := 17) (oi := ⟨some 115, _, _, _, _, _⟩) (v := ?vg17) rfl (by kernel_rfl) (by kernel_rfl) (by kernel_rfl) (fun _ _ _ h => h) (Or.inl ⟨by rfl, ?hyg17⟩) hHeld ?rrg17
             case hyg17 => (intro w hSw; (try dsimp only at hSw); go_simp; try with_reducible rfl))
          | (refine wpAnyH_take (i := 17) (oi := ⟨some 115, _, _, _, _, _⟩) (v := undef) rfl (by kernel_rfl) (by kernel_rfl) (by kernel_rfl) (fun _ _ _ h => h) (Or.inr ⟨by rfl, rfl⟩) hHeld ?rrg17)
        try simp only [Act.put, List.setIfInBounds_toArray, List.set_cons_zero, List.set_cons_succ]
        first
          | (refine wpAnyH_take (i := 18) (oi := ⟨some 116, _, _, _, _, _⟩) (v := ?vg18) rfl (by kernel_rfl) (by kernel_rfl) (by kernel_rfl) (fun _ _ _ h => h) (Or.inl ⟨by rfl, ?hyg18⟩) hHeld ?rrg18
             case hyg18 => (intro w hSw; (try dsimp only at hSw); go_simp; try with_reducible rfl))
          | (refine wpAnyH_take (i := 18) (oi := ⟨some 116, _, _, _, _, _⟩) (v := undef) rfl (by kernel_rfl) (by kernel_rfl) (by kernel_rfl) (fun _ _ _ h => h) (Or.inr ⟨by rfl, rfl⟩) hHeld ?rrg18)
        try simp only [Act.put, List.setIfInBounds_toArray, List.set_cons_zero, List.set_cons_succ]
        first
          | (refine wpAnyH_take (i := 19) (oi := ⟨some 117, _, _, _, _, _⟩) (v := ?vg19) rfl (by kernel_rfl) (by kernel_rfl) (by kernel_rfl) (fun _ _ _ h => h) (Or.inl ⟨by rfl, ?hyg19⟩) hHeld ?rrg19
             case hyg19 => (intro w hSw; (try dsimp only at hSw); go_simp; try with_reducible rfl))
          | (refine wpAnyH_take (i := 19) (oi := ⟨some 117, _, _, _, _, _⟩) (v := undef) rfl (by kernel_rfl) (by kernel_rfl) (by kernel_rfl) (fun _ _ _ h => h) (Or.inr ⟨by rfl, rfl⟩) hHeld ?rrg19)
        try simp only [Act.put, List.setIfInBounds_toArray, List.set_cons_zero, List.set_cons_succ]
        first
          | (refine wpAnyH_take (i := 20) (oi := ⟨some 118, _, _, _, _, _⟩) (v := ?vg20) rfl (by kernel_rfl) (by kernel_rfl) (by kernel_rfl) (fun _ _ _ h => h) (Or.inl ⟨by rfl, ?hyg20⟩) hHeld ?rrg20
             case hyg20 => (intro w hSw; (try dsimp only at hSw); go_simp; try with_reducible rfl))
          | (refine wpAnyH_take (i := 20) (oi := ⟨some 118, _, _, _, _, _⟩) (v := undef) rfl (by kernel_rfl) (by kernel_rfl) (by kernel_rfl) (fun _ _ _ h => h) (Or.inr ⟨by rfl, rfl⟩) hHeld ?rrg20)
        try simp only [Act.put, List.setIfInBounds_toArray, List.set_cons_zero, List.set_cons_succ]
        first
          | (refine wpAnyH_take (i := 21) (oi := ⟨some 119, _, _, _, _, _⟩) (v := ?vg21) rfl (by kernel_rfl) (by kernel_rfl) (by kernel_rfl) (fun _ _ _ h => h) (Or.inl ⟨by rfl, ?hyg21⟩) hHeld ?rrg21
             case hyg21 => (intro w hSw; (try dsimp only at hSw); go_simp; try with_reducible rfl))
          | (refine wpAnyH_take (i := 21) (oi := ⟨some 119, _, _, _, _, _⟩) (v := undef) rfl (by kernel_rfl) (by kernel_rfl) (by kernel_rfl) (fun _ _ _ h => h) (Or.inr ⟨by rfl, rfl⟩) hHeld ?rrg21)
        try simp only [Act.put, List.setIfInBounds_toArray, List.set_cons_zero, List.set_cons_succ]
        first
          | (refine wpAnyH_take (i := 22) (oi := ⟨some 120, _, _, _, _, _⟩) (v := ?vg22) rfl (by kernel_rfl) (by kernel_rfl) (by kernel_rfl) (fun _ _ _ h => h) (Or.inl ⟨by rfl, ?hyg22⟩) hHeld ?rrg22
             case hyg22 => (intro w hSw; (try dsimp only at hSw); go_simp; try with_reducible rfl))
          | (refine wpAnyH_take (i := 22) (oi := ⟨some 120, _, _, _, _, _⟩) (v := undef) rfl (by kernel_rfl) (by kernel_rfl) (by kernel_rfl) (fun _ _ _ h => h) (Or.inr ⟨by rfl, rfl⟩) hHeld ?rrg22)
        try simp only [Act.put, List.setIfInBounds_toArray, List.set_cons_zero, List.set_cons_succ]
        first
          | (refine wpAnyH_take (i := 23) (oi := ⟨some 121, _, _, _, _, _⟩) (v := ?vg23) rfl (by kernel_rfl) (by kernel_rfl) (by kernel_rfl) (fun _ _ _ h => h) (Or.inl ⟨by rfl, ?hyg23⟩) hHeld ?rrg23
             case hyg23 => (intro w hSw; (try dsimp only at hSw); go_simp; try with_reducible rfl))
          | (refine wpAnyH_take (i := 23) (oi := ⟨some 121, _, _, _, _, _⟩) (v := undef) rfl (by kernel_rfl) (by kernel_rfl) (by kernel_rfl) (fun _ _ _ h => h) (Or.inr ⟨by rfl, rfl⟩) hHeld ?rrg23)
        try simp only [Act.put, List.setIfInBounds_toArray, List.set_cons_zero, List.set_cons_succ]
        first
          | (refine wpAnyH_take (i := 24) (oi := ⟨some 122, _, _, _, _, _⟩) (v := ?vg24) rfl (by kernel_rfl) (by kernel_rfl) (by kernel_rfl) (fun _ _ _ h => h) (Or.inl ⟨by rfl, ?hyg24⟩) hHeld ?rrg24
             case hyg24 => (intro w hSw; (try dsimp only at hSw); go_simp; try with_reducible rfl))
          | (refine wpAnyH_take (i := 24) (oi := ⟨some 122, _, _, _, _, _⟩) (v := undef) rfl (by kernel_rfl) (by kernel_rfl) (by kernel_rfl) (fun _ _ _ h => h) (Or.inr ⟨by rfl, rfl⟩) hHeld ?rrg24)
        try simp only [Act.put, List.setIfInBounds_toArray, List.set_cons_zero, List.set_cons_succ]
        first
          | (refine wpAnyH_take (i := 25) (oi := ⟨some 123, _, _, _, _, _⟩) (v := ?vg25) rfl (by kernel_rfl) (by kernel_rfl) (by kernel_rfl) (fun _ _ _ h => h) (Or.inl ⟨by rfl, ?hyg25⟩) hHeld ?rrg25
             case hyg25 => (intro w hSw; (try dsimp only at hSw); go_simp; try with_reducible rfl))
          | (refine wpAnyH_take (i := 25) (oi := ⟨some 123, _, _, _, _, _⟩) (v := undef) rfl (by kernel_rfl) (by kernel_rfl) (by kernel_rfl) (fun _ _ _ h => h) (Or.inr ⟨by rfl, rfl⟩) hHeld ?rrg25)
        try simp only [Act.put, List.setIfInBounds_toArray, List.set_cons_zero, List.set_cons_succ]
        refine wpAnyH_done (by kernel_rfl) ?_ _
        refine NoPanic.normal ?_
        have hcc : (9223372036854775807 < A.size + Fq.s.size) = False := eq_false (by omega)
        have HO := Lib.hid hoff
        clear hoff g1 g2 g3 hPk
        go_wp2
        go_roundw
        case rel => exact ⟨k + 1, hkM, by rw [HQ.out.next, HA.out], by go_num, by first | exact HB5.out.drew | exact HB5.out⟩
        case measure => simp [intOf]; omega
      · obtain rfl : k = K := by omega
        have hcat : catP (L.take k) = ps := by
          rw [List.take_of_length_le (by rw [HM.out]; exact Nat.le_refl _)]; exact HFA.out.all
        rw [hcat]
        have hPk := blk_below hP10 HBK.out (blk_lt hP10)
        have c8 := (blk_cell (k := 8) hPk rfl).1
        simp only [List.getElem_toArray, List.getElem_cons_zero, List.getElem_cons_succ] at c8
        have HBF := HB.out.trans (HBK.out.mono HB.out.size)
        clear hcat hkM
        go_wp2
        go_ret
        exact ⟨rfl, HBF⟩
  · have hc := neO_big hp (by omega) (by omega) ho
    simp only at hc
    have HN := Lib.hid (mnew_no 5 0 (68 + n0) (by unfold b64i; omega) (⟨fr, dst, pr, tt, id, false, mf, off, ps⟩ : Pk) hpm ho)
    clear ho hp
    go_wp2_with fail
    refine (HN.out _).mono ?_
    rintro e w4 ⟨rfl, hb⟩
    replace hB := hB.trans (hb.mono hB.size)
    replace hP := blk_alloc (blk_below hP hb (blk_lt hP)) (mo mz)
    replace hB := hB.alloc hB.size (mo mz)
    clear hb HN
    obtain ⟨c0, -⟩ := blk_cell (k := 0) hP rfl
    obtain ⟨c1, -⟩ := blk_cell (k := 1) hP rfl
    obtain ⟨c2, -⟩ := blk_cell (k := 2) hP rfl
    obtain ⟨c3, -⟩ := blk_cell (k := 3) hP rfl
    obtain ⟨c4, -⟩ := blk_cell (k := 4) hP rfl
    obtain ⟨c5, -⟩ := blk_cell (k := 5) hP rfl
    obtain ⟨c6, -⟩ := blk_cell (k := 6) hP rfl
    obtain ⟨c7, -⟩ := blk_cell (k := 7) hP rfl
    obtain ⟨c8, -⟩ := blk_cell (k := 8) hP rfl
    simp only [List.getElem_toArray, List.getElem_cons_zero, List.getElem_cons_succ] at c0 c1 c2 c3 c4 c5 c6 c7 c8
    rcases hc with h | ⟨h, h2⟩ | ⟨h, h2, h3⟩
    · have h7 : (off != 0) = true := by simp [h]
      clear h
      go_wp2
      go_ret
      exact ⟨rfl, hB⟩
    · have h7 : (off != 0) = false := by simp [h]
      have h8 : (dst == 4294967295) = true := by simpa using h2
      clear h h2
      go_wp2
      go_ret
      exact ⟨rfl, hB⟩
    · have h7 : (off != 0) = false := by simp [h]
      have h8 : (dst == 4294967295) = false := by simpa using h2
      have h9 : (pr == 1) = true := by simpa using h3
      clear h h2 h3
      go_wp2
      go_ret
      exact ⟨rfl, hB⟩
end Go.Proofs.YtidjbpglpobigaaDoor
