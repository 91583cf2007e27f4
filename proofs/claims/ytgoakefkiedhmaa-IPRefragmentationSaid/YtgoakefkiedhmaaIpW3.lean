/- The walk of IPRefragmentation. -/
import Derived.Test.YtgoakefkiedhmaaIpW2
namespace Go.Proofs.Ytgoakefkiedhmaa
set_option linter.unusedVariables false
open Go.RowKit
attribute [local go_sem] Oper.semAt_some

set_option maxRecDepth 100000 in
set_option maxHeartbeats 3200000 in
theorem walk_IPRefragmentation (x : Rw) (one two : Int) (w : World) (hx : x.ok) (l1 : -9223372036854775808 ≤ one) (u1 : one ≤ 9223372036854775807) (l2 : -9223372036854775808 ≤ two) (u2 : two ≤ 9223372036854775807) :
    Calls Try.prog 7 #[rv x, .int .i64 one, .int .i64 two] w fun e w' => e = .returned (.bool true) ∧ Below w.heap.size w w' := by
  have hB := (Below.refl _ w).alloc (Nat.le_refl _) (ro x)
  have hX := blk_new w (ro x)
  go_enter Try.func7, Try.ntmps7
  go_wp2_with fail
  refine (sane_any _).mono ?_
  rintro e w1 ⟨rfl, hb⟩
  replace hB := hB.trans (hb.mono hB.size)
  replace hX := blk_below hX hb (blk_lt hX)
  clear hb
  obtain ⟨x0, xf0⟩ := blk_cell (k := 0) hX rfl
  obtain ⟨x1, xf1⟩ := blk_cell (k := 1) hX rfl
  obtain ⟨x2, xf2⟩ := blk_cell (k := 2) hX rfl
  obtain ⟨x3, xf3⟩ := blk_cell (k := 3) hX rfl
  obtain ⟨x4, xf4⟩ := blk_cell (k := 4) hX rfl
  obtain ⟨x5, xf5⟩ := blk_cell (k := 5) hX rfl
  obtain ⟨x6, xf6⟩ := blk_cell (k := 6) hX rfl
  obtain ⟨x7, xf7⟩ := blk_cell (k := 7) hX rfl
  obtain ⟨x8, xf8⟩ := blk_cell (k := 8) hX rfl
  simp only [List.getElem_toArray, List.getElem_cons_zero, List.getElem_cons_succ] at x0 x1 x2 x3 x4 x5 x6 x7 x8
  clear xf0 xf1 xf2 xf3 xf4 xf5 xf6 xf7 xf8
  go_wp2_with fail
  refine (packet_any x hx _).mono ?_
  rintro e w2 ⟨⟨p0, rfl, hp0, hp300⟩, hb⟩
  replace hB := hB.trans (hb.mono hB.size)
  replace hX := blk_below hX hb (blk_lt hX)
  clear hb
  clear x0 x1 x2 x3 x4 x5 x6 x7 x8
  clear hX
  obtain ⟨fr, dst, pr, tt, id, df, mf, off, ps⟩ := p0
  simp only at hp0 hp300
  have hp := okW_df hp0
  clear hp0
  have hP := blk_new w2 (po ⟨fr, dst, pr, tt, id, false, mf, off, ps⟩)
  replace hB := hB.alloc hB.size (po ⟨fr, dst, pr, tt, id, false, mf, off, ps⟩)
  obtain ⟨pn1, pn2⟩ := pickZ_bd one 300 (by decide)
  obtain ⟨n0, hn0⟩ : ∃ n0 : Nat, pickZ one 300 = (n0 : Int) := ⟨(pickZ one 300).toNat, by omega⟩
  rw [hn0] at pn1 pn2
  obtain ⟨pm1, pm2⟩ := pickZ_bd two 300 (by decide)
  obtain ⟨m0, hm0⟩ : ∃ m0 : Nat, pickZ two 300 = (m0 : Int) := ⟨(pickZ two 300).toNat, by omega⟩
  rw [hm0] at pm1 pm2
  have hpo : 0 ≤ off ∧ off ≤ 4000 := by have := hp.2.2.2.1; unfold okP at this; simp only at this; omega
  have hpm : ps.size ≤ maxLen := Nat.le_trans hp300 (by decide)
  obtain ⟨hFA, hFE⟩ := frag_all (⟨fr, dst, pr, tt, id, false, mf, off, ps⟩ : Pk) (68 + n0) hp rfl (by omega)
  have HFR : Hid (∀ w : World, Calls Try.prog 16 #[pv (⟨fr, dst, pr, tt, id, false, mf, off, ps⟩ : Pk), .int .i64 (68 + n0)] w fun e w' => (∃ g c, e = .returned (.tuple #[.slice (some ⟨g, 0, none⟩) (fgL (⟨fr, dst, pr, tt, id, false, mf, off, ps⟩ : Pk) (68 + n0)).length c, .int .i64 0]) ∧ w'.ownsRow w.heap.size 26 9 (.slice (some ⟨g, 0, none⟩) (fgL (⟨fr, dst, pr, tt, id, false, mf, off, ps⟩ : Pk) (68 + n0)).length c) (fgL (⟨fr, dst, pr, tt, id, false, mf, off, ps⟩ : Pk) (68 + n0)).length (flatP (fgL (⟨fr, dst, pr, tt, id, false, mf, off, ps⟩ : Pk) (68 + n0)))) ∧ Below w.heap.size w w') := by
    intro w
    refine (fragment_any (⟨fr, dst, pr, tt, id, false, mf, off, ps⟩ : Pk) (68 + n0) hpm (by omega) (by omega) w).mono ?_
    rintro e w' ⟨⟨v, rfl, hrow⟩, hb⟩
    rw [hFE]
    obtain ⟨g, c, rfl, -, -⟩ := hrow.form (by have := hFA.some; omega)
    exact ⟨⟨g, c, rfl, hrow⟩, hb⟩
  obtain ⟨L, hL⟩ : ∃ L, fgL (⟨fr, dst, pr, tt, id, false, mf, off, ps⟩ : Pk) (68 + n0) = L := ⟨_, rfl⟩
  rw [hL] at HFR hFA
  obtain ⟨M, hM⟩ : ∃ M, L.length = M := ⟨_, rfl⟩
  have HM := Lib.hid hM
  rw [hM] at HFR
  have hM1 : 1 ≤ M := hM ▸ hFA.some
  have hM2 : M ≤ 4001 := hM ▸ hFA.few
  have HFA := Lib.hid hFA
  clear hFA hFE hL hM hp
  go_wp2_with fail
  refine (pick_any one 300 _ l1 u1 (by decide) (by decide)).mono ?_
  rintro e w3 ⟨rfl, rfl⟩
  rw [hn0]
  clear hn0 pn1
  go_wp2_with fail
  refine (pick_any two 300 _ l2 u2 (by decide) (by decide)).mono ?_
  rintro e w3 ⟨rfl, rfl⟩
  rw [hm0]
  clear hm0 pm1
  go_wp2_with fail
  refine (HFR.out _).mono ?_
  rintro e w4 ⟨⟨g, cp, rfl, hrow⟩, hb⟩
  replace hB := hB.trans (hb.mono hB.size)
  replace hP := blk_below hP hb (blk_lt hP)
  clear hb
  have hgl := (hrow.lt g rfl).2
  have HROW := Lib.hid hrow
  clear hrow HFR
  have HB := Lib.hid hB
  have hP4 := blk_lt hP
  clear hB
  go_wp2_with fail
  go_loopw [13, 14, 15] (fun a c i wr => ∃ k n : Nat, k ≤ M ∧ a = .string (catP (L.take k)) ∧ c = .int .i64 (n : Int) ∧ i = .int .i64 (k : Int) ∧ n ≤ 4001 * k ∧ (n0 ≤ m0 → n = k) ∧ Hid (Below w4.heap.size w4 wr)) (fun _ _ i _ => M - (intOf i).toNat)
  case atStart => exact ⟨0, 0, Nat.zero_le _, rfl, rfl, rfl, Nat.zero_le _, fun _ => rfl, Below.refl _ _⟩
  case round =>
    obtain ⟨k, n, hk, rfl, rfl, rfl, hnk, hnn, HBK⟩ := hrel
    by_cases hkM : k < M
    · obtain ⟨Q, hQ⟩ := HFA.out.each k (by rw [HM.out]; exact hkM)
      have hPk := blk_below hP HBK.out (blk_lt hP)
      have hkMi : (k : Int) < (M : Int) := by omega
      have hcat := HFA.out.sub k (by rw [HM.out]; omega)
      simp only at hcat
      have hcl : ∀ c, c < 9 → wr.cell? ⟨g, k * 9 + c, none⟩ = (pcl Q)[c]? := fun c hc => by
        rw [HBK.out.cell (p := ⟨g, k * 9 + c, none⟩) hgl, HROW.out.cellAt (k * 9 + c) (by omega)]
        exact flatP_at L k Q hQ.at' c hc
      have e0 := hcl 0 (by decide)
      have e1 := hcl 1 (by decide)
      have e2 := hcl 2 (by decide)
      have e3 := hcl 3 (by decide)
      have e4 := hcl 4 (by decide)
      have e5 := hcl 5 (by decide)
      have e6 := hcl 6 (by decide)
      have e7 := hcl 7 (by decide)
      have e8 := hcl 8 (by decide)
      simp only [List.getElem?_cons_succ, List.getElem?_cons_zero] at e0 e1 e2 e3 e4 e5 e6 e7 e8
      rw [Nat.add_zero] at e0
      obtain ⟨A, hA⟩ : ∃ A, catP (L.take k) = A := ⟨_, rfl⟩
      rw [hA] at hcat
      have HQ := Lib.hid hQ
      have HA := Lib.hid hA
      clear hQ hA hcl
      rw [HA.out]
      have hnx : A.size + Q.s.size ≤ 300 := by have := HFA.out.sub (k + 1) (by rw [HM.out]; omega); rw [HQ.out.next, HA.out, ByteArray.size_append] at this; simp only at this; omega
      have hQd : Q.df = false := congrArg Pk.df HQ.out.same
      obtain ⟨hGA, hGE⟩ := frag_all Q (68 + m0) HQ.out.ok hQd (by omega)
      clear hQd
      have hGf := HQ.out.fits
      have hone : n0 ≤ m0 → (fgL Q (68 + m0)).length = 1 := fun h => hGA.one.2 (by omega)
      clear hGf
      obtain ⟨LL, hLL⟩ : ∃ LL, fgL Q (68 + m0) = LL := ⟨_, rfl⟩
      have HFR : Hid (∀ w : World, Calls Try.prog 16 #[pv Q, .int .i64 (68 + m0)] w fun e w' => (∃ g c, e = .returned (.tuple #[.slice (some ⟨g, 0, none⟩) LL.length c, .int .i64 0]) ∧ w'.ownsRow w.heap.size 26 9 (.slice (some ⟨g, 0, none⟩) LL.length c) LL.length (flatP LL)) ∧ Below w.heap.size w w') := by
        intro w
        refine (fragment_any Q (68 + m0) (Nat.le_trans (by omega : Q.s.size ≤ 300) (by decide)) (by omega) (by omega) w).mono ?_
        rintro e w' ⟨⟨v, rfl, hrow⟩, hb⟩
        rw [hGE]
        rw [hLL] at hrow hGA
        obtain ⟨g, c, rfl, -, -⟩ := hrow.form (by have := hGA.some; omega)
        exact ⟨⟨g, c, rfl, hrow⟩, hb⟩
      rw [hLL] at hGA hone
      obtain ⟨M2, hM2e⟩ : ∃ M2, LL.length = M2 := ⟨_, rfl⟩
      have HM2 := Lib.hid hM2e
      rw [hM2e] at HFR hone
      have hM2b : M2 ≤ 4001 := hM2e ▸ hGA.few
      have hoff := HQ.out.off
      rw [HA.out] at hoff
      simp only at hoff
      have HOF := Lib.hid hoff
      clear hoff
      have HGA := Lib.hid hGA
      clear hGA hGE hLL hM2e
      go_wp2_with fail
      refine (HFR.out _).mono ?_
      rintro e w5 ⟨⟨g2, cp2, rfl, hrow2⟩, hb⟩
      have HB5 : Hid (Below w4.heap.size w4 w5) := HBK.out.trans (hb.mono HBK.out.size)
      replace hPk := blk_below hPk hb (blk_lt hPk)
      have hgl2 := (hrow2.lt g2 rfl).2
      have HROW2 := Lib.hid hrow2
      clear hrow2 HFR hb HBK e0 e1 e2 e3 e4 e5 e6 e7 e8
      go_wp2_with fail
      go_loopw [13, 14, 18] (fun a c i wq => ∃ j : Nat, j ≤ M2 ∧ a = .string (A ++ catP (LL.take j)) ∧ c = .int .i64 ((n + j : Nat) : Int) ∧ i = .int .i64 (j : Int) ∧ Hid (Below w5.heap.size w5 wq)) (fun _ _ i _ => M2 - (intOf i).toNat)
      case atStart => exact ⟨0, Nat.zero_le _, by rw [List.take_zero, catP_nil]; simp, rfl, rfl, Below.refl _ _⟩
      case round =>
        obtain ⟨j, hj, rfl, rfl, rfl, HBJ⟩ := hrel
        by_cases hjM : j < M2
        · obtain ⟨R, hR⟩ := HGA.out.each j (by rw [HM2.out]; exact hjM)
          have hPj := blk_below hPk HBJ.out (blk_lt hPk)
          have hjMi : (j : Int) < (M2 : Int) := by omega
          have hnj : A.size + (catP (LL.take j)).size + R.s.size ≤ 300 := by have := HGA.out.sub (j + 1) (by rw [HM2.out]; omega); rw [hR.next, ByteArray.size_append] at this; omega
          have hrc : ∀ c, c < 9 → wr.cell? ⟨g2, j * 9 + c, none⟩ = (pcl R)[c]? := fun c hc => by
            rw [HBJ.out.cell (p := ⟨g2, j * 9 + c, none⟩) hgl2, HROW2.out.cellAt (j * 9 + c) (by omega)]
            exact flatP_at LL j R hR.at' c hc
          have r7 := hrc 7 (by decide)
          have r8 := hrc 8 (by decide)
          simp only [List.getElem?_cons_succ, List.getElem?_cons_zero] at r7 r8
          obtain ⟨C, hC⟩ : ∃ C, A ++ catP (LL.take j) = C := ⟨_, rfl⟩
          have hCs : C.size = A.size + (catP (LL.take j)).size := by rw [← hC, ByteArray.size_append]
          have hoff := HOF.out
          have hro := hR.off
          rw [hoff] at hro
          have hro2 : R.off = off + (C.size : Int) := by omega
          have hrf := hR.fits
          have hnext : A ++ catP (LL.take (j + 1)) = C ++ R.s := by rw [hR.next, ← ByteArray.append_assoc, hC]
          have hCb : C.size + R.s.size ≤ 300 := by omega
          have HC := Lib.hid hC
          have HNX := Lib.hid hnext
          clear hR hrc hC hnext hro hCs hnj hoff
          rw [HC.out]
          have g1 : (68 + (m0 : Int) < (R.s.size : Int) + 20) = False := eq_false (by omega)
          have g2' : wrap64 (off + (C.size : Int)) = off + (C.size : Int) := IntWalk.wrap64_in _ ⟨by omega, by omega⟩
          have g3 : IntKind.i64.wrap (off + (C.size : Int)) = off + (C.size : Int) := wraps_i64 _ (by omega) (by omega)
          have g4 : IntKind.i64.wrap ((R.s.size : Int) + 20) = (R.s.size : Int) + 20 := wraps_i64 _ (by omega) (by omega)
          have hcc : (9223372036854775807 < C.size + R.s.size) = False := eq_false (by omega)
          have hw5 : wrap64 (((n + j : Nat) : Int) + 1) = ((n + (j + 1) : Nat) : Int) := by rw [IntWalk.wrap64_in _ ⟨by omega, by omega⟩]; omega
          have c7 := (blk_cell (k := 7) hPj rfl).1
          simp only [List.getElem_toArray, List.getElem_cons_zero, List.getElem_cons_succ] at c7
          obtain ⟨nj, hnj⟩ : ∃ nj : Int, ((n + j : Nat) : Int) = nj := ⟨_, rfl⟩
          have HNJ := Lib.hid hnj
          rw [hnj] at hw5 ⊢
          have HW5 := Lib.hid hw5
          clear hnj hw5
          go_wp2
          go_cut [79] from 52 to 88 (fun v wx => v = .bool false ∧ wx = wr.drew)
          case first =>
            refine wp_region_noPanic ?_
            refine wp_region_held_drew (S := fun w' => w'.cell? ⟨w2.heap.size, 7, none⟩ = some (.int .i64 off) ∧ w'.cell? ⟨g2, j * 9 + 7, none⟩ = some (.int .i64 R.off) ∧ w'.cell? ⟨g2, j * 9 + 8, none⟩ = some (.string R.s)) (by kernel_rfl) (⟨c7, r7, r8⟩) (fun hHeld => ?_)
            first
              | (refine wpAnyH_take (i := 0) (oi := ⟨some 58, _, _, _, _, _⟩) (v := ?va0) rfl (by kernel_rfl) (by kernel_rfl) (by kernel_rfl) (fun _ _ _ h => h) (Or.inl ⟨by rfl, ?hya0⟩) hHeld ?rra0
                 case hya0 => (intro w hSw; (try dsimp only at hSw); go_simp; try with_reducible rfl))
              | (refine wpAnyH_take (i := 0) (oi := ⟨some 58, _, _, _, _, _⟩) (v := undef) rfl (by kernel_rfl) (by kernel_rfl) (by kernel_rfl) (fun _ _ _ h => h) (Or.inr ⟨by rfl, rfl⟩) hHeld ?rra0)
            try simp only [Act.put, List.setIfInBounds_toArray, List.set_cons_zero, List.set_cons_succ]
            first
              | (refine wpAnyH_take (i := 1) (oi := ⟨some 59, _, _, _, _, _⟩) (v := ?va1) rfl (by kernel_rfl) (by kernel_rfl) (by kernel_rfl) (fun _ _ _ h => h) (Or.inl ⟨by rfl, ?hya1⟩) hHeld ?rra1
                 case hya1 => (intro w hSw; (try dsimp only at hSw); go_simp; try with_reducible rfl))
              | (refine wpAnyH_take (i := 1) (oi := ⟨some 59, _, _, _, _, _⟩) (v := undef) rfl (by kernel_rfl) (by kernel_rfl) (by kernel_rfl) (fun _ _ _ h => h) (Or.inr ⟨by rfl, rfl⟩) hHeld ?rra1)
            try simp only [Act.put, List.setIfInBounds_toArray, List.set_cons_zero, List.set_cons_succ]
            first
              | (refine wpAnyH_take (i := 2) (oi := ⟨some 60, _, _, _, _, _⟩) (v := ?va2) rfl (by kernel_rfl) (by kernel_rfl) (by kernel_rfl) (fun _ _ _ h => h) (Or.inl ⟨by rfl, ?hya2⟩) hHeld ?rra2
                 case hya2 => (intro w hSw; (try dsimp only at hSw); go_simp; try with_reducible rfl))
              | (refine wpAnyH_take (i := 2) (oi := ⟨some 60, _, _, _, _, _⟩) (v := undef) rfl (by kernel_rfl) (by kernel_rfl) (by kernel_rfl) (fun _ _ _ h => h) (Or.inr ⟨by rfl, rfl⟩) hHeld ?rra2)
            try simp only [Act.put, List.setIfInBounds_toArray, List.set_cons_zero, List.set_cons_succ]
            first
              | (refine wpAnyH_take (i := 3) (oi := ⟨some 61, _, _, _, _, _⟩) (v := ?va3) rfl (by kernel_rfl) (by kernel_rfl) (by kernel_rfl) (fun _ _ _ h => h) (Or.inl ⟨by rfl, ?hya3⟩) hHeld ?rra3
                 case hya3 => (intro w hSw; (try dsimp only at hSw); go_simp; try with_reducible rfl))
              | (refine wpAnyH_take (i := 3) (oi := ⟨some 61, _, _, _, _, _⟩) (v := undef) rfl (by kernel_rfl) (by kernel_rfl) (by kernel_rfl) (fun _ _ _ h => h) (Or.inr ⟨by rfl, rfl⟩) hHeld ?rra3)
            try simp only [Act.put, List.setIfInBounds_toArray, List.set_cons_zero, List.set_cons_succ]
            first
              | (refine wpAnyH_take (i := 4) (oi := ⟨some 62, _, _, _, _, _⟩) (v := ?va4) rfl (by kernel_rfl) (by kernel_rfl) (by kernel_rfl) (fun _ _ _ h => h) (Or.inl ⟨by rfl, ?hya4⟩) hHeld ?rra4
                 case hya4 => (intro w hSw; (try dsimp only at hSw); go_simp; try with_reducible rfl))
              | (refine wpAnyH_take (i := 4) (oi := ⟨some 62, _, _, _, _, _⟩) (v := undef) rfl (by kernel_rfl) (by kernel_rfl) (by kernel_rfl) (fun _ _ _ h => h) (Or.inr ⟨by rfl, rfl⟩) hHeld ?rra4)
            try simp only [Act.put, List.setIfInBounds_toArray, List.set_cons_zero, List.set_cons_succ]
            first
              | (refine wpAnyH_take (i := 5) (oi := ⟨some 63, _, _, _, _, _⟩) (v := ?va5) rfl (by kernel_rfl) (by kernel_rfl) (by kernel_rfl) (fun _ _ _ h => h) (Or.inl ⟨by rfl, ?hya5⟩) hHeld ?rra5
                 case hya5 => (intro w hSw; (try dsimp only at hSw); go_simp; try with_reducible rfl))
              | (refine wpAnyH_take (i := 5) (oi := ⟨some 63, _, _, _, _, _⟩) (v := undef) rfl (by kernel_rfl) (by kernel_rfl) (by kernel_rfl) (fun _ _ _ h => h) (Or.inr ⟨by rfl, rfl⟩) hHeld ?rra5)
            try simp only [Act.put, List.setIfInBounds_toArray, List.set_cons_zero, List.set_cons_succ]
            first
              | (refine wpAnyH_take (i := 6) (oi := ⟨some 64, _, _, _, _, _⟩) (v := ?va6) rfl (by kernel_rfl) (by kernel_rfl) (by kernel_rfl) (fun _ _ _ h => h) (Or.inl ⟨by rfl, ?hya6⟩) hHeld ?rra6
                 case hya6 => (intro w hSw; (try dsimp only at hSw); go_simp; try with_reducible rfl))
              | (refine wpAnyH_take (i := 6) (oi := ⟨some 64, _, _, _, _, _⟩) (v := undef) rfl (by kernel_rfl) (by kernel_rfl) (by kernel_rfl) (fun _ _ _ h => h) (Or.inr ⟨by rfl, rfl⟩) hHeld ?rra6)
            try simp only [Act.put, List.setIfInBounds_toArray, List.set_cons_zero, List.set_cons_succ]
            first
              | (refine wpAnyH_take (i := 7) (oi := ⟨some 65, _, _, _, _, _⟩) (v := ?va7) rfl (by kernel_rfl) (by kernel_rfl) (by kernel_rfl) (fun _ _ _ h => h) (Or.inl ⟨by rfl, ?hya7⟩) hHeld ?rra7
                 case hya7 => (intro w hSw; (try dsimp only at hSw); go_simp; try with_reducible rfl))
              | (refine wpAnyH_take (i := 7) (oi := ⟨some 65, _, _, _, _, _⟩) (v := undef) rfl (by kernel_rfl) (by kernel_rfl) (by kernel_rfl) (fun _ _ _ h => h) (Or.inr ⟨by rfl, rfl⟩) hHeld ?rra7)
            try simp only [Act.put, List.setIfInBounds_toArray, List.set_cons_zero, List.set_cons_succ]
            first
              | (refine wpAnyH_take (i := 8) (oi := ⟨some 66, _, _, _, _, _⟩) (v := ?va8) rfl (by kernel_rfl) (by kernel_rfl) (by kernel_rfl) (fun _ _ _ h => h) (Or.inl ⟨by rfl, ?hya8⟩) hHeld ?rra8
                 case hya8 => (intro w hSw; (try dsimp only at hSw); go_simp; try with_reducible rfl))
              | (refine wpAnyH_take (i := 8) (oi := ⟨some 66, _, _, _, _, _⟩) (v := undef) rfl (by kernel_rfl) (by kernel_rfl) (by kernel_rfl) (fun _ _ _ h => h) (Or.inr ⟨by rfl, rfl⟩) hHeld ?rra8)
            try simp only [Act.put, List.setIfInBounds_toArray, List.set_cons_zero, List.set_cons_succ]
            first
              | (refine wpAnyH_take (i := 9) (oi := ⟨some 67, _, _, _, _, _⟩) (v := ?va9) rfl (by kernel_rfl) (by kernel_rfl) (by kernel_rfl) (fun _ _ _ h => h) (Or.inl ⟨by rfl, ?hya9⟩) hHeld ?rra9
                 case hya9 => (intro w hSw; (try dsimp only at hSw); go_simp; try with_reducible rfl))
              | (refine wpAnyH_take (i := 9) (oi := ⟨some 67, _, _, _, _, _⟩) (v := undef) rfl (by kernel_rfl) (by kernel_rfl) (by kernel_rfl) (fun _ _ _ h => h) (Or.inr ⟨by rfl, rfl⟩) hHeld ?rra9)
            try simp only [Act.put, List.setIfInBounds_toArray, List.set_cons_zero, List.set_cons_succ]
            first
              | (refine wpAnyH_take (i := 10) (oi := ⟨some 68, _, _, _, _, _⟩) (v := ?va10) rfl (by kernel_rfl) (by kernel_rfl) (by kernel_rfl) (fun _ _ _ h => h) (Or.inl ⟨by rfl, ?hya10⟩) hHeld ?rra10
                 case hya10 => (intro w hSw; (try dsimp only at hSw); go_simp; try with_reducible rfl))
              | (refine wpAnyH_take (i := 10) (oi := ⟨some 68, _, _, _, _, _⟩) (v := undef) rfl (by kernel_rfl) (by kernel_rfl) (by kernel_rfl) (fun _ _ _ h => h) (Or.inr ⟨by rfl, rfl⟩) hHeld ?rra10)
            try simp only [Act.put, List.setIfInBounds_toArray, List.set_cons_zero, List.set_cons_succ]
            first
              | (refine wpAnyH_take (i := 11) (oi := ⟨some 69, _, _, _, _, _⟩) (v := ?va11) rfl (by kernel_rfl) (by kernel_rfl) (by kernel_rfl) (fun _ _ _ h => h) (Or.inl ⟨by rfl, ?hya11⟩) hHeld ?rra11
                 case hya11 => (intro w hSw; (try dsimp only at hSw); go_simp; try with_reducible rfl))
              | (refine wpAnyH_take (i := 11) (oi := ⟨some 69, _, _, _, _, _⟩) (v := undef) rfl (by kernel_rfl) (by kernel_rfl) (by kernel_rfl) (fun _ _ _ h => h) (Or.inr ⟨by rfl, rfl⟩) hHeld ?rra11)
            try simp only [Act.put, List.setIfInBounds_toArray, List.set_cons_zero, List.set_cons_succ]
            first
              | (refine wpAnyH_take (i := 12) (oi := ⟨some 70, _, _, _, _, _⟩) (v := ?va12) rfl (by kernel_rfl) (by kernel_rfl) (by kernel_rfl) (fun _ _ _ h => h) (Or.inl ⟨by rfl, ?hya12⟩) hHeld ?rra12
                 case hya12 => (intro w hSw; (try dsimp only at hSw); go_simp; try with_reducible rfl))
              | (refine wpAnyH_take (i := 12) (oi := ⟨some 70, _, _, _, _, _⟩) (v := undef) rfl (by kernel_rfl) (by kernel_rfl) (by kernel_rfl) (fun _ _ _ h => h) (Or.inr ⟨by rfl, rfl⟩) hHeld ?rra12)
            try simp only [Act.put, List.setIfInBounds_toArray, List.set_cons_zero, List.set_cons_succ]
            first
              | (refine wpAnyH_take (i := 13) (oi := ⟨some 71, _, _, _, _, _⟩) (v := ?va13) rfl (by kernel_rfl) (by kernel_rfl) (by kernel_rfl) (fun _ _ _ h => h) (Or.inl ⟨by rfl, ?hya13⟩) hHeld ?rra13
                 case hya13 => (intro w hSw; (try dsimp only at hSw); go_simp; try with_reducible rfl))
              | (refine wpAnyH_take (i := 13) (oi := ⟨some 71, _, _, _, _, _⟩) (v := undef) rfl (by kernel_rfl) (by kernel_rfl) (by kernel_rfl) (fun _ _ _ h => h) (Or.inr ⟨by rfl, rfl⟩) hHeld ?rra13)
            try simp only [Act.put, List.setIfInBounds_toArray, List.set_cons_zero, List.set_cons_succ]
            first
              | (refine wpAnyH_take (i := 14) (oi := ⟨some 72, _, _, _, _, _⟩) (v := ?va14) rfl (by kernel_rfl) (by kernel_rfl) (by kernel_rfl) (fun _ _ _ h => h) (Or.inl ⟨by rfl, ?hya14⟩) hHeld ?rra14
                 case hya14 => (intro w hSw; (try dsimp only at hSw); go_simp; try with_reducible rfl))
              | (refine wpAnyH_take (i := 14) (oi := ⟨some 72, _, _, _, _, _⟩) (v := undef) rfl (by kernel_rfl) (by kernel_rfl) (by kernel_rfl) (fun _ _ _ h => h) (Or.inr ⟨by rfl, rfl⟩) hHeld ?rra14)
            try simp only [Act.put, List.setIfInBounds_toArray, List.set_cons_zero, List.set_cons_succ]
            first
              | (refine wpAnyH_take (i := 15) (oi := ⟨some 73, _, _, _, _, _⟩) (v := ?va15) rfl (by kernel_rfl) (by kernel_rfl) (by kernel_rfl) (fun _ _ _ h => h) (Or.inl ⟨by rfl, ?hya15⟩) hHeld ?rra15
                 case hya15 => (intro w hSw; (try dsimp only at hSw); go_simp; try with_reducible rfl))
              | (refine wpAnyH_take (i := 15) (oi := ⟨some 73, _, _, _, _, _⟩) (v := undef) rfl (by kernel_rfl) (by kernel_rfl) (by kernel_rfl) (fun _ _ _ h => h) (Or.inr ⟨by rfl, rfl⟩) hHeld ?rra15)
            try simp only [Act.put, List.setIfInBounds_toArray, List.set_cons_zero, List.set_cons_succ]
            first
              | (refine wpAnyH_take (i := 16) (oi := ⟨some 74, _, _, _, _, _⟩) (v := ?va16) rfl (by kernel_rfl) (by kernel_rfl) (by kernel_rfl) (fun _ _ _ h => h) (Or.inl ⟨by rfl, ?hya16⟩) hHeld ?rra16
                 case hya16 => (intro w hSw; (try dsimp only at hSw); go_simp; try with_reducible rfl))
              | (refine wpAnyH_take (i := 16) (oi := ⟨some 74, _, _, _, _, _⟩) (v := undef) rfl (by kernel_rfl) (by kernel_rfl) (by kernel_rfl) (fun _ _ _ h => h) (Or.inr ⟨by rfl, rfl⟩) hHeld ?rra16)
            try simp only [Act.put, List.setIfInBounds_toArray, List.set_cons_zero, List.set_cons_succ]
            first
              | (refine wpAnyH_take (i := 17) (oi := ⟨some 75, _, _, _, _, _⟩) (v := ?va17) rfl (by kernel_rfl) (by kernel_rfl) (by kernel_rfl) (fun _ _ _ h => h) (Or.inl ⟨by rfl, ?hya17⟩) hHeld ?rra17
                 case hya17 => (intro w hSw; (try dsimp only at hSw); go_simp; try with_reducible rfl))
              | (refine wpAnyH_take (i := 17) (oi := ⟨some 75, _, _, _, _, _⟩) (v := undef) rfl (by kernel_rfl) (by kernel_rfl) (by kernel_rfl) (fun _ _ _ h => h) (Or.inr ⟨by rfl, rfl⟩) hHeld ?rra17)
            try simp only [Act.put, List.setIfInBounds_toArray, List.set_cons_zero, List.set_cons_succ]
            first
              | (refine wpAnyH_take (i := 18) (oi := ⟨some 76, _, _, _, _, _⟩) (v := ?va18) rfl (by kernel_rfl) (by kernel_rfl) (by kernel_rfl) (fun _ _ _ h => h) (Or.inl ⟨by rfl, ?hya18⟩) hHeld ?rra18
                 case hya18 => (intro w hSw; (try dsimp only at hSw); go_simp; try with_reducible rfl))
              | (refine wpAnyH_take (i := 18) (oi := ⟨some 76, _, _, _, _, _⟩) (v := undef) rfl (by kernel_rfl) (by kernel_rfl) (by kernel_rfl) (fun _ _ _ h => h) (Or.inr ⟨by rfl, rfl⟩) hHeld ?rra18)
            try simp only [Act.put, List.setIfInBounds_toArray, List.set_cons_zero, List.set_cons_succ]
            first
              | (refine wpAnyH_take (i := 19) (oi := ⟨some 77, _, _, _, _, _⟩) (v := ?va19) rfl (by kernel_rfl) (by kernel_rfl) (by kernel_rfl) (fun _ _ _ h => h) (Or.inl ⟨by rfl, ?hya19⟩) hHeld ?rra19
                 case hya19 => (intro w hSw; (try dsimp only at hSw); go_simp; try with_reducible rfl))
              | (refine wpAnyH_take (i := 19) (oi := ⟨some 77, _, _, _, _, _⟩) (v := undef) rfl (by kernel_rfl) (by kernel_rfl) (by kernel_rfl) (fun _ _ _ h => h) (Or.inr ⟨by rfl, rfl⟩) hHeld ?rra19)
            try simp only [Act.put, List.setIfInBounds_toArray, List.set_cons_zero, List.set_cons_succ]
            first
              | (refine wpAnyH_take (i := 20) (oi := ⟨some 78, _, _, _, _, _⟩) (v := ?va20) rfl (by kernel_rfl) (by kernel_rfl) (by kernel_rfl) (fun _ _ _ h => h) (Or.inl ⟨by rfl, ?hya20⟩) hHeld ?rra20
                 case hya20 => (intro w hSw; (try dsimp only at hSw); go_simp; try with_reducible rfl))
              | (refine wpAnyH_take (i := 20) (oi := ⟨some 78, _, _, _, _, _⟩) (v := undef) rfl (by kernel_rfl) (by kernel_rfl) (by kernel_rfl) (fun _ _ _ h => h) (Or.inr ⟨by rfl, rfl⟩) hHeld ?rra20)
            try simp only [Act.put, List.setIfInBounds_toArray, List.set_cons_zero, List.set_cons_succ]
            first
              | (refine wpAnyH_take (i := 21) (oi := ⟨some 79, _, _, _, _, _⟩) (v := ?va21) rfl (by kernel_rfl) (by kernel_rfl) (by kernel_rfl) (fun _ _ _ h => h) (Or.inl ⟨by rfl, ?hya21⟩) hHeld ?rra21
                 case hya21 => (intro w hSw; (try dsimp only at hSw); go_simp; try with_reducible rfl))
              | (refine wpAnyH_take (i := 21) (oi := ⟨some 79, _, _, _, _, _⟩) (v := undef) rfl (by kernel_rfl) (by kernel_rfl) (by kernel_rfl) (fun _ _ _ h => h) (Or.inr ⟨by rfl, rfl⟩) hHeld ?rra21)
            try simp only [Act.put, List.setIfInBounds_toArray, List.set_cons_zero, List.set_cons_succ]
            refine wpAnyH_done (by kernel_rfl) ?_ _
            refine NoPanic.normal ?_
            go_wp2_with fail
            go_meet
            exact ⟨rfl, rfl⟩
          case rest =>
            obtain ⟨rfl, rfl⟩ := hcut
            have hw5 := HW5.out
            go_wp2
            exact ⟨⟨j + 1, hjM, congrArg Value.string HNX.out.symm, congrArg (Value.int .i64) hw5, by go_num, HBJ.out.drew⟩, by simp [intOf]; omega⟩
        · obtain rfl : j = M2 := by omega
          have hall : catP (LL.take j) = Q.s := by
            rw [List.take_of_length_le (by rw [HM2.out]; exact Nat.le_refl _)]; exact HGA.out.all
          rw [hall, show A ++ Q.s = catP (L.take (k + 1)) by rw [HQ.out.next, HA.out]]
          obtain ⟨nj, hnj⟩ : ∃ nj : Int, ((n + j : Nat) : Int) = nj := ⟨_, rfl⟩
          have HNJ := Lib.hid hnj
          rw [hnj]
          have HONE := Lib.hid hone
          clear hnj hall hone
          go_wp2
          exact ⟨⟨k + 1, n + j, hkM, rfl, congrArg (Value.int .i64) HNJ.out.symm, by go_num, by omega, fun h => by have a := HONE.out h; have b := hnn h; omega, (HB5.out.trans (HBJ.out.mono HB5.out.size))⟩, by simp [intOf]; omega⟩
    · obtain rfl : k = M := by omega
      have hcat : catP (L.take k) = ps := by
        rw [List.take_of_length_le (by rw [HM.out]; exact Nat.le_refl _)]; exact HFA.out.all
      rw [hcat]
      have hPk := blk_below hP HBK.out (blk_lt hP)
      have c8 := (blk_cell (k := 8) hPk rfl).1
      simp only [List.getElem_toArray, List.getElem_cons_zero, List.getElem_cons_succ] at c8
      have HBF := HB.out.trans (HBK.out.mono HB.out.size)
      clear hcat hkM
      go_wp2
      all_goals (go_ret; exact ⟨rfl, HBF⟩)
end Go.Proofs.Ytgoakefkiedhmaa
