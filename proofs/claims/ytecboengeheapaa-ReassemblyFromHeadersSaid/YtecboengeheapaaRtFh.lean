/- The law ReassemblyFromHeaders, its walk. -/
import Derived.Test.YtecboengeheapaaRtH
import Derived.Test.YtecboengeheapaaIpQ
import Derived.Test.YtecboengeheapaaRtRnd
namespace Go.Proofs.Ytecboengeheapaa
open Go.RowKit Go.Maps
set_option linter.unusedVariables false
attribute [local go_sem] Oper.semAt_some

/-- between two rounds: k fragments came -/
structure FhI (w : World) (B T : Nat) (v : Value) (s : ByteArray) (n M k : Nat) (got : ByteArray) (W : World) : Prop where
  tab : ∃ cr L S, TabS W B T cr L S ∧ TbR s n M (fun j => decide (j < k)) cr L
  got : got = if k = M then s else ⟨#[]⟩
  row : W.ownsRow w.heap.size 26 9 v M (flatP (prL s n))
  low : ∀ b, v.ownBlock = .some b → b < B
  lo : w.heap.size ≤ B ∧ B ≤ W.heap.size
  bl : Below w.heap.size w W
theorem FhI.below {w : World} {B T : Nat} {v : Value} {s : ByteArray} {n M k : Nat} {got : ByteArray} {W W' : World} (h : FhI w B T v s n M k got W) (hb : Below W.heap.size W W') : FhI w B T v s n M k got W' := by
  obtain ⟨cr, L, S, h1, h2⟩ := h.tab
  exact ⟨⟨cr, L, S, h1.below hb, h2⟩, h.got, row_of_block h.row fun b e => hb.block b (h.row.lt b e).2, h.low, ⟨h.lo.1, Nat.le_trans h.lo.2 hb.size⟩, h.bl.trans (hb.mono h.bl.size)⟩
theorem allC_pre {M k : Nat} (hk : k < M) : allC M (came (fun j => decide (j < k)) k) = decide (k + 1 = M) := by
  by_cases h : k + 1 = M
  · rw [decide_eq_true h]
    refine allC_yes.2 fun j hj => ?_
    show (decide (j < k) || decide (j = k)) = true
    rw [Bool.or_eq_true, decide_eq_true_iff, decide_eq_true_iff]
    omega
  · rw [decide_eq_false h, Bool.eq_false_iff]
    intro a
    have := allC_yes.1 a (k + 1) (by omega)
    change (decide (k + 1 < k) || decide (k + 1 = k)) = true at this
    rw [Bool.or_eq_true, decide_eq_true_iff, decide_eq_true_iff] at this
    omega
theorem tbr_congr {s : ByteArray} {n M : Nat} (P : Pt s n M) {C D : Nat → Bool} {cr : Int} {L : List Dg} (h : TbR s n M C cr L) (he : ∀ j, j < M → C j = D j) : TbR s n M D cr L := by
  have ha : allC M C = allC M D := by
    rw [Bool.eq_iff_iff, allC_yes, allC_yes]
    exact ⟨fun h j hj => (he j hj).symm.trans (h j hj), fun h j hj => (he j hj).trans (h j hj)⟩
  rcases h with ⟨h1, h2, h3⟩ | ⟨h1, ⟨j, hj, hc⟩, h2, x, h3, h4, h5⟩ | ⟨h1, h2, h3⟩
  · exact .inl ⟨fun j hj => (he j hj).symm.trans (h1 j hj), h2, h3⟩
  · rcases P with F | ⟨rfl, -⟩
    · exact .inr (.inl ⟨ha.symm.trans h1, ⟨j, hj, (he j hj).symm.trans hc⟩, h2, x, h3, rt_congr F h4 he, h5⟩)
    · exfalso
      obtain rfl : j = 0 := by omega
      have : allC 1 C = true := allC_yes.2 fun j hj => by
        obtain rfl : j = 0 := by omega
        exact hc
      rw [h1] at this; cases this
  · exact .inr (.inr ⟨ha.symm.trans h1, h2, h3⟩)
theorem came_pre (k j : Nat) : came (fun j => decide (j < k)) k j = decide (j < k + 1) := by
  show (decide (j < k) || decide (j = k)) = _
  rw [Bool.eq_iff_iff, Bool.or_eq_true, decide_eq_true_iff, decide_eq_true_iff, decide_eq_true_iff]
  omega
theorem fh_put {w : World} {B T : Nat} {v : Value} {s : ByteArray} {n M k : Nat} {got : ByteArray} {W : World} (h : FhI w B T v s n M k got W) (P : Pt s n M) (hn8 : 8 ≤ n) (hn : n % 8 = 0) (hs : s.size ≤ 500) (hk : k < M) :
    Calls Try.prog 31 #[.pointer (some ⟨T, 0, none⟩), .int .i64 0, pv (frp s n k)] W fun e W' => ∃ V, e = .returned (.tuple #[pv V, .bool (decide (k + 1 = M)), .int .i64 0]) ∧ (k + 1 = M → V = pAll s) ∧ FhI w B T v s n M (k + 1) (if k + 1 = M then s else ⟨#[]⟩) W' := by
  obtain ⟨cr, L, S, h1, h2⟩ := h.tab
  have hnot : allC M (fun j => decide (j < k)) = false := by
    rw [Bool.eq_false_iff]
    intro a
    have := allC_yes.1 a k hk
    simp at this
  refine (tab_put h1 h.lo.2 P hn8 hn hs h2 hnot hk).mono ?_
  rintro e W' ⟨V, rfl, hV, cr', L', ⟨S', h3, h4, h5⟩, h6⟩
  rw [allC_pre hk] at hV ⊢
  refine ⟨V, rfl, fun a => hV (decide_eq_true a), ⟨cr', L', S', h3, tbr_congr P h6 fun j _ => came_pre k j⟩, rfl, row_of_block h.row fun b e => h4.block b (h.row.lt b e).2 (fun a => ?_), h.low, ⟨h.lo.1, Nat.le_trans h.lo.2 h4.size⟩, h.bl.trans (h4.below h.bl.size (fun b hb => Nat.le_trans h.lo.1 (h1.bd b hb).1))⟩
  have := (h1.bd b a).1
  have := h.low b e
  omega
/-- what the drawn region reads -/
structure FhS (P g k : Nat) (mf : Bool) (off : Int) (w' : World) : Prop where
  box : w'.heap[P]? = some (po ⟨1, 2, 6, 9, 77, false, mf, off, ⟨#[]⟩⟩)
  e6 : w'.cell? ⟨g, k * 9 + 6, none⟩ = some (.bool mf)
  e7 : w'.cell? ⟨g, k * 9 + 7, none⟩ = some (.int .i64 off)
set_option maxRecDepth 20000 in
set_option maxHeartbeats 1600000 in
theorem walk_ReassemblyFromHeaders (a0 : ByteArray) (a1 : Int) (w0 : a0.size ≤ maxLen) (w1 : (Lit.int .u8 a1).wf = true) (w : World) :
    Calls Try.prog 11 #[.string a0, .int .u8 a1] w fun e w' => e = .returned (.bool true) ∧ Below w.heap.size w w' := by
  have hb1 : 0 ≤ a1 ∧ a1 ≤ 255 := by simpa [Lit.wf, IntKind.min, IntKind.max, IntKind.signed, IntKind.bits] using w1
  obtain ⟨n, hn⟩ : ∃ n : Nat, (n : Int) = 8 * (1 + a1 % 9) := ⟨(8 * (1 + a1 % 9)).toNat, by omega⟩
  have hn8 : 8 ≤ n ∧ n % 8 = 0 ∧ n ≤ 72 := by omega
  unfold maxLen at w0
  rcases cut_cases a0 500 with ⟨hA, s, hs, hss⟩ | ⟨hA, s, hs, hss⟩
  · have HP := Lib.hid (fun W => parts_any s hss a1 hb1.1 hb1.2 n hn W)
    obtain ⟨M, hM⟩ : ∃ M, prM s n = M := ⟨_, rfl⟩
    have hPt := pt_of s hn8.1
    rw [hM] at hPt
    have hlen : (prL s n).length = M := by simp [prL, hM]
    have HPT := Lib.hid hPt
    have HN := Lib.hid hn8
    have HLEN := Lib.hid hlen
    have HSS := Lib.hid hss
    have HM := Lib.hid hM
    have hMB : M ≤ 1000 := by rw [← hM]; unfold prM; have := Nat.div_le_self (s.size + n - 1) n; omega
    clear hPt hn8 hn hb1 hlen w1 hss hM
    go_enter Try.func11, Try.ntmps11
    go_wp2_with fail
    refine (examples_any _).mono ?_
    rintro e wa ⟨rfl, hba⟩
    have HBa := Lib.hid hba
    clear hba
    go_wp2_with fail
    refine (HP.out _).mono ?_
    rintro e wb ⟨⟨q, c, rfl, hrow⟩, hbb⟩
    have hpr := HLEN.out
    rw [hpr] at hrow
    rw [hpr]
    have HR := Lib.hid hrow
    have HBb := Lib.hid hbb
    clear hrow hbb HP hpr
    go_wp2_with fail
    refine (new_s _).mono ?_
    rintro e wc ⟨T, S, rfl, hbc, hT⟩
    have hI0 : FhI w wb.heap.size T (.slice q M c) s n M 0 ⟨#[]⟩ wc := by
      have h1 := HBa.out.size
      have h2 := HBb.out.size
      have h3 := hbc.size
      have hM0 : 0 < M := by rw [← HM.out]; unfold prM; omega
      refine ⟨⟨0, [], S, hT, .inl ⟨fun j _ => by simp, rfl, rfl⟩⟩, by rw [if_neg (by omega)], ?_, fun b hb => (HR.out.lt b hb).2, ⟨by omega, hbc.size⟩, (HBa.out.trans (HBb.out.mono h1)).trans (hbc.mono (by omega))⟩
      exact (row_of_block HR.out fun b hb => hbc.block b (HR.out.lt b hb).2).mono h1
    have HI0 := Lib.hid hI0
    clear hI0 hbc hT HR HBa HBb
    go_wp2_with fail
    go_loopw [9, 10] (fun got i wr => ∃ (k : Nat) (g : ByteArray), k ≤ M ∧ i = .int .i64 (k : Int) ∧ got = .string g ∧ Hid (FhI w wb.heap.size T (.slice q M c) s n M k g wr)) (fun _ i _ => M - (intOf i).toNat)
    case atStart => exact ⟨0, _, by omega, rfl, rfl, HI0⟩
    case round =>
      obtain ⟨k, g, hk, rfl, rfl, HI⟩ := hrel
      clear HI0
      by_cases hkM : k < M
      · have HQ := HI.out
        have HG := Lib.hid (show g = ⟨#[]⟩ from by have := HQ.got; rwa [if_neg (by omega)] at this)
        obtain ⟨g0, rfl, fa⟩ := pk_row HQ.row HLEN.out hkM
        have hx : (prL s n)[k]'(by rw [HLEN.out]; exact hkM) = frp s n k := by simp [prL]
        rw [hx] at fa
        obtain ⟨mf, hmf⟩ : ∃ b, decide (k * n + n < s.size) = b := ⟨_, rfl⟩
        obtain ⟨off, hoff⟩ : ∃ o : Int, ((k * n : Nat) : Int) = o := ⟨_, rfl⟩
        obtain ⟨sub, hsub⟩ : ∃ t, s.extract (k * n) (min (k * n + n) s.size) = t := ⟨_, rfl⟩
        have hfr : frp s n k = ⟨1, 2, 6, 9, 77, false, mf, off, sub⟩ := by unfold frp; rw [hmf, hoff, hsub]
        have hok : okW (⟨1, 2, 6, 9, 77, false, mf, off, sub⟩ : Pk) sub.size := by
          have h500 := HSS.out
          have hnn := HN.out
          rcases HPT.out with F | ⟨h1, h2⟩
          · have := F.ok hkM hnn.2.1 h500
            rw [hfr] at this
            exact this
          · obtain rfl : k = 0 := by omega
            rw [h2] at hfr
            cases hfr
            refine ⟨⟨by simp, by simp⟩, .inl ⟨by simp, by simp⟩, ⟨by simp, by simp, by simp, by simp, by simp, by simp⟩, ?_, .inl ⟨rfl, rfl⟩⟩
            show (0 : Int) ≤ 0 ∧ (0 : Int) ≤ 4000 - (s.size : Int) ∧ (0 : Int) % 8 = 0
            omega
        have hsubs : sub.size ≤ 500 := by
          rw [← hsub, ByteArray.size_extract]
          have := HSS.out
          omega
        rw [hfr] at fa
        have a0 := fa 0 (by decide)
        have a1 := fa 1 (by decide)
        have a2 := fa 2 (by decide)
        have a3 := fa 3 (by decide)
        have a4 := fa 4 (by decide)
        have a5 := fa 5 (by decide)
        have a6 := fa 6 (by decide)
        have a7 := fa 7 (by decide)
        have a8 := fa 8 (by decide)
        simp only [List.getElem?_cons_zero, List.getElem?_cons_succ, Nat.add_zero] at a0 a1 a2 a3 a4 a5 a6 a7 a8
        have HA6 := Lib.hid a6
        have HA7 := Lib.hid a7
        have HFR := Lib.hid hfr
        have HENC := Lib.hid (fun W => encode_yes (⟨1, 2, 6, 9, 77, false, mf, off, sub⟩ : Pk) (by show sub.size ≤ maxLen; unfold maxLen; omega) hok W)
        have hcut := enc_cut (⟨1, 2, 6, 9, 77, false, mf, off, sub⟩ : Pk) hok 20 (by omega) (by omega)
        have hus := enc_size (⟨1, 2, 6, 9, 77, false, mf, off, sub⟩ : Pk)
        have htl : (encP (⟨1, 2, 6, 9, 77, false, mf, off, sub⟩ : Pk)).extract 20 (encP (⟨1, 2, 6, 9, 77, false, mf, off, sub⟩ : Pk)).size = sub := by
          have := ext_head (hE (hdP (⟨1, 2, 6, 9, 77, false, mf, off, sub⟩ : Pk))) sub
          rw [hE_size] at this
          exact this
        obtain ⟨u, hu⟩ : ∃ u, encP (⟨1, 2, 6, 9, 77, false, mf, off, sub⟩ : Pk) = u := ⟨_, rfl⟩
        rw [hu] at hcut hus htl HENC
        obtain ⟨hd, hhd⟩ : ∃ t, u.extract 0 20 = t := ⟨_, rfl⟩
        rw [hhd] at hcut
        have hHD : ∀ W, Calls Try.prog 25 #[.string hd] W fun e w' => e = .returned (.tuple #[pv ⟨1, 2, 6, 9, 77, false, mf, off, ⟨#[]⟩⟩, .int .i64 0]) ∧ Below W.heap.size W w' := fun W => by
          have h1 := dhd_any hd (by rw [← hhd, ByteArray.size_extract]; unfold maxLen; omega) W
          have h2 : dV (decL hd) hd = pv ⟨1, 2, 6, 9, 77, false, mf, off, ⟨#[]⟩⟩ := by
            unfold dV
            rw [if_pos hcut.2, hcut.1]
            have : sub.extract 0 (20 - 20) = ⟨#[]⟩ := by simp; rfl
            rw [this]
          have h3 : dE (decL hd) = 0 := by unfold dE; rw [if_pos hcut.2]
          rw [h2, h3] at h1
          exact h1
        have HHD := Lib.hid hHD
        have hu20 : 20 ≤ u.size := by rw [hus]; omega
        have hu5 : u.size ≤ 520 := by rw [hus]; show 20 + sub.size ≤ 520; omega
        have hku : ((u.size : Int) < 20) = False := eq_false (by omega)
        have hki : ((k : Int) < (M : Int)) := by omega
        clear hHD hcut hus hu hok hsubs hfr fa hx hsub hoff hmf
        go_wp2_with fail
        refine (HENC.out _).mono ?_
        rintro e we ⟨rfl, hbe⟩
        have HI2 := Lib.hid (HI.out.below hbe)
        have HA62 := Lib.hid ((hbe.cell (cell_lt HA6.out)).trans HA6.out)
        have HA72 := Lib.hid ((hbe.cell (cell_lt HA7.out)).trans HA7.out)
        clear hbe HI HQ HENC a0 a1 a2 a3 a4 a5 a6 a7 a8 HA6 HA7
        go_wp2_with fail
        refine (HHD.out _).mono ?_
        rintro e wd ⟨rfl, hbd⟩
        have HI3 := Lib.hid (HI2.out.below hbd)
        have HA63 := Lib.hid ((hbd.cell (cell_lt HA62.out)).trans HA62.out)
        have HA73 := Lib.hid ((hbd.cell (cell_lt HA72.out)).trans HA72.out)
        clear hbd HI2 HHD HA62 HA72
        go_upto_region 15 with fail
        have hbx : Below wd.heap.size wd (wd.alloc (po ⟨1, 2, 6, 9, 77, false, mf, off, ⟨#[]⟩⟩)).drew := ((Below.refl _ wd).alloc (Nat.le_refl _) _).drew
        have hS0 : FhS wd.heap.size g0 k mf off (wd.alloc (po ⟨1, 2, 6, 9, 77, false, mf, off, ⟨#[]⟩⟩)).drew := ⟨blk_new wd _, (hbx.cell (cell_lt HA63.out)).trans HA63.out, (hbx.cell (cell_lt HA73.out)).trans HA73.out⟩
        refine wp_region_noPanic ?_
        refine wp_region_held_drew (S := FhS wd.heap.size g0 k mf off) (by kernel_rfl) (hS0) (fun hHeld => ?_)
        first
          | (refine wpAnyH_take (i := 0) (oi := ⟨some 57, _, _, _, _, _⟩) (v := ?vf0) rfl (by kernel_rfl) (by kernel_rfl) (by kernel_rfl) (fun _ _ _ h => h) (Or.inl ⟨by rfl, ?hyf0⟩) hHeld ?rrf0
             case hyf0 => (intro wq hSw; have e6 := hSw.e6; have e7 := hSw.e7; obtain ⟨b0, b1, b2, b3, b4, b5, b6, b7, b8⟩ := pk_cells hSw.box; clear hSw; go_simp; try with_reducible rfl))
          | (refine wpAnyH_take (i := 0) (oi := ⟨some 57, _, _, _, _, _⟩) (v := undef) rfl (by kernel_rfl) (by kernel_rfl) (by kernel_rfl) (fun _ _ _ h => h) (Or.inr ⟨by rfl, rfl⟩) hHeld ?rrf0)
        try simp only [Act.put, List.setIfInBounds_toArray, List.set_cons_zero, List.set_cons_succ]
        first
          | (refine wpAnyH_take (i := 1) (oi := ⟨some 58, _, _, _, _, _⟩) (v := ?vf1) rfl (by kernel_rfl) (by kernel_rfl) (by kernel_rfl) (fun _ _ _ h => h) (Or.inl ⟨by rfl, ?hyf1⟩) hHeld ?rrf1
             case hyf1 => (intro wq hSw; have e6 := hSw.e6; have e7 := hSw.e7; obtain ⟨b0, b1, b2, b3, b4, b5, b6, b7, b8⟩ := pk_cells hSw.box; clear hSw; go_simp; try with_reducible rfl))
          | (refine wpAnyH_take (i := 1) (oi := ⟨some 58, _, _, _, _, _⟩) (v := undef) rfl (by kernel_rfl) (by kernel_rfl) (by kernel_rfl) (fun _ _ _ h => h) (Or.inr ⟨by rfl, rfl⟩) hHeld ?rrf1)
        try simp only [Act.put, List.setIfInBounds_toArray, List.set_cons_zero, List.set_cons_succ]
        first
          | (refine wpAnyH_take (i := 2) (oi := ⟨some 59, _, _, _, _, _⟩) (v := ?vf2) rfl (by kernel_rfl) (by kernel_rfl) (by kernel_rfl) (fun _ _ _ h => h) (Or.inl ⟨by rfl, ?hyf2⟩) hHeld ?rrf2
             case hyf2 => (intro wq hSw; have e6 := hSw.e6; have e7 := hSw.e7; obtain ⟨b0, b1, b2, b3, b4, b5, b6, b7, b8⟩ := pk_cells hSw.box; clear hSw; go_simp; try with_reducible rfl))
          | (refine wpAnyH_take (i := 2) (oi := ⟨some 59, _, _, _, _, _⟩) (v := undef) rfl (by kernel_rfl) (by kernel_rfl) (by kernel_rfl) (fun _ _ _ h => h) (Or.inr ⟨by rfl, rfl⟩) hHeld ?rrf2)
        try simp only [Act.put, List.setIfInBounds_toArray, List.set_cons_zero, List.set_cons_succ]
        first
          | (refine wpAnyH_take (i := 3) (oi := ⟨some 60, _, _, _, _, _⟩) (v := ?vf3) rfl (by kernel_rfl) (by kernel_rfl) (by kernel_rfl) (fun _ _ _ h => h) (Or.inl ⟨by rfl, ?hyf3⟩) hHeld ?rrf3
             case hyf3 => (intro wq hSw; have e6 := hSw.e6; have e7 := hSw.e7; obtain ⟨b0, b1, b2, b3, b4, b5, b6, b7, b8⟩ := pk_cells hSw.box; clear hSw; go_simp; try with_reducible rfl))
          | (refine wpAnyH_take (i := 3) (oi := ⟨some 60, _, _, _, _, _⟩) (v := undef) rfl (by kernel_rfl) (by kernel_rfl) (by kernel_rfl) (fun _ _ _ h => h) (Or.inr ⟨by rfl, rfl⟩) hHeld ?rrf3)
        try simp only [Act.put, List.setIfInBounds_toArray, List.set_cons_zero, List.set_cons_succ]
        first
          | (refine wpAnyH_take (i := 4) (oi := ⟨some 61, _, _, _, _, _⟩) (v := ?vf4) rfl (by kernel_rfl) (by kernel_rfl) (by kernel_rfl) (fun _ _ _ h => h) (Or.inl ⟨by rfl, ?hyf4⟩) hHeld ?rrf4
             case hyf4 => (intro wq hSw; have e6 := hSw.e6; have e7 := hSw.e7; obtain ⟨b0, b1, b2, b3, b4, b5, b6, b7, b8⟩ := pk_cells hSw.box; clear hSw; go_simp; try with_reducible rfl))
          | (refine wpAnyH_take (i := 4) (oi := ⟨some 61, _, _, _, _, _⟩) (v := undef) rfl (by kernel_rfl) (by kernel_rfl) (by kernel_rfl) (fun _ _ _ h => h) (Or.inr ⟨by rfl, rfl⟩) hHeld ?rrf4)
        try simp only [Act.put, List.setIfInBounds_toArray, List.set_cons_zero, List.set_cons_succ]
        first
          | (refine wpAnyH_take (i := 5) (oi := ⟨some 62, _, _, _, _, _⟩) (v := ?vf5) rfl (by kernel_rfl) (by kernel_rfl) (by kernel_rfl) (fun _ _ _ h => h) (Or.inl ⟨by rfl, ?hyf5⟩) hHeld ?rrf5
             case hyf5 => (intro wq hSw; have e6 := hSw.e6; have e7 := hSw.e7; obtain ⟨b0, b1, b2, b3, b4, b5, b6, b7, b8⟩ := pk_cells hSw.box; clear hSw; go_simp; try with_reducible rfl))
          | (refine wpAnyH_take (i := 5) (oi := ⟨some 62, _, _, _, _, _⟩) (v := undef) rfl (by kernel_rfl) (by kernel_rfl) (by kernel_rfl) (fun _ _ _ h => h) (Or.inr ⟨by rfl, rfl⟩) hHeld ?rrf5)
        try simp only [Act.put, List.setIfInBounds_toArray, List.set_cons_zero, List.set_cons_succ]
        first
          | (refine wpAnyH_take (i := 6) (oi := ⟨some 63, _, _, _, _, _⟩) (v := ?vf6) rfl (by kernel_rfl) (by kernel_rfl) (by kernel_rfl) (fun _ _ _ h => h) (Or.inl ⟨by rfl, ?hyf6⟩) hHeld ?rrf6
             case hyf6 => (intro wq hSw; have e6 := hSw.e6; have e7 := hSw.e7; obtain ⟨b0, b1, b2, b3, b4, b5, b6, b7, b8⟩ := pk_cells hSw.box; clear hSw; go_simp; try with_reducible rfl))
          | (refine wpAnyH_take (i := 6) (oi := ⟨some 63, _, _, _, _, _⟩) (v := undef) rfl (by kernel_rfl) (by kernel_rfl) (by kernel_rfl) (fun _ _ _ h => h) (Or.inr ⟨by rfl, rfl⟩) hHeld ?rrf6)
        try simp only [Act.put, List.setIfInBounds_toArray, List.set_cons_zero, List.set_cons_succ]
        first
          | (refine wpAnyH_take (i := 7) (oi := ⟨some 64, _, _, _, _, _⟩) (v := ?vf7) rfl (by kernel_rfl) (by kernel_rfl) (by kernel_rfl) (fun _ _ _ h => h) (Or.inl ⟨by rfl, ?hyf7⟩) hHeld ?rrf7
             case hyf7 => (intro wq hSw; have e6 := hSw.e6; have e7 := hSw.e7; obtain ⟨b0, b1, b2, b3, b4, b5, b6, b7, b8⟩ := pk_cells hSw.box; clear hSw; go_simp; try with_reducible rfl))
          | (refine wpAnyH_take (i := 7) (oi := ⟨some 64, _, _, _, _, _⟩) (v := undef) rfl (by kernel_rfl) (by kernel_rfl) (by kernel_rfl) (fun _ _ _ h => h) (Or.inr ⟨by rfl, rfl⟩) hHeld ?rrf7)
        try simp only [Act.put, List.setIfInBounds_toArray, List.set_cons_zero, List.set_cons_succ]
        first
          | (refine wpAnyH_take (i := 8) (oi := ⟨some 65, _, _, _, _, _⟩) (v := ?vf8) rfl (by kernel_rfl) (by kernel_rfl) (by kernel_rfl) (fun _ _ _ h => h) (Or.inl ⟨by rfl, ?hyf8⟩) hHeld ?rrf8
             case hyf8 => (intro wq hSw; have e6 := hSw.e6; have e7 := hSw.e7; obtain ⟨b0, b1, b2, b3, b4, b5, b6, b7, b8⟩ := pk_cells hSw.box; clear hSw; go_simp; try with_reducible rfl))
          | (refine wpAnyH_take (i := 8) (oi := ⟨some 65, _, _, _, _, _⟩) (v := undef) rfl (by kernel_rfl) (by kernel_rfl) (by kernel_rfl) (fun _ _ _ h => h) (Or.inr ⟨by rfl, rfl⟩) hHeld ?rrf8)
        try simp only [Act.put, List.setIfInBounds_toArray, List.set_cons_zero, List.set_cons_succ]
        first
          | (refine wpAnyH_take (i := 9) (oi := ⟨some 66, _, _, _, _, _⟩) (v := ?vf9) rfl (by kernel_rfl) (by kernel_rfl) (by kernel_rfl) (fun _ _ _ h => h) (Or.inl ⟨by rfl, ?hyf9⟩) hHeld ?rrf9
             case hyf9 => (intro wq hSw; have e6 := hSw.e6; have e7 := hSw.e7; obtain ⟨b0, b1, b2, b3, b4, b5, b6, b7, b8⟩ := pk_cells hSw.box; clear hSw; go_simp; try with_reducible rfl))
          | (refine wpAnyH_take (i := 9) (oi := ⟨some 66, _, _, _, _, _⟩) (v := undef) rfl (by kernel_rfl) (by kernel_rfl) (by kernel_rfl) (fun _ _ _ h => h) (Or.inr ⟨by rfl, rfl⟩) hHeld ?rrf9)
        try simp only [Act.put, List.setIfInBounds_toArray, List.set_cons_zero, List.set_cons_succ]
        first
          | (refine wpAnyH_take (i := 10) (oi := ⟨some 67, _, _, _, _, _⟩) (v := ?vf10) rfl (by kernel_rfl) (by kernel_rfl) (by kernel_rfl) (fun _ _ _ h => h) (Or.inl ⟨by rfl, ?hyf10⟩) hHeld ?rrf10
             case hyf10 => (intro wq hSw; have e6 := hSw.e6; have e7 := hSw.e7; obtain ⟨b0, b1, b2, b3, b4, b5, b6, b7, b8⟩ := pk_cells hSw.box; clear hSw; go_simp; try with_reducible rfl))
          | (refine wpAnyH_take (i := 10) (oi := ⟨some 67, _, _, _, _, _⟩) (v := undef) rfl (by kernel_rfl) (by kernel_rfl) (by kernel_rfl) (fun _ _ _ h => h) (Or.inr ⟨by rfl, rfl⟩) hHeld ?rrf10)
        try simp only [Act.put, List.setIfInBounds_toArray, List.set_cons_zero, List.set_cons_succ]
        first
          | (refine wpAnyH_take (i := 11) (oi := ⟨some 68, _, _, _, _, _⟩) (v := ?vf11) rfl (by kernel_rfl) (by kernel_rfl) (by kernel_rfl) (fun _ _ _ h => h) (Or.inl ⟨by rfl, ?hyf11⟩) hHeld ?rrf11
             case hyf11 => (intro wq hSw; have e6 := hSw.e6; have e7 := hSw.e7; obtain ⟨b0, b1, b2, b3, b4, b5, b6, b7, b8⟩ := pk_cells hSw.box; clear hSw; go_simp; try with_reducible rfl))
          | (refine wpAnyH_take (i := 11) (oi := ⟨some 68, _, _, _, _, _⟩) (v := undef) rfl (by kernel_rfl) (by kernel_rfl) (by kernel_rfl) (fun _ _ _ h => h) (Or.inr ⟨by rfl, rfl⟩) hHeld ?rrf11)
        try simp only [Act.put, List.setIfInBounds_toArray, List.set_cons_zero, List.set_cons_succ]
        first
          | (refine wpAnyH_take (i := 12) (oi := ⟨some 69, _, _, _, _, _⟩) (v := ?vf12) rfl (by kernel_rfl) (by kernel_rfl) (by kernel_rfl) (fun _ _ _ h => h) (Or.inl ⟨by rfl, ?hyf12⟩) hHeld ?rrf12
             case hyf12 => (intro wq hSw; have e6 := hSw.e6; have e7 := hSw.e7; obtain ⟨b0, b1, b2, b3, b4, b5, b6, b7, b8⟩ := pk_cells hSw.box; clear hSw; go_simp; try with_reducible rfl))
          | (refine wpAnyH_take (i := 12) (oi := ⟨some 69, _, _, _, _, _⟩) (v := undef) rfl (by kernel_rfl) (by kernel_rfl) (by kernel_rfl) (fun _ _ _ h => h) (Or.inr ⟨by rfl, rfl⟩) hHeld ?rrf12)
        try simp only [Act.put, List.setIfInBounds_toArray, List.set_cons_zero, List.set_cons_succ]
        first
          | (refine wpAnyH_take (i := 13) (oi := ⟨some 70, _, _, _, _, _⟩) (v := ?vf13) rfl (by kernel_rfl) (by kernel_rfl) (by kernel_rfl) (fun _ _ _ h => h) (Or.inl ⟨by rfl, ?hyf13⟩) hHeld ?rrf13
             case hyf13 => (intro wq hSw; have e6 := hSw.e6; have e7 := hSw.e7; obtain ⟨b0, b1, b2, b3, b4, b5, b6, b7, b8⟩ := pk_cells hSw.box; clear hSw; go_simp; try with_reducible rfl))
          | (refine wpAnyH_take (i := 13) (oi := ⟨some 70, _, _, _, _, _⟩) (v := undef) rfl (by kernel_rfl) (by kernel_rfl) (by kernel_rfl) (fun _ _ _ h => h) (Or.inr ⟨by rfl, rfl⟩) hHeld ?rrf13)
        try simp only [Act.put, List.setIfInBounds_toArray, List.set_cons_zero, List.set_cons_succ]
        first
          | (refine wpAnyH_take (i := 14) (oi := ⟨some 71, _, _, _, _, _⟩) (v := ?vf14) rfl (by kernel_rfl) (by kernel_rfl) (by kernel_rfl) (fun _ _ _ h => h) (Or.inl ⟨by rfl, ?hyf14⟩) hHeld ?rrf14
             case hyf14 => (intro wq hSw; have e6 := hSw.e6; have e7 := hSw.e7; obtain ⟨b0, b1, b2, b3, b4, b5, b6, b7, b8⟩ := pk_cells hSw.box; clear hSw; go_simp; try with_reducible rfl))
          | (refine wpAnyH_take (i := 14) (oi := ⟨some 71, _, _, _, _, _⟩) (v := undef) rfl (by kernel_rfl) (by kernel_rfl) (by kernel_rfl) (fun _ _ _ h => h) (Or.inr ⟨by rfl, rfl⟩) hHeld ?rrf14)
        try simp only [Act.put, List.setIfInBounds_toArray, List.set_cons_zero, List.set_cons_succ]
        first
          | (refine wpAnyH_take (i := 15) (oi := ⟨some 72, _, _, _, _, _⟩) (v := ?vf15) rfl (by kernel_rfl) (by kernel_rfl) (by kernel_rfl) (fun _ _ _ h => h) (Or.inl ⟨by rfl, ?hyf15⟩) hHeld ?rrf15
             case hyf15 => (intro wq hSw; have e6 := hSw.e6; have e7 := hSw.e7; obtain ⟨b0, b1, b2, b3, b4, b5, b6, b7, b8⟩ := pk_cells hSw.box; clear hSw; go_simp; try with_reducible rfl))
          | (refine wpAnyH_take (i := 15) (oi := ⟨some 72, _, _, _, _, _⟩) (v := undef) rfl (by kernel_rfl) (by kernel_rfl) (by kernel_rfl) (fun _ _ _ h => h) (Or.inr ⟨by rfl, rfl⟩) hHeld ?rrf15)
        try simp only [Act.put, List.setIfInBounds_toArray, List.set_cons_zero, List.set_cons_succ]
        first
          | (refine wpAnyH_take (i := 16) (oi := ⟨some 73, _, _, _, _, _⟩) (v := ?vf16) rfl (by kernel_rfl) (by kernel_rfl) (by kernel_rfl) (fun _ _ _ h => h) (Or.inl ⟨by rfl, ?hyf16⟩) hHeld ?rrf16
             case hyf16 => (intro wq hSw; have e6 := hSw.e6; have e7 := hSw.e7; obtain ⟨b0, b1, b2, b3, b4, b5, b6, b7, b8⟩ := pk_cells hSw.box; clear hSw; go_simp; try with_reducible rfl))
          | (refine wpAnyH_take (i := 16) (oi := ⟨some 73, _, _, _, _, _⟩) (v := undef) rfl (by kernel_rfl) (by kernel_rfl) (by kernel_rfl) (fun _ _ _ h => h) (Or.inr ⟨by rfl, rfl⟩) hHeld ?rrf16)
        try simp only [Act.put, List.setIfInBounds_toArray, List.set_cons_zero, List.set_cons_succ]
        first
          | (refine wpAnyH_take (i := 17) (oi := ⟨some 74, _, _, _, _, _⟩) (v := ?vf17) rfl (by kernel_rfl) (by kernel_rfl) (by kernel_rfl) (fun _ _ _ h => h) (Or.inl ⟨by rfl, ?hyf17⟩) hHeld ?rrf17
             case hyf17 => (intro wq hSw; have e6 := hSw.e6; have e7 := hSw.e7; obtain ⟨b0, b1, b2, b3, b4, b5, b6, b7, b8⟩ := pk_cells hSw.box; clear hSw; go_simp; try with_reducible rfl))
          | (refine wpAnyH_take (i := 17) (oi := ⟨some 74, _, _, _, _, _⟩) (v := undef) rfl (by kernel_rfl) (by kernel_rfl) (by kernel_rfl) (fun _ _ _ h => h) (Or.inr ⟨by rfl, rfl⟩) hHeld ?rrf17)
        try simp only [Act.put, List.setIfInBounds_toArray, List.set_cons_zero, List.set_cons_succ]
        first
          | (refine wpAnyH_take (i := 18) (oi := ⟨some 75, _, _, _, _, _⟩) (v := ?vf18) rfl (by kernel_rfl) (by kernel_rfl) (by kernel_rfl) (fun _ _ _ h => h) (Or.inl ⟨by rfl, ?hyf18⟩) hHeld ?rrf18
             case hyf18 => (intro wq hSw; have e6 := hSw.e6; have e7 := hSw.e7; obtain ⟨b0, b1, b2, b3, b4, b5, b6, b7, b8⟩ := pk_cells hSw.box; clear hSw; go_simp; try with_reducible rfl))
          | (refine wpAnyH_take (i := 18) (oi := ⟨some 75, _, _, _, _, _⟩) (v := undef) rfl (by kernel_rfl) (by kernel_rfl) (by kernel_rfl) (fun _ _ _ h => h) (Or.inr ⟨by rfl, rfl⟩) hHeld ?rrf18)
        try simp only [Act.put, List.setIfInBounds_toArray, List.set_cons_zero, List.set_cons_succ]
        first
          | (refine wpAnyH_take (i := 19) (oi := ⟨some 76, _, _, _, _, _⟩) (v := ?vf19) rfl (by kernel_rfl) (by kernel_rfl) (by kernel_rfl) (fun _ _ _ h => h) (Or.inl ⟨by rfl, ?hyf19⟩) hHeld ?rrf19
             case hyf19 => (intro wq hSw; have e6 := hSw.e6; have e7 := hSw.e7; obtain ⟨b0, b1, b2, b3, b4, b5, b6, b7, b8⟩ := pk_cells hSw.box; clear hSw; go_simp; try with_reducible rfl))
          | (refine wpAnyH_take (i := 19) (oi := ⟨some 76, _, _, _, _, _⟩) (v := undef) rfl (by kernel_rfl) (by kernel_rfl) (by kernel_rfl) (fun _ _ _ h => h) (Or.inr ⟨by rfl, rfl⟩) hHeld ?rrf19)
        try simp only [Act.put, List.setIfInBounds_toArray, List.set_cons_zero, List.set_cons_succ]
        first
          | (refine wpAnyH_take (i := 20) (oi := ⟨some 77, _, _, _, _, _⟩) (v := ?vf20) rfl (by kernel_rfl) (by kernel_rfl) (by kernel_rfl) (fun _ _ _ h => h) (Or.inl ⟨by rfl, ?hyf20⟩) hHeld ?rrf20
             case hyf20 => (intro wq hSw; have e6 := hSw.e6; have e7 := hSw.e7; obtain ⟨b0, b1, b2, b3, b4, b5, b6, b7, b8⟩ := pk_cells hSw.box; clear hSw; go_simp; try with_reducible rfl))
          | (refine wpAnyH_take (i := 20) (oi := ⟨some 77, _, _, _, _, _⟩) (v := undef) rfl (by kernel_rfl) (by kernel_rfl) (by kernel_rfl) (fun _ _ _ h => h) (Or.inr ⟨by rfl, rfl⟩) hHeld ?rrf20)
        try simp only [Act.put, List.setIfInBounds_toArray, List.set_cons_zero, List.set_cons_succ]
        first
          | (refine wpAnyH_take (i := 21) (oi := ⟨some 78, _, _, _, _, _⟩) (v := ?vf21) rfl (by kernel_rfl) (by kernel_rfl) (by kernel_rfl) (fun _ _ _ h => h) (Or.inl ⟨by rfl, ?hyf21⟩) hHeld ?rrf21
             case hyf21 => (intro wq hSw; have e6 := hSw.e6; have e7 := hSw.e7; obtain ⟨b0, b1, b2, b3, b4, b5, b6, b7, b8⟩ := pk_cells hSw.box; clear hSw; go_simp; try with_reducible rfl))
          | (refine wpAnyH_take (i := 21) (oi := ⟨some 78, _, _, _, _, _⟩) (v := undef) rfl (by kernel_rfl) (by kernel_rfl) (by kernel_rfl) (fun _ _ _ h => h) (Or.inr ⟨by rfl, rfl⟩) hHeld ?rrf21)
        try simp only [Act.put, List.setIfInBounds_toArray, List.set_cons_zero, List.set_cons_succ]
        first
          | (refine wpAnyH_take (i := 22) (oi := ⟨some 79, _, _, _, _, _⟩) (v := ?vf22) rfl (by kernel_rfl) (by kernel_rfl) (by kernel_rfl) (fun _ _ _ h => h) (Or.inl ⟨by rfl, ?hyf22⟩) hHeld ?rrf22
             case hyf22 => (intro wq hSw; have e6 := hSw.e6; have e7 := hSw.e7; obtain ⟨b0, b1, b2, b3, b4, b5, b6, b7, b8⟩ := pk_cells hSw.box; clear hSw; go_simp; try with_reducible rfl))
          | (refine wpAnyH_take (i := 22) (oi := ⟨some 79, _, _, _, _, _⟩) (v := undef) rfl (by kernel_rfl) (by kernel_rfl) (by kernel_rfl) (fun _ _ _ h => h) (Or.inr ⟨by rfl, rfl⟩) hHeld ?rrf22)
        try simp only [Act.put, List.setIfInBounds_toArray, List.set_cons_zero, List.set_cons_succ]
        first
          | (refine wpAnyH_take (i := 23) (oi := ⟨some 80, _, _, _, _, _⟩) (v := ?vf23) rfl (by kernel_rfl) (by kernel_rfl) (by kernel_rfl) (fun _ _ _ h => h) (Or.inl ⟨by rfl, ?hyf23⟩) hHeld ?rrf23
             case hyf23 => (intro wq hSw; have e6 := hSw.e6; have e7 := hSw.e7; obtain ⟨b0, b1, b2, b3, b4, b5, b6, b7, b8⟩ := pk_cells hSw.box; clear hSw; go_simp; try with_reducible rfl))
          | (refine wpAnyH_take (i := 23) (oi := ⟨some 80, _, _, _, _, _⟩) (v := undef) rfl (by kernel_rfl) (by kernel_rfl) (by kernel_rfl) (fun _ _ _ h => h) (Or.inr ⟨by rfl, rfl⟩) hHeld ?rrf23)
        try simp only [Act.put, List.setIfInBounds_toArray, List.set_cons_zero, List.set_cons_succ]
        first
          | (refine wpAnyH_take (i := 24) (oi := ⟨some 81, _, _, _, _, _⟩) (v := ?vf24) rfl (by kernel_rfl) (by kernel_rfl) (by kernel_rfl) (fun _ _ _ h => h) (Or.inl ⟨by rfl, ?hyf24⟩) hHeld ?rrf24
             case hyf24 => (intro wq hSw; have e6 := hSw.e6; have e7 := hSw.e7; obtain ⟨b0, b1, b2, b3, b4, b5, b6, b7, b8⟩ := pk_cells hSw.box; clear hSw; go_simp; try with_reducible rfl))
          | (refine wpAnyH_take (i := 24) (oi := ⟨some 81, _, _, _, _, _⟩) (v := undef) rfl (by kernel_rfl) (by kernel_rfl) (by kernel_rfl) (fun _ _ _ h => h) (Or.inr ⟨by rfl, rfl⟩) hHeld ?rrf24)
        try simp only [Act.put, List.setIfInBounds_toArray, List.set_cons_zero, List.set_cons_succ]
        first
          | (refine wpAnyH_take (i := 25) (oi := ⟨some 82, _, _, _, _, _⟩) (v := ?vf25) rfl (by kernel_rfl) (by kernel_rfl) (by kernel_rfl) (fun _ _ _ h => h) (Or.inl ⟨by rfl, ?hyf25⟩) hHeld ?rrf25
             case hyf25 => (intro wq hSw; have e6 := hSw.e6; have e7 := hSw.e7; obtain ⟨b0, b1, b2, b3, b4, b5, b6, b7, b8⟩ := pk_cells hSw.box; clear hSw; go_simp; try with_reducible rfl))
          | (refine wpAnyH_take (i := 25) (oi := ⟨some 82, _, _, _, _, _⟩) (v := undef) rfl (by kernel_rfl) (by kernel_rfl) (by kernel_rfl) (fun _ _ _ h => h) (Or.inr ⟨by rfl, rfl⟩) hHeld ?rrf25)
        try simp only [Act.put, List.setIfInBounds_toArray, List.set_cons_zero, List.set_cons_succ]
        first
          | (refine wpAnyH_take (i := 26) (oi := ⟨some 83, _, _, _, _, _⟩) (v := ?vf26) rfl (by kernel_rfl) (by kernel_rfl) (by kernel_rfl) (fun _ _ _ h => h) (Or.inl ⟨by rfl, ?hyf26⟩) hHeld ?rrf26
             case hyf26 => (intro wq hSw; have e6 := hSw.e6; have e7 := hSw.e7; obtain ⟨b0, b1, b2, b3, b4, b5, b6, b7, b8⟩ := pk_cells hSw.box; clear hSw; go_simp; try with_reducible rfl))
          | (refine wpAnyH_take (i := 26) (oi := ⟨some 83, _, _, _, _, _⟩) (v := undef) rfl (by kernel_rfl) (by kernel_rfl) (by kernel_rfl) (fun _ _ _ h => h) (Or.inr ⟨by rfl, rfl⟩) hHeld ?rrf26)
        try simp only [Act.put, List.setIfInBounds_toArray, List.set_cons_zero, List.set_cons_succ]
        first
          | (refine wpAnyH_take (i := 27) (oi := ⟨some 84, _, _, _, _, _⟩) (v := ?vf27) rfl (by kernel_rfl) (by kernel_rfl) (by kernel_rfl) (fun _ _ _ h => h) (Or.inl ⟨by rfl, ?hyf27⟩) hHeld ?rrf27
             case hyf27 => (intro wq hSw; have e6 := hSw.e6; have e7 := hSw.e7; obtain ⟨b0, b1, b2, b3, b4, b5, b6, b7, b8⟩ := pk_cells hSw.box; clear hSw; go_simp; try with_reducible rfl))
          | (refine wpAnyH_take (i := 27) (oi := ⟨some 84, _, _, _, _, _⟩) (v := undef) rfl (by kernel_rfl) (by kernel_rfl) (by kernel_rfl) (fun _ _ _ h => h) (Or.inr ⟨by rfl, rfl⟩) hHeld ?rrf27)
        try simp only [Act.put, List.setIfInBounds_toArray, List.set_cons_zero, List.set_cons_succ]
        first
          | (refine wpAnyH_take (i := 28) (oi := ⟨some 85, _, _, _, _, _⟩) (v := ?vf28) rfl (by kernel_rfl) (by kernel_rfl) (by kernel_rfl) (fun _ _ _ h => h) (Or.inl ⟨by rfl, ?hyf28⟩) hHeld ?rrf28
             case hyf28 => (intro wq hSw; have e6 := hSw.e6; have e7 := hSw.e7; obtain ⟨b0, b1, b2, b3, b4, b5, b6, b7, b8⟩ := pk_cells hSw.box; clear hSw; go_simp; try with_reducible rfl))
          | (refine wpAnyH_take (i := 28) (oi := ⟨some 85, _, _, _, _, _⟩) (v := undef) rfl (by kernel_rfl) (by kernel_rfl) (by kernel_rfl) (fun _ _ _ h => h) (Or.inr ⟨by rfl, rfl⟩) hHeld ?rrf28)
        try simp only [Act.put, List.setIfInBounds_toArray, List.set_cons_zero, List.set_cons_succ]
        first
          | (refine wpAnyH_take (i := 29) (oi := ⟨some 86, _, _, _, _, _⟩) (v := ?vf29) rfl (by kernel_rfl) (by kernel_rfl) (by kernel_rfl) (fun _ _ _ h => h) (Or.inl ⟨by rfl, ?hyf29⟩) hHeld ?rrf29
             case hyf29 => (intro wq hSw; have e6 := hSw.e6; have e7 := hSw.e7; obtain ⟨b0, b1, b2, b3, b4, b5, b6, b7, b8⟩ := pk_cells hSw.box; clear hSw; go_simp; try with_reducible rfl))
          | (refine wpAnyH_take (i := 29) (oi := ⟨some 86, _, _, _, _, _⟩) (v := undef) rfl (by kernel_rfl) (by kernel_rfl) (by kernel_rfl) (fun _ _ _ h => h) (Or.inr ⟨by rfl, rfl⟩) hHeld ?rrf29)
        try simp only [Act.put, List.setIfInBounds_toArray, List.set_cons_zero, List.set_cons_succ]
        first
          | (refine wpAnyH_take (i := 30) (oi := ⟨some 87, _, _, _, _, _⟩) (v := ?vf30) rfl (by kernel_rfl) (by kernel_rfl) (by kernel_rfl) (fun _ _ _ h => h) (Or.inl ⟨by rfl, ?hyf30⟩) hHeld ?rrf30
             case hyf30 => (intro wq hSw; have e6 := hSw.e6; have e7 := hSw.e7; obtain ⟨b0, b1, b2, b3, b4, b5, b6, b7, b8⟩ := pk_cells hSw.box; clear hSw; go_simp; try with_reducible rfl))
          | (refine wpAnyH_take (i := 30) (oi := ⟨some 87, _, _, _, _, _⟩) (v := undef) rfl (by kernel_rfl) (by kernel_rfl) (by kernel_rfl) (fun _ _ _ h => h) (Or.inr ⟨by rfl, rfl⟩) hHeld ?rrf30)
        try simp only [Act.put, List.setIfInBounds_toArray, List.set_cons_zero, List.set_cons_succ]
        first
          | (refine wpAnyH_take (i := 31) (oi := ⟨some 88, _, _, _, _, _⟩) (v := ?vf31) rfl (by kernel_rfl) (by kernel_rfl) (by kernel_rfl) (fun _ _ _ h => h) (Or.inl ⟨by rfl, ?hyf31⟩) hHeld ?rrf31
             case hyf31 => (intro wq hSw; have e6 := hSw.e6; have e7 := hSw.e7; obtain ⟨b0, b1, b2, b3, b4, b5, b6, b7, b8⟩ := pk_cells hSw.box; clear hSw; go_simp; try with_reducible rfl))
          | (refine wpAnyH_take (i := 31) (oi := ⟨some 88, _, _, _, _, _⟩) (v := undef) rfl (by kernel_rfl) (by kernel_rfl) (by kernel_rfl) (fun _ _ _ h => h) (Or.inr ⟨by rfl, rfl⟩) hHeld ?rrf31)
        try simp only [Act.put, List.setIfInBounds_toArray, List.set_cons_zero, List.set_cons_succ]
        first
          | (refine wpAnyH_take (i := 32) (oi := ⟨some 89, _, _, _, _, _⟩) (v := ?vf32) rfl (by kernel_rfl) (by kernel_rfl) (by kernel_rfl) (fun _ _ _ h => h) (Or.inl ⟨by rfl, ?hyf32⟩) hHeld ?rrf32
             case hyf32 => (intro wq hSw; have e6 := hSw.e6; have e7 := hSw.e7; obtain ⟨b0, b1, b2, b3, b4, b5, b6, b7, b8⟩ := pk_cells hSw.box; clear hSw; go_simp; try with_reducible rfl))
          | (refine wpAnyH_take (i := 32) (oi := ⟨some 89, _, _, _, _, _⟩) (v := undef) rfl (by kernel_rfl) (by kernel_rfl) (by kernel_rfl) (fun _ _ _ h => h) (Or.inr ⟨by rfl, rfl⟩) hHeld ?rrf32)
        try simp only [Act.put, List.setIfInBounds_toArray, List.set_cons_zero, List.set_cons_succ]
        first
          | (refine wpAnyH_take (i := 33) (oi := ⟨some 90, _, _, _, _, _⟩) (v := ?vf33) rfl (by kernel_rfl) (by kernel_rfl) (by kernel_rfl) (fun _ _ _ h => h) (Or.inl ⟨by rfl, ?hyf33⟩) hHeld ?rrf33
             case hyf33 => (intro wq hSw; have e6 := hSw.e6; have e7 := hSw.e7; obtain ⟨b0, b1, b2, b3, b4, b5, b6, b7, b8⟩ := pk_cells hSw.box; clear hSw; go_simp; try with_reducible rfl))
          | (refine wpAnyH_take (i := 33) (oi := ⟨some 90, _, _, _, _, _⟩) (v := undef) rfl (by kernel_rfl) (by kernel_rfl) (by kernel_rfl) (fun _ _ _ h => h) (Or.inr ⟨by rfl, rfl⟩) hHeld ?rrf33)
        try simp only [Act.put, List.setIfInBounds_toArray, List.set_cons_zero, List.set_cons_succ]
        first
          | (refine wpAnyH_take (i := 34) (oi := ⟨some 91, _, _, _, _, _⟩) (v := ?vf34) rfl (by kernel_rfl) (by kernel_rfl) (by kernel_rfl) (fun _ _ _ h => h) (Or.inl ⟨by rfl, ?hyf34⟩) hHeld ?rrf34
             case hyf34 => (intro wq hSw; have e6 := hSw.e6; have e7 := hSw.e7; obtain ⟨b0, b1, b2, b3, b4, b5, b6, b7, b8⟩ := pk_cells hSw.box; clear hSw; go_simp; try with_reducible rfl))
          | (refine wpAnyH_take (i := 34) (oi := ⟨some 91, _, _, _, _, _⟩) (v := undef) rfl (by kernel_rfl) (by kernel_rfl) (by kernel_rfl) (fun _ _ _ h => h) (Or.inr ⟨by rfl, rfl⟩) hHeld ?rrf34)
        try simp only [Act.put, List.setIfInBounds_toArray, List.set_cons_zero, List.set_cons_succ]
        first
          | (refine wpAnyH_take (i := 35) (oi := ⟨some 92, _, _, _, _, _⟩) (v := ?vf35) rfl (by kernel_rfl) (by kernel_rfl) (by kernel_rfl) (fun _ _ _ h => h) (Or.inl ⟨by rfl, ?hyf35⟩) hHeld ?rrf35
             case hyf35 => (intro wq hSw; have e6 := hSw.e6; have e7 := hSw.e7; obtain ⟨b0, b1, b2, b3, b4, b5, b6, b7, b8⟩ := pk_cells hSw.box; clear hSw; go_simp; try with_reducible rfl))
          | (refine wpAnyH_take (i := 35) (oi := ⟨some 92, _, _, _, _, _⟩) (v := undef) rfl (by kernel_rfl) (by kernel_rfl) (by kernel_rfl) (fun _ _ _ h => h) (Or.inr ⟨by rfl, rfl⟩) hHeld ?rrf35)
        try simp only [Act.put, List.setIfInBounds_toArray, List.set_cons_zero, List.set_cons_succ]
        first
          | (refine wpAnyH_take (i := 36) (oi := ⟨some 93, _, _, _, _, _⟩) (v := ?vf36) rfl (by kernel_rfl) (by kernel_rfl) (by kernel_rfl) (fun _ _ _ h => h) (Or.inl ⟨by rfl, ?hyf36⟩) hHeld ?rrf36
             case hyf36 => (intro wq hSw; have e6 := hSw.e6; have e7 := hSw.e7; obtain ⟨b0, b1, b2, b3, b4, b5, b6, b7, b8⟩ := pk_cells hSw.box; clear hSw; go_simp; try with_reducible rfl))
          | (refine wpAnyH_take (i := 36) (oi := ⟨some 93, _, _, _, _, _⟩) (v := undef) rfl (by kernel_rfl) (by kernel_rfl) (by kernel_rfl) (fun _ _ _ h => h) (Or.inr ⟨by rfl, rfl⟩) hHeld ?rrf36)
        try simp only [Act.put, List.setIfInBounds_toArray, List.set_cons_zero, List.set_cons_succ]
        first
          | (refine wpAnyH_take (i := 37) (oi := ⟨some 94, _, _, _, _, _⟩) (v := ?vf37) rfl (by kernel_rfl) (by kernel_rfl) (by kernel_rfl) (fun _ _ _ h => h) (Or.inl ⟨by rfl, ?hyf37⟩) hHeld ?rrf37
             case hyf37 => (intro wq hSw; have e6 := hSw.e6; have e7 := hSw.e7; obtain ⟨b0, b1, b2, b3, b4, b5, b6, b7, b8⟩ := pk_cells hSw.box; clear hSw; go_simp; try with_reducible rfl))
          | (refine wpAnyH_take (i := 37) (oi := ⟨some 94, _, _, _, _, _⟩) (v := undef) rfl (by kernel_rfl) (by kernel_rfl) (by kernel_rfl) (fun _ _ _ h => h) (Or.inr ⟨by rfl, rfl⟩) hHeld ?rrf37)
        try simp only [Act.put, List.setIfInBounds_toArray, List.set_cons_zero, List.set_cons_succ]
        first
          | (refine wpAnyH_take (i := 38) (oi := ⟨some 95, _, _, _, _, _⟩) (v := ?vf38) rfl (by kernel_rfl) (by kernel_rfl) (by kernel_rfl) (fun _ _ _ h => h) (Or.inl ⟨by rfl, ?hyf38⟩) hHeld ?rrf38
             case hyf38 => (intro wq hSw; have e6 := hSw.e6; have e7 := hSw.e7; obtain ⟨b0, b1, b2, b3, b4, b5, b6, b7, b8⟩ := pk_cells hSw.box; clear hSw; go_simp; try with_reducible rfl))
          | (refine wpAnyH_take (i := 38) (oi := ⟨some 95, _, _, _, _, _⟩) (v := undef) rfl (by kernel_rfl) (by kernel_rfl) (by kernel_rfl) (fun _ _ _ h => h) (Or.inr ⟨by rfl, rfl⟩) hHeld ?rrf38)
        try simp only [Act.put, List.setIfInBounds_toArray, List.set_cons_zero, List.set_cons_succ]
        first
          | (refine wpAnyH_take (i := 39) (oi := ⟨some 96, _, _, _, _, _⟩) (v := ?vf39) rfl (by kernel_rfl) (by kernel_rfl) (by kernel_rfl) (fun _ _ _ h => h) (Or.inl ⟨by rfl, ?hyf39⟩) hHeld ?rrf39
             case hyf39 => (intro wq hSw; have e6 := hSw.e6; have e7 := hSw.e7; obtain ⟨b0, b1, b2, b3, b4, b5, b6, b7, b8⟩ := pk_cells hSw.box; clear hSw; go_simp; try with_reducible rfl))
          | (refine wpAnyH_take (i := 39) (oi := ⟨some 96, _, _, _, _, _⟩) (v := undef) rfl (by kernel_rfl) (by kernel_rfl) (by kernel_rfl) (fun _ _ _ h => h) (Or.inr ⟨by rfl, rfl⟩) hHeld ?rrf39)
        try simp only [Act.put, List.setIfInBounds_toArray, List.set_cons_zero, List.set_cons_succ]
        first
          | (refine wpAnyH_take (i := 40) (oi := ⟨some 97, _, _, _, _, _⟩) (v := ?vf40) rfl (by kernel_rfl) (by kernel_rfl) (by kernel_rfl) (fun _ _ _ h => h) (Or.inl ⟨by rfl, ?hyf40⟩) hHeld ?rrf40
             case hyf40 => (intro wq hSw; have e6 := hSw.e6; have e7 := hSw.e7; obtain ⟨b0, b1, b2, b3, b4, b5, b6, b7, b8⟩ := pk_cells hSw.box; clear hSw; go_simp; try with_reducible rfl))
          | (refine wpAnyH_take (i := 40) (oi := ⟨some 97, _, _, _, _, _⟩) (v := undef) rfl (by kernel_rfl) (by kernel_rfl) (by kernel_rfl) (fun _ _ _ h => h) (Or.inr ⟨by rfl, rfl⟩) hHeld ?rrf40)
        try simp only [Act.put, List.setIfInBounds_toArray, List.set_cons_zero, List.set_cons_succ]
        first
          | (refine wpAnyH_take (i := 41) (oi := ⟨some 98, _, _, _, _, _⟩) (v := ?vf41) rfl (by kernel_rfl) (by kernel_rfl) (by kernel_rfl) (fun _ _ _ h => h) (Or.inl ⟨by rfl, ?hyf41⟩) hHeld ?rrf41
             case hyf41 => (intro wq hSw; have e6 := hSw.e6; have e7 := hSw.e7; obtain ⟨b0, b1, b2, b3, b4, b5, b6, b7, b8⟩ := pk_cells hSw.box; clear hSw; go_simp; try with_reducible rfl))
          | (refine wpAnyH_take (i := 41) (oi := ⟨some 98, _, _, _, _, _⟩) (v := undef) rfl (by kernel_rfl) (by kernel_rfl) (by kernel_rfl) (fun _ _ _ h => h) (Or.inr ⟨by rfl, rfl⟩) hHeld ?rrf41)
        try simp only [Act.put, List.setIfInBounds_toArray, List.set_cons_zero, List.set_cons_succ]
        refine wpAnyH_done (by kernel_rfl) ?_ _
        refine NoPanic.normal ?_
        clear hHeld
        go_wp2_with fail
        have hbx2 : Below wd.heap.size wd (wd.alloc (po ⟨1, 2, 6, 9, 77, false, mf, off, sub⟩)).drew := ((Below.refl _ wd).alloc (Nat.le_refl _) _).drew
        have hput := fh_put (HI3.out.below hbx2) HPT.out HN.out.1 HN.out.2.1 HSS.out hkM
        rw [HFR.out] at hput
        refine hput.mono ?_
        clear hput hbx2 HI3 HA63 HA73 hS0 hbx
        rintro e wf ⟨V, rfl, hV, hE⟩
        have hE2 := hE.below (W' := wf.alloc (po V)) ((Below.refl _ wf).alloc (Nat.le_refl _) _)
        clear hE
        by_cases hlast : k + 1 = M
        · have hV2 := hV hlast
          subst hV2
          rw [if_pos hlast] at hE2
          have HE2 := Lib.hid hE2
          clear hE2 hV
          rw [decide_eq_true hlast]
          have hkl : ((k : Int) + 1 = (M : Int)) = True := eq_true (by omega)
          have HLA := Lib.hid hlast
          clear hlast
          have hkb : ((k : Int) + 1 == (M : Int)) = true := beq_iff_eq.2 (by have := HLA.out; omega)
          go_wp2
          refine ⟨⟨k + 1, s, by have := HLA.out; omega, by simp, rfl, HE2⟩, ?_⟩
          show M - ((k : Int) + 1).toNat < M - (k : Int).toNat
          omega
        · rw [if_neg hlast] at hE2
          have HE2 := Lib.hid hE2
          clear hE2 hV
          rw [decide_eq_false hlast]
          have hkl : ((k : Int) + 1 = (M : Int)) = False := eq_false (by omega)
          have hkb : ((k : Int) + 1 == (M : Int)) = false := beq_false_of_ne (by omega)
          have HLA := Lib.hid hlast
          clear hlast
          have hg0 : g = ⟨#[]⟩ := HG.out
          subst hg0
          go_wp2
          refine ⟨⟨k + 1, ⟨#[]⟩, by have := HLA.out; omega, by simp, rfl, HE2⟩, ?_⟩
          show M - ((k : Int) + 1).toNat < M - (k : Int).toNat
          omega
      · obtain rfl : k = M := by omega
        have hg : g = s := by have := HI.out.got; rwa [if_pos rfl] at this
        subst hg
        go_wp2
        go_ret
        exact ⟨rfl, HI.out.bl⟩
  · have HP := Lib.hid (fun W => parts_any s hss a1 hb1.1 hb1.2 n hn W)
    obtain ⟨M, hM⟩ : ∃ M, prM s n = M := ⟨_, rfl⟩
    have hPt := pt_of s hn8.1
    rw [hM] at hPt
    have hlen : (prL s n).length = M := by simp [prL, hM]
    have HPT := Lib.hid hPt
    have HN := Lib.hid hn8
    have HLEN := Lib.hid hlen
    have HSS := Lib.hid hss
    have HM := Lib.hid hM
    have hMB : M ≤ 1000 := by rw [← hM]; unfold prM; have := Nat.div_le_self (s.size + n - 1) n; omega
    clear hPt hn8 hn hb1 hlen w1 hss hM
    go_enter Try.func11, Try.ntmps11
    go_wp2_with fail
    refine (examples_any _).mono ?_
    rintro e wa ⟨rfl, hba⟩
    have HBa := Lib.hid hba
    clear hba
    go_wp2_with fail
    refine (HP.out _).mono ?_
    rintro e wb ⟨⟨q, c, rfl, hrow⟩, hbb⟩
    have hpr := HLEN.out
    rw [hpr] at hrow
    rw [hpr]
    have HR := Lib.hid hrow
    have HBb := Lib.hid hbb
    clear hrow hbb HP hpr
    go_wp2_with fail
    refine (new_s _).mono ?_
    rintro e wc ⟨T, S, rfl, hbc, hT⟩
    have hI0 : FhI w wb.heap.size T (.slice q M c) s n M 0 ⟨#[]⟩ wc := by
      have h1 := HBa.out.size
      have h2 := HBb.out.size
      have h3 := hbc.size
      have hM0 : 0 < M := by rw [← HM.out]; unfold prM; omega
      refine ⟨⟨0, [], S, hT, .inl ⟨fun j _ => by simp, rfl, rfl⟩⟩, by rw [if_neg (by omega)], ?_, fun b hb => (HR.out.lt b hb).2, ⟨by omega, hbc.size⟩, (HBa.out.trans (HBb.out.mono h1)).trans (hbc.mono (by omega))⟩
      exact (row_of_block HR.out fun b hb => hbc.block b (HR.out.lt b hb).2).mono h1
    have HI0 := Lib.hid hI0
    clear hI0 hbc hT HR HBa HBb
    go_wp2_with fail
    go_loopw [9, 10] (fun got i wr => ∃ (k : Nat) (g : ByteArray), k ≤ M ∧ i = .int .i64 (k : Int) ∧ got = .string g ∧ Hid (FhI w wb.heap.size T (.slice q M c) s n M k g wr)) (fun _ i _ => M - (intOf i).toNat)
    case atStart => exact ⟨0, _, by omega, rfl, rfl, HI0⟩
    case round =>
      obtain ⟨k, g, hk, rfl, rfl, HI⟩ := hrel
      clear HI0
      by_cases hkM : k < M
      · have HQ := HI.out
        have HG := Lib.hid (show g = ⟨#[]⟩ from by have := HQ.got; rwa [if_neg (by omega)] at this)
        obtain ⟨g0, rfl, fa⟩ := pk_row HQ.row HLEN.out hkM
        have hx : (prL s n)[k]'(by rw [HLEN.out]; exact hkM) = frp s n k := by simp [prL]
        rw [hx] at fa
        obtain ⟨mf, hmf⟩ : ∃ b, decide (k * n + n < s.size) = b := ⟨_, rfl⟩
        obtain ⟨off, hoff⟩ : ∃ o : Int, ((k * n : Nat) : Int) = o := ⟨_, rfl⟩
        obtain ⟨sub, hsub⟩ : ∃ t, s.extract (k * n) (min (k * n + n) s.size) = t := ⟨_, rfl⟩
        have hfr : frp s n k = ⟨1, 2, 6, 9, 77, false, mf, off, sub⟩ := by unfold frp; rw [hmf, hoff, hsub]
        have hok : okW (⟨1, 2, 6, 9, 77, false, mf, off, sub⟩ : Pk) sub.size := by
          have h500 := HSS.out
          have hnn := HN.out
          rcases HPT.out with F | ⟨h1, h2⟩
          · have := F.ok hkM hnn.2.1 h500
            rw [hfr] at this
            exact this
          · obtain rfl : k = 0 := by omega
            rw [h2] at hfr
            cases hfr
            refine ⟨⟨by simp, by simp⟩, .inl ⟨by simp, by simp⟩, ⟨by simp, by simp, by simp, by simp, by simp, by simp⟩, ?_, .inl ⟨rfl, rfl⟩⟩
            show (0 : Int) ≤ 0 ∧ (0 : Int) ≤ 4000 - (s.size : Int) ∧ (0 : Int) % 8 = 0
            omega
        have hsubs : sub.size ≤ 500 := by
          rw [← hsub, ByteArray.size_extract]
          have := HSS.out
          omega
        rw [hfr] at fa
        have a0 := fa 0 (by decide)
        have a1 := fa 1 (by decide)
        have a2 := fa 2 (by decide)
        have a3 := fa 3 (by decide)
        have a4 := fa 4 (by decide)
        have a5 := fa 5 (by decide)
        have a6 := fa 6 (by decide)
        have a7 := fa 7 (by decide)
        have a8 := fa 8 (by decide)
        simp only [List.getElem?_cons_zero, List.getElem?_cons_succ, Nat.add_zero] at a0 a1 a2 a3 a4 a5 a6 a7 a8
        have HA6 := Lib.hid a6
        have HA7 := Lib.hid a7
        have HFR := Lib.hid hfr
        have HENC := Lib.hid (fun W => encode_yes (⟨1, 2, 6, 9, 77, false, mf, off, sub⟩ : Pk) (by show sub.size ≤ maxLen; unfold maxLen; omega) hok W)
        have hcut := enc_cut (⟨1, 2, 6, 9, 77, false, mf, off, sub⟩ : Pk) hok 20 (by omega) (by omega)
        have hus := enc_size (⟨1, 2, 6, 9, 77, false, mf, off, sub⟩ : Pk)
        have htl : (encP (⟨1, 2, 6, 9, 77, false, mf, off, sub⟩ : Pk)).extract 20 (encP (⟨1, 2, 6, 9, 77, false, mf, off, sub⟩ : Pk)).size = sub := by
          have := ext_head (hE (hdP (⟨1, 2, 6, 9, 77, false, mf, off, sub⟩ : Pk))) sub
          rw [hE_size] at this
          exact this
        obtain ⟨u, hu⟩ : ∃ u, encP (⟨1, 2, 6, 9, 77, false, mf, off, sub⟩ : Pk) = u := ⟨_, rfl⟩
        rw [hu] at hcut hus htl HENC
        obtain ⟨hd, hhd⟩ : ∃ t, u.extract 0 20 = t := ⟨_, rfl⟩
        rw [hhd] at hcut
        have hHD : ∀ W, Calls Try.prog 25 #[.string hd] W fun e w' => e = .returned (.tuple #[pv ⟨1, 2, 6, 9, 77, false, mf, off, ⟨#[]⟩⟩, .int .i64 0]) ∧ Below W.heap.size W w' := fun W => by
          have h1 := dhd_any hd (by rw [← hhd, ByteArray.size_extract]; unfold maxLen; omega) W
          have h2 : dV (decL hd) hd = pv ⟨1, 2, 6, 9, 77, false, mf, off, ⟨#[]⟩⟩ := by
            unfold dV
            rw [if_pos hcut.2, hcut.1]
            have : sub.extract 0 (20 - 20) = ⟨#[]⟩ := by simp; rfl
            rw [this]
          have h3 : dE (decL hd) = 0 := by unfold dE; rw [if_pos hcut.2]
          rw [h2, h3] at h1
          exact h1
        have HHD := Lib.hid hHD
        have hu20 : 20 ≤ u.size := by rw [hus]; omega
        have hu5 : u.size ≤ 520 := by rw [hus]; show 20 + sub.size ≤ 520; omega
        have hku : ((u.size : Int) < 20) = False := eq_false (by omega)
        have hki : ((k : Int) < (M : Int)) := by omega
        clear hHD hcut hus hu hok hsubs hfr fa hx hsub hoff hmf
        go_wp2_with fail
        refine (HENC.out _).mono ?_
        rintro e we ⟨rfl, hbe⟩
        have HI2 := Lib.hid (HI.out.below hbe)
        have HA62 := Lib.hid ((hbe.cell (cell_lt HA6.out)).trans HA6.out)
        have HA72 := Lib.hid ((hbe.cell (cell_lt HA7.out)).trans HA7.out)
        clear hbe HI HQ HENC a0 a1 a2 a3 a4 a5 a6 a7 a8 HA6 HA7
        go_wp2_with fail
        refine (HHD.out _).mono ?_
        rintro e wd ⟨rfl, hbd⟩
        have HI3 := Lib.hid (HI2.out.below hbd)
        have HA63 := Lib.hid ((hbd.cell (cell_lt HA62.out)).trans HA62.out)
        have HA73 := Lib.hid ((hbd.cell (cell_lt HA72.out)).trans HA72.out)
        clear hbd HI2 HHD HA62 HA72
        go_upto_region 15 with fail
        have hbx : Below wd.heap.size wd (wd.alloc (po ⟨1, 2, 6, 9, 77, false, mf, off, ⟨#[]⟩⟩)).drew := ((Below.refl _ wd).alloc (Nat.le_refl _) _).drew
        have hS0 : FhS wd.heap.size g0 k mf off (wd.alloc (po ⟨1, 2, 6, 9, 77, false, mf, off, ⟨#[]⟩⟩)).drew := ⟨blk_new wd _, (hbx.cell (cell_lt HA63.out)).trans HA63.out, (hbx.cell (cell_lt HA73.out)).trans HA73.out⟩
        refine wp_region_noPanic ?_
        refine wp_region_held_drew (S := FhS wd.heap.size g0 k mf off) (by kernel_rfl) (hS0) (fun hHeld => ?_)
        first
          | (refine wpAnyH_take (i := 0) (oi := ⟨some 57, _, _, _, _, _⟩) (v := ?vg0) rfl (by kernel_rfl) (by kernel_rfl) (by kernel_rfl) (fun _ _ _ h => h) (Or.inl ⟨by rfl, ?hyg0⟩) hHeld ?rrg0
             case hyg0 => (intro wq hSw; have e6 := hSw.e6; have e7 := hSw.e7; obtain ⟨b0, b1, b2, b3, b4, b5, b6, b7, b8⟩ := pk_cells hSw.box; clear hSw; go_simp; try with_reducible rfl))
          | (refine wpAnyH_take (i := 0) (oi := ⟨some 57, _, _, _, _, _⟩) (v := undef) rfl (by kernel_rfl) (by kernel_rfl) (by kernel_rfl) (fun _ _ _ h => h) (Or.inr ⟨by rfl, rfl⟩) hHeld ?rrg0)
        try simp only [Act.put, List.setIfInBounds_toArray, List.set_cons_zero, List.set_cons_succ]
        first
          | (refine wpAnyH_take (i := 1) (oi := ⟨some 58, _, _, _, _, _⟩) (v := ?vg1) rfl (by kernel_rfl) (by kernel_rfl) (by kernel_rfl) (fun _ _ _ h => h) (Or.inl ⟨by rfl, ?hyg1⟩) hHeld ?rrg1
             case hyg1 => (intro wq hSw; have e6 := hSw.e6; have e7 := hSw.e7; obtain ⟨b0, b1, b2, b3, b4, b5, b6, b7, b8⟩ := pk_cells hSw.box; clear hSw; go_simp; try with_reducible rfl))
          | (refine wpAnyH_take (i := 1) (oi := ⟨some 58, _, _, _, _, _⟩) (v := undef) rfl (by kernel_rfl) (by kernel_rfl) (by kernel_rfl) (fun _ _ _ h => h) (Or.inr ⟨by rfl, rfl⟩) hHeld ?rrg1)
        try simp only [Act.put, List.setIfInBounds_toArray, List.set_cons_zero, List.set_cons_succ]
        first
          | (refine wpAnyH_take (i := 2) (oi := ⟨some 59, _, _, _, _, _⟩) (v := ?vg2) rfl (by kernel_rfl) (by kernel_rfl) (by kernel_rfl) (fun _ _ _ h => h) (Or.inl ⟨by rfl, ?hyg2⟩) hHeld ?rrg2
             case hyg2 => (intro wq hSw; have e6 := hSw.e6; have e7 := hSw.e7; obtain ⟨b0, b1, b2, b3, b4, b5, b6, b7, b8⟩ := pk_cells hSw.box; clear hSw; go_simp; try with_reducible rfl))
          | (refine wpAnyH_take (i := 2) (oi := ⟨some 59, _, _, _, _, _⟩) (v := undef) rfl (by kernel_rfl) (by kernel_rfl) (by kernel_rfl) (fun _ _ _ h => h) (Or.inr ⟨by rfl, rfl⟩) hHeld ?rrg2)
        try simp only [Act.put, List.setIfInBounds_toArray, List.set_cons_zero, List.set_cons_succ]
        first
          | (refine wpAnyH_take (i := 3) (oi := ⟨some 60, _, _, _, _, _⟩) (v := ?vg3) rfl (by kernel_rfl) (by kernel_rfl) (by kernel_rfl) (fun _ _ _ h => h) (Or.inl ⟨by rfl, ?hyg3⟩) hHeld ?rrg3
             case hyg3 => (intro wq hSw; have e6 := hSw.e6; have e7 := hSw.e7; obtain ⟨b0, b1, b2, b3, b4, b5, b6, b7, b8⟩ := pk_cells hSw.box; clear hSw; go_simp; try with_reducible rfl))
          | (refine wpAnyH_take (i := 3) (oi := ⟨some 60, _, _, _, _, _⟩) (v := undef) rfl (by kernel_rfl) (by kernel_rfl) (by kernel_rfl) (fun _ _ _ h => h) (Or.inr ⟨by rfl, rfl⟩) hHeld ?rrg3)
        try simp only [Act.put, List.setIfInBounds_toArray, List.set_cons_zero, List.set_cons_succ]
        first
          | (refine wpAnyH_take (i := 4) (oi := ⟨some 61, _, _, _, _, _⟩) (v := ?vg4) rfl (by kernel_rfl) (by kernel_rfl) (by kernel_rfl) (fun _ _ _ h => h) (Or.inl ⟨by rfl, ?hyg4⟩) hHeld ?rrg4
             case hyg4 => (intro wq hSw; have e6 := hSw.e6; have e7 := hSw.e7; obtain ⟨b0, b1, b2, b3, b4, b5, b6, b7, b8⟩ := pk_cells hSw.box; clear hSw; go_simp; try with_reducible rfl))
          | (refine wpAnyH_take (i := 4) (oi := ⟨some 61, _, _, _, _, _⟩) (v := undef) rfl (by kernel_rfl) (by kernel_rfl) (by kernel_rfl) (fun _ _ _ h => h) (Or.inr ⟨by rfl, rfl⟩) hHeld ?rrg4)
        try simp only [Act.put, List.setIfInBounds_toArray, List.set_cons_zero, List.set_cons_succ]
        first
          | (refine wpAnyH_take (i := 5) (oi := ⟨some 62, _, _, _, _, _⟩) (v := ?vg5) rfl (by kernel_rfl) (by kernel_rfl) (by kernel_rfl) (fun _ _ _ h => h) (Or.inl ⟨by rfl, ?hyg5⟩) hHeld ?rrg5
             case hyg5 => (intro wq hSw; have e6 := hSw.e6; have e7 := hSw.e7; obtain ⟨b0, b1, b2, b3, b4, b5, b6, b7, b8⟩ := pk_cells hSw.box; clear hSw; go_simp; try with_reducible rfl))
          | (refine wpAnyH_take (i := 5) (oi := ⟨some 62, _, _, _, _, _⟩) (v := undef) rfl (by kernel_rfl) (by kernel_rfl) (by kernel_rfl) (fun _ _ _ h => h) (Or.inr ⟨by rfl, rfl⟩) hHeld ?rrg5)
        try simp only [Act.put, List.setIfInBounds_toArray, List.set_cons_zero, List.set_cons_succ]
        first
          | (refine wpAnyH_take (i := 6) (oi := ⟨some 63, _, _, _, _, _⟩) (v := ?vg6) rfl (by kernel_rfl) (by kernel_rfl) (by kernel_rfl) (fun _ _ _ h => h) (Or.inl ⟨by rfl, ?hyg6⟩) hHeld ?rrg6
             case hyg6 => (intro wq hSw; have e6 := hSw.e6; have e7 := hSw.e7; obtain ⟨b0, b1, b2, b3, b4, b5, b6, b7, b8⟩ := pk_cells hSw.box; clear hSw; go_simp; try with_reducible rfl))
          | (refine wpAnyH_take (i := 6) (oi := ⟨some 63, _, _, _, _, _⟩) (v := undef) rfl (by kernel_rfl) (by kernel_rfl) (by kernel_rfl) (fun _ _ _ h => h) (Or.inr ⟨by rfl, rfl⟩) hHeld ?rrg6)
        try simp only [Act.put, List.setIfInBounds_toArray, List.set_cons_zero, List.set_cons_succ]
        first
          | (refine wpAnyH_take (i := 7) (oi := ⟨some 64, _, _, _, _, _⟩) (v := ?vg7) rfl (by kernel_rfl) (by kernel_rfl) (by kernel_rfl) (fun _ _ _ h => h) (Or.inl ⟨by rfl, ?hyg7⟩) hHeld ?rrg7
             case hyg7 => (intro wq hSw; have e6 := hSw.e6; have e7 := hSw.e7; obtain ⟨b0, b1, b2, b3, b4, b5, b6, b7, b8⟩ := pk_cells hSw.box; clear hSw; go_simp; try with_reducible rfl))
          | (refine wpAnyH_take (i := 7) (oi := ⟨some 64, _, _, _, _, _⟩) (v := undef) rfl (by kernel_rfl) (by kernel_rfl) (by kernel_rfl) (fun _ _ _ h => h) (Or.inr ⟨by rfl, rfl⟩) hHeld ?rrg7)
        try simp only [Act.put, List.setIfInBounds_toArray, List.set_cons_zero, List.set_cons_succ]
        first
          | (refine wpAnyH_take (i := 8) (oi := ⟨some 65, _, _, _, _, _⟩) (v := ?vg8) rfl (by kernel_rfl) (by kernel_rfl) (by kernel_rfl) (fun _ _ _ h => h) (Or.inl ⟨by rfl, ?hyg8⟩) hHeld ?rrg8
             case hyg8 => (intro wq hSw; have e6 := hSw.e6; have e7 := hSw.e7; obtain ⟨b0, b1, b2, b3, b4, b5, b6, b7, b8⟩ := pk_cells hSw.box; clear hSw; go_simp; try with_reducible rfl))
          | (refine wpAnyH_take (i := 8) (oi := ⟨some 65, _, _, _, _, _⟩) (v := undef) rfl (by kernel_rfl) (by kernel_rfl) (by kernel_rfl) (fun _ _ _ h => h) (Or.inr ⟨by rfl, rfl⟩) hHeld ?rrg8)
        try simp only [Act.put, List.setIfInBounds_toArray, List.set_cons_zero, List.set_cons_succ]
        first
          | (refine wpAnyH_take (i := 9) (oi := ⟨some 66, _, _, _, _, _⟩) (v := ?vg9) rfl (by kernel_rfl) (by kernel_rfl) (by kernel_rfl) (fun _ _ _ h => h) (Or.inl ⟨by rfl, ?hyg9⟩) hHeld ?rrg9
             case hyg9 => (intro wq hSw; have e6 := hSw.e6; have e7 := hSw.e7; obtain ⟨b0, b1, b2, b3, b4, b5, b6, b7, b8⟩ := pk_cells hSw.box; clear hSw; go_simp; try with_reducible rfl))
          | (refine wpAnyH_take (i := 9) (oi := ⟨some 66, _, _, _, _, _⟩) (v := undef) rfl (by kernel_rfl) (by kernel_rfl) (by kernel_rfl) (fun _ _ _ h => h) (Or.inr ⟨by rfl, rfl⟩) hHeld ?rrg9)
        try simp only [Act.put, List.setIfInBounds_toArray, List.set_cons_zero, List.set_cons_succ]
        first
          | (refine wpAnyH_take (i := 10) (oi := ⟨some 67, _, _, _, _, _⟩) (v := ?vg10) rfl (by kernel_rfl) (by kernel_rfl) (by kernel_rfl) (fun _ _ _ h => h) (Or.inl ⟨by rfl, ?hyg10⟩) hHeld ?rrg10
             case hyg10 => (intro wq hSw; have e6 := hSw.e6; have e7 := hSw.e7; obtain ⟨b0, b1, b2, b3, b4, b5, b6, b7, b8⟩ := pk_cells hSw.box; clear hSw; go_simp; try with_reducible rfl))
          | (refine wpAnyH_take (i := 10) (oi := ⟨some 67, _, _, _, _, _⟩) (v := undef) rfl (by kernel_rfl) (by kernel_rfl) (by kernel_rfl) (fun _ _ _ h => h) (Or.inr ⟨by rfl, rfl⟩) hHeld ?rrg10)
        try simp only [Act.put, List.setIfInBounds_toArray, List.set_cons_zero, List.set_cons_succ]
        first
          | (refine wpAnyH_take (i := 11) (oi := ⟨some 68, _, _, _, _, _⟩) (v := ?vg11) rfl (by kernel_rfl) (by kernel_rfl) (by kernel_rfl) (fun _ _ _ h => h) (Or.inl ⟨by rfl, ?hyg11⟩) hHeld ?rrg11
             case hyg11 => (intro wq hSw; have e6 := hSw.e6; have e7 := hSw.e7; obtain ⟨b0, b1, b2, b3, b4, b5, b6, b7, b8⟩ := pk_cells hSw.box; clear hSw; go_simp; try with_reducible rfl))
          | (refine wpAnyH_take (i := 11) (oi := ⟨some 68, _, _, _, _, _⟩) (v := undef) rfl (by kernel_rfl) (by kernel_rfl) (by kernel_rfl) (fun _ _ _ h => h) (Or.inr ⟨by rfl, rfl⟩) hHeld ?rrg11)
        try simp only [Act.put, List.setIfInBounds_toArray, List.set_cons_zero, List.set_cons_succ]
        first
          | (refine wpAnyH_take (i := 12) (oi := ⟨some 69, _, _, _, _, _⟩) (v := ?vg12) rfl (by kernel_rfl) (by kernel_rfl) (by kernel_rfl) (fun _ _ _ h => h) (Or.inl ⟨by rfl, ?hyg12⟩) hHeld ?rrg12
             case hyg12 => (intro wq hSw; have e6 := hSw.e6; have e7 := hSw.e7; obtain ⟨b0, b1, b2, b3, b4, b5, b6, b7, b8⟩ := pk_cells hSw.box; clear hSw; go_simp; try with_reducible rfl))
          | (refine wpAnyH_take (i := 12) (oi := ⟨some 69, _, _, _, _, _⟩) (v := undef) rfl (by kernel_rfl) (by kernel_rfl) (by kernel_rfl) (fun _ _ _ h => h) (Or.inr ⟨by rfl, rfl⟩) hHeld ?rrg12)
        try simp only [Act.put, List.setIfInBounds_toArray, List.set_cons_zero, List.set_cons_succ]
        first
          | (refine wpAnyH_take (i := 13) (oi := ⟨some 70, _, _, _, _, _⟩) (v := ?vg13) rfl (by kernel_rfl) (by kernel_rfl) (by kernel_rfl) (fun _ _ _ h => h) (Or.inl ⟨by rfl, ?hyg13⟩) hHeld ?rrg13
             case hyg13 => (intro wq hSw; have e6 := hSw.e6; have e7 := hSw.e7; obtain ⟨b0, b1, b2, b3, b4, b5, b6, b7, b8⟩ := pk_cells hSw.box; clear hSw; go_simp; try with_reducible rfl))
          | (refine wpAnyH_take (i := 13) (oi := ⟨some 70, _, _, _, _, _⟩) (v := undef) rfl (by kernel_rfl) (by kernel_rfl) (by kernel_rfl) (fun _ _ _ h => h) (Or.inr ⟨by rfl, rfl⟩) hHeld ?rrg13)
        try simp only [Act.put, List.setIfInBounds_toArray, List.set_cons_zero, List.set_cons_succ]
        first
          | (refine wpAnyH_take (i := 14) (oi := ⟨some 71, _, _, _, _, _⟩) (v := ?vg14) rfl (by kernel_rfl) (by kernel_rfl) (by kernel_rfl) (fun _ _ _ h => h) (Or.inl ⟨by rfl, ?hyg14⟩) hHeld ?rrg14
             case hyg14 => (intro wq hSw; have e6 := hSw.e6; have e7 := hSw.e7; obtain ⟨b0, b1, b2, b3, b4, b5, b6, b7, b8⟩ := pk_cells hSw.box; clear hSw; go_simp; try with_reducible rfl))
          | (refine wpAnyH_take (i := 14) (oi := ⟨some 71, _, _, _, _, _⟩) (v := undef) rfl (by kernel_rfl) (by kernel_rfl) (by kernel_rfl) (fun _ _ _ h => h) (Or.inr ⟨by rfl, rfl⟩) hHeld ?rrg14)
        try simp only [Act.put, List.setIfInBounds_toArray, List.set_cons_zero, List.set_cons_succ]
        first
          | (refine wpAnyH_take (i := 15) (oi := ⟨some 72, _, _, _, _, _⟩) (v := ?vg15) rfl (by kernel_rfl) (by kernel_rfl) (by kernel_rfl) (fun _ _ _ h => h) (Or.inl ⟨by rfl, ?hyg15⟩) hHeld ?rrg15
             case hyg15 => (intro wq hSw; have e6 := hSw.e6; have e7 := hSw.e7; obtain ⟨b0, b1, b2, b3, b4, b5, b6, b7, b8⟩ := pk_cells hSw.box; clear hSw; go_simp; try with_reducible rfl))
          | (refine wpAnyH_take (i := 15) (oi := ⟨some 72, _, _, _, _, _⟩) (v := undef) rfl (by kernel_rfl) (by kernel_rfl) (by kernel_rfl) (fun _ _ _ h => h) (Or.inr ⟨by rfl, rfl⟩) hHeld ?rrg15)
        try simp only [Act.put, List.setIfInBounds_toArray, List.set_cons_zero, List.set_cons_succ]
        first
          | (refine wpAnyH_take (i := 16) (oi := ⟨some 73, _, _, _, _, _⟩) (v := ?vg16) rfl (by kernel_rfl) (by kernel_rfl) (by kernel_rfl) (fun _ _ _ h => h) (Or.inl ⟨by rfl, ?hyg16⟩) hHeld ?rrg16
             case hyg16 => (intro wq hSw; have e6 := hSw.e6; have e7 := hSw.e7; obtain ⟨b0, b1, b2, b3, b4, b5, b6, b7, b8⟩ := pk_cells hSw.box; clear hSw; go_simp; try with_reducible rfl))
          | (refine wpAnyH_take (i := 16) (oi := ⟨some 73, _, _, _, _, _⟩) (v := undef) rfl (by kernel_rfl) (by kernel_rfl) (by kernel_rfl) (fun _ _ _ h => h) (Or.inr ⟨by rfl, rfl⟩) hHeld ?rrg16)
        try simp only [Act.put, List.setIfInBounds_toArray, List.set_cons_zero, List.set_cons_succ]
        first
          | (refine wpAnyH_take (i := 17) (oi := ⟨some 74, _, _, _, _, _⟩) (v := ?vg17) rfl (by kernel_rfl) (by kernel_rfl) (by kernel_rfl) (fun _ _ _ h => h) (Or.inl ⟨by rfl, ?hyg17⟩) hHeld ?rrg17
             case hyg17 => (intro wq hSw; have e6 := hSw.e6; have e7 := hSw.e7; obtain ⟨b0, b1, b2, b3, b4, b5, b6, b7, b8⟩ := pk_cells hSw.box; clear hSw; go_simp; try with_reducible rfl))
          | (refine wpAnyH_take (i := 17) (oi := ⟨some 74, _, _, _, _, _⟩) (v := undef) rfl (by kernel_rfl) (by kernel_rfl) (by kernel_rfl) (fun _ _ _ h => h) (Or.inr ⟨by rfl, rfl⟩) hHeld ?rrg17)
        try simp only [Act.put, List.setIfInBounds_toArray, List.set_cons_zero, List.set_cons_succ]
        first
          | (refine wpAnyH_take (i := 18) (oi := ⟨some 75, _, _, _, _, _⟩) (v := ?vg18) rfl (by kernel_rfl) (by kernel_rfl) (by kernel_rfl) (fun _ _ _ h => h) (Or.inl ⟨by rfl, ?hyg18⟩) hHeld ?rrg18
             case hyg18 => (intro wq hSw; have e6 := hSw.e6; have e7 := hSw.e7; obtain ⟨b0, b1, b2, b3, b4, b5, b6, b7, b8⟩ := pk_cells hSw.box; clear hSw; go_simp; try with_reducible rfl))
          | (refine wpAnyH_take (i := 18) (oi := ⟨some 75, _, _, _, _, _⟩) (v := undef) rfl (by kernel_rfl) (by kernel_rfl) (by kernel_rfl) (fun _ _ _ h => h) (Or.inr ⟨by rfl, rfl⟩) hHeld ?rrg18)
        try simp only [Act.put, List.setIfInBounds_toArray, List.set_cons_zero, List.set_cons_succ]
        first
          | (refine wpAnyH_take (i := 19) (oi := ⟨some 76, _, _, _, _, _⟩) (v := ?vg19) rfl (by kernel_rfl) (by kernel_rfl) (by kernel_rfl) (fun _ _ _ h => h) (Or.inl ⟨by rfl, ?hyg19⟩) hHeld ?rrg19
             case hyg19 => (intro wq hSw; have e6 := hSw.e6; have e7 := hSw.e7; obtain ⟨b0, b1, b2, b3, b4, b5, b6, b7, b8⟩ := pk_cells hSw.box; clear hSw; go_simp; try with_reducible rfl))
          | (refine wpAnyH_take (i := 19) (oi := ⟨some 76, _, _, _, _, _⟩) (v := undef) rfl (by kernel_rfl) (by kernel_rfl) (by kernel_rfl) (fun _ _ _ h => h) (Or.inr ⟨by rfl, rfl⟩) hHeld ?rrg19)
        try simp only [Act.put, List.setIfInBounds_toArray, List.set_cons_zero, List.set_cons_succ]
        first
          | (refine wpAnyH_take (i := 20) (oi := ⟨some 77, _, _, _, _, _⟩) (v := ?vg20) rfl (by kernel_rfl) (by kernel_rfl) (by kernel_rfl) (fun _ _ _ h => h) (Or.inl ⟨by rfl, ?hyg20⟩) hHeld ?rrg20
             case hyg20 => (intro wq hSw; have e6 := hSw.e6; have e7 := hSw.e7; obtain ⟨b0, b1, b2, b3, b4, b5, b6, b7, b8⟩ := pk_cells hSw.box; clear hSw; go_simp; try with_reducible rfl))
          | (refine wpAnyH_take (i := 20) (oi := ⟨some 77, _, _, _, _, _⟩) (v := undef) rfl (by kernel_rfl) (by kernel_rfl) (by kernel_rfl) (fun _ _ _ h => h) (Or.inr ⟨by rfl, rfl⟩) hHeld ?rrg20)
        try simp only [Act.put, List.setIfInBounds_toArray, List.set_cons_zero, List.set_cons_succ]
        first
          | (refine wpAnyH_take (i := 21) (oi := ⟨some 78, _, _, _, _, _⟩) (v := ?vg21) rfl (by kernel_rfl) (by kernel_rfl) (by kernel_rfl) (fun _ _ _ h => h) (Or.inl ⟨by rfl, ?hyg21⟩) hHeld ?rrg21
             case hyg21 => (intro wq hSw; have e6 := hSw.e6; have e7 := hSw.e7; obtain ⟨b0, b1, b2, b3, b4, b5, b6, b7, b8⟩ := pk_cells hSw.box; clear hSw; go_simp; try with_reducible rfl))
          | (refine wpAnyH_take (i := 21) (oi := ⟨some 78, _, _, _, _, _⟩) (v := undef) rfl (by kernel_rfl) (by kernel_rfl) (by kernel_rfl) (fun _ _ _ h => h) (Or.inr ⟨by rfl, rfl⟩) hHeld ?rrg21)
        try simp only [Act.put, List.setIfInBounds_toArray, List.set_cons_zero, List.set_cons_succ]
        first
          | (refine wpAnyH_take (i := 22) (oi := ⟨some 79, _, _, _, _, _⟩) (v := ?vg22) rfl (by kernel_rfl) (by kernel_rfl) (by kernel_rfl) (fun _ _ _ h => h) (Or.inl ⟨by rfl, ?hyg22⟩) hHeld ?rrg22
             case hyg22 => (intro wq hSw; have e6 := hSw.e6; have e7 := hSw.e7; obtain ⟨b0, b1, b2, b3, b4, b5, b6, b7, b8⟩ := pk_cells hSw.box; clear hSw; go_simp; try with_reducible rfl))
          | (refine wpAnyH_take (i := 22) (oi := ⟨some 79, _, _, _, _, _⟩) (v := undef) rfl (by kernel_rfl) (by kernel_rfl) (by kernel_rfl) (fun _ _ _ h => h) (Or.inr ⟨by rfl, rfl⟩) hHeld ?rrg22)
        try simp only [Act.put, List.setIfInBounds_toArray, List.set_cons_zero, List.set_cons_succ]
        first
          | (refine wpAnyH_take (i := 23) (oi := ⟨some 80, _, _, _, _, _⟩) (v := ?vg23) rfl (by kernel_rfl) (by kernel_rfl) (by kernel_rfl) (fun _ _ _ h => h) (Or.inl ⟨by rfl, ?hyg23⟩) hHeld ?rrg23
             case hyg23 => (intro wq hSw; have e6 := hSw.e6; have e7 := hSw.e7; obtain ⟨b0, b1, b2, b3, b4, b5, b6, b7, b8⟩ := pk_cells hSw.box; clear hSw; go_simp; try with_reducible rfl))
          | (refine wpAnyH_take (i := 23) (oi := ⟨some 80, _, _, _, _, _⟩) (v := undef) rfl (by kernel_rfl) (by kernel_rfl) (by kernel_rfl) (fun _ _ _ h => h) (Or.inr ⟨by rfl, rfl⟩) hHeld ?rrg23)
        try simp only [Act.put, List.setIfInBounds_toArray, List.set_cons_zero, List.set_cons_succ]
        first
          | (refine wpAnyH_take (i := 24) (oi := ⟨some 81, _, _, _, _, _⟩) (v := ?vg24) rfl (by kernel_rfl) (by kernel_rfl) (by kernel_rfl) (fun _ _ _ h => h) (Or.inl ⟨by rfl, ?hyg24⟩) hHeld ?rrg24
             case hyg24 => (intro wq hSw; have e6 := hSw.e6; have e7 := hSw.e7; obtain ⟨b0, b1, b2, b3, b4, b5, b6, b7, b8⟩ := pk_cells hSw.box; clear hSw; go_simp; try with_reducible rfl))
          | (refine wpAnyH_take (i := 24) (oi := ⟨some 81, _, _, _, _, _⟩) (v := undef) rfl (by kernel_rfl) (by kernel_rfl) (by kernel_rfl) (fun _ _ _ h => h) (Or.inr ⟨by rfl, rfl⟩) hHeld ?rrg24)
        try simp only [Act.put, List.setIfInBounds_toArray, List.set_cons_zero, List.set_cons_succ]
        first
          | (refine wpAnyH_take (i := 25) (oi := ⟨some 82, _, _, _, _, _⟩) (v := ?vg25) rfl (by kernel_rfl) (by kernel_rfl) (by kernel_rfl) (fun _ _ _ h => h) (Or.inl ⟨by rfl, ?hyg25⟩) hHeld ?rrg25
             case hyg25 => (intro wq hSw; have e6 := hSw.e6; have e7 := hSw.e7; obtain ⟨b0, b1, b2, b3, b4, b5, b6, b7, b8⟩ := pk_cells hSw.box; clear hSw; go_simp; try with_reducible rfl))
          | (refine wpAnyH_take (i := 25) (oi := ⟨some 82, _, _, _, _, _⟩) (v := undef) rfl (by kernel_rfl) (by kernel_rfl) (by kernel_rfl) (fun _ _ _ h => h) (Or.inr ⟨by rfl, rfl⟩) hHeld ?rrg25)
        try simp only [Act.put, List.setIfInBounds_toArray, List.set_cons_zero, List.set_cons_succ]
        first
          | (refine wpAnyH_take (i := 26) (oi := ⟨some 83, _, _, _, _, _⟩) (v := ?vg26) rfl (by kernel_rfl) (by kernel_rfl) (by kernel_rfl) (fun _ _ _ h => h) (Or.inl ⟨by rfl, ?hyg26⟩) hHeld ?rrg26
             case hyg26 => (intro wq hSw; have e6 := hSw.e6; have e7 := hSw.e7; obtain ⟨b0, b1, b2, b3, b4, b5, b6, b7, b8⟩ := pk_cells hSw.box; clear hSw; go_simp; try with_reducible rfl))
          | (refine wpAnyH_take (i := 26) (oi := ⟨some 83, _, _, _, _, _⟩) (v := undef) rfl (by kernel_rfl) (by kernel_rfl) (by kernel_rfl) (fun _ _ _ h => h) (Or.inr ⟨by rfl, rfl⟩) hHeld ?rrg26)
        try simp only [Act.put, List.setIfInBounds_toArray, List.set_cons_zero, List.set_cons_succ]
        first
          | (refine wpAnyH_take (i := 27) (oi := ⟨some 84, _, _, _, _, _⟩) (v := ?vg27) rfl (by kernel_rfl) (by kernel_rfl) (by kernel_rfl) (fun _ _ _ h => h) (Or.inl ⟨by rfl, ?hyg27⟩) hHeld ?rrg27
             case hyg27 => (intro wq hSw; have e6 := hSw.e6; have e7 := hSw.e7; obtain ⟨b0, b1, b2, b3, b4, b5, b6, b7, b8⟩ := pk_cells hSw.box; clear hSw; go_simp; try with_reducible rfl))
          | (refine wpAnyH_take (i := 27) (oi := ⟨some 84, _, _, _, _, _⟩) (v := undef) rfl (by kernel_rfl) (by kernel_rfl) (by kernel_rfl) (fun _ _ _ h => h) (Or.inr ⟨by rfl, rfl⟩) hHeld ?rrg27)
        try simp only [Act.put, List.setIfInBounds_toArray, List.set_cons_zero, List.set_cons_succ]
        first
          | (refine wpAnyH_take (i := 28) (oi := ⟨some 85, _, _, _, _, _⟩) (v := ?vg28) rfl (by kernel_rfl) (by kernel_rfl) (by kernel_rfl) (fun _ _ _ h => h) (Or.inl ⟨by rfl, ?hyg28⟩) hHeld ?rrg28
             case hyg28 => (intro wq hSw; have e6 := hSw.e6; have e7 := hSw.e7; obtain ⟨b0, b1, b2, b3, b4, b5, b6, b7, b8⟩ := pk_cells hSw.box; clear hSw; go_simp; try with_reducible rfl))
          | (refine wpAnyH_take (i := 28) (oi := ⟨some 85, _, _, _, _, _⟩) (v := undef) rfl (by kernel_rfl) (by kernel_rfl) (by kernel_rfl) (fun _ _ _ h => h) (Or.inr ⟨by rfl, rfl⟩) hHeld ?rrg28)
        try simp only [Act.put, List.setIfInBounds_toArray, List.set_cons_zero, List.set_cons_succ]
        first
          | (refine wpAnyH_take (i := 29) (oi := ⟨some 86, _, _, _, _, _⟩) (v := ?vg29) rfl (by kernel_rfl) (by kernel_rfl) (by kernel_rfl) (fun _ _ _ h => h) (Or.inl ⟨by rfl, ?hyg29⟩) hHeld ?rrg29
             case hyg29 => (intro wq hSw; have e6 := hSw.e6; have e7 := hSw.e7; obtain ⟨b0, b1, b2, b3, b4, b5, b6, b7, b8⟩ := pk_cells hSw.box; clear hSw; go_simp; try with_reducible rfl))
          | (refine wpAnyH_take (i := 29) (oi := ⟨some 86, _, _, _, _, _⟩) (v := undef) rfl (by kernel_rfl) (by kernel_rfl) (by kernel_rfl) (fun _ _ _ h => h) (Or.inr ⟨by rfl, rfl⟩) hHeld ?rrg29)
        try simp only [Act.put, List.setIfInBounds_toArray, List.set_cons_zero, List.set_cons_succ]
        first
          | (refine wpAnyH_take (i := 30) (oi := ⟨some 87, _, _, _, _, _⟩) (v := ?vg30) rfl (by kernel_rfl) (by kernel_rfl) (by kernel_rfl) (fun _ _ _ h => h) (Or.inl ⟨by rfl, ?hyg30⟩) hHeld ?rrg30
             case hyg30 => (intro wq hSw; have e6 := hSw.e6; have e7 := hSw.e7; obtain ⟨b0, b1, b2, b3, b4, b5, b6, b7, b8⟩ := pk_cells hSw.box; clear hSw; go_simp; try with_reducible rfl))
          | (refine wpAnyH_take (i := 30) (oi := ⟨some 87, _, _, _, _, _⟩) (v := undef) rfl (by kernel_rfl) (by kernel_rfl) (by kernel_rfl) (fun _ _ _ h => h) (Or.inr ⟨by rfl, rfl⟩) hHeld ?rrg30)
        try simp only [Act.put, List.setIfInBounds_toArray, List.set_cons_zero, List.set_cons_succ]
        first
          | (refine wpAnyH_take (i := 31) (oi := ⟨some 88, _, _, _, _, _⟩) (v := ?vg31) rfl (by kernel_rfl) (by kernel_rfl) (by kernel_rfl) (fun _ _ _ h => h) (Or.inl ⟨by rfl, ?hyg31⟩) hHeld ?rrg31
             case hyg31 => (intro wq hSw; have e6 := hSw.e6; have e7 := hSw.e7; obtain ⟨b0, b1, b2, b3, b4, b5, b6, b7, b8⟩ := pk_cells hSw.box; clear hSw; go_simp; try with_reducible rfl))
          | (refine wpAnyH_take (i := 31) (oi := ⟨some 88, _, _, _, _, _⟩) (v := undef) rfl (by kernel_rfl) (by kernel_rfl) (by kernel_rfl) (fun _ _ _ h => h) (Or.inr ⟨by rfl, rfl⟩) hHeld ?rrg31)
        try simp only [Act.put, List.setIfInBounds_toArray, List.set_cons_zero, List.set_cons_succ]
        first
          | (refine wpAnyH_take (i := 32) (oi := ⟨some 89, _, _, _, _, _⟩) (v := ?vg32) rfl (by kernel_rfl) (by kernel_rfl) (by kernel_rfl) (fun _ _ _ h => h) (Or.inl ⟨by rfl, ?hyg32⟩) hHeld ?rrg32
             case hyg32 => (intro wq hSw; have e6 := hSw.e6; have e7 := hSw.e7; obtain ⟨b0, b1, b2, b3, b4, b5, b6, b7, b8⟩ := pk_cells hSw.box; clear hSw; go_simp; try with_reducible rfl))
          | (refine wpAnyH_take (i := 32) (oi := ⟨some 89, _, _, _, _, _⟩) (v := undef) rfl (by kernel_rfl) (by kernel_rfl) (by kernel_rfl) (fun _ _ _ h => h) (Or.inr ⟨by rfl, rfl⟩) hHeld ?rrg32)
        try simp only [Act.put, List.setIfInBounds_toArray, List.set_cons_zero, List.set_cons_succ]
        first
          | (refine wpAnyH_take (i := 33) (oi := ⟨some 90, _, _, _, _, _⟩) (v := ?vg33) rfl (by kernel_rfl) (by kernel_rfl) (by kernel_rfl) (fun _ _ _ h => h) (Or.inl ⟨by rfl, ?hyg33⟩) hHeld ?rrg33
             case hyg33 => (intro wq hSw; have e6 := hSw.e6; have e7 := hSw.e7; obtain ⟨b0, b1, b2, b3, b4, b5, b6, b7, b8⟩ := pk_cells hSw.box; clear hSw; go_simp; try with_reducible rfl))
          | (refine wpAnyH_take (i := 33) (oi := ⟨some 90, _, _, _, _, _⟩) (v := undef) rfl (by kernel_rfl) (by kernel_rfl) (by kernel_rfl) (fun _ _ _ h => h) (Or.inr ⟨by rfl, rfl⟩) hHeld ?rrg33)
        try simp only [Act.put, List.setIfInBounds_toArray, List.set_cons_zero, List.set_cons_succ]
        first
          | (refine wpAnyH_take (i := 34) (oi := ⟨some 91, _, _, _, _, _⟩) (v := ?vg34) rfl (by kernel_rfl) (by kernel_rfl) (by kernel_rfl) (fun _ _ _ h => h) (Or.inl ⟨by rfl, ?hyg34⟩) hHeld ?rrg34
             case hyg34 => (intro wq hSw; have e6 := hSw.e6; have e7 := hSw.e7; obtain ⟨b0, b1, b2, b3, b4, b5, b6, b7, b8⟩ := pk_cells hSw.box; clear hSw; go_simp; try with_reducible rfl))
          | (refine wpAnyH_take (i := 34) (oi := ⟨some 91, _, _, _, _, _⟩) (v := undef) rfl (by kernel_rfl) (by kernel_rfl) (by kernel_rfl) (fun _ _ _ h => h) (Or.inr ⟨by rfl, rfl⟩) hHeld ?rrg34)
        try simp only [Act.put, List.setIfInBounds_toArray, List.set_cons_zero, List.set_cons_succ]
        first
          | (refine wpAnyH_take (i := 35) (oi := ⟨some 92, _, _, _, _, _⟩) (v := ?vg35) rfl (by kernel_rfl) (by kernel_rfl) (by kernel_rfl) (fun _ _ _ h => h) (Or.inl ⟨by rfl, ?hyg35⟩) hHeld ?rrg35
             case hyg35 => (intro wq hSw; have e6 := hSw.e6; have e7 := hSw.e7; obtain ⟨b0, b1, b2, b3, b4, b5, b6, b7, b8⟩ := pk_cells hSw.box; clear hSw; go_simp; try with_reducible rfl))
          | (refine wpAnyH_take (i := 35) (oi := ⟨some 92, _, _, _, _, _⟩) (v := undef) rfl (by kernel_rfl) (by kernel_rfl) (by kernel_rfl) (fun _ _ _ h => h) (Or.inr ⟨by rfl, rfl⟩) hHeld ?rrg35)
        try simp only [Act.put, List.setIfInBounds_toArray, List.set_cons_zero, List.set_cons_succ]
        first
          | (refine wpAnyH_take (i := 36) (oi := ⟨some 93, _, _, _, _, _⟩) (v := ?vg36) rfl (by kernel_rfl) (by kernel_rfl) (by kernel_rfl) (fun _ _ _ h => h) (Or.inl ⟨by rfl, ?hyg36⟩) hHeld ?rrg36
             case hyg36 => (intro wq hSw; have e6 := hSw.e6; have e7 := hSw.e7; obtain ⟨b0, b1, b2, b3, b4, b5, b6, b7, b8⟩ := pk_cells hSw.box; clear hSw; go_simp; try with_reducible rfl))
          | (refine wpAnyH_take (i := 36) (oi := ⟨some 93, _, _, _, _, _⟩) (v := undef) rfl (by kernel_rfl) (by kernel_rfl) (by kernel_rfl) (fun _ _ _ h => h) (Or.inr ⟨by rfl, rfl⟩) hHeld ?rrg36)
        try simp only [Act.put, List.setIfInBounds_toArray, List.set_cons_zero, List.set_cons_succ]
        first
          | (refine wpAnyH_take (i := 37) (oi := ⟨some 94, _, _, _, _, _⟩) (v := ?vg37) rfl (by kernel_rfl) (by kernel_rfl) (by kernel_rfl) (fun _ _ _ h => h) (Or.inl ⟨by rfl, ?hyg37⟩) hHeld ?rrg37
             case hyg37 => (intro wq hSw; have e6 := hSw.e6; have e7 := hSw.e7; obtain ⟨b0, b1, b2, b3, b4, b5, b6, b7, b8⟩ := pk_cells hSw.box; clear hSw; go_simp; try with_reducible rfl))
          | (refine wpAnyH_take (i := 37) (oi := ⟨some 94, _, _, _, _, _⟩) (v := undef) rfl (by kernel_rfl) (by kernel_rfl) (by kernel_rfl) (fun _ _ _ h => h) (Or.inr ⟨by rfl, rfl⟩) hHeld ?rrg37)
        try simp only [Act.put, List.setIfInBounds_toArray, List.set_cons_zero, List.set_cons_succ]
        first
          | (refine wpAnyH_take (i := 38) (oi := ⟨some 95, _, _, _, _, _⟩) (v := ?vg38) rfl (by kernel_rfl) (by kernel_rfl) (by kernel_rfl) (fun _ _ _ h => h) (Or.inl ⟨by rfl, ?hyg38⟩) hHeld ?rrg38
             case hyg38 => (intro wq hSw; have e6 := hSw.e6; have e7 := hSw.e7; obtain ⟨b0, b1, b2, b3, b4, b5, b6, b7, b8⟩ := pk_cells hSw.box; clear hSw; go_simp; try with_reducible rfl))
          | (refine wpAnyH_take (i := 38) (oi := ⟨some 95, _, _, _, _, _⟩) (v := undef) rfl (by kernel_rfl) (by kernel_rfl) (by kernel_rfl) (fun _ _ _ h => h) (Or.inr ⟨by rfl, rfl⟩) hHeld ?rrg38)
        try simp only [Act.put, List.setIfInBounds_toArray, List.set_cons_zero, List.set_cons_succ]
        first
          | (refine wpAnyH_take (i := 39) (oi := ⟨some 96, _, _, _, _, _⟩) (v := ?vg39) rfl (by kernel_rfl) (by kernel_rfl) (by kernel_rfl) (fun _ _ _ h => h) (Or.inl ⟨by rfl, ?hyg39⟩) hHeld ?rrg39
             case hyg39 => (intro wq hSw; have e6 := hSw.e6; have e7 := hSw.e7; obtain ⟨b0, b1, b2, b3, b4, b5, b6, b7, b8⟩ := pk_cells hSw.box; clear hSw; go_simp; try with_reducible rfl))
          | (refine wpAnyH_take (i := 39) (oi := ⟨some 96, _, _, _, _, _⟩) (v := undef) rfl (by kernel_rfl) (by kernel_rfl) (by kernel_rfl) (fun _ _ _ h => h) (Or.inr ⟨by rfl, rfl⟩) hHeld ?rrg39)
        try simp only [Act.put, List.setIfInBounds_toArray, List.set_cons_zero, List.set_cons_succ]
        first
          | (refine wpAnyH_take (i := 40) (oi := ⟨some 97, _, _, _, _, _⟩) (v := ?vg40) rfl (by kernel_rfl) (by kernel_rfl) (by kernel_rfl) (fun _ _ _ h => h) (Or.inl ⟨by rfl, ?hyg40⟩) hHeld ?rrg40
             case hyg40 => (intro wq hSw; have e6 := hSw.e6; have e7 := hSw.e7; obtain ⟨b0, b1, b2, b3, b4, b5, b6, b7, b8⟩ := pk_cells hSw.box; clear hSw; go_simp; try with_reducible rfl))
          | (refine wpAnyH_take (i := 40) (oi := ⟨some 97, _, _, _, _, _⟩) (v := undef) rfl (by kernel_rfl) (by kernel_rfl) (by kernel_rfl) (fun _ _ _ h => h) (Or.inr ⟨by rfl, rfl⟩) hHeld ?rrg40)
        try simp only [Act.put, List.setIfInBounds_toArray, List.set_cons_zero, List.set_cons_succ]
        first
          | (refine wpAnyH_take (i := 41) (oi := ⟨some 98, _, _, _, _, _⟩) (v := ?vg41) rfl (by kernel_rfl) (by kernel_rfl) (by kernel_rfl) (fun _ _ _ h => h) (Or.inl ⟨by rfl, ?hyg41⟩) hHeld ?rrg41
             case hyg41 => (intro wq hSw; have e6 := hSw.e6; have e7 := hSw.e7; obtain ⟨b0, b1, b2, b3, b4, b5, b6, b7, b8⟩ := pk_cells hSw.box; clear hSw; go_simp; try with_reducible rfl))
          | (refine wpAnyH_take (i := 41) (oi := ⟨some 98, _, _, _, _, _⟩) (v := undef) rfl (by kernel_rfl) (by kernel_rfl) (by kernel_rfl) (fun _ _ _ h => h) (Or.inr ⟨by rfl, rfl⟩) hHeld ?rrg41)
        try simp only [Act.put, List.setIfInBounds_toArray, List.set_cons_zero, List.set_cons_succ]
        refine wpAnyH_done (by kernel_rfl) ?_ _
        refine NoPanic.normal ?_
        clear hHeld
        go_wp2_with fail
        have hbx2 : Below wd.heap.size wd (wd.alloc (po ⟨1, 2, 6, 9, 77, false, mf, off, sub⟩)).drew := ((Below.refl _ wd).alloc (Nat.le_refl _) _).drew
        have hput := fh_put (HI3.out.below hbx2) HPT.out HN.out.1 HN.out.2.1 HSS.out hkM
        rw [HFR.out] at hput
        refine hput.mono ?_
        clear hput hbx2 HI3 HA63 HA73 hS0 hbx
        rintro e wf ⟨V, rfl, hV, hE⟩
        have hE2 := hE.below (W' := wf.alloc (po V)) ((Below.refl _ wf).alloc (Nat.le_refl _) _)
        clear hE
        by_cases hlast : k + 1 = M
        · have hV2 := hV hlast
          subst hV2
          rw [if_pos hlast] at hE2
          have HE2 := Lib.hid hE2
          clear hE2 hV
          rw [decide_eq_true hlast]
          have hkl : ((k : Int) + 1 = (M : Int)) = True := eq_true (by omega)
          have HLA := Lib.hid hlast
          clear hlast
          have hkb : ((k : Int) + 1 == (M : Int)) = true := beq_iff_eq.2 (by have := HLA.out; omega)
          go_wp2
          refine ⟨⟨k + 1, s, by have := HLA.out; omega, by simp, rfl, HE2⟩, ?_⟩
          show M - ((k : Int) + 1).toNat < M - (k : Int).toNat
          omega
        · rw [if_neg hlast] at hE2
          have HE2 := Lib.hid hE2
          clear hE2 hV
          rw [decide_eq_false hlast]
          have hkl : ((k : Int) + 1 = (M : Int)) = False := eq_false (by omega)
          have hkb : ((k : Int) + 1 == (M : Int)) = false := beq_false_of_ne (by omega)
          have HLA := Lib.hid hlast
          clear hlast
          have hg0 : g = ⟨#[]⟩ := HG.out
          subst hg0
          go_wp2
          refine ⟨⟨k + 1, ⟨#[]⟩, by have := HLA.out; omega, by simp, rfl, HE2⟩, ?_⟩
          show M - ((k : Int) + 1).toNat < M - (k : Int).toNat
          omega
      · obtain rfl : k = M := by omega
        have hg : g = s := by have := HI.out.got; rwa [if_pos rfl] at this
        subst hg
        go_wp2
        go_ret
        exact ⟨rfl, HI.out.bl⟩
end Go.Proofs.Ytecboengeheapaa
