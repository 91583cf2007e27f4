/- Contract of the statements' sane. -/
import Derived.Test.YtgoakefkiedhmaaIpQ
import Derived.Test.YtgoakefkiedhmaaIpPay
import Derived.Test.YtgoakefkiedhmaaIpFg
namespace Go.Proofs.Ytgoakefkiedhmaa
open Go.RowKit
set_option linter.unusedVariables false
attribute [local go_sem] Oper.semAt_some

abbrev pS (df : Bool) (t : ByteArray) : Pk := ⟨1, 2, 17, 3, 5, df, false, 0, t⟩
theorem pS_ok (df : Bool) (t : ByteArray) (ht : t.size = 100) : okW (pS df t) (pS df t).s.size := by
  refine ⟨⟨by simp, by simp⟩, .inl ⟨by simp, by simp⟩, ⟨by simp, by simp, by simp, by simp, by simp, by simp⟩, ⟨by simp, ?_, by simp⟩, .inl ⟨rfl, rfl⟩⟩
  show (0 : Int) ≤ 4000 - (t.size : Int)
  omega
theorem pS_frag (t : ByteArray) (ht : t.size = 100) : fgL (pS false t) 68 = [⟨1, 2, 17, 3, 5, false, true, 0, t.extract 0 48⟩, ⟨1, 2, 17, 3, 5, false, true, 48, t.extract 48 96⟩, ⟨1, 2, 17, 3, 5, false, false, 96, t.extract 96 100⟩] ∧ fgE (pS false t) 68 = 0 := by
  have hok := pS_ok false t ht
  have hn : fgN 68 = 48 := by decide
  have hN : frN (pS false t) 48 = 2 := by unfold frN; show (t.size - 1) / 48 = 2; rw [ht]
  have hc : ¬ (((pS false t).s.size : Int) ≤ 68 - 20) := by show ¬ ((t.size : Int) ≤ 68 - 20); omega
  constructor
  · unfold fgL
    rw [if_neg (by simpa using hok), if_neg (by decide), if_neg hc, if_neg (by simp), hn]
    unfold frL
    rw [hN]
    show [frP _ 48 0, frP _ 48 1, frR _ 48 2] = _
    unfold frP frR
    simp [ht]
  · unfold fgE
    rw [if_neg (by simpa using hok), if_neg (by decide), if_neg hc, if_neg (by simp)]
theorem pS_67 (t : ByteArray) (ht : t.size = 100) : fgE (pS false t) 67 = 2 := by
  unfold fgE; rw [if_neg (by simpa using pS_ok false t ht), if_pos (by decide)]
theorem pS_119 (t : ByteArray) (ht : t.size = 100) : fgE (pS true t) 119 = 61 := by
  have hc : ¬ (((pS true t).s.size : Int) ≤ 119 - 20) := by show ¬ ((t.size : Int) ≤ 119 - 20); omega
  unfold fgE; rw [if_neg (by simpa using pS_ok true t ht), if_neg (by decide), if_neg hc, if_pos rfl]
theorem pS_120 (t : ByteArray) (ht : t.size = 100) : fgE (pS true t) 120 = 0 ∧ (fgL (pS true t) 120).length = 1 := by
  have hc : (((pS true t).s.size : Int) ≤ 120 - 20) := by show ((t.size : Int) ≤ 120 - 20); omega
  constructor
  · unfold fgE; rw [if_neg (by simpa using pS_ok true t ht), if_neg (by decide), if_pos hc]
  · unfold fgL; rw [if_neg (by simpa using pS_ok true t ht), if_neg (by decide), if_pos hc]; rfl
theorem pS_head (t : ByteArray) (ht : t.size = 100) : (encP (pS false t)).extract 0 14 = ⟨#[4, 0, 0, 0, 1, 0, 0, 0, 2, 17, 3, 0, 5, 0]⟩ := by
  refine ba_ext ?_
  rw [extract_list, List.drop_zero]
  unfold encP
  rw [toList_append, hE_list]
  rfl

set_option maxRecDepth 20000 in
set_option maxHeartbeats 3200000 in
theorem sane_any (w : World) :
    Calls Try.prog 8 #[] w fun e w' => e = .returned (.bool true) ∧ Below w.heap.size w w' := by
  go_enter Try.func8, Try.ntmps8
  go_wp2_with fail
  refine (payload_any _ 100 (by decide) (by decide) _).mono ?_
  rintro e w1 ⟨⟨t, rfl, ht⟩, hb1⟩
  have hml : t.size ≤ maxLen := by rw [ht]; decide
  have HF68 : Hid (∀ w : World, Calls Try.prog 16 #[pv (pS false t), .int .i64 68] w fun e w' => (∃ g cap, e = .returned (.tuple #[.slice (some ⟨g, 0, none⟩) 3 cap, .int .i64 0]) ∧ w'.cell? ⟨g, 6, none⟩ = some (.bool true) ∧ w'.cell? ⟨g, 7, none⟩ = some (.int .i64 0) ∧ w'.cell? ⟨g, 15, none⟩ = some (.bool true) ∧ w'.cell? ⟨g, 16, none⟩ = some (.int .i64 48) ∧ w'.cell? ⟨g, 24, none⟩ = some (.bool false) ∧ w'.cell? ⟨g, 25, none⟩ = some (.int .i64 96) ∧ w'.cell? ⟨g, 26, none⟩ = some (.string (t.extract 96 100))) ∧ Below w.heap.size w w') := by
    intro w
    refine (fragment_any (pS false t) 68 hml (by decide) (by decide) w).mono ?_
    rintro e w' ⟨⟨v, rfl, hrow⟩, hb⟩
    rw [(pS_frag t ht).1] at hrow
    rw [(pS_frag t ht).2]
    obtain ⟨g, cap, rfl, -, -⟩ := hrow.form (by simp)
    refine ⟨⟨g, cap, rfl, ?_, ?_, ?_, ?_, ?_, ?_, ?_⟩, hb⟩
    · rw [hrow.cellAt 6 (by simp)]; rfl
    · rw [hrow.cellAt 7 (by simp)]; rfl
    · rw [hrow.cellAt 15 (by simp)]; rfl
    · rw [hrow.cellAt 16 (by simp)]; rfl
    · rw [hrow.cellAt 24 (by simp)]; rfl
    · rw [hrow.cellAt 25 (by simp)]; rfl
    · rw [hrow.cellAt 26 (by simp)]; rfl
  have HF67 : Hid (∀ w : World, Calls Try.prog 16 #[pv (pS false t), .int .i64 67] w fun e w' => (∃ v, e = .returned (.tuple #[v, .int .i64 2])) ∧ Below w.heap.size w w') := by
    intro w
    refine (fragment_any (pS false t) 67 hml (by decide) (by decide) w).mono ?_
    rintro e w' ⟨⟨v, rfl, hrow⟩, hb⟩
    rw [pS_67 t ht]
    exact ⟨⟨v, rfl⟩, hb⟩
  have HF119 : Hid (∀ w : World, Calls Try.prog 16 #[pv (pS true t), .int .i64 119] w fun e w' => (∃ v, e = .returned (.tuple #[v, .int .i64 61])) ∧ Below w.heap.size w w') := by
    intro w
    refine (fragment_any (pS true t) 119 hml (by decide) (by decide) w).mono ?_
    rintro e w' ⟨⟨v, rfl, hrow⟩, hb⟩
    rw [pS_119 t ht]
    exact ⟨⟨v, rfl⟩, hb⟩
  have HF120 : Hid (∀ w : World, Calls Try.prog 16 #[pv (pS true t), .int .i64 120] w fun e w' => (∃ p c, e = .returned (.tuple #[.slice p 1 c, .int .i64 0])) ∧ Below w.heap.size w w') := by
    intro w
    refine (fragment_any (pS true t) 120 hml (by decide) (by decide) w).mono ?_
    rintro e w' ⟨⟨v, rfl, hrow⟩, hb⟩
    rw [(pS_120 t ht).1]
    rw [(pS_120 t ht).2] at hrow
    obtain ⟨p, c, rfl, -⟩ := row_shape hrow
    exact ⟨⟨p, c, rfl⟩, hb⟩
  have hok := pS_ok false t ht
  have HE : Hid (∀ w : World, Calls Try.prog 11 #[pv (pS false t)] w fun e w' => e = .returned (.tuple #[.string (encP (pS false t)), .int .i64 0]) ∧ Below w.heap.size w w') := fun w => encode_yes (pS false t) hml hok w
  have hzs : (encP (pS false t)).size = 120 := by rw [enc_size]; show 20 + t.size = 120; omega
  have hh := pS_head t ht
  obtain ⟨d1, d2, d3⟩ := dec_enc (pS false t) hok
  have HD : Hid (∀ w : World, Calls Try.prog 19 #[.string (encP (pS false t))] w fun e w' => e = .returned (.tuple #[pv (pS false t), .int .i64 0]) ∧ Below w.heap.size w w') := by
    intro w
    refine (dec_any _ (by rw [hzs]; decide) w).mono ?_
    rintro e w' ⟨rfl, hb⟩
    unfold dV dE
    rw [if_pos d2, if_pos d2, d1]
    exact ⟨rfl, hb⟩
  have HD0 : Hid (∀ w : World, Calls Try.prog 19 #[.string ⟨#[]⟩] w fun e w' => e = .returned (.tuple #[pv pz, .int .i64 60]) ∧ Below w.heap.size w w') := by
    intro w
    refine (dec_any _ (by decide) w).mono ?_
    rintro e w' ⟨rfl, hb⟩
    unfold dV dE
    rw [if_neg (dec_short (by decide)).1, if_neg (dec_short (by decide)).1]
    exact ⟨rfl, hb⟩
  obtain ⟨c1, c2⟩ := enc_cut (pS false t) hok 28 (by decide) (by show 28 ≤ 20 + t.size; omega)
  have HH : Hid (∀ w : World, Calls Try.prog 21 #[.string ((encP (pS false t)).extract 0 28)] w fun e w' => e = .returned (.tuple #[pv (pS false (t.extract 0 8)), .int .i64 0]) ∧ Below w.heap.size w w') := by
    intro w
    refine (dhd_any _ (by rw [ByteArray.size_extract]; exact Nat.le_trans (Nat.sub_le _ _) (by rw [hzs]; decide)) w).mono ?_
    rintro e w' ⟨rfl, hb⟩
    unfold dV dE
    rw [if_pos c2, if_pos c2, c1]
    exact ⟨rfl, hb⟩
  obtain ⟨s, hs⟩ : ∃ s, encP (pS false t) = s := ⟨_, rfl⟩
  rw [hs] at HE HD HH hzs hh
  have hx4 : (t.extract 96 100).size = 4 := by rw [ByteArray.size_extract]; omega
  clear hs c1 c2 d1 d2 d3 hok
  go_wp2_with fail
  refine (HF68.out _).mono ?_
  rintro e w2 ⟨⟨g, cap, rfl, k6, k7, k15, k16, k24, k25, k26⟩, hb2⟩
  have hb0 : Below w.heap.size w (w1.alloc (po (pS false t))) := hb1.alloc hb1.size _
  have hB := hb0.trans (hb2.mono hb0.size)
  have hP := blk_below (blk_new w1 (po (pS false t))) hb2 (by simp)
  have hPl := blk_lt hP
  clear hb2 hb0
  obtain ⟨c0, cf0⟩ := blk_cell (k := 0) hP rfl
  obtain ⟨c1, cf1⟩ := blk_cell (k := 1) hP rfl
  obtain ⟨c2, cf2⟩ := blk_cell (k := 2) hP rfl
  obtain ⟨c3, cf3⟩ := blk_cell (k := 3) hP rfl
  obtain ⟨c4, cf4⟩ := blk_cell (k := 4) hP rfl
  obtain ⟨c5, cf5⟩ := blk_cell (k := 5) hP rfl
  obtain ⟨c6, cf6⟩ := blk_cell (k := 6) hP rfl
  obtain ⟨c7, cf7⟩ := blk_cell (k := 7) hP rfl
  obtain ⟨c8, cf8⟩ := blk_cell (k := 8) hP rfl
  simp only [List.getElem_toArray, List.getElem_cons_zero, List.getElem_cons_succ] at c0 c1 c2 c3 c4 c5 c6 c7 c8
  clear cf0 cf1 cf2 cf3 cf4 cf5 cf6 cf7 cf8
  go_wp2_with fail
  refine (HE.out _).mono ?_
  rintro e w3 ⟨rfl, hb⟩
  replace hB := hB.trans (hb.mono hB.size)
  replace hP := blk_below hP hb (blk_lt hP)
  replace k6 := keep_cell hb k6
  replace k7 := keep_cell hb k7
  replace k15 := keep_cell hb k15
  replace k16 := keep_cell hb k16
  replace k24 := keep_cell hb k24
  replace k25 := keep_cell hb k25
  replace k26 := keep_cell hb k26
  clear hb c0 c1 c2 c3 c4 c5 c6 c7 c8
  go_wp2_with fail
  refine (HD.out _).mono ?_
  rintro e w4 ⟨rfl, hb⟩
  replace hB := hB.trans (hb.mono hB.size)
  replace hP := blk_below hP hb (blk_lt hP)
  replace k6 := keep_cell hb k6
  replace k7 := keep_cell hb k7
  replace k15 := keep_cell hb k15
  replace k16 := keep_cell hb k16
  replace k24 := keep_cell hb k24
  replace k25 := keep_cell hb k25
  replace k26 := keep_cell hb k26
  clear hb 
  have hl4 : w1.heap.size < w4.heap.size := blk_lt hP
  have hQ := blk_new w4 (po (pS false t))
  replace hB := hB.alloc hB.size (po (pS false t))
  replace hP := blk_alloc hP (po (pS false t))
  replace k6 := cell_alloc k6 (po (pS false t))
  replace k7 := cell_alloc k7 (po (pS false t))
  replace k15 := cell_alloc k15 (po (pS false t))
  replace k16 := cell_alloc k16 (po (pS false t))
  replace k24 := cell_alloc k24 (po (pS false t))
  replace k25 := cell_alloc k25 (po (pS false t))
  replace k26 := cell_alloc k26 (po (pS false t))
  obtain ⟨c0, cf0⟩ := blk_cell (k := 0) hP rfl
  obtain ⟨c1, cf1⟩ := blk_cell (k := 1) hP rfl
  obtain ⟨c2, cf2⟩ := blk_cell (k := 2) hP rfl
  obtain ⟨c3, cf3⟩ := blk_cell (k := 3) hP rfl
  obtain ⟨c4, cf4⟩ := blk_cell (k := 4) hP rfl
  obtain ⟨c5, cf5⟩ := blk_cell (k := 5) hP rfl
  obtain ⟨c6, cf6⟩ := blk_cell (k := 6) hP rfl
  obtain ⟨c7, cf7⟩ := blk_cell (k := 7) hP rfl
  obtain ⟨c8, cf8⟩ := blk_cell (k := 8) hP rfl
  simp only [List.getElem_toArray, List.getElem_cons_zero, List.getElem_cons_succ] at c0 c1 c2 c3 c4 c5 c6 c7 c8
  clear cf0 cf1 cf2 cf3 cf4 cf5 cf6 cf7 cf8
  go_wp2_with fail
  refine (HF67.out _).mono ?_
  rintro e w5 ⟨⟨v5, rfl⟩, hb⟩
  replace hB := hB.trans (hb.mono hB.size)
  replace hP := blk_below hP hb (blk_lt hP)
  replace hQ := blk_below hQ hb (blk_lt hQ)
  replace k6 := keep_cell hb k6
  replace k7 := keep_cell hb k7
  replace k15 := keep_cell hb k15
  replace k16 := keep_cell hb k16
  replace k24 := keep_cell hb k24
  replace k25 := keep_cell hb k25
  replace k26 := keep_cell hb k26
  clear hb c0 c1 c2 c3 c4 c5 c6 c7 c8
  have hl5 : w4.heap.size < w5.heap.size := blk_lt hQ
  obtain ⟨c0, cf0⟩ := blk_cell (k := 0) hP rfl
  obtain ⟨c1, cf1⟩ := blk_cell (k := 1) hP rfl
  obtain ⟨c2, cf2⟩ := blk_cell (k := 2) hP rfl
  obtain ⟨c3, cf3⟩ := blk_cell (k := 3) hP rfl
  obtain ⟨c4, cf4⟩ := blk_cell (k := 4) hP rfl
  obtain ⟨c5, cf5⟩ := blk_cell (k := 5) hP rfl
  obtain ⟨c6, cf6⟩ := blk_cell (k := 6) hP rfl
  obtain ⟨c7, cf7⟩ := blk_cell (k := 7) hP rfl
  obtain ⟨c8, cf8⟩ := blk_cell (k := 8) hP rfl
  simp only [List.getElem_toArray, List.getElem_cons_zero, List.getElem_cons_succ] at c0 c1 c2 c3 c4 c5 c6 c7 c8
  clear cf0 cf1 cf2 cf3 cf4 cf5 cf6 cf7 cf8
  have hF := blk_new w5 (po (pS true t))
  replace hB := hB.alloc hB.size (po (pS true t))
  replace hP := blk_alloc hP (po (pS true t))
  replace hQ := blk_alloc hQ (po (pS true t))
  replace k6 := cell_alloc k6 (po (pS true t))
  replace k7 := cell_alloc k7 (po (pS true t))
  replace k15 := cell_alloc k15 (po (pS true t))
  replace k16 := cell_alloc k16 (po (pS true t))
  replace k24 := cell_alloc k24 (po (pS true t))
  replace k25 := cell_alloc k25 (po (pS true t))
  replace k26 := cell_alloc k26 (po (pS true t))
  go_wp2_with fail
  refine (HF119.out _).mono ?_
  rintro e w6 ⟨⟨v6, rfl⟩, hb⟩
  replace hB := hB.trans (hb.mono hB.size)
  replace hP := blk_below hP hb (blk_lt hP)
  replace hQ := blk_below hQ hb (blk_lt hQ)
  replace hF := blk_below hF hb (blk_lt hF)
  replace k6 := keep_cell hb k6
  replace k7 := keep_cell hb k7
  replace k15 := keep_cell hb k15
  replace k16 := keep_cell hb k16
  replace k24 := keep_cell hb k24
  replace k25 := keep_cell hb k25
  replace k26 := keep_cell hb k26
  clear hb c0 c1 c2 c3 c4 c5 c6 c7 c8
  obtain ⟨c0, cf0⟩ := blk_cell (k := 0) hF rfl
  obtain ⟨c1, cf1⟩ := blk_cell (k := 1) hF rfl
  obtain ⟨c2, cf2⟩ := blk_cell (k := 2) hF rfl
  obtain ⟨c3, cf3⟩ := blk_cell (k := 3) hF rfl
  obtain ⟨c4, cf4⟩ := blk_cell (k := 4) hF rfl
  obtain ⟨c5, cf5⟩ := blk_cell (k := 5) hF rfl
  obtain ⟨c6, cf6⟩ := blk_cell (k := 6) hF rfl
  obtain ⟨c7, cf7⟩ := blk_cell (k := 7) hF rfl
  obtain ⟨c8, cf8⟩ := blk_cell (k := 8) hF rfl
  simp only [List.getElem_toArray, List.getElem_cons_zero, List.getElem_cons_succ] at c0 c1 c2 c3 c4 c5 c6 c7 c8
  clear cf0 cf1 cf2 cf3 cf4 cf5 cf6 cf7 cf8
  go_wp2_with fail
  refine (HF120.out _).mono ?_
  rintro e w7 ⟨⟨p7, c7x, rfl⟩, hb⟩
  replace hB := hB.trans (hb.mono hB.size)
  replace hP := blk_below hP hb (blk_lt hP)
  replace hQ := blk_below hQ hb (blk_lt hQ)
  replace hF := blk_below hF hb (blk_lt hF)
  replace k6 := keep_cell hb k6
  replace k7 := keep_cell hb k7
  replace k15 := keep_cell hb k15
  replace k16 := keep_cell hb k16
  replace k24 := keep_cell hb k24
  replace k25 := keep_cell hb k25
  replace k26 := keep_cell hb k26
  clear hb c0 c1 c2 c3 c4 c5 c6 c7 c8
  go_wp2_with fail
  refine (HD0.out _).mono ?_
  rintro e w8 ⟨rfl, hb⟩
  replace hB := hB.trans (hb.mono hB.size)
  replace hP := blk_below hP hb (blk_lt hP)
  replace hQ := blk_below hQ hb (blk_lt hQ)
  replace hF := blk_below hF hb (blk_lt hF)
  replace k6 := keep_cell hb k6
  replace k7 := keep_cell hb k7
  replace k15 := keep_cell hb k15
  replace k16 := keep_cell hb k16
  replace k24 := keep_cell hb k24
  replace k25 := keep_cell hb k25
  replace k26 := keep_cell hb k26
  clear hb 
  have hl8 : w5.heap.size < w8.heap.size := blk_lt hF
  clear hF
  have hY := blk_new w8 (po pz)
  replace hB := hB.alloc hB.size (po pz)
  replace hP := blk_alloc hP (po pz)
  replace hQ := blk_alloc hQ (po pz)
  replace k6 := cell_alloc k6 (po pz)
  replace k7 := cell_alloc k7 (po pz)
  replace k15 := cell_alloc k15 (po pz)
  replace k16 := cell_alloc k16 (po pz)
  replace k24 := cell_alloc k24 (po pz)
  replace k25 := cell_alloc k25 (po pz)
  replace k26 := cell_alloc k26 (po pz)
  clear hY
  go_wp2_with fail
  refine (HH.out _).mono ?_
  rintro e w9 ⟨rfl, hb⟩
  replace hB := hB.trans (hb.mono hB.size)
  replace hP := blk_below hP hb (blk_lt hP)
  replace hQ := blk_below hQ hb (blk_lt hQ)
  replace k6 := keep_cell hb k6
  replace k7 := keep_cell hb k7
  replace k15 := keep_cell hb k15
  replace k16 := keep_cell hb k16
  replace k24 := keep_cell hb k24
  replace k25 := keep_cell hb k25
  replace k26 := keep_cell hb k26
  clear hb 
  have hl9 : w4.heap.size < w9.heap.size := blk_lt hQ
  have hY := blk_new w9 (po (pS false (t.extract 0 8)))
  replace hB := hB.alloc hB.size (po (pS false (t.extract 0 8)))
  replace hP := blk_alloc hP (po (pS false (t.extract 0 8)))
  replace hQ := blk_alloc hQ (po (pS false (t.extract 0 8)))
  replace k6 := cell_alloc k6 (po (pS false (t.extract 0 8)))
  replace k7 := cell_alloc k7 (po (pS false (t.extract 0 8)))
  replace k15 := cell_alloc k15 (po (pS false (t.extract 0 8)))
  replace k16 := cell_alloc k16 (po (pS false (t.extract 0 8)))
  replace k24 := cell_alloc k24 (po (pS false (t.extract 0 8)))
  replace k25 := cell_alloc k25 (po (pS false (t.extract 0 8)))
  replace k26 := cell_alloc k26 (po (pS false (t.extract 0 8)))
  obtain ⟨c0, cf0⟩ := blk_cell (k := 0) hP rfl
  obtain ⟨c1, cf1⟩ := blk_cell (k := 1) hP rfl
  obtain ⟨c2, cf2⟩ := blk_cell (k := 2) hP rfl
  obtain ⟨c3, cf3⟩ := blk_cell (k := 3) hP rfl
  obtain ⟨c4, cf4⟩ := blk_cell (k := 4) hP rfl
  obtain ⟨c5, cf5⟩ := blk_cell (k := 5) hP rfl
  obtain ⟨c6, cf6⟩ := blk_cell (k := 6) hP rfl
  obtain ⟨c7, cf7⟩ := blk_cell (k := 7) hP rfl
  obtain ⟨c8, cf8⟩ := blk_cell (k := 8) hP rfl
  simp only [List.getElem_toArray, List.getElem_cons_zero, List.getElem_cons_succ] at c0 c1 c2 c3 c4 c5 c6 c7 c8
  clear cf0 cf1 cf2 cf3 cf4 cf5 cf6 cf7 cf8
  obtain ⟨q0, qf0⟩ := blk_cell (k := 0) hQ rfl
  obtain ⟨q1, qf1⟩ := blk_cell (k := 1) hQ rfl
  obtain ⟨q2, qf2⟩ := blk_cell (k := 2) hQ rfl
  obtain ⟨q3, qf3⟩ := blk_cell (k := 3) hQ rfl
  obtain ⟨q4, qf4⟩ := blk_cell (k := 4) hQ rfl
  obtain ⟨q5, qf5⟩ := blk_cell (k := 5) hQ rfl
  obtain ⟨q6, qf6⟩ := blk_cell (k := 6) hQ rfl
  obtain ⟨q7, qf7⟩ := blk_cell (k := 7) hQ rfl
  obtain ⟨q8, qf8⟩ := blk_cell (k := 8) hQ rfl
  simp only [List.getElem_toArray, List.getElem_cons_zero, List.getElem_cons_succ] at q0 q1 q2 q3 q4 q5 q6 q7 q8
  clear qf0 qf1 qf2 qf3 qf4 qf5 qf6 qf7 qf8
  obtain ⟨y0, yf0⟩ := blk_cell (k := 0) hY rfl
  obtain ⟨y1, yf1⟩ := blk_cell (k := 1) hY rfl
  obtain ⟨y2, yf2⟩ := blk_cell (k := 2) hY rfl
  obtain ⟨y3, yf3⟩ := blk_cell (k := 3) hY rfl
  obtain ⟨y4, yf4⟩ := blk_cell (k := 4) hY rfl
  obtain ⟨y5, yf5⟩ := blk_cell (k := 5) hY rfl
  obtain ⟨y6, yf6⟩ := blk_cell (k := 6) hY rfl
  obtain ⟨y7, yf7⟩ := blk_cell (k := 7) hY rfl
  obtain ⟨y8, yf8⟩ := blk_cell (k := 8) hY rfl
  simp only [List.getElem_toArray, List.getElem_cons_zero, List.getElem_cons_succ] at y0 y1 y2 y3 y4 y5 y6 y7 y8
  clear yf0 yf1 yf2 yf3 yf4 yf5 yf6 yf7 yf8
  go_wp2
  refine wp_region_noPanic ?_
  refine wp_region_held_drew (S := fun w' => w'.cell? ⟨g, 6, none⟩ = some (.bool true) ∧ w'.cell? ⟨g, 7, none⟩ = some (.int .i64 0) ∧ w'.cell? ⟨g, 15, none⟩ = some (.bool true) ∧ w'.cell? ⟨g, 16, none⟩ = some (.int .i64 48) ∧ w'.cell? ⟨g, 24, none⟩ = some (.bool false) ∧ w'.cell? ⟨g, 25, none⟩ = some (.int .i64 96) ∧ w'.cell? ⟨g, 26, none⟩ = some (.string (t.extract 96 100)) ∧ w'.cell? ⟨w1.heap.size, 0, none⟩ = some (.int .i64 1) ∧ w'.cell? ⟨w1.heap.size, 1, none⟩ = some (.int .i64 2) ∧ w'.cell? ⟨w1.heap.size, 2, none⟩ = some (.int .i64 17) ∧ w'.cell? ⟨w1.heap.size, 3, none⟩ = some (.int .i64 3) ∧ w'.cell? ⟨w1.heap.size, 4, none⟩ = some (.int .i64 5) ∧ w'.cell? ⟨w1.heap.size, 5, none⟩ = some (.bool false) ∧ w'.cell? ⟨w1.heap.size, 6, none⟩ = some (.bool false) ∧ w'.cell? ⟨w1.heap.size, 7, none⟩ = some (.int .i64 0) ∧ w'.cell? ⟨w1.heap.size, 8, none⟩ = some (.string t) ∧ w'.cell? ⟨w4.heap.size, 0, none⟩ = some (.int .i64 1) ∧ w'.cell? ⟨w4.heap.size, 1, none⟩ = some (.int .i64 2) ∧ w'.cell? ⟨w4.heap.size, 2, none⟩ = some (.int .i64 17) ∧ w'.cell? ⟨w4.heap.size, 3, none⟩ = some (.int .i64 3) ∧ w'.cell? ⟨w4.heap.size, 4, none⟩ = some (.int .i64 5) ∧ w'.cell? ⟨w4.heap.size, 5, none⟩ = some (.bool false) ∧ w'.cell? ⟨w4.heap.size, 6, none⟩ = some (.bool false) ∧ w'.cell? ⟨w4.heap.size, 7, none⟩ = some (.int .i64 0) ∧ w'.cell? ⟨w4.heap.size, 8, none⟩ = some (.string t) ∧ w'.cell? ⟨w9.heap.size, 0, none⟩ = some (.int .i64 1) ∧ w'.cell? ⟨w9.heap.size, 1, none⟩ = some (.int .i64 2) ∧ w'.cell? ⟨w9.heap.size, 2, none⟩ = some (.int .i64 17) ∧ w'.cell? ⟨w9.heap.size, 3, none⟩ = some (.int .i64 3) ∧ w'.cell? ⟨w9.heap.size, 4, none⟩ = some (.int .i64 5) ∧ w'.cell? ⟨w9.heap.size, 5, none⟩ = some (.bool false) ∧ w'.cell? ⟨w9.heap.size, 6, none⟩ = some (.bool false) ∧ w'.cell? ⟨w9.heap.size, 7, none⟩ = some (.int .i64 0) ∧ w'.cell? ⟨w9.heap.size, 8, none⟩ = some (.string (t.extract 0 8))) (by kernel_rfl) ⟨k6, k7, k15, k16, k24, k25, k26, c0, c1, c2, c3, c4, c5, c6, c7, c8, q0, q1, q2, q3, q4, q5, q6, q7, q8, y0, y1, y2, y3, y4, y5, y6, y7, y8⟩ (fun hHeld => ?_)
  refine wpAnyH_take (i := 0) (oi := ⟨some 76, _, _, _, _, _⟩) (v := ?va0) rfl (by kernel_rfl) (by kernel_rfl) (by kernel_rfl) (fun _ _ _ h => h) (Or.inl ⟨by rfl, ?hya0⟩) hHeld ?rra0
  case hya0 => (intro w hSw; (try dsimp only at hSw); go_simp; try with_reducible rfl)
  try simp only [Act.put, List.setIfInBounds_toArray, List.set_cons_zero, List.set_cons_succ]
  refine wpAnyH_take (i := 1) (oi := ⟨some 77, _, _, _, _, _⟩) (v := ?va1) rfl (by kernel_rfl) (by kernel_rfl) (by kernel_rfl) (fun _ _ _ h => h) (Or.inl ⟨by rfl, ?hya1⟩) hHeld ?rra1
  case hya1 => (intro w hSw; (try dsimp only at hSw); go_simp; try with_reducible rfl)
  try simp only [Act.put, List.setIfInBounds_toArray, List.set_cons_zero, List.set_cons_succ]
  refine wpAnyH_take (i := 2) (oi := ⟨some 78, _, _, _, _, _⟩) (v := ?va2) rfl (by kernel_rfl) (by kernel_rfl) (by kernel_rfl) (fun _ _ _ h => h) (Or.inl ⟨by rfl, ?hya2⟩) hHeld ?rra2
  case hya2 => (intro w hSw; (try dsimp only at hSw); go_simp; try with_reducible rfl)
  try simp only [Act.put, List.setIfInBounds_toArray, List.set_cons_zero, List.set_cons_succ]
  refine wpAnyH_take (i := 3) (oi := ⟨some 79, _, _, _, _, _⟩) (v := ?va3) rfl (by kernel_rfl) (by kernel_rfl) (by kernel_rfl) (fun _ _ _ h => h) (Or.inl ⟨by rfl, ?hya3⟩) hHeld ?rra3
  case hya3 => (intro w hSw; (try dsimp only at hSw); go_simp; try with_reducible rfl)
  try simp only [Act.put, List.setIfInBounds_toArray, List.set_cons_zero, List.set_cons_succ]
  refine wpAnyH_take (i := 4) (oi := ⟨some 80, _, _, _, _, _⟩) (v := ?va4) rfl (by kernel_rfl) (by kernel_rfl) (by kernel_rfl) (fun _ _ _ h => h) (Or.inl ⟨by rfl, ?hya4⟩) hHeld ?rra4
  case hya4 => (intro w hSw; (try dsimp only at hSw); go_simp; try with_reducible rfl)
  try simp only [Act.put, List.setIfInBounds_toArray, List.set_cons_zero, List.set_cons_succ]
  refine wpAnyH_take (i := 5) (oi := ⟨some 81, _, _, _, _, _⟩) (v := ?va5) rfl (by kernel_rfl) (by kernel_rfl) (by kernel_rfl) (fun _ _ _ h => h) (Or.inl ⟨by rfl, ?hya5⟩) hHeld ?rra5
  case hya5 => (intro w hSw; (try dsimp only at hSw); go_simp; try with_reducible rfl)
  try simp only [Act.put, List.setIfInBounds_toArray, List.set_cons_zero, List.set_cons_succ]
  refine wpAnyH_take (i := 6) (oi := ⟨some 82, _, _, _, _, _⟩) (v := ?va6) rfl (by kernel_rfl) (by kernel_rfl) (by kernel_rfl) (fun _ _ _ h => h) (Or.inl ⟨by rfl, ?hya6⟩) hHeld ?rra6
  case hya6 => (intro w hSw; (try dsimp only at hSw); go_simp; try with_reducible rfl)
  try simp only [Act.put, List.setIfInBounds_toArray, List.set_cons_zero, List.set_cons_succ]
  refine wpAnyH_take (i := 7) (oi := ⟨some 83, _, _, _, _, _⟩) (v := ?va7) rfl (by kernel_rfl) (by kernel_rfl) (by kernel_rfl) (fun _ _ _ h => h) (Or.inl ⟨by rfl, ?hya7⟩) hHeld ?rra7
  case hya7 => (intro w hSw; (try dsimp only at hSw); go_simp; try with_reducible rfl)
  try simp only [Act.put, List.setIfInBounds_toArray, List.set_cons_zero, List.set_cons_succ]
  refine wpAnyH_take (i := 8) (oi := ⟨some 84, _, _, _, _, _⟩) (v := ?va8) rfl (by kernel_rfl) (by kernel_rfl) (by kernel_rfl) (fun _ _ _ h => h) (Or.inl ⟨by rfl, ?hya8⟩) hHeld ?rra8
  case hya8 => (intro w hSw; (try dsimp only at hSw); go_simp; try with_reducible rfl)
  try simp only [Act.put, List.setIfInBounds_toArray, List.set_cons_zero, List.set_cons_succ]
  refine wpAnyH_take (i := 9) (oi := ⟨some 85, _, _, _, _, _⟩) (v := ?va9) rfl (by kernel_rfl) (by kernel_rfl) (by kernel_rfl) (fun _ _ _ h => h) (Or.inl ⟨by rfl, ?hya9⟩) hHeld ?rra9
  case hya9 => (intro w hSw; (try dsimp only at hSw); go_simp; try with_reducible rfl)
  try simp only [Act.put, List.setIfInBounds_toArray, List.set_cons_zero, List.set_cons_succ]
  refine wpAnyH_take (i := 10) (oi := ⟨some 86, _, _, _, _, _⟩) (v := ?va10) rfl (by kernel_rfl) (by kernel_rfl) (by kernel_rfl) (fun _ _ _ h => h) (Or.inl ⟨by rfl, ?hya10⟩) hHeld ?rra10
  case hya10 => (intro w hSw; (try dsimp only at hSw); go_simp; try with_reducible rfl)
  try simp only [Act.put, List.setIfInBounds_toArray, List.set_cons_zero, List.set_cons_succ]
  refine wpAnyH_take (i := 11) (oi := ⟨some 87, _, _, _, _, _⟩) (v := ?va11) rfl (by kernel_rfl) (by kernel_rfl) (by kernel_rfl) (fun _ _ _ h => h) (Or.inl ⟨by rfl, ?hya11⟩) hHeld ?rra11
  case hya11 => (intro w hSw; (try dsimp only at hSw); go_simp; try with_reducible rfl)
  try simp only [Act.put, List.setIfInBounds_toArray, List.set_cons_zero, List.set_cons_succ]
  refine wpAnyH_take (i := 12) (oi := ⟨some 88, _, _, _, _, _⟩) (v := ?va12) rfl (by kernel_rfl) (by kernel_rfl) (by kernel_rfl) (fun _ _ _ h => h) (Or.inl ⟨by rfl, ?hya12⟩) hHeld ?rra12
  case hya12 => (intro w hSw; (try dsimp only at hSw); go_simp; try with_reducible rfl)
  try simp only [Act.put, List.setIfInBounds_toArray, List.set_cons_zero, List.set_cons_succ]
  refine wpAnyH_take (i := 13) (oi := ⟨some 89, _, _, _, _, _⟩) (v := ?va13) rfl (by kernel_rfl) (by kernel_rfl) (by kernel_rfl) (fun _ _ _ h => h) (Or.inl ⟨by rfl, ?hya13⟩) hHeld ?rra13
  case hya13 => (intro w hSw; (try dsimp only at hSw); go_simp; try with_reducible rfl)
  try simp only [Act.put, List.setIfInBounds_toArray, List.set_cons_zero, List.set_cons_succ]
  refine wpAnyH_take (i := 14) (oi := ⟨some 90, _, _, _, _, _⟩) (v := ?va14) rfl (by kernel_rfl) (by kernel_rfl) (by kernel_rfl) (fun _ _ _ h => h) (Or.inl ⟨by rfl, ?hya14⟩) hHeld ?rra14
  case hya14 => (intro w hSw; (try dsimp only at hSw); go_simp; try with_reducible rfl)
  try simp only [Act.put, List.setIfInBounds_toArray, List.set_cons_zero, List.set_cons_succ]
  refine wpAnyH_take (i := 15) (oi := ⟨some 91, _, _, _, _, _⟩) (v := ?va15) rfl (by kernel_rfl) (by kernel_rfl) (by kernel_rfl) (fun _ _ _ h => h) (Or.inl ⟨by rfl, ?hya15⟩) hHeld ?rra15
  case hya15 => (intro w hSw; (try dsimp only at hSw); go_simp; try with_reducible rfl)
  try simp only [Act.put, List.setIfInBounds_toArray, List.set_cons_zero, List.set_cons_succ]
  refine wpAnyH_take (i := 16) (oi := ⟨some 92, _, _, _, _, _⟩) (v := ?va16) rfl (by kernel_rfl) (by kernel_rfl) (by kernel_rfl) (fun _ _ _ h => h) (Or.inl ⟨by rfl, ?hya16⟩) hHeld ?rra16
  case hya16 => (intro w hSw; (try dsimp only at hSw); go_simp; try with_reducible rfl)
  try simp only [Act.put, List.setIfInBounds_toArray, List.set_cons_zero, List.set_cons_succ]
  as_aux_lemma =>
    refine wpAnyH_take (i := 17) (oi := ⟨some 93, _, _, _, _, _⟩) (v := ?va17) rfl (by kernel_rfl) (by kernel_rfl) (by kernel_rfl) (fun _ _ _ h => h) (Or.inl ⟨by rfl, ?hya17⟩) hHeld ?rra17
    case hya17 => (intro w hSw; (try dsimp only at hSw); go_simp; try with_reducible rfl)
    try simp only [Act.put, List.setIfInBounds_toArray, List.set_cons_zero, List.set_cons_succ]
    refine wpAnyH_take (i := 18) (oi := ⟨some 94, _, _, _, _, _⟩) (v := ?va18) rfl (by kernel_rfl) (by kernel_rfl) (by kernel_rfl) (fun _ _ _ h => h) (Or.inl ⟨by rfl, ?hya18⟩) hHeld ?rra18
    case hya18 => (intro w hSw; (try dsimp only at hSw); go_simp; try with_reducible rfl)
    try simp only [Act.put, List.setIfInBounds_toArray, List.set_cons_zero, List.set_cons_succ]
    refine wpAnyH_take (i := 19) (oi := ⟨some 95, _, _, _, _, _⟩) (v := ?va19) rfl (by kernel_rfl) (by kernel_rfl) (by kernel_rfl) (fun _ _ _ h => h) (Or.inl ⟨by rfl, ?hya19⟩) hHeld ?rra19
    case hya19 => (intro w hSw; (try dsimp only at hSw); go_simp; try with_reducible rfl)
    try simp only [Act.put, List.setIfInBounds_toArray, List.set_cons_zero, List.set_cons_succ]
    refine wpAnyH_take (i := 20) (oi := ⟨some 96, _, _, _, _, _⟩) (v := ?va20) rfl (by kernel_rfl) (by kernel_rfl) (by kernel_rfl) (fun _ _ _ h => h) (Or.inl ⟨by rfl, ?hya20⟩) hHeld ?rra20
    case hya20 => (intro w hSw; (try dsimp only at hSw); go_simp; try with_reducible rfl)
    try simp only [Act.put, List.setIfInBounds_toArray, List.set_cons_zero, List.set_cons_succ]
    refine wpAnyH_take (i := 21) (oi := ⟨some 97, _, _, _, _, _⟩) (v := ?va21) rfl (by kernel_rfl) (by kernel_rfl) (by kernel_rfl) (fun _ _ _ h => h) (Or.inl ⟨by rfl, ?hya21⟩) hHeld ?rra21
    case hya21 => (intro w hSw; (try dsimp only at hSw); go_simp; try with_reducible rfl)
    try simp only [Act.put, List.setIfInBounds_toArray, List.set_cons_zero, List.set_cons_succ]
    refine wpAnyH_take (i := 22) (oi := ⟨some 98, _, _, _, _, _⟩) (v := ?va22) rfl (by kernel_rfl) (by kernel_rfl) (by kernel_rfl) (fun _ _ _ h => h) (Or.inl ⟨by rfl, ?hya22⟩) hHeld ?rra22
    case hya22 => (intro w hSw; (try dsimp only at hSw); go_simp; try with_reducible rfl)
    try simp only [Act.put, List.setIfInBounds_toArray, List.set_cons_zero, List.set_cons_succ]
    refine wpAnyH_take (i := 23) (oi := ⟨some 99, _, _, _, _, _⟩) (v := ?va23) rfl (by kernel_rfl) (by kernel_rfl) (by kernel_rfl) (fun _ _ _ h => h) (Or.inl ⟨by rfl, ?hya23⟩) hHeld ?rra23
    case hya23 => (intro w hSw; (try dsimp only at hSw); go_simp; try with_reducible rfl)
    try simp only [Act.put, List.setIfInBounds_toArray, List.set_cons_zero, List.set_cons_succ]
    refine wpAnyH_take (i := 24) (oi := ⟨some 100, _, _, _, _, _⟩) (v := ?va24) rfl (by kernel_rfl) (by kernel_rfl) (by kernel_rfl) (fun _ _ _ h => h) (Or.inl ⟨by rfl, ?hya24⟩) hHeld ?rra24
    case hya24 => (intro w hSw; (try dsimp only at hSw); go_simp; try with_reducible rfl)
    try simp only [Act.put, List.setIfInBounds_toArray, List.set_cons_zero, List.set_cons_succ]
    refine wpAnyH_take (i := 25) (oi := ⟨some 101, _, _, _, _, _⟩) (v := ?va25) rfl (by kernel_rfl) (by kernel_rfl) (by kernel_rfl) (fun _ _ _ h => h) (Or.inl ⟨by rfl, ?hya25⟩) hHeld ?rra25
    case hya25 => (intro w hSw; (try dsimp only at hSw); go_simp; try with_reducible rfl)
    try simp only [Act.put, List.setIfInBounds_toArray, List.set_cons_zero, List.set_cons_succ]
    refine wpAnyH_take (i := 26) (oi := ⟨some 102, _, _, _, _, _⟩) (v := ?va26) rfl (by kernel_rfl) (by kernel_rfl) (by kernel_rfl) (fun _ _ _ h => h) (Or.inl ⟨by rfl, ?hya26⟩) hHeld ?rra26
    case hya26 => (intro w hSw; (try dsimp only at hSw); go_simp; try with_reducible rfl)
    try simp only [Act.put, List.setIfInBounds_toArray, List.set_cons_zero, List.set_cons_succ]
    refine wpAnyH_take (i := 27) (oi := ⟨some 103, _, _, _, _, _⟩) (v := ?va27) rfl (by kernel_rfl) (by kernel_rfl) (by kernel_rfl) (fun _ _ _ h => h) (Or.inl ⟨by rfl, ?hya27⟩) hHeld ?rra27
    case hya27 => (intro w hSw; (try dsimp only at hSw); go_simp; try with_reducible rfl)
    try simp only [Act.put, List.setIfInBounds_toArray, List.set_cons_zero, List.set_cons_succ]
    refine wpAnyH_take (i := 28) (oi := ⟨some 104, _, _, _, _, _⟩) (v := ?va28) rfl (by kernel_rfl) (by kernel_rfl) (by kernel_rfl) (fun _ _ _ h => h) (Or.inl ⟨by rfl, ?hya28⟩) hHeld ?rra28
    case hya28 => (intro w hSw; (try dsimp only at hSw); go_simp; try with_reducible rfl)
    try simp only [Act.put, List.setIfInBounds_toArray, List.set_cons_zero, List.set_cons_succ]
    refine wpAnyH_take (i := 29) (oi := ⟨some 105, _, _, _, _, _⟩) (v := ?va29) rfl (by kernel_rfl) (by kernel_rfl) (by kernel_rfl) (fun _ _ _ h => h) (Or.inl ⟨by rfl, ?hya29⟩) hHeld ?rra29
    case hya29 => (intro w hSw; (try dsimp only at hSw); go_simp; try with_reducible rfl)
    try simp only [Act.put, List.setIfInBounds_toArray, List.set_cons_zero, List.set_cons_succ]
    refine wpAnyH_take (i := 30) (oi := ⟨some 106, _, _, _, _, _⟩) (v := ?va30) rfl (by kernel_rfl) (by kernel_rfl) (by kernel_rfl) (fun _ _ _ h => h) (Or.inl ⟨by rfl, ?hya30⟩) hHeld ?rra30
    case hya30 => (intro w hSw; (try dsimp only at hSw); go_simp; try with_reducible rfl)
    try simp only [Act.put, List.setIfInBounds_toArray, List.set_cons_zero, List.set_cons_succ]
    refine wpAnyH_take (i := 31) (oi := ⟨some 107, _, _, _, _, _⟩) (v := ?va31) rfl (by kernel_rfl) (by kernel_rfl) (by kernel_rfl) (fun _ _ _ h => h) (Or.inl ⟨by rfl, ?hya31⟩) hHeld ?rra31
    case hya31 => (intro w hSw; (try dsimp only at hSw); go_simp; try with_reducible rfl)
    try simp only [Act.put, List.setIfInBounds_toArray, List.set_cons_zero, List.set_cons_succ]
    refine wpAnyH_take (i := 32) (oi := ⟨some 108, _, _, _, _, _⟩) (v := ?va32) rfl (by kernel_rfl) (by kernel_rfl) (by kernel_rfl) (fun _ _ _ h => h) (Or.inl ⟨by rfl, ?hya32⟩) hHeld ?rra32
    case hya32 => (intro w hSw; (try dsimp only at hSw); go_simp; try with_reducible rfl)
    try simp only [Act.put, List.setIfInBounds_toArray, List.set_cons_zero, List.set_cons_succ]
    refine wpAnyH_take (i := 33) (oi := ⟨some 109, _, _, _, _, _⟩) (v := ?va33) rfl (by kernel_rfl) (by kernel_rfl) (by kernel_rfl) (fun _ _ _ h => h) (Or.inl ⟨by rfl, ?hya33⟩) hHeld ?rra33
    case hya33 => (intro w hSw; (try dsimp only at hSw); go_simp; try with_reducible rfl)
    try simp only [Act.put, List.setIfInBounds_toArray, List.set_cons_zero, List.set_cons_succ]
    as_aux_lemma =>
      refine wpAnyH_take (i := 34) (oi := ⟨some 110, _, _, _, _, _⟩) (v := ?va34) rfl (by kernel_rfl) (by kernel_rfl) (by kernel_rfl) (fun _ _ _ h => h) (Or.inl ⟨by rfl, ?hya34⟩) hHeld ?rra34
      case hya34 => (intro w hSw; (try dsimp only at hSw); go_simp; try with_reducible rfl)
      try simp only [Act.put, List.setIfInBounds_toArray, List.set_cons_zero, List.set_cons_succ]
      refine wpAnyH_take (i := 35) (oi := ⟨some 111, _, _, _, _, _⟩) (v := ?va35) rfl (by kernel_rfl) (by kernel_rfl) (by kernel_rfl) (fun _ _ _ h => h) (Or.inl ⟨by rfl, ?hya35⟩) hHeld ?rra35
      case hya35 => (intro w hSw; (try dsimp only at hSw); go_simp; try with_reducible rfl)
      try simp only [Act.put, List.setIfInBounds_toArray, List.set_cons_zero, List.set_cons_succ]
      refine wpAnyH_take (i := 36) (oi := ⟨some 112, _, _, _, _, _⟩) (v := ?va36) rfl (by kernel_rfl) (by kernel_rfl) (by kernel_rfl) (fun _ _ _ h => h) (Or.inl ⟨by rfl, ?hya36⟩) hHeld ?rra36
      case hya36 => (intro w hSw; (try dsimp only at hSw); go_simp; try with_reducible rfl)
      try simp only [Act.put, List.setIfInBounds_toArray, List.set_cons_zero, List.set_cons_succ]
      refine wpAnyH_take (i := 37) (oi := ⟨some 113, _, _, _, _, _⟩) (v := ?va37) rfl (by kernel_rfl) (by kernel_rfl) (by kernel_rfl) (fun _ _ _ h => h) (Or.inl ⟨by rfl, ?hya37⟩) hHeld ?rra37
      case hya37 => (intro w hSw; (try dsimp only at hSw); go_simp; try with_reducible rfl)
      try simp only [Act.put, List.setIfInBounds_toArray, List.set_cons_zero, List.set_cons_succ]
      refine wpAnyH_take (i := 38) (oi := ⟨some 114, _, _, _, _, _⟩) (v := ?va38) rfl (by kernel_rfl) (by kernel_rfl) (by kernel_rfl) (fun _ _ _ h => h) (Or.inl ⟨by rfl, ?hya38⟩) hHeld ?rra38
      case hya38 => (intro w hSw; (try dsimp only at hSw); go_simp; try with_reducible rfl)
      try simp only [Act.put, List.setIfInBounds_toArray, List.set_cons_zero, List.set_cons_succ]
      refine wpAnyH_take (i := 39) (oi := ⟨some 115, _, _, _, _, _⟩) (v := ?va39) rfl (by kernel_rfl) (by kernel_rfl) (by kernel_rfl) (fun _ _ _ h => h) (Or.inl ⟨by rfl, ?hya39⟩) hHeld ?rra39
      case hya39 => (intro w hSw; (try dsimp only at hSw); go_simp; try with_reducible rfl)
      try simp only [Act.put, List.setIfInBounds_toArray, List.set_cons_zero, List.set_cons_succ]
      refine wpAnyH_take (i := 40) (oi := ⟨some 116, _, _, _, _, _⟩) (v := ?va40) rfl (by kernel_rfl) (by kernel_rfl) (by kernel_rfl) (fun _ _ _ h => h) (Or.inl ⟨by rfl, ?hya40⟩) hHeld ?rra40
      case hya40 => (intro w hSw; (try dsimp only at hSw); go_simp; try with_reducible rfl)
      try simp only [Act.put, List.setIfInBounds_toArray, List.set_cons_zero, List.set_cons_succ]
      refine wpAnyH_take (i := 41) (oi := ⟨some 117, _, _, _, _, _⟩) (v := ?va41) rfl (by kernel_rfl) (by kernel_rfl) (by kernel_rfl) (fun _ _ _ h => h) (Or.inl ⟨by rfl, ?hya41⟩) hHeld ?rra41
      case hya41 => (intro w hSw; (try dsimp only at hSw); go_simp; try with_reducible rfl)
      try simp only [Act.put, List.setIfInBounds_toArray, List.set_cons_zero, List.set_cons_succ]
      refine wpAnyH_take (i := 42) (oi := ⟨some 118, _, _, _, _, _⟩) (v := ?va42) rfl (by kernel_rfl) (by kernel_rfl) (by kernel_rfl) (fun _ _ _ h => h) (Or.inl ⟨by rfl, ?hya42⟩) hHeld ?rra42
      case hya42 => (intro w hSw; (try dsimp only at hSw); go_simp; try with_reducible rfl)
      try simp only [Act.put, List.setIfInBounds_toArray, List.set_cons_zero, List.set_cons_succ]
      refine wpAnyH_take (i := 43) (oi := ⟨some 119, _, _, _, _, _⟩) (v := ?va43) rfl (by kernel_rfl) (by kernel_rfl) (by kernel_rfl) (fun _ _ _ h => h) (Or.inl ⟨by rfl, ?hya43⟩) hHeld ?rra43
      case hya43 => (intro w hSw; (try dsimp only at hSw); go_simp; try with_reducible rfl)
      try simp only [Act.put, List.setIfInBounds_toArray, List.set_cons_zero, List.set_cons_succ]
      refine wpAnyH_take (i := 44) (oi := ⟨some 120, _, _, _, _, _⟩) (v := ?va44) rfl (by kernel_rfl) (by kernel_rfl) (by kernel_rfl) (fun _ _ _ h => h) (Or.inl ⟨by rfl, ?hya44⟩) hHeld ?rra44
      case hya44 => (intro w hSw; (try dsimp only at hSw); go_simp; try with_reducible rfl)
      try simp only [Act.put, List.setIfInBounds_toArray, List.set_cons_zero, List.set_cons_succ]
      refine wpAnyH_take (i := 45) (oi := ⟨some 121, _, _, _, _, _⟩) (v := ?va45) rfl (by kernel_rfl) (by kernel_rfl) (by kernel_rfl) (fun _ _ _ h => h) (Or.inl ⟨by rfl, ?hya45⟩) hHeld ?rra45
      case hya45 => (intro w hSw; (try dsimp only at hSw); go_simp; try with_reducible rfl)
      try simp only [Act.put, List.setIfInBounds_toArray, List.set_cons_zero, List.set_cons_succ]
      refine wpAnyH_take (i := 46) (oi := ⟨some 122, _, _, _, _, _⟩) (v := ?va46) rfl (by kernel_rfl) (by kernel_rfl) (by kernel_rfl) (fun _ _ _ h => h) (Or.inl ⟨by rfl, ?hya46⟩) hHeld ?rra46
      case hya46 => (intro w hSw; (try dsimp only at hSw); go_simp; try with_reducible rfl)
      try simp only [Act.put, List.setIfInBounds_toArray, List.set_cons_zero, List.set_cons_succ]
      refine wpAnyH_take (i := 47) (oi := ⟨some 123, _, _, _, _, _⟩) (v := ?va47) rfl (by kernel_rfl) (by kernel_rfl) (by kernel_rfl) (fun _ _ _ h => h) (Or.inl ⟨by rfl, ?hya47⟩) hHeld ?rra47
      case hya47 => (intro w hSw; (try dsimp only at hSw); go_simp; try with_reducible rfl)
      try simp only [Act.put, List.setIfInBounds_toArray, List.set_cons_zero, List.set_cons_succ]
      refine wpAnyH_take (i := 48) (oi := ⟨some 124, _, _, _, _, _⟩) (v := ?va48) rfl (by kernel_rfl) (by kernel_rfl) (by kernel_rfl) (fun _ _ _ h => h) (Or.inl ⟨by rfl, ?hya48⟩) hHeld ?rra48
      case hya48 => (intro w hSw; (try dsimp only at hSw); go_simp; try with_reducible rfl)
      try simp only [Act.put, List.setIfInBounds_toArray, List.set_cons_zero, List.set_cons_succ]
      refine wpAnyH_take (i := 49) (oi := ⟨some 125, _, _, _, _, _⟩) (v := ?va49) rfl (by kernel_rfl) (by kernel_rfl) (by kernel_rfl) (fun _ _ _ h => h) (Or.inl ⟨by rfl, ?hya49⟩) hHeld ?rra49
      case hya49 => (intro w hSw; (try dsimp only at hSw); go_simp; try with_reducible rfl)
      try simp only [Act.put, List.setIfInBounds_toArray, List.set_cons_zero, List.set_cons_succ]
      refine wpAnyH_take (i := 50) (oi := ⟨some 126, _, _, _, _, _⟩) (v := ?va50) rfl (by kernel_rfl) (by kernel_rfl) (by kernel_rfl) (fun _ _ _ h => h) (Or.inl ⟨by rfl, ?hya50⟩) hHeld ?rra50
      case hya50 => (intro w hSw; (try dsimp only at hSw); go_simp; try with_reducible rfl)
      try simp only [Act.put, List.setIfInBounds_toArray, List.set_cons_zero, List.set_cons_succ]
      as_aux_lemma =>
        refine wpAnyH_take (i := 51) (oi := ⟨some 127, _, _, _, _, _⟩) (v := ?va51) rfl (by kernel_rfl) (by kernel_rfl) (by kernel_rfl) (fun _ _ _ h => h) (Or.inl ⟨by rfl, ?hya51⟩) hHeld ?rra51
        case hya51 => (intro w hSw; (try dsimp only at hSw); go_simp; try with_reducible rfl)
        try simp only [Act.put, List.setIfInBounds_toArray, List.set_cons_zero, List.set_cons_succ]
        refine wpAnyH_take (i := 52) (oi := ⟨some 128, _, _, _, _, _⟩) (v := ?va52) rfl (by kernel_rfl) (by kernel_rfl) (by kernel_rfl) (fun _ _ _ h => h) (Or.inl ⟨by rfl, ?hya52⟩) hHeld ?rra52
        case hya52 => (intro w hSw; (try dsimp only at hSw); go_simp; try with_reducible rfl)
        try simp only [Act.put, List.setIfInBounds_toArray, List.set_cons_zero, List.set_cons_succ]
        refine wpAnyH_take (i := 53) (oi := ⟨some 129, _, _, _, _, _⟩) (v := ?va53) rfl (by kernel_rfl) (by kernel_rfl) (by kernel_rfl) (fun _ _ _ h => h) (Or.inl ⟨by rfl, ?hya53⟩) hHeld ?rra53
        case hya53 => (intro w hSw; (try dsimp only at hSw); go_simp; try with_reducible rfl)
        try simp only [Act.put, List.setIfInBounds_toArray, List.set_cons_zero, List.set_cons_succ]
        refine wpAnyH_take (i := 54) (oi := ⟨some 130, _, _, _, _, _⟩) (v := ?va54) rfl (by kernel_rfl) (by kernel_rfl) (by kernel_rfl) (fun _ _ _ h => h) (Or.inl ⟨by rfl, ?hya54⟩) hHeld ?rra54
        case hya54 => (intro w hSw; (try dsimp only at hSw); go_simp; try with_reducible rfl)
        try simp only [Act.put, List.setIfInBounds_toArray, List.set_cons_zero, List.set_cons_succ]
        refine wpAnyH_take (i := 55) (oi := ⟨some 131, _, _, _, _, _⟩) (v := ?va55) rfl (by kernel_rfl) (by kernel_rfl) (by kernel_rfl) (fun _ _ _ h => h) (Or.inl ⟨by rfl, ?hya55⟩) hHeld ?rra55
        case hya55 => (intro w hSw; (try dsimp only at hSw); go_simp; try with_reducible rfl)
        try simp only [Act.put, List.setIfInBounds_toArray, List.set_cons_zero, List.set_cons_succ]
        refine wpAnyH_take (i := 56) (oi := ⟨some 132, _, _, _, _, _⟩) (v := ?va56) rfl (by kernel_rfl) (by kernel_rfl) (by kernel_rfl) (fun _ _ _ h => h) (Or.inl ⟨by rfl, ?hya56⟩) hHeld ?rra56
        case hya56 => (intro w hSw; (try dsimp only at hSw); go_simp; try with_reducible rfl)
        try simp only [Act.put, List.setIfInBounds_toArray, List.set_cons_zero, List.set_cons_succ]
        refine wpAnyH_take (i := 57) (oi := ⟨some 133, _, _, _, _, _⟩) (v := ?va57) rfl (by kernel_rfl) (by kernel_rfl) (by kernel_rfl) (fun _ _ _ h => h) (Or.inl ⟨by rfl, ?hya57⟩) hHeld ?rra57
        case hya57 => (intro w hSw; (try dsimp only at hSw); go_simp; try with_reducible rfl)
        try simp only [Act.put, List.setIfInBounds_toArray, List.set_cons_zero, List.set_cons_succ]
        refine wpAnyH_take (i := 58) (oi := ⟨some 134, _, _, _, _, _⟩) (v := ?va58) rfl (by kernel_rfl) (by kernel_rfl) (by kernel_rfl) (fun _ _ _ h => h) (Or.inl ⟨by rfl, ?hya58⟩) hHeld ?rra58
        case hya58 => (intro w hSw; (try dsimp only at hSw); go_simp; try with_reducible rfl)
        try simp only [Act.put, List.setIfInBounds_toArray, List.set_cons_zero, List.set_cons_succ]
        refine wpAnyH_take (i := 59) (oi := ⟨some 135, _, _, _, _, _⟩) (v := ?va59) rfl (by kernel_rfl) (by kernel_rfl) (by kernel_rfl) (fun _ _ _ h => h) (Or.inl ⟨by rfl, ?hya59⟩) hHeld ?rra59
        case hya59 => (intro w hSw; (try dsimp only at hSw); go_simp; try with_reducible rfl)
        try simp only [Act.put, List.setIfInBounds_toArray, List.set_cons_zero, List.set_cons_succ]
        refine wpAnyH_take (i := 60) (oi := ⟨some 136, _, _, _, _, _⟩) (v := ?va60) rfl (by kernel_rfl) (by kernel_rfl) (by kernel_rfl) (fun _ _ _ h => h) (Or.inl ⟨by rfl, ?hya60⟩) hHeld ?rra60
        case hya60 => (intro w hSw; (try dsimp only at hSw); go_simp; try with_reducible rfl)
        try simp only [Act.put, List.setIfInBounds_toArray, List.set_cons_zero, List.set_cons_succ]
        refine wpAnyH_take (i := 61) (oi := ⟨some 137, _, _, _, _, _⟩) (v := ?va61) rfl (by kernel_rfl) (by kernel_rfl) (by kernel_rfl) (fun _ _ _ h => h) (Or.inl ⟨by rfl, ?hya61⟩) hHeld ?rra61
        case hya61 => (intro w hSw; (try dsimp only at hSw); go_simp; try with_reducible rfl)
        try simp only [Act.put, List.setIfInBounds_toArray, List.set_cons_zero, List.set_cons_succ]
        refine wpAnyH_take (i := 62) (oi := ⟨some 138, _, _, _, _, _⟩) (v := ?va62) rfl (by kernel_rfl) (by kernel_rfl) (by kernel_rfl) (fun _ _ _ h => h) (Or.inl ⟨by rfl, ?hya62⟩) hHeld ?rra62
        case hya62 => (intro w hSw; (try dsimp only at hSw); go_simp; try with_reducible rfl)
        try simp only [Act.put, List.setIfInBounds_toArray, List.set_cons_zero, List.set_cons_succ]
        refine wpAnyH_take (i := 63) (oi := ⟨some 139, _, _, _, _, _⟩) (v := ?va63) rfl (by kernel_rfl) (by kernel_rfl) (by kernel_rfl) (fun _ _ _ h => h) (Or.inl ⟨by rfl, ?hya63⟩) hHeld ?rra63
        case hya63 => (intro w hSw; (try dsimp only at hSw); go_simp; try with_reducible rfl)
        try simp only [Act.put, List.setIfInBounds_toArray, List.set_cons_zero, List.set_cons_succ]
        refine wpAnyH_take (i := 64) (oi := ⟨some 140, _, _, _, _, _⟩) (v := ?va64) rfl (by kernel_rfl) (by kernel_rfl) (by kernel_rfl) (fun _ _ _ h => h) (Or.inl ⟨by rfl, ?hya64⟩) hHeld ?rra64
        case hya64 => (intro w hSw; (try dsimp only at hSw); go_simp; try with_reducible rfl)
        try simp only [Act.put, List.setIfInBounds_toArray, List.set_cons_zero, List.set_cons_succ]
        refine wpAnyH_take (i := 65) (oi := ⟨some 141, _, _, _, _, _⟩) (v := ?va65) rfl (by kernel_rfl) (by kernel_rfl) (by kernel_rfl) (fun _ _ _ h => h) (Or.inl ⟨by rfl, ?hya65⟩) hHeld ?rra65
        case hya65 => (intro w hSw; (try dsimp only at hSw); go_simp; try with_reducible rfl)
        try simp only [Act.put, List.setIfInBounds_toArray, List.set_cons_zero, List.set_cons_succ]
        refine wpAnyH_take (i := 66) (oi := ⟨some 142, _, _, _, _, _⟩) (v := ?va66) rfl (by kernel_rfl) (by kernel_rfl) (by kernel_rfl) (fun _ _ _ h => h) (Or.inl ⟨by rfl, ?hya66⟩) hHeld ?rra66
        case hya66 => (intro w hSw; (try dsimp only at hSw); go_simp; try with_reducible rfl)
        try simp only [Act.put, List.setIfInBounds_toArray, List.set_cons_zero, List.set_cons_succ]
        refine wpAnyH_take (i := 67) (oi := ⟨some 143, _, _, _, _, _⟩) (v := ?va67) rfl (by kernel_rfl) (by kernel_rfl) (by kernel_rfl) (fun _ _ _ h => h) (Or.inl ⟨by rfl, ?hya67⟩) hHeld ?rra67
        case hya67 => (intro w hSw; (try dsimp only at hSw); go_simp; try with_reducible rfl)
        try simp only [Act.put, List.setIfInBounds_toArray, List.set_cons_zero, List.set_cons_succ]
        as_aux_lemma =>
          refine wpAnyH_take (i := 68) (oi := ⟨some 144, _, _, _, _, _⟩) (v := ?va68) rfl (by kernel_rfl) (by kernel_rfl) (by kernel_rfl) (fun _ _ _ h => h) (Or.inl ⟨by rfl, ?hya68⟩) hHeld ?rra68
          case hya68 => (intro w hSw; (try dsimp only at hSw); go_simp; try with_reducible rfl)
          try simp only [Act.put, List.setIfInBounds_toArray, List.set_cons_zero, List.set_cons_succ]
          refine wpAnyH_take (i := 69) (oi := ⟨some 145, _, _, _, _, _⟩) (v := ?va69) rfl (by kernel_rfl) (by kernel_rfl) (by kernel_rfl) (fun _ _ _ h => h) (Or.inl ⟨by rfl, ?hya69⟩) hHeld ?rra69
          case hya69 => (intro w hSw; (try dsimp only at hSw); go_simp; try with_reducible rfl)
          try simp only [Act.put, List.setIfInBounds_toArray, List.set_cons_zero, List.set_cons_succ]
          refine wpAnyH_take (i := 70) (oi := ⟨some 146, _, _, _, _, _⟩) (v := ?va70) rfl (by kernel_rfl) (by kernel_rfl) (by kernel_rfl) (fun _ _ _ h => h) (Or.inl ⟨by rfl, ?hya70⟩) hHeld ?rra70
          case hya70 => (intro w hSw; (try dsimp only at hSw); go_simp; try with_reducible rfl)
          try simp only [Act.put, List.setIfInBounds_toArray, List.set_cons_zero, List.set_cons_succ]
          refine wpAnyH_take (i := 71) (oi := ⟨some 147, _, _, _, _, _⟩) (v := ?va71) rfl (by kernel_rfl) (by kernel_rfl) (by kernel_rfl) (fun _ _ _ h => h) (Or.inl ⟨by rfl, ?hya71⟩) hHeld ?rra71
          case hya71 => (intro w hSw; (try dsimp only at hSw); go_simp; try with_reducible rfl)
          try simp only [Act.put, List.setIfInBounds_toArray, List.set_cons_zero, List.set_cons_succ]
          refine wpAnyH_take (i := 72) (oi := ⟨some 148, _, _, _, _, _⟩) (v := ?va72) rfl (by kernel_rfl) (by kernel_rfl) (by kernel_rfl) (fun _ _ _ h => h) (Or.inl ⟨by rfl, ?hya72⟩) hHeld ?rra72
          case hya72 => (intro w hSw; (try dsimp only at hSw); go_simp; try with_reducible rfl)
          try simp only [Act.put, List.setIfInBounds_toArray, List.set_cons_zero, List.set_cons_succ]
          refine wpAnyH_take (i := 73) (oi := ⟨some 149, _, _, _, _, _⟩) (v := ?va73) rfl (by kernel_rfl) (by kernel_rfl) (by kernel_rfl) (fun _ _ _ h => h) (Or.inl ⟨by rfl, ?hya73⟩) hHeld ?rra73
          case hya73 => (intro w hSw; (try dsimp only at hSw); go_simp; try with_reducible rfl)
          try simp only [Act.put, List.setIfInBounds_toArray, List.set_cons_zero, List.set_cons_succ]
          refine wpAnyH_take (i := 74) (oi := ⟨some 150, _, _, _, _, _⟩) (v := ?va74) rfl (by kernel_rfl) (by kernel_rfl) (by kernel_rfl) (fun _ _ _ h => h) (Or.inl ⟨by rfl, ?hya74⟩) hHeld ?rra74
          case hya74 => (intro w hSw; (try dsimp only at hSw); go_simp; try with_reducible rfl)
          try simp only [Act.put, List.setIfInBounds_toArray, List.set_cons_zero, List.set_cons_succ]
          refine wpAnyH_take (i := 75) (oi := ⟨some 151, _, _, _, _, _⟩) (v := ?va75) rfl (by kernel_rfl) (by kernel_rfl) (by kernel_rfl) (fun _ _ _ h => h) (Or.inl ⟨by rfl, ?hya75⟩) hHeld ?rra75
          case hya75 => (intro w hSw; (try dsimp only at hSw); go_simp; try with_reducible rfl)
          try simp only [Act.put, List.setIfInBounds_toArray, List.set_cons_zero, List.set_cons_succ]
          refine wpAnyH_take (i := 76) (oi := ⟨some 152, _, _, _, _, _⟩) (v := ?va76) rfl (by kernel_rfl) (by kernel_rfl) (by kernel_rfl) (fun _ _ _ h => h) (Or.inl ⟨by rfl, ?hya76⟩) hHeld ?rra76
          case hya76 => (intro w hSw; (try dsimp only at hSw); go_simp; try with_reducible rfl)
          try simp only [Act.put, List.setIfInBounds_toArray, List.set_cons_zero, List.set_cons_succ]
          refine wpAnyH_take (i := 77) (oi := ⟨some 153, _, _, _, _, _⟩) (v := ?va77) rfl (by kernel_rfl) (by kernel_rfl) (by kernel_rfl) (fun _ _ _ h => h) (Or.inl ⟨by rfl, ?hya77⟩) hHeld ?rra77
          case hya77 => (intro w hSw; (try dsimp only at hSw); go_simp; try with_reducible rfl)
          try simp only [Act.put, List.setIfInBounds_toArray, List.set_cons_zero, List.set_cons_succ]
          refine wpAnyH_take (i := 78) (oi := ⟨some 154, _, _, _, _, _⟩) (v := ?va78) rfl (by kernel_rfl) (by kernel_rfl) (by kernel_rfl) (fun _ _ _ h => h) (Or.inl ⟨by rfl, ?hya78⟩) hHeld ?rra78
          case hya78 => (intro w hSw; (try dsimp only at hSw); go_simp; try with_reducible rfl)
          try simp only [Act.put, List.setIfInBounds_toArray, List.set_cons_zero, List.set_cons_succ]
          refine wpAnyH_take (i := 79) (oi := ⟨some 155, _, _, _, _, _⟩) (v := ?va79) rfl (by kernel_rfl) (by kernel_rfl) (by kernel_rfl) (fun _ _ _ h => h) (Or.inl ⟨by rfl, ?hya79⟩) hHeld ?rra79
          case hya79 => (intro w hSw; (try dsimp only at hSw); go_simp; try with_reducible rfl)
          try simp only [Act.put, List.setIfInBounds_toArray, List.set_cons_zero, List.set_cons_succ]
          refine wpAnyH_take (i := 80) (oi := ⟨some 156, _, _, _, _, _⟩) (v := ?va80) rfl (by kernel_rfl) (by kernel_rfl) (by kernel_rfl) (fun _ _ _ h => h) (Or.inl ⟨by rfl, ?hya80⟩) hHeld ?rra80
          case hya80 => (intro w hSw; (try dsimp only at hSw); go_simp; try with_reducible rfl)
          try simp only [Act.put, List.setIfInBounds_toArray, List.set_cons_zero, List.set_cons_succ]
          refine wpAnyH_take (i := 81) (oi := ⟨some 157, _, _, _, _, _⟩) (v := ?va81) rfl (by kernel_rfl) (by kernel_rfl) (by kernel_rfl) (fun _ _ _ h => h) (Or.inl ⟨by rfl, ?hya81⟩) hHeld ?rra81
          case hya81 => (intro w hSw; (try dsimp only at hSw); go_simp; try with_reducible rfl)
          try simp only [Act.put, List.setIfInBounds_toArray, List.set_cons_zero, List.set_cons_succ]
          refine wpAnyH_take (i := 82) (oi := ⟨some 158, _, _, _, _, _⟩) (v := ?va82) rfl (by kernel_rfl) (by kernel_rfl) (by kernel_rfl) (fun _ _ _ h => h) (Or.inl ⟨by rfl, ?hya82⟩) hHeld ?rra82
          case hya82 => (intro w hSw; (try dsimp only at hSw); go_simp; try with_reducible rfl)
          try simp only [Act.put, List.setIfInBounds_toArray, List.set_cons_zero, List.set_cons_succ]
          refine wpAnyH_take (i := 83) (oi := ⟨some 159, _, _, _, _, _⟩) (v := ?va83) rfl (by kernel_rfl) (by kernel_rfl) (by kernel_rfl) (fun _ _ _ h => h) (Or.inl ⟨by rfl, ?hya83⟩) hHeld ?rra83
          case hya83 => (intro w hSw; (try dsimp only at hSw); go_simp; try with_reducible rfl)
          try simp only [Act.put, List.setIfInBounds_toArray, List.set_cons_zero, List.set_cons_succ]
          refine wpAnyH_take (i := 84) (oi := ⟨some 160, _, _, _, _, _⟩) (v := ?va84) rfl (by kernel_rfl) (by kernel_rfl) (by kernel_rfl) (fun _ _ _ h => h) (Or.inl ⟨by rfl, ?hya84⟩) hHeld ?rra84
          case hya84 => (intro w hSw; (try dsimp only at hSw); go_simp; try with_reducible rfl)
          try simp only [Act.put, List.setIfInBounds_toArray, List.set_cons_zero, List.set_cons_succ]
          as_aux_lemma =>
            refine wpAnyH_take (i := 85) (oi := ⟨some 161, _, _, _, _, _⟩) (v := ?va85) rfl (by kernel_rfl) (by kernel_rfl) (by kernel_rfl) (fun _ _ _ h => h) (Or.inl ⟨by rfl, ?hya85⟩) hHeld ?rra85
            case hya85 => (intro w hSw; (try dsimp only at hSw); go_simp; try with_reducible rfl)
            try simp only [Act.put, List.setIfInBounds_toArray, List.set_cons_zero, List.set_cons_succ]
            refine wpAnyH_take (i := 86) (oi := ⟨some 162, _, _, _, _, _⟩) (v := ?va86) rfl (by kernel_rfl) (by kernel_rfl) (by kernel_rfl) (fun _ _ _ h => h) (Or.inl ⟨by rfl, ?hya86⟩) hHeld ?rra86
            case hya86 => (intro w hSw; (try dsimp only at hSw); go_simp; try with_reducible rfl)
            try simp only [Act.put, List.setIfInBounds_toArray, List.set_cons_zero, List.set_cons_succ]
            refine wpAnyH_take (i := 87) (oi := ⟨some 163, _, _, _, _, _⟩) (v := ?va87) rfl (by kernel_rfl) (by kernel_rfl) (by kernel_rfl) (fun _ _ _ h => h) (Or.inl ⟨by rfl, ?hya87⟩) hHeld ?rra87
            case hya87 => (intro w hSw; (try dsimp only at hSw); go_simp; try with_reducible rfl)
            try simp only [Act.put, List.setIfInBounds_toArray, List.set_cons_zero, List.set_cons_succ]
            refine wpAnyH_take (i := 88) (oi := ⟨some 164, _, _, _, _, _⟩) (v := ?va88) rfl (by kernel_rfl) (by kernel_rfl) (by kernel_rfl) (fun _ _ _ h => h) (Or.inl ⟨by rfl, ?hya88⟩) hHeld ?rra88
            case hya88 => (intro w hSw; (try dsimp only at hSw); go_simp; try with_reducible rfl)
            try simp only [Act.put, List.setIfInBounds_toArray, List.set_cons_zero, List.set_cons_succ]
            refine wpAnyH_take (i := 89) (oi := ⟨some 165, _, _, _, _, _⟩) (v := ?va89) rfl (by kernel_rfl) (by kernel_rfl) (by kernel_rfl) (fun _ _ _ h => h) (Or.inl ⟨by rfl, ?hya89⟩) hHeld ?rra89
            case hya89 => (intro w hSw; (try dsimp only at hSw); go_simp; try with_reducible rfl)
            try simp only [Act.put, List.setIfInBounds_toArray, List.set_cons_zero, List.set_cons_succ]
            refine wpAnyH_take (i := 90) (oi := ⟨some 166, _, _, _, _, _⟩) (v := ?va90) rfl (by kernel_rfl) (by kernel_rfl) (by kernel_rfl) (fun _ _ _ h => h) (Or.inl ⟨by rfl, ?hya90⟩) hHeld ?rra90
            case hya90 => (intro w hSw; (try dsimp only at hSw); go_simp; try with_reducible rfl)
            try simp only [Act.put, List.setIfInBounds_toArray, List.set_cons_zero, List.set_cons_succ]
            refine wpAnyH_take (i := 91) (oi := ⟨some 167, _, _, _, _, _⟩) (v := ?va91) rfl (by kernel_rfl) (by kernel_rfl) (by kernel_rfl) (fun _ _ _ h => h) (Or.inl ⟨by rfl, ?hya91⟩) hHeld ?rra91
            case hya91 => (intro w hSw; (try dsimp only at hSw); go_simp; try with_reducible rfl)
            try simp only [Act.put, List.setIfInBounds_toArray, List.set_cons_zero, List.set_cons_succ]
            refine wpAnyH_take (i := 92) (oi := ⟨some 168, _, _, _, _, _⟩) (v := ?va92) rfl (by kernel_rfl) (by kernel_rfl) (by kernel_rfl) (fun _ _ _ h => h) (Or.inl ⟨by rfl, ?hya92⟩) hHeld ?rra92
            case hya92 => (intro w hSw; (try dsimp only at hSw); go_simp; try with_reducible rfl)
            try simp only [Act.put, List.setIfInBounds_toArray, List.set_cons_zero, List.set_cons_succ]
            refine wpAnyH_take (i := 93) (oi := ⟨some 169, _, _, _, _, _⟩) (v := ?va93) rfl (by kernel_rfl) (by kernel_rfl) (by kernel_rfl) (fun _ _ _ h => h) (Or.inl ⟨by rfl, ?hya93⟩) hHeld ?rra93
            case hya93 => (intro w hSw; (try dsimp only at hSw); go_simp; try with_reducible rfl)
            try simp only [Act.put, List.setIfInBounds_toArray, List.set_cons_zero, List.set_cons_succ]
            refine wpAnyH_take (i := 94) (oi := ⟨some 170, _, _, _, _, _⟩) (v := ?va94) rfl (by kernel_rfl) (by kernel_rfl) (by kernel_rfl) (fun _ _ _ h => h) (Or.inl ⟨by rfl, ?hya94⟩) hHeld ?rra94
            case hya94 => (intro w hSw; (try dsimp only at hSw); go_simp; try with_reducible rfl)
            try simp only [Act.put, List.setIfInBounds_toArray, List.set_cons_zero, List.set_cons_succ]
            refine wpAnyH_take (i := 95) (oi := ⟨some 171, _, _, _, _, _⟩) (v := ?va95) rfl (by kernel_rfl) (by kernel_rfl) (by kernel_rfl) (fun _ _ _ h => h) (Or.inl ⟨by rfl, ?hya95⟩) hHeld ?rra95
            case hya95 => (intro w hSw; (try dsimp only at hSw); go_simp; try with_reducible rfl)
            try simp only [Act.put, List.setIfInBounds_toArray, List.set_cons_zero, List.set_cons_succ]
            refine wpAnyH_take (i := 96) (oi := ⟨some 172, _, _, _, _, _⟩) (v := ?va96) rfl (by kernel_rfl) (by kernel_rfl) (by kernel_rfl) (fun _ _ _ h => h) (Or.inl ⟨by rfl, ?hya96⟩) hHeld ?rra96
            case hya96 => (intro w hSw; (try dsimp only at hSw); go_simp; try with_reducible rfl)
            try simp only [Act.put, List.setIfInBounds_toArray, List.set_cons_zero, List.set_cons_succ]
            refine wpAnyH_take (i := 97) (oi := ⟨some 173, _, _, _, _, _⟩) (v := ?va97) rfl (by kernel_rfl) (by kernel_rfl) (by kernel_rfl) (fun _ _ _ h => h) (Or.inl ⟨by rfl, ?hya97⟩) hHeld ?rra97
            case hya97 => (intro w hSw; (try dsimp only at hSw); go_simp; try with_reducible rfl)
            try simp only [Act.put, List.setIfInBounds_toArray, List.set_cons_zero, List.set_cons_succ]
            refine wpAnyH_take (i := 98) (oi := ⟨some 174, _, _, _, _, _⟩) (v := ?va98) rfl (by kernel_rfl) (by kernel_rfl) (by kernel_rfl) (fun _ _ _ h => h) (Or.inl ⟨by rfl, ?hya98⟩) hHeld ?rra98
            case hya98 => (intro w hSw; (try dsimp only at hSw); go_simp; try with_reducible rfl)
            try simp only [Act.put, List.setIfInBounds_toArray, List.set_cons_zero, List.set_cons_succ]
            refine wpAnyH_take (i := 99) (oi := ⟨some 175, _, _, _, _, _⟩) (v := ?va99) rfl (by kernel_rfl) (by kernel_rfl) (by kernel_rfl) (fun _ _ _ h => h) (Or.inl ⟨by rfl, ?hya99⟩) hHeld ?rra99
            case hya99 => (intro w hSw; (try dsimp only at hSw); go_simp; try with_reducible rfl)
            try simp only [Act.put, List.setIfInBounds_toArray, List.set_cons_zero, List.set_cons_succ]
            refine wpAnyH_take (i := 100) (oi := ⟨some 176, _, _, _, _, _⟩) (v := ?va100) rfl (by kernel_rfl) (by kernel_rfl) (by kernel_rfl) (fun _ _ _ h => h) (Or.inl ⟨by rfl, ?hya100⟩) hHeld ?rra100
            case hya100 => (intro w hSw; (try dsimp only at hSw); go_simp; try with_reducible rfl)
            try simp only [Act.put, List.setIfInBounds_toArray, List.set_cons_zero, List.set_cons_succ]
            refine wpAnyH_take (i := 101) (oi := ⟨some 0, _, _, _, _, _⟩) (v := ?va101) rfl (by kernel_rfl) (by kernel_rfl) (by kernel_rfl) (fun _ _ _ h => h) (Or.inl ⟨by rfl, ?hya101⟩) hHeld ?rra101
            case hya101 => (intro w hSw; (try dsimp only at hSw); go_simp; try with_reducible rfl)
            try simp only [Act.put, List.setIfInBounds_toArray, List.set_cons_zero]
            refine wpAnyH_done (by kernel_rfl) ?_ _
            refine NoPanic.normal ?_
            go_wp2
            go_ret
            exact ⟨rfl, hB.drew⟩
end Go.Proofs.Ytgoakefkiedhmaa
