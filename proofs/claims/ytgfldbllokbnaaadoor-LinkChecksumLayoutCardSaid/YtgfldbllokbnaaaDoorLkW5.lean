/- The walk of LinkChecksumLayout. -/
import Derived.Test.YtgfldbllokbnaaaDoorLkSane
import Derived.Test.YtgfldbllokbnaaaDoorLkLf
import Derived.Deep.RegionHeld3
import Derived.BigRegion
namespace Go.Proofs.YtgfldbllokbnaaaDoor
set_option linter.unusedVariables false
open Go.RowKit
attribute [local go_sem] Oper.semAt_some

theorem get_rd (s : ByteArray) (k b : Nat) (w : World) (hb1 : 1 ≤ b) (hb2 : b ≤ 4) (hk : k + b ≤ s.size) (hs : s.size ≤ maxLen) :
    Calls Tryd.prog 21 #[.string s, .int .i64 (k : Int), .int .i64 (b : Int)] w fun e w' => e = .returned (.tuple #[.int .i64 (rdV s k b), .int .i64 0]) ∧ Below w.heap.size w w' :=
  get_any s k b w (by omega) (by omega) (by omega) (by omega) hs

set_option maxRecDepth 100000 in
set_option maxHeartbeats 1600000 in
theorem walk_LinkChecksumLayout (a b c : Int) (s : ByteArray)  (w : World) (a1 : -9223372036854775808 ≤ a) (a2 : a ≤ 9223372036854775807) (b1 : -9223372036854775808 ≤ b) (b2 : b ≤ 9223372036854775807) (c1 : -9223372036854775808 ≤ c) (c2 : c ≤ 9223372036854775807) (hs : s.size ≤ maxLen)  (E : ∃ ea, Env w ea) :
    Calls Tryd.prog 8 #[fv a b c s] w fun e w' => e = .returned (.bool true) ∧ Below w.heap.size w w' := by
  obtain ⟨ea, E⟩ := E
  go_enter Tryd.func8, Tryd.ntmps8
  go_wp2_with fail
  have E0 : Env (w.alloc (fo a b c s)) ea := cell_alloc E _
  refine (sane_any _ ea E0).mono ?_
  rintro e w1 ⟨rfl, hb1⟩
  have hB1 : Below w.heap.size w w1 := ((Below.refl _ w).alloc (Nat.le_refl _) _).trans (hb1.mono (by simp))
  have hf1 := blk_below (blk_new w (fo a b c s)) hb1 (by simp)
  have E1 := E.stay hB1
  clear hb1 E0 E
  have x0 := (blk_cell (k := 0) hf1 rfl).1
  have x1 := (blk_cell (k := 1) hf1 rfl).1
  have x2 := (blk_cell (k := 2) hf1 rfl).1
  have x3 := (blk_cell (k := 3) hf1 rfl).1
  simp only [List.getElem_toArray, List.getElem_cons_zero, List.getElem_cons_succ] at x0 x1 x2 x3
  go_wp2_with fail
  refine (frame_law a b c s _ a1 a2 b1 b2 c1 c2 hs).mono ?_
  rintro e w2 ⟨rfl, hb2⟩
  have hB2 := hB1.trans (hb2.mono hB1.size)
  have E2 := E1.stay hb2
  have hok := okF_pick a b c s
  clear hb2 E1 x0 x1 x2 x3 hf1
  revert hok
  generalize 1 + pickZ a 65535 = A
  generalize 1 + pickZ b 65534 = B
  generalize 1 + pickZ c 2 = C
  generalize cutK s = T
  intro hok
  have hT : T.size ≤ 1024 := hok.2.2.2.2.2
  go_wp2_with fail
  refine (encode_yes A B C T _ hok).mono ?_
  rintro e0 w3 ⟨rfl, hb3⟩
  have hB3 := hB2.trans ((((Below.refl _ w2).alloc (Nat.le_refl _) (fo A B C T)).trans (hb3.mono (by simp))).mono hB2.size)
  have hf3 := blk_below (blk_new w2 (fo A B C T)) hb3 (by simp)
  have hz := enc_size A B C T
  obtain ⟨-, -, -, p4, p5, p6, p7⟩ := enc_parts A B C T hok
  clear hb3 E2
  revert hz p4 p5 p6 p7
  generalize encS A B C T = S
  intro hz p4 p5 p6 p7
  obtain ⟨e, he⟩ : ∃ e, 7 + T.size = e := ⟨_, rfl⟩
  have hze : S.size = e + 4 := by omega
  have he7 : 7 ≤ e := by omega
  have heu : e ≤ 1031 := by omega
  rw [he] at p5 p6 p7
  clear hz he hok
  obtain ⟨K, hK⟩ : ∃ K : Nat, crcN (bodyS A B C T).data.toList = K := ⟨_, rfl⟩
  rw [hK] at p6
  obtain ⟨X, hX⟩ : ∃ X, S.extract 0 e = X := ⟨_, rfl⟩
  have hXl : X.data.toList = (bodyS A B C T).data.toList := by rw [← hX, extract_list, List.drop_zero, Nat.sub_zero, p5]
  have hKX : crcN X.data.toList = K := by rw [hXl, hK]
  have hXs : X.size ≤ 1031 := by rw [← hX, ByteArray.size_extract]; omega
  clear hXl hK p5
  have hs4 : (S.size : Int) - 4 = (e : Int) := by omega
  have hi1 : (0 : Int) ≤ (e : Int) := by omega
  have hi2 : (e : Int) ≤ (S.size : Int) := by omega
  have hi3 : (7 : Int) ≤ (e : Int) := by omega
  have hS11 : ¬ (S.size : Int) < 11 := by omega
  have Hze := Lib.hid hze
  have hSu : S.size ≤ 2000 := by omega
  clear hze
  have hwe : IntKind.i64.wrap (e : Int) = (e : Int) := wraps_i64 _ (by omega) (by omega)
  have hw4 : IntKind.i64.wrap ((S.size : Int) - 4) = (e : Int) := by rw [hs4]; exact hwe
  go_wp2_with fail
  refine (get_rd S e 4 _ (by decide) (by decide) (by have := Hze.out; omega) (by unfold maxLen; omega)).mono ?_
  rintro e1 w4 ⟨rfl, hb4⟩
  rw [p6]
  have hB4 := hB3.trans (hb4.mono hB3.size)
  have hf4 := blk_below hf3 hb4 (blk_lt hf3)
  clear hb4 hf3
  go_wp2_with fail
  refine (get_rd S 5 2 _ (by decide) (by decide) (by have := Hze.out; omega) (by unfold maxLen; omega)).mono ?_
  rintro e2 w5 ⟨rfl, hb5⟩
  rw [p4]
  have hB5 := hB4.trans (hb5.mono hB4.size)
  have hf5 := blk_below hf4 hb5 (blk_lt hf4)
  clear hb5 hf4
  have x3 := (blk_cell (k := 3) hf5 rfl).1
  simp only [List.getElem_toArray, List.getElem_cons_zero, List.getElem_cons_succ] at x3
  have hl5 := blk_lt hf5
  go_wp2_with fail
  go_region_held3 (fun w' => w'.cell? ⟨w2.heap.size, 3, none⟩ = some (.string T))
    (first | exact x3 | exact (hb6.cell (p := ⟨w2.heap.size, 3, none⟩) hl5).trans x3)
    ((go_at_call 22; refine (crc_any X (by unfold maxLen; omega) _).mono ?_; rintro e3 w6 ⟨rfl, hb6⟩; rw [hKX]))
  have hB6 : Below w.heap.size w w6 := hB5.drew.trans (hb6.mono hB5.size)
  go_wp2
  go_ret
  exact ⟨rfl, hB6⟩
end Go.Proofs.YtgfldbllokbnaaaDoor
