/- The walk of ICMPDetectsByteErrors. -/
import Derived.Test.YtidjbpglpobigaaDoorImPk
import Derived.Deep.RegionHeld3
import Derived.BigRegion
namespace Go.Proofs.YtidjbpglpobigaaDoor
set_option linter.unusedVariables false
open Go.RowKit
attribute [local go_sem] Oper.semAt_some

theorem conv_one (w' : World) (n : Nat) (x : Int) (bs : ByteArray) (hbs : strOfNums [x] = bs) (h : w'.cell? ⟨n, 0, none⟩ = some (.int .u8 x)) :
    (convert 47 9 (.slice (some ⟨n, 0, none⟩) 1 1)).run Tryd.prog w' = .ok (.string bs) w' := by
  rw [← hbs]
  exact run_convert_bytes_arg (P := Tryd.prog) _ 47 5 Tryd.underlying47 Tryd.underlying5 n 0 1 1 [x] rfl (fun i hi => by
    obtain rfl : i = 0 := by omega
    rw [h]; rfl) 9 Tryd.underlying9
theorem one_byte (d : Int) : ∃ y : UInt8, (strOfNums [d]).data.toList = [y] := ⟨_, by rw [strOfNums_data]; rfl⟩
/-- the string with one byte turned -/
theorem flip_parts (S bs : ByteArray) (j : Nat) (hj : j < S.size) (y : UInt8) (hy : bs.data.toList = [y]) :
    ∃ (P Q : List UInt8) (x : UInt8), S.data.toList = P ++ x :: Q ∧ ((S.extract 0 j ++ bs) ++ S.extract (j + 1) S.size).data.toList = P ++ y :: Q := by
  have hl : j < S.data.toList.length := by rw [size_toList]; exact hj
  refine ⟨S.data.toList.take j, S.data.toList.drop (j + 1), S.data.toList[j], ?_, ?_⟩
  · rw [List.getElem_cons_drop, List.take_append_drop]
  · rw [toList_append, toList_append, hy, extract_list, extract_list, List.drop_zero, Nat.sub_zero, List.append_assoc, List.take_of_length_le (l := S.data.toList.drop (j + 1)) (by rw [List.length_drop, size_toList]; exact Nat.le_refl _)]
    rfl
theorem flip_iff (S t : ByteArray) (P Q : List UInt8) (x y : UInt8) (hS : S.data.toList = P ++ x :: Q) (ht : t.data.toList = P ++ y :: Q) (hd : decM S) : decM t ↔ t = S := by
  constructor
  · intro h
    have := flipM P Q x y S t hS ht hd h
    refine ba_ext ?_
    rw [ht, hS, this]
  · rintro rfl; exact hd

set_option maxRecDepth 100000 in
set_option maxHeartbeats 1600000 in
theorem walk_ICMPDetectsByteErrors (a b c : Int) (s : ByteArray) (at0 d : Int) (w : World) (a1 : -9223372036854775808 ≤ a) (a2 : a ≤ 9223372036854775807) (b1 : -9223372036854775808 ≤ b) (b2 : b ≤ 9223372036854775807) (c1 : -9223372036854775808 ≤ c) (c2 : c ≤ 9223372036854775807) (hs : s.size ≤ maxLen) (l1 : -9223372036854775808 ≤ at0) (u1 : at0 ≤ 9223372036854775807) (wd : (Lit.int .u8 d).wf = true) (E : ∃ ea, Env w ea) :
    Calls Tryd.prog 7 #[.agg #[.int .i64 a, .int .i64 b, .int .i64 c, .string s], .int .i64 at0, .int .u8 d] w fun e w' => e = .returned (.bool true) ∧ Below w.heap.size w w' := by
  obtain ⟨ea, E⟩ := E
  go_enter Tryd.func7, Tryd.ntmps7
  go_wp2_with fail
  have E0 : Env (w.alloc (mo ⟨a, b, c, s⟩)) ea := cell_alloc E _
  refine (msane_any _ ea E0).mono ?_
  rintro e w1 ⟨rfl, hb1⟩
  have hB1 : Below w.heap.size w w1 := ((Below.refl _ w).alloc (Nat.le_refl _) _).trans (hb1.mono (by simp))
  have hf1 := blk_below (blk_new w (mo ⟨a, b, c, s⟩)) hb1 (by simp)
  have E1 := E.stay hB1
  clear hb1 E0 E
  have x0 := (blk_cell (k := 0) hf1 rfl).1
  have x1 := (blk_cell (k := 1) hf1 rfl).1
  have x2 := (blk_cell (k := 2) hf1 rfl).1
  have x3 := (blk_cell (k := 3) hf1 rfl).1
  simp only [List.getElem_toArray, List.getElem_cons_zero, List.getElem_cons_succ] at x0 x1 x2 x3
  go_wp2_with fail
  refine (msg_any a b c s ⟨a1, a2⟩ ⟨b1, b2⟩ ⟨c1, c2⟩ hs _).mono ?_
  rintro e w2 ⟨rfl, hb2⟩
  have hB2 := hB1.trans (hb2.mono hB1.size)
  have E2 := E1.stay hb2
  have hok := msgK_ok a b c s
  clear hb2 E1 x0 x1 x2 x3 hf1
  revert hok
  generalize msgK a b c s = M
  intro hok
  have hT := okM_room hok
  have hde := (dec_encM M hok).2
  have hz := encM_size M
  go_wp2_with fail
  refine (mencode_yes M hok _).mono ?_
  rintro e w3 ⟨rfl, hb3⟩
  have hB3 := hB2.trans (hb3.mono hB2.size)
  have E3 := E2.stay hb3
  clear hb3 E2
  revert hde hz
  generalize encM M = S
  intro hde hz
  have Hde := Lib.hid hde
  clear hde hok
  have hS0 : ¬ (S.size : Int) = 0 := by omega
  have hSl : 8 ≤ S.size := by omega
  have hSu : S.size ≤ 508 := by omega
  clear hz
  go_wp2_with fail
  refine (pick8_any _ _ _ l1 u1 (by omega) (by omega)).mono ?_
  rintro e w' ⟨rfl, rfl⟩
  have hpb := pickZ_bd at0 (S.size : Int) (by omega)
  obtain ⟨j, hj⟩ : ∃ j : Nat, pickZ at0 (S.size : Int) = (j : Int) := ⟨(pickZ at0 (S.size : Int)).toNat, by omega⟩
  rw [hj] at hpb ⊢
  have hjl : j < S.size := by omega
  have hj0 : (0 : Int) ≤ (j : Int) := by omega
  have hj1 : (j : Int) ≤ (S.size : Int) := by omega
  have hj2 : (0 : Int) ≤ (j : Int) + 1 := by omega
  have hj3 : (j : Int) + 1 ≤ (S.size : Int) := by omega
  obtain ⟨y, hy⟩ := one_byte d
  obtain ⟨bs, hbs⟩ : ∃ bs, strOfNums [d] = bs := ⟨_, rfl⟩
  rw [hbs] at hy
  have hbl : bs.size = 1 := by rw [← size_toList, hy]; rfl
  obtain ⟨P, Q, x, hP1, hP2⟩ := flip_parts S bs j hjl y hy
  have hiff := flip_iff S _ P Q x y hP1 hP2 Hde.out
  clear hP1 hP2 hy Hde hj hpb wd
  go_wp2_with fail
  have hcv : ∀ W : World, (convert 47 9 (.slice (some ⟨W.heap.size, 0, none⟩) 1 1)).run Tryd.prog (W.alloc (.cells #[.int .u8 d] 5)).drew = .ok (.string bs) (W.alloc (.cells #[.int .u8 d] 5)).drew := fun W => conv_one _ _ _ _ hbs (World.cell?_alloc_new _ _ _ _)
  have hcv1 := hcv w3
  have s1 : (S.extract 0 j).size = j := by rw [ByteArray.size_extract]; omega
  have s2 : (S.extract (j + 1) S.size).size = S.size - (j + 1) := by rw [ByteArray.size_extract]; omega
  obtain ⟨X1, hX1⟩ : ∃ X, S.extract 0 j = X := ⟨_, rfl⟩
  obtain ⟨X2, hX2⟩ : ∃ X, S.extract (j + 1) S.size = X := ⟨_, rfl⟩
  rw [hX1] at s1 hiff
  rw [hX2] at s2 hiff
  clear hcv hbs
  have htz : ((X1 ++ bs) ++ X2).size ≤ 508 := by simp only [ByteArray.size_append]; omega
  go_region
  have E4 : Env (w3.alloc (.cells #[.int .u8 d] 5)).drew ea := cell_alloc E3 _
  have hB4 : Below w.heap.size w (w3.alloc (.cells #[.int .u8 d] 5)).drew := (hB3.alloc hB3.size _).drew
  clear hcv1 E3 hB3 hX1 hX2
  revert hiff E4 hB4 htz
  generalize (w3.alloc (.cells #[.int .u8 d] 5)).drew = w4
  generalize (X1 ++ bs) ++ X2 = tt
  intro hiff htz E4 hB4
  by_cases hdt : decM tt
  · obtain rfl := hiff.1 hdt
    have Hdo := Lib.hid (mdecode_ok tt w4 ea E4 (by unfold maxLen; omega) hdt)
    clear hdt hiff
    go_wp2_with fail
    refine Hdo.out.mono ?_
    rintro e w5 ⟨rfl, hb5⟩
    have hB5 := hB4.trans (hb5.mono hB4.size)
    have hB6 := hB5.alloc hB5.size (mo (mkM tt))
    clear Hdo hb5
    go_wp2
    go_ret
    exact ⟨rfl, hB6⟩
  · have hne : ¬ S = tt := fun e => hdt (hiff.2 e.symm)
    have Hdn := Lib.hid (mdecode_no tt w4 ea E4 (by unfold maxLen; omega) hdt)
    clear hdt hiff
    go_wp2_with fail
    refine Hdn.out.mono ?_
    rintro e w5 ⟨rfl, hb5⟩
    have hB5 := hB4.trans (hb5.mono hB4.size)
    have hB6 := hB5.alloc hB5.size (mo mz)
    clear Hdn hb5
    go_wp2
    go_ret
    have hne2 : ¬ S.toList = tt.toList := fun e => hne (ba_ext (by rw [← Lib.toList_data, ← Lib.toList_data, e]))
    exact ⟨ret_bool (by simp [hne2]), hB6⟩
end Go.Proofs.YtidjbpglpobigaaDoor
