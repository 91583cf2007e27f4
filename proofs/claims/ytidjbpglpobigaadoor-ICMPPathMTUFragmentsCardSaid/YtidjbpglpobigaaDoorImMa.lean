/- Encodings of messages: decoded again; one byte turned. No program here. -/
import Derived.Test.YtidjbpglpobigaaDoorImK
import Derived.Test.YtidjbpglpobigaaDoorImL
import Derived.Test.YtidjbpglpobigaaDoorIpQ
namespace Go.Proofs.YtidjbpglpobigaaDoor
open Go.RowKit
set_option linter.unusedVariables false

theorem rd_mE (V : Fin 4 → Int) (h : inM V) (t : ByteArray) : rdM (mE V ++ t) = V := by
  have l0 : (bL 1 (V 0)).length = 1 := bL_len 1 (V 0) (by decide) (by decide)
  have l1 : (bL 1 (V 1)).length = 1 := bL_len 1 (V 1) (by decide) (by decide)
  have l2 : (bL 2 (V 2)).length = 2 := bL_len 2 (V 2) (by decide) (by decide)
  have l3 : (bL 4 (V 3)).length = 4 := bL_len 4 (V 3) (by decide) (by decide)
  have r0 := beS_round 1 (V 0) (by decide) (by decide) (h 0).1 (h 0).2
  have r1 := beS_round 1 (V 1) (by decide) (by decide) (h 1).1 (h 1).2
  have r2 := beS_round 2 (V 2) (by decide) (by decide) (h 2).1 (h 2).2
  have r3 := beS_round 4 (V 3) (by decide) (by decide) (h 3).1 (h 3).2
  have hL : (mE V ++ t).data.toList = bL 1 (V 0) ++ (bL 1 (V 1) ++ (bL 2 (V 2) ++ (bL 4 (V 3) ++ t.data.toList))) := by
    rw [toList_append, mE_list]; simp only [List.append_assoc]
  generalize (mE V ++ t) = X at *
  unfold bL at *
  generalize (beS 1 (V 0)).data.toList = A0 at *
  generalize (beS 1 (V 1)).data.toList = A1 at *
  generalize (beS 2 (V 2)).data.toList = A2 at *
  generalize (beS 4 (V 3)).data.toList = A3 at *
  have g0 : rdV X 0 1 = V 0 := by unfold rdV; rw [hL, List.drop_zero, List.take_left' l0, r0]
  have g1 : rdV X 1 1 = V 1 := by unfold rdV; rw [hL, List.drop_left' l0, List.take_left' l1, r1]
  have g2 : rdV X 2 2 = V 2 := by
    unfold rdV
    rw [hL, ← List.append_assoc, List.drop_left' (by rw [List.length_append]; omega), List.take_left' l2, r2]
  have g3 : rdV X 4 4 = V 3 := by
    unfold rdV
    rw [hL, ← List.append_assoc, ← List.append_assoc, List.drop_left' (by rw [List.length_append, List.length_append]; omega), List.take_left' l3, r3]
  funext i
  obtain rfl | rfl | rfl | rfl := fin4 i
  · exact g0
  · exact g1
  · exact g2
  · exact g3
theorem mE_rd (s : ByteArray) (h : 8 ≤ s.size) : (mE (rdM s)).data.toList = s.data.toList.take 8 := by
  rw [mE_list]
  have b0 : bL 1 (rdM s 0) = (s.data.toList.drop 0).take 1 := beS_of 1 _ (by decide) (by decide) (by rw [List.length_take, List.length_drop, size_toList]; omega)
  have b1 : bL 1 (rdM s 1) = (s.data.toList.drop 1).take 1 := beS_of 1 _ (by decide) (by decide) (by rw [List.length_take, List.length_drop, size_toList]; omega)
  have b2 : bL 2 (rdM s 2) = (s.data.toList.drop 2).take 2 := beS_of 2 _ (by decide) (by decide) (by rw [List.length_take, List.length_drop, size_toList]; omega)
  have b3 : bL 4 (rdM s 3) = (s.data.toList.drop 4).take 4 := beS_of 4 _ (by decide) (by decide) (by rw [List.length_take, List.length_drop, size_toList]; omega)
  rw [b0, b1, b2, b3, show (8 : Nat) = 1 + (1 + (2 + 4)) from rfl, List.take_add, List.take_add, List.take_add, List.drop_zero, List.drop_drop, List.drop_drop]
theorem mF_tail (m : Ms) (q : Int) : (mF m q).extract 8 (mF m q).size = m.s := by
  have := ext_head (mE (mVm m q)) m.s
  rw [mE_size] at this
  exact this
theorem rd_mF (m : Ms) (q : Int) (h : inM (mVm m q)) : rdM (mF m q) = mVm m q := rd_mE _ h _
theorem mk_mF (m : Ms) (q : Int) (h : inM (mVm m q)) : mkM (mF m q) = m ∧ rdM (mF m q) 2 = q := by
  have hr := rd_mF m q h
  refine ⟨?_, by rw [hr]; rfl⟩
  unfold mkM
  rw [hr, mF_tail]
  rfl
theorem dec_encM (m : Ms) (h : okM m) : mkM (encM m) = m ∧ decM (encM m) := by
  obtain ⟨h1, h2⟩ := mk_mF m (ckM m) (okM_in h _ (ckM_bd m))
  have e : encM m = mF m (ckM m) := rfl
  rw [e]
  refine ⟨h1, ?_, ?_, ?_⟩
  · rw [mF_size]; omega
  · rw [h1]; exact h
  · rw [h1]; exact h2
theorem encM_size (m : Ms) : (encM m).size = 8 + m.s.size := mF_size m _
theorem canonM (s : ByteArray) (h : decM s) : encM (mkM s) = s := by
  obtain ⟨h8, -, hq⟩ := h
  refine ba_ext ?_
  unfold encM mF
  rw [← hq, show mVm (mkM s) (rdM s 2) = rdM s from funext fun i => by obtain rfl | rfl | rfl | rfl := fin4 i <;> rfl, toList_append, mE_rd s h8]
  show _ ++ (s.extract 8 s.size).data.toList = _
  rw [tail_list, List.take_append_drop]
theorem fb_rd (s : ByteArray) (h : 0 < s.size) : fb s = rdM s 0 := by
  show _ = beVal ((s.data.toList.drop 0).take 1)
  unfold fb
  have hl : 0 < s.data.toList.length := by rw [size_toList]; exact h
  cases hs : s.data.toList with
  | nil => rw [hs] at hl; exact absurd hl (by decide)
  | cons x l => simp [beVal]
theorem fb_enc (m : Ms) (h : okM m) : fb (encM m) = m.k := by
  rw [fb_rd _ (by rw [encM_size]; omega), show encM m = mF m (ckM m) from rfl, rd_mF m _ (okM_in h _ (ckM_bd m))]
  rfl

/-! one byte turned -/
theorem sum_flip (P Q : List UInt8) (x y : UInt8) (h : foldC (SW (P ++ x :: Q)) = foldC (SW (P ++ y :: Q))) : x = y := by
  have hset : (P ++ x :: Q).set P.length y = P ++ y :: Q := by simp
  have hw := SW_set (P ++ x :: Q) P.length y (by simp)
  rw [hset] at hw
  have hx : (P ++ x :: Q)[P.length]'(by simp) = x := by simp
  rw [hx] at hw
  have f1 := foldC_eq (SW (P ++ x :: Q))
  have f2 := foldC_eq (SW (P ++ y :: Q))
  have b1 := x.toNat_lt
  have b2 := y.toNat_lt
  have hwt : wt P.length = 256 ∨ wt P.length = 1 := by unfold wt; split <;> simp
  refine UInt8.toNat_inj.1 ?_
  generalize SW (P ++ x :: Q) = A at *
  generalize SW (P ++ y :: Q) = B at *
  rw [f1, f2] at h
  rcases hwt with e | e <;> rw [e] at hw <;> split at h <;> split at h <;> omega
theorem ck_Z (s : ByteArray) (h : 8 ≤ s.size) : ckM (mkM s) = 65535 - foldC (SW (s.data.toList.take 2 ++ s.data.toList.drop 4)) := by
  have hb := rdM_bd s h
  have h1 : (mF (mkM s) 0).data.toList = s.data.toList.take 2 ++ (bL 2 0 ++ s.data.toList.drop 4) := by
    have hm := mE_rd s h
    rw [mE_list] at hm
    unfold mF
    rw [toList_append, mE_list]
    show (bL 1 (rdM s 0) ++ (bL 1 (rdM s 1) ++ (bL 2 0 ++ bL 4 (rdM s 3)))) ++ (s.extract 8 s.size).data.toList = _
    have b0 : bL 1 (rdM s 0) = (s.data.toList.drop 0).take 1 := beS_of 1 _ (by decide) (by decide) (by rw [List.length_take, List.length_drop, size_toList]; omega)
    have b1 : bL 1 (rdM s 1) = (s.data.toList.drop 1).take 1 := beS_of 1 _ (by decide) (by decide) (by rw [List.length_take, List.length_drop, size_toList]; omega)
    have b3 : bL 4 (rdM s 3) = (s.data.toList.drop 4).take 4 := beS_of 4 _ (by decide) (by decide) (by rw [List.length_take, List.length_drop, size_toList]; omega)
    rw [b0, b1, b3, tail_list, show s.data.toList.take 2 = (s.data.toList.drop 0).take 1 ++ (s.data.toList.drop 1).take 1 from by rw [show (2 : Nat) = 1 + 1 from rfl, List.take_add, List.drop_zero]]
    have hd : s.data.toList.drop 4 = (s.data.toList.drop 4).take 4 ++ s.data.toList.drop 8 := by
      rw [show s.data.toList.drop 8 = (s.data.toList.drop 4).drop 4 from by rw [List.drop_drop], List.take_append_drop]
    simp only [List.append_assoc]
    rw [← hd]
  have l2 : (s.data.toList.take 2).length = 2 * 1 := by rw [List.length_take, size_toList]; omega
  have hS : SW (mF (mkM s) 0).data.toList = SW (s.data.toList.take 2 ++ s.data.toList.drop 4) := by
    rw [h1, SW_append 1 _ _ l2, SW_append 1 _ _ (bL_len 2 0 (by decide) (by decide)), SW_append 1 _ _ l2, SW_zero2, Nat.zero_add]
  unfold ckM
  rw [sumN_eq, hS]
theorem flipM (P Q : List UInt8) (x y : UInt8) (s t : ByteArray) (hs : s.data.toList = P ++ x :: Q) (ht : t.data.toList = P ++ y :: Q) (h : decM s) (h' : decM t) : x = y := by
  obtain ⟨z1, -, k1⟩ := h
  obtain ⟨z2, -, k2⟩ := h'
  rw [ck_Z s z1] at k1
  rw [ck_Z t z2] at k2
  have r1 : rdM s 2 = rdV s 2 2 := rfl
  have r2 : rdM t 2 = rdV t 2 2 := rfl
  rw [r1] at k1
  rw [r2] at k2
  have f1 := foldC_le (SW (s.data.toList.take 2 ++ s.data.toList.drop 4))
  have f2 := foldC_le (SW (t.data.toList.take 2 ++ t.data.toList.drop 4))
  by_cases hp2 : P.length < 2
  · have e1 : rdV s 2 2 = rdV t 2 2 := by
      unfold rdV; rw [hs, ht]
      have d : ∀ z : UInt8, (P ++ z :: Q).drop 2 = Q.drop (2 - P.length - 1) := fun z => by
        rw [List.drop_append, List.drop_of_length_le (by omega), show 2 - P.length = (2 - P.length - 1) + 1 by omega]; simp
      rw [d, d]
    have d4 : ∀ z : UInt8, (P ++ z :: Q).drop 4 = Q.drop (4 - P.length - 1) := fun z => by
      rw [List.drop_append, List.drop_of_length_le (by omega), show 4 - P.length = (4 - P.length - 1) + 1 by omega]; simp
    have tk : ∀ z : UInt8, (P ++ z :: Q).take 2 = P ++ z :: Q.take (2 - P.length - 1) := fun z => by
      rw [List.take_append, List.take_of_length_le (by omega), show 2 - P.length = (2 - P.length - 1) + 1 by omega, List.take_succ_cons]; rfl
    have k3 : foldC (SW (s.data.toList.take 2 ++ s.data.toList.drop 4)) = foldC (SW (t.data.toList.take 2 ++ t.data.toList.drop 4)) := by omega
    rw [hs, ht, tk, tk, d4, d4] at k3
    simp only [List.append_assoc, List.cons_append] at k3
    exact sum_flip _ _ _ _ k3
  by_cases hp4 : P.length < 4
  · have e1 : ∀ z : UInt8, (P ++ z :: Q).take 2 = P.take 2 := fun z => List.take_append_of_le_length (by omega)
    have d4 : ∀ z : UInt8, (P ++ z :: Q).drop 4 = Q.drop (4 - P.length - 1) := fun z => by
      rw [List.drop_append, List.drop_of_length_le (by omega), show 4 - P.length = (4 - P.length - 1) + 1 by omega]; simp
    rw [hs, e1, d4] at k1
    rw [ht, e1, d4] at k2
    rw [← k2] at k1
    unfold rdV at k1
    rw [hs, ht] at k1
    have ls : s.size = (P ++ x :: Q).length := by rw [← hs, size_toList]
    have lt : t.size = (P ++ y :: Q).length := by rw [← ht, size_toList]
    have := beVal_inj 2 _ _ (by rw [List.length_take, List.length_drop, ← ls]; omega) (by rw [List.length_take, List.length_drop, ← lt]; omega) k1
    rw [List.drop_append_of_le_length (by omega), List.drop_append_of_le_length (by omega)] at this
    have hl : (P.drop 2).length < 2 := by rw [List.length_drop]; omega
    have e2 : ∀ z : UInt8, (P.drop 2 ++ z :: Q).take 2 = P.drop 2 ++ z :: Q.take (2 - (P.drop 2).length - 1) := fun z => by
      rw [List.take_append, List.take_of_length_le (by omega), show 2 - (P.drop 2).length = (2 - (P.drop 2).length - 1) + 1 by omega, List.take_succ_cons]; rfl
    rw [e2, e2] at this
    exact (List.cons.inj (List.append_cancel_left this)).1
  · have e1 : rdV s 2 2 = rdV t 2 2 := by
      unfold rdV; rw [hs, ht]
      have d : ∀ z : UInt8, ((P ++ z :: Q).drop 2).take 2 = (P.drop 2).take 2 := fun z => by
        rw [List.drop_append_of_le_length (by omega), List.take_append_of_le_length (by rw [List.length_drop]; omega)]
      rw [d, d]
    have k3 : foldC (SW (s.data.toList.take 2 ++ s.data.toList.drop 4)) = foldC (SW (t.data.toList.take 2 ++ t.data.toList.drop 4)) := by omega
    have tk : ∀ z : UInt8, (P ++ z :: Q).take 2 = P.take 2 := fun z => List.take_append_of_le_length (by omega)
    have d4 : ∀ z : UInt8, (P ++ z :: Q).drop 4 = P.drop 4 ++ z :: Q := fun z => List.drop_append_of_le_length (by omega)
    rw [hs, ht, tk, tk, d4, d4, ← List.append_assoc, ← List.append_assoc] at k3
    exact sum_flip _ _ _ _ k3
end Go.Proofs.YtidjbpglpobigaaDoor
