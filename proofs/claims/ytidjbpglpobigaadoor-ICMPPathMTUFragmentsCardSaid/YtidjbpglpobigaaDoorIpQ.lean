/- Decoding what was encoded; one byte of a header turned. No program here. -/
import Derived.Test.YtidjbpglpobigaaDoorIpDe
namespace Go.Proofs.YtidjbpglpobigaaDoor
open Go.RowKit
set_option linter.unusedVariables false

theorem and1 (f : Int) (h : f = 0 ∨ f = 1 ∨ f = 2 ∨ f = 3) : dfOf f = (f == 1 || f == 3) ∧ mfOf f = (f == 2 || f == 3) := by
  rcases h with rfl | rfl | rfl | rfl <;> exact ⟨by decide +kernel, by decide +kernel⟩
theorem ext_head (a b : ByteArray) : (a ++ b).extract a.size (a ++ b).size = b := by
  refine ba_ext ?_
  rw [extract_list, toList_append, ByteArray.size_append, List.drop_left' (size_toList a), List.take_of_length_le (by rw [size_toList]; omega)]
theorem ext_front (a b : ByteArray) (n : Nat) (h : a.size ≤ n) : (a ++ b).extract 0 n = a ++ b.extract 0 (n - a.size) := by
  refine ba_ext ?_
  rw [toList_append, extract_list, extract_list, toList_append, List.drop_zero, List.drop_zero, Nat.sub_zero, Nat.sub_zero, List.take_append, List.take_of_length_le (by rw [size_toList]; exact h), size_toList]
theorem hd_dec (p : Pk) (h : okW p p.s.size) (q : ByteArray) :
    mkP (hE (hdP p) ++ q) = { p with s := q } ∧ rdF (hE (hdP p) ++ q) 8 = p.s.size ∧ decOk (hE (hdP p) ++ q) := by
  have hI : inR (hdP p) := inR_ok p h (ckP p) (ckF_bd _ _ _ _ _)
  have hr := rd_hE (hdP p) hI q
  have hsz := hE_size (hdP p)
  have hfl : flg p = 0 ∨ flg p = 1 ∨ flg p = 2 ∨ flg p = 3 := by unfold flg; split <;> split <;> omega
  obtain ⟨hd, hm⟩ := and1 (flg p) hfl
  have hoff : p.off / 8 * 8 = p.off := by have := h.2.2.2.1.2.2; omega
  have hmk : mkP (hE (hdP p) ++ q) = { p with s := q } := by
    unfold mkP
    rw [hr, show (hE (hdP p) ++ q).extract 20 (hE (hdP p) ++ q).size = q from by rw [← hsz]; exact ext_head _ _]
    have e : hdP p 6 = flg p := rfl
    have e7 : hdP p 7 = p.off / 8 := rfl
    rw [e, e7, hd, hm, hoff]
    obtain ⟨fr, dst, pr, tt, id, df, mf, off, s⟩ := p
    cases df <;> cases mf <;> rfl
  refine ⟨hmk, by rw [hr]; rfl, ?_, ?_, ?_, ?_⟩
  · rw [ByteArray.size_append, hsz]; omega
  · unfold decK; rw [hr]; exact ⟨rfl, by show flg p ≤ 3; omega⟩
  · unfold decS; rw [hmk, hr]; rfl
  · rw [hmk, hr]; exact h

theorem dec_enc (p : Pk) (h : okW p p.s.size) : mkP (encP p) = p ∧ decE (encP p) ∧ decL (encP p) := by
  obtain ⟨h1, h2, h3⟩ := hd_dec p h p.s
  have hz : (encP p).size = 20 + p.s.size := by unfold encP; rw [ByteArray.size_append, hE_size]
  refine ⟨h1, ⟨h3, ?_⟩, ⟨h3, ?_⟩⟩
  · show ((encP p).size : Int) = 20 + rdF (hE (hdP p) ++ p.s) 8
    rw [h2, hz]; omega
  · show ((encP p).size : Int) ≤ 20 + rdF (hE (hdP p) ++ p.s) 8
    rw [h2, hz]; omega
theorem enc_size (p : Pk) : (encP p).size = 20 + p.s.size := by unfold encP; rw [ByteArray.size_append, hE_size]
theorem enc_inj {p q : Pk} (hp : okW p p.s.size) (hq : okW q q.s.size) (h : encP p = encP q) : p = q := by
  rw [← (dec_enc p hp).1, h, (dec_enc q hq).1]
theorem enc_cut (p : Pk) (h : okW p p.s.size) (n : Nat) (h1 : 20 ≤ n) (h2 : n ≤ 20 + p.s.size) :
    mkP ((encP p).extract 0 n) = { p with s := p.s.extract 0 (n - 20) } ∧ decL ((encP p).extract 0 n) := by
  have he : (encP p).extract 0 n = hE (hdP p) ++ p.s.extract 0 (n - 20) := by
    unfold encP; rw [ext_front _ _ _ (by rw [hE_size]; exact h1), hE_size]
  obtain ⟨k1, k2, k3⟩ := hd_dec p h (p.s.extract 0 (n - 20))
  rw [he]
  refine ⟨k1, k3, ?_⟩
  rw [k2, ByteArray.size_append, hE_size, ByteArray.size_extract]; omega
theorem dec_short {s : ByteArray} (h : s.size < 20) : ¬ decE s ∧ ¬ decL s := ⟨fun k => by have := k.1.1; omega, fun k => by have := k.1.1; omega⟩

/-! one byte turned -/
def wt (i : Nat) : Nat := if i % 2 = 0 then 256 else 1
theorem SW_set : ∀ (l : List UInt8) (i : Nat) (x : UInt8) (h : i < l.length), SW (l.set i x) + wt i * l[i].toNat = SW l + wt i * x.toNat
  | [y], 0, x, _ => by simp only [List.set, SW_one, wt, List.getElem_cons_zero]; rw [if_pos (by decide)]; omega
  | [y], i + 1, x, h => by simp at h
  | y :: z :: l, 0, x, _ => by
    simp only [List.set, SW_two, wt, List.getElem_cons_zero]; rw [if_pos (by decide)]; omega
  | y :: z :: l, 1, x, _ => by
    simp only [List.set, SW_two, wt, List.getElem_cons_succ, List.getElem_cons_zero]; rw [if_neg (by decide)]; omega
  | y :: z :: l, i + 2, x, h => by
    have ih := SW_set l i x (by simp only [List.length_cons] at h; omega)
    simp only [List.set, SW_two, List.getElem_cons_succ]
    have hw : wt (i + 2) = wt i := by unfold wt; rw [show (i + 2) % 2 = i % 2 by omega]
    rw [hw]
    omega
/-- a header's bytes ahead of its checksum -/
def hA (V : Fin 10 → Int) : List UInt8 := bL 1 (V 0) ++ (bL 4 (V 1) ++ (bL 4 (V 2) ++ (bL 1 (V 3) ++ (bL 1 (V 4) ++ (bL 2 (V 5) ++ (bL 1 (V 6) ++ (bL 2 (V 7) ++ bL 2 (V 8))))))))
theorem hA_len (V : Fin 10 → Int) : (hA V).length = 18 := by
  unfold hA
  simp only [List.length_append, bL_len 1 _ (by decide) (by decide), bL_len 2 _ (by decide) (by decide), bL_len 4 _ (by decide) (by decide)]
  rfl
theorem hE_A (V : Fin 10 → Int) : (hE V).data.toList = hA V ++ bL 2 (V 9) := by rw [hE_list]; unfold hA; simp only [List.append_assoc]
theorem SW_zero2 : SW (bL 2 0) = 0 := rfl
theorem ck_A (p : Pk) (v f u l : Int) : ckF p v f u l = 65535 - foldC (SW (hA (fV p v f u l 0))) := by
  unfold ckF
  rw [sumN_eq, hE_A, SW_append 9 _ _ (hA_len _), show SW (bL 2 (fV p v f u l 0 9)) = 0 from SW_zero2, Nat.add_zero]
theorem rd_A (s : ByteArray) (h : 20 ≤ s.size) : hA (rdF s) = s.data.toList.take 18 ∧ bL 2 (rdF s 9) = (s.data.toList.drop 18).take 2 := by
  have h1 := hE_rd s h
  rw [hE_A] at h1
  have e : s.data.toList.take 20 = s.data.toList.take 18 ++ (s.data.toList.drop 18).take 2 := by rw [show 20 = 18 + 2 from rfl, List.take_add]
  rw [e] at h1
  have hl : (hA (rdF s)).length = (s.data.toList.take 18).length := by rw [hA_len, List.length_take, size_toList]; omega
  exact ⟨List.append_inj_left h1 hl, List.append_inj_right h1 hl⟩
theorem ck_rd (s : ByteArray) (h : 20 ≤ s.size) : ckF (mkP s) (rdF s 0) (rdF s 6) (rdF s 7) (rdF s 8) = 65535 - foldC (SW (s.data.toList.take 18)) := by
  rw [ck_A, ← (rd_A s h).1]; rfl

theorem flip_no (P Q : List UInt8) (x y : UInt8) (s t : ByteArray) (hs : s.data.toList = P ++ x :: Q) (ht : t.data.toList = P ++ y :: Q) (hP : P.length < 20) (h : decOk s) (h' : decOk t) : x = y := by
  have z1 := h.1
  have z2 := h'.1
  have k1 : rdF s 9 = _ := h.2.2.1
  have k2 : rdF t 9 = _ := h'.2.2.1
  rw [ck_rd s z1] at k1
  rw [ck_rd t z2] at k2
  have r1 : rdF s 9 = rdV s 18 2 := rfl
  have r2 : rdF t 9 = rdV t 18 2 := rfl
  rw [r1] at k1
  rw [r2] at k2
  by_cases hp : P.length < 18
  · have e1 : rdV s 18 2 = rdV t 18 2 := by
      unfold rdV; rw [hs, ht]
      have d : ∀ z : UInt8, (P ++ z :: Q).drop 18 = Q.drop (18 - P.length - 1) := fun z => by
        rw [List.drop_append, List.drop_of_length_le (by omega), show 18 - P.length = (18 - P.length - 1) + 1 by omega]; simp
      rw [d, d]
    rw [e1, k2] at k1
    have tk : ∀ z : UInt8, (P ++ z :: Q).take 18 = P ++ z :: Q.take (18 - P.length - 1) := fun z => by
      rw [List.take_append, List.take_of_length_le (by omega), show 18 - P.length = (18 - P.length - 1) + 1 by omega, List.take_succ_cons]; rfl
    rw [hs, ht, tk, tk] at k1
    have hset : (P ++ x :: Q.take (18 - P.length - 1)).set P.length y = P ++ y :: Q.take (18 - P.length - 1) := by simp
    have hw := SW_set (P ++ x :: Q.take (18 - P.length - 1)) P.length y (by simp)
    rw [hset] at hw
    have hx : (P ++ x :: Q.take (18 - P.length - 1))[P.length]'(by simp) = x := by simp
    rw [hx] at hw
    have f1 := foldC_eq (SW (P ++ x :: Q.take (18 - P.length - 1)))
    have f2 := foldC_eq (SW (P ++ y :: Q.take (18 - P.length - 1)))
    have g1 := foldC_le (SW (P ++ x :: Q.take (18 - P.length - 1)))
    have g2 := foldC_le (SW (P ++ y :: Q.take (18 - P.length - 1)))
    have b1 := x.toNat_lt
    have b2 := y.toNat_lt
    have hwt : wt P.length = 256 ∨ wt P.length = 1 := by unfold wt; split <;> simp
    refine UInt8.toNat_inj.1 ?_
    generalize SW (P ++ x :: Q.take (18 - P.length - 1)) = A at *
    generalize SW (P ++ y :: Q.take (18 - P.length - 1)) = B at *
    have k3 : foldC A = foldC B := by omega
    rw [f1, f2] at k3
    rcases hwt with e | e <;> rw [e] at hw <;> split at k3 <;> split at k3 <;> omega
  · have e1 : (P ++ x :: Q).take 18 = (P ++ y :: Q).take 18 := by rw [List.take_append_of_le_length (by omega), List.take_append_of_le_length (by omega)]
    rw [hs, e1, ← ht, ← k2] at k1
    unfold rdV at k1
    rw [hs, ht] at k1
    have ls : s.size = (P ++ x :: Q).length := by rw [← hs, size_toList]
    have lt : t.size = (P ++ y :: Q).length := by rw [← ht, size_toList]
    have := beVal_inj 2 _ _ (by rw [List.length_take, List.length_drop, ← ls]; omega) (by rw [List.length_take, List.length_drop, ← lt]; omega) k1
    rw [List.drop_append_of_le_length (by omega), List.drop_append_of_le_length (by omega)] at this
    have hl : (P.drop 18).length < 2 := by rw [List.length_drop]; omega
    have e2 : ∀ z : UInt8, (P.drop 18 ++ z :: Q).take 2 = P.drop 18 ++ z :: Q.take (2 - (P.drop 18).length - 1) := fun z => by
      rw [List.take_append, List.take_of_length_le (by omega), show 2 - (P.drop 18).length = (2 - (P.drop 18).length - 1) + 1 by omega, List.take_succ_cons]; rfl
    rw [e2, e2] at this
    exact (List.cons.inj (List.append_cancel_left this)).1
end Go.Proofs.YtidjbpglpobigaaDoor
