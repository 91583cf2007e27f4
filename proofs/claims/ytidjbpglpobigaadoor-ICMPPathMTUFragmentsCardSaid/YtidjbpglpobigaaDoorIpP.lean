/- What the encoding of a datagram says of its parts. No program here. -/
import Derived.Test.YtidjbpglpobigaaDoorIpE
import Derived.Test.YtidjbpglpobigaaDoorIpH
import Derived.Test.YtidjbpglpobigaaDoorRdv
namespace Go.Proofs.YtidjbpglpobigaaDoor
open Go.RowKit
set_option linter.unusedVariables false

def nOff : Fin 10 → Nat
  | 0 => 0
  | 1 => 1
  | 2 => 5
  | 3 => 9
  | 4 => 10
  | 5 => 11
  | 6 => 13
  | 7 => 14
  | 8 => 16
  | 9 => 18
/-- the numbers that a text begins with -/
def rdF (s : ByteArray) : Fin 10 → Int := fun i => rdV s (nOff i) (nSz i)
abbrev bL (b n : Int) : List UInt8 := (beS b n).data.toList
theorem bL_len (b n : Int) (h1 : 1 ≤ b) (h2 : b ≤ 4) : (bL b n).length = b.toNat := by rw [size_toList, beS_size b n h1 h2]
theorem hE_list (V : Fin 10 → Int) : (hE V).data.toList = bL 1 (V 0) ++ (bL 4 (V 1) ++ (bL 4 (V 2) ++ (bL 1 (V 3) ++ (bL 1 (V 4) ++ (bL 2 (V 5) ++ (bL 1 (V 6) ++ (bL 2 (V 7) ++ (bL 2 (V 8) ++ bL 2 (V 9))))))))) := by
  simp only [hE, catF, fAll, List.foldl_cons, List.foldl_nil, fSz, toList_append, List.append_assoc]
  simp
theorem hE_size (V : Fin 10 → Int) : (hE V).size = 20 := by
  rw [← size_toList, hE_list]
  simp only [List.length_append, bL_len 1 _ (by decide) (by decide), bL_len 2 _ (by decide) (by decide), bL_len 4 _ (by decide) (by decide)]
  rfl

/-- the numbers of a header are read from it, whatever follows -/
theorem rd_hE (V : Fin 10 → Int) (h : inR V) (t : ByteArray) : rdF (hE V ++ t) = V := by
  have l0 : (bL 1 (V 0)).length = 1 := bL_len 1 (V 0) (by decide) (by decide)
  have l1 : (bL 4 (V 1)).length = 4 := bL_len 4 (V 1) (by decide) (by decide)
  have l2 : (bL 4 (V 2)).length = 4 := bL_len 4 (V 2) (by decide) (by decide)
  have l3 : (bL 1 (V 3)).length = 1 := bL_len 1 (V 3) (by decide) (by decide)
  have l4 : (bL 1 (V 4)).length = 1 := bL_len 1 (V 4) (by decide) (by decide)
  have l5 : (bL 2 (V 5)).length = 2 := bL_len 2 (V 5) (by decide) (by decide)
  have l6 : (bL 1 (V 6)).length = 1 := bL_len 1 (V 6) (by decide) (by decide)
  have l7 : (bL 2 (V 7)).length = 2 := bL_len 2 (V 7) (by decide) (by decide)
  have l8 : (bL 2 (V 8)).length = 2 := bL_len 2 (V 8) (by decide) (by decide)
  have l9 : (bL 2 (V 9)).length = 2 := bL_len 2 (V 9) (by decide) (by decide)
  have r0 := beS_round 1 (V 0) (by decide) (by decide) (h 0).1 (h 0).2
  have r1 := beS_round 4 (V 1) (by decide) (by decide) (h 1).1 (h 1).2
  have r2 := beS_round 4 (V 2) (by decide) (by decide) (h 2).1 (h 2).2
  have r3 := beS_round 1 (V 3) (by decide) (by decide) (h 3).1 (h 3).2
  have r4 := beS_round 1 (V 4) (by decide) (by decide) (h 4).1 (h 4).2
  have r5 := beS_round 2 (V 5) (by decide) (by decide) (h 5).1 (h 5).2
  have r6 := beS_round 1 (V 6) (by decide) (by decide) (h 6).1 (h 6).2
  have r7 := beS_round 2 (V 7) (by decide) (by decide) (h 7).1 (h 7).2
  have r8 := beS_round 2 (V 8) (by decide) (by decide) (h 8).1 (h 8).2
  have r9 := beS_round 2 (V 9) (by decide) (by decide) (h 9).1 (h 9).2
  have hL : (hE V ++ t).data.toList = bL 1 (V 0) ++ (bL 4 (V 1) ++ (bL 4 (V 2) ++ (bL 1 (V 3) ++ (bL 1 (V 4) ++ (bL 2 (V 5) ++ (bL 1 (V 6) ++ (bL 2 (V 7) ++ (bL 2 (V 8) ++ (bL 2 (V 9) ++ t.data.toList))))))))) := by
    rw [toList_append, hE_list]; simp only [List.append_assoc]
  generalize (hE V ++ t) = X at *
  unfold bL at *
  generalize (beS 1 (V 0)).data.toList = A0 at *
  generalize (beS 4 (V 1)).data.toList = A1 at *
  generalize (beS 4 (V 2)).data.toList = A2 at *
  generalize (beS 1 (V 3)).data.toList = A3 at *
  generalize (beS 1 (V 4)).data.toList = A4 at *
  generalize (beS 2 (V 5)).data.toList = A5 at *
  generalize (beS 1 (V 6)).data.toList = A6 at *
  generalize (beS 2 (V 7)).data.toList = A7 at *
  generalize (beS 2 (V 8)).data.toList = A8 at *
  generalize (beS 2 (V 9)).data.toList = A9 at *
  have d1 := congrArg (List.drop 1) hL
  rw [List.drop_left' l0] at d1
  have d2 := congrArg (List.drop 4) d1
  rw [List.drop_left' l1, List.drop_drop] at d2
  have d3 := congrArg (List.drop 4) d2
  rw [List.drop_left' l2, List.drop_drop] at d3
  have d4 := congrArg (List.drop 1) d3
  rw [List.drop_left' l3, List.drop_drop] at d4
  have d5 := congrArg (List.drop 1) d4
  rw [List.drop_left' l4, List.drop_drop] at d5
  have d6 := congrArg (List.drop 2) d5
  rw [List.drop_left' l5, List.drop_drop] at d6
  have d7 := congrArg (List.drop 1) d6
  rw [List.drop_left' l6, List.drop_drop] at d7
  have d8 := congrArg (List.drop 2) d7
  rw [List.drop_left' l7, List.drop_drop] at d8
  have d9 := congrArg (List.drop 2) d8
  rw [List.drop_left' l8, List.drop_drop] at d9
  funext i
  obtain rfl | rfl | rfl | rfl | rfl | rfl | rfl | rfl | rfl | rfl := fin10 i
  · show rdV X 0 1 = _; unfold rdV; rw [List.drop_zero, hL, List.take_left' l0]; exact r0
  · show rdV X 1 4 = _; unfold rdV; rw [d1, List.take_left' l1]; exact r1
  · show rdV X 5 4 = _; unfold rdV; rw [d2, List.take_left' l2]; exact r2
  · show rdV X 9 1 = _; unfold rdV; rw [d3, List.take_left' l3]; exact r3
  · show rdV X 10 1 = _; unfold rdV; rw [d4, List.take_left' l4]; exact r4
  · show rdV X 11 2 = _; unfold rdV; rw [d5, List.take_left' l5]; exact r5
  · show rdV X 13 1 = _; unfold rdV; rw [d6, List.take_left' l6]; exact r6
  · show rdV X 14 2 = _; unfold rdV; rw [d7, List.take_left' l7]; exact r7
  · show rdV X 16 2 = _; unfold rdV; rw [d8, List.take_left' l8]; exact r8
  · show rdV X 18 2 = _; unfold rdV; rw [d9, List.take_left' l9]; exact r9

theorem nOff_bd (i : Fin 10) : nOff i + nSz i ≤ 20 ∧ 1 ≤ nSz i ∧ nSz i ≤ 4 ∧ fSz i = (nSz i : Int) := by
  obtain rfl | rfl | rfl | rfl | rfl | rfl | rfl | rfl | rfl | rfl := fin10 i
  all_goals exact ⟨by decide, by decide, by decide, by decide⟩
theorem rdF_in (s : ByteArray) (h : 20 ≤ s.size) : inR (rdF s) := fun i => by
  obtain ⟨n1, n2, n3, n4⟩ := nOff_bd i
  rw [n4]
  exact rdV_bd s _ _ (by omega)

theorem cut10 (L : List UInt8) : L.take 20 = L.take 1 ++ ((L.drop 1).take 4 ++ ((L.drop 5).take 4 ++ ((L.drop 9).take 1 ++ ((L.drop 10).take 1 ++ ((L.drop 11).take 2 ++ ((L.drop 13).take 1 ++ ((L.drop 14).take 2 ++ ((L.drop 16).take 2 ++ (L.drop 18).take 2)))))))) := by
  have e : ∀ a b : Nat, (L.drop a).take b ++ (L.drop (a + b)).take (20 - (a + b)) = (L.drop a).take (b + (20 - (a + b))) := fun a b => by
    rw [List.take_add, List.drop_drop]
  have e0 := e 0 1; have e1 := e 1 4; have e2 := e 5 4; have e3 := e 9 1; have e4 := e 10 1; have e5 := e 11 2; have e6 := e 13 1; have e7 := e 14 2; have e8 := e 16 2
  simp only [Nat.reduceAdd, Nat.reduceSub, List.drop_zero, Nat.zero_add] at e0 e1 e2 e3 e4 e5 e6 e7 e8
  rw [e8, e7, e6, e5, e4, e3, e2, e1, e0]

/-- the header of a text's numbers is what it begins with -/
theorem hE_rd (s : ByteArray) (h : 20 ≤ s.size) : (hE (rdF s)).data.toList = s.data.toList.take 20 := by
  have hl : s.data.toList.length = s.size := size_toList s
  have k : ∀ a b : Nat, 1 ≤ b → b ≤ 4 → a + b ≤ 20 → (beS (b : Int) (beVal ((s.data.toList.drop a).take b))).data.toList = (s.data.toList.drop a).take b := fun a b h1 h2 h3 =>
    beS_of b _ h1 h2 (by rw [List.length_take, List.length_drop]; omega)
  have k0 := k 0 1 (by decide) (by decide) (by decide)
  have k1 := k 1 4 (by decide) (by decide) (by decide)
  have k2 := k 5 4 (by decide) (by decide) (by decide)
  have k3 := k 9 1 (by decide) (by decide) (by decide)
  have k4 := k 10 1 (by decide) (by decide) (by decide)
  have k5 := k 11 2 (by decide) (by decide) (by decide)
  have k6 := k 13 1 (by decide) (by decide) (by decide)
  have k7 := k 14 2 (by decide) (by decide) (by decide)
  have k8 := k 16 2 (by decide) (by decide) (by decide)
  have k9 := k 18 2 (by decide) (by decide) (by decide)
  rw [List.drop_zero] at k0
  rw [hE_list, cut10]
  show (beS 1 (beVal ((s.data.toList.drop 0).take 1))).data.toList ++ _ = _
  rw [List.drop_zero]
  exact congr (congrArg _ k0) (congr (congrArg _ k1) (congr (congrArg _ k2) (congr (congrArg _ k3) (congr (congrArg _ k4) (congr (congrArg _ k5) (congr (congrArg _ k6) (congr (congrArg _ k7) (congr (congrArg _ k8) k9))))))))
end Go.Proofs.YtidjbpglpobigaaDoor
