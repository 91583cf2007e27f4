
/- The encoding of an ARP message and its parts. No program here. -/
import Derived.Test.YtpkfjlbjahghgaaRdv
import Derived.Test.YtpkfjlbjahghgaaArV
namespace Go.Proofs.Ytpkfjlbjahghgaa
set_option linter.unusedVariables false

def encA (o f m t n : Int) : ByteArray := (((beS 1 o ++ beS 4 f) ++ beS 2 m) ++ beS 4 t) ++ beS 2 n
def decA (s : ByteArray) : Prop := s.size = 13 ∧ okA (rdV s 0 1) (rdV s 1 4) (rdV s 5 2) (rdV s 7 4) (rdV s 11 2)
instance (s : ByteArray) : Decidable (decA s) := by unfold decA; infer_instance

theorem encA_size (o f m t n : Int) : (encA o f m t n).size = 13 := by
  have h1 := beS_size 1 o (by decide) (by decide)
  have h2 := beS_size 4 f (by decide) (by decide)
  have h3 := beS_size 2 m (by decide) (by decide)
  have h4 := beS_size 4 t (by decide) (by decide)
  have h5 := beS_size 2 n (by decide) (by decide)
  unfold encA
  simp only [ByteArray.size_append, h1, h2, h3, h4, h5]
  rfl

theorem encA_parts (o f m t n : Int) (h : okA o f m t n) :
    rdV (encA o f m t n) 0 1 = o ∧ rdV (encA o f m t n) 1 4 = f ∧ rdV (encA o f m t n) 5 2 = m ∧ rdV (encA o f m t n) 7 4 = t ∧ rdV (encA o f m t n) 11 2 = n := by
  have l1 : (beS 1 o).data.toList.length = 1 := by rw [size_toList, beS_size 1 o (by decide) (by decide)]; rfl
  have l2 : (beS 4 f).data.toList.length = 4 := by rw [size_toList, beS_size 4 f (by decide) (by decide)]; rfl
  have l3 : (beS 2 m).data.toList.length = 2 := by rw [size_toList, beS_size 2 m (by decide) (by decide)]; rfl
  have l4 : (beS 4 t).data.toList.length = 4 := by rw [size_toList, beS_size 4 t (by decide) (by decide)]; rfl
  have l5 : (beS 2 n).data.toList.length = 2 := by rw [size_toList, beS_size 2 n (by decide) (by decide)]; rfl
  unfold okA okOne okMac at h
  obtain ⟨⟨f1, f2⟩, ⟨t1, t2⟩, ⟨m1, m2⟩, hon⟩ := h
  have ho : 0 ≤ o ∧ o ≤ 2 := by omega
  have hn : 0 ≤ n ∧ n ≤ 65534 := by omega
  have r1 := beS_round 1 o (by decide) (by decide) (by omega) (by simp; omega)
  have r2 := beS_round 4 f (by decide) (by decide) (by omega) (by simp; omega)
  have r3 := beS_round 2 m (by decide) (by decide) (by omega) (by simp; omega)
  have r4 := beS_round 4 t (by decide) (by decide) (by omega) (by simp; omega)
  have r5 := beS_round 2 n (by decide) (by decide) (by omega) (by simp; omega)
  have hL : (encA o f m t n).data.toList = (beS 1 o).data.toList ++ ((beS 4 f).data.toList ++ ((beS 2 m).data.toList ++ ((beS 4 t).data.toList ++ (beS 2 n).data.toList))) := by
    unfold encA; simp only [toList_append, List.append_assoc]
  generalize (encA o f m t n) = X at *
  generalize (beS 1 o).data.toList = A at *
  generalize (beS 4 f).data.toList = B at *
  generalize (beS 2 m).data.toList = C at *
  generalize (beS 4 t).data.toList = D at *
  generalize (beS 2 n).data.toList = G at *
  have d1 : X.data.toList.drop 1 = B ++ (C ++ (D ++ G)) := by rw [hL]; exact List.drop_left' l1
  have d5 : X.data.toList.drop 5 = C ++ (D ++ G) := by rw [show 5 = 1 + 4 from rfl, ← List.drop_drop, d1]; exact List.drop_left' l2
  have d7 : X.data.toList.drop 7 = D ++ G := by rw [show 7 = 5 + 2 from rfl, ← List.drop_drop, d5]; exact List.drop_left' l3
  have d11 : X.data.toList.drop 11 = G := by rw [show 11 = 7 + 4 from rfl, ← List.drop_drop, d7]; exact List.drop_left' l4
  unfold rdV
  refine ⟨?_, ?_, ?_, ?_, ?_⟩
  · rw [List.drop_zero, hL, List.take_left' l1]; exact r1
  · rw [d1, List.take_left' l2]; exact r2
  · rw [d5, List.take_left' l3]; exact r3
  · rw [d7, List.take_left' l4]; exact r4
  · rw [d11, List.take_of_length_le (by omega)]; exact r5

theorem decA_enc (o f m t n : Int) (h : okA o f m t n) : decA (encA o f m t n) := by
  obtain ⟨p1, p2, p3, p4, p5⟩ := encA_parts o f m t n h
  unfold decA
  rw [p1, p2, p3, p4, p5]
  exact ⟨encA_size _ _ _ _ _, h⟩

theorem cutA (L : List UInt8) : L = (((L.take 1 ++ (L.drop 1).take 4) ++ (L.drop 5).take 2) ++ (L.drop 7).take 4) ++ L.drop 11 := by
  have e1 : L.drop 11 = (L.drop 7).drop 4 := by rw [List.drop_drop]
  have e2 : L.drop 7 = (L.drop 5).drop 2 := by rw [List.drop_drop]
  have e3 : L.drop 5 = (L.drop 1).drop 4 := by rw [List.drop_drop]
  rw [e1, List.append_assoc, List.take_append_drop, List.append_assoc, e2, List.take_append_drop, List.append_assoc, e3, List.take_append_drop, List.take_append_drop]

theorem enc_decA (s : ByteArray) (h : s.size = 13) : encA (rdV s 0 1) (rdV s 1 4) (rdV s 5 2) (rdV s 7 4) (rdV s 11 2) = s := by
  have hl : s.data.toList.length = 13 := by rw [size_toList, h]
  have k1 := beS_of 1 (s.data.toList.take 1) (by decide) (by decide) (by rw [List.length_take]; omega)
  have k2 := beS_of 4 ((s.data.toList.drop 1).take 4) (by decide) (by decide) (by rw [List.length_take, List.length_drop]; omega)
  have k3 := beS_of 2 ((s.data.toList.drop 5).take 2) (by decide) (by decide) (by rw [List.length_take, List.length_drop]; omega)
  have k4 := beS_of 4 ((s.data.toList.drop 7).take 4) (by decide) (by decide) (by rw [List.length_take, List.length_drop]; omega)
  have k5 := beS_of 2 ((s.data.toList.drop 11).take 2) (by decide) (by decide) (by rw [List.length_take, List.length_drop]; omega)
  refine ba_ext ?_
  unfold encA rdV
  simp only [toList_append]
  rw [List.drop_zero, show (2 : Int) = ((2 : Nat) : Int) from rfl, show (1 : Int) = ((1 : Nat) : Int) from rfl, show (4 : Int) = ((4 : Nat) : Int) from rfl, k1, k2, k3, k4, k5, List.take_of_length_le (i := 2) (l := s.data.toList.drop 11) (by rw [List.length_drop]; omega)]
  exact (cutA _).symm
end Go.Proofs.Ytpkfjlbjahghgaa
