/- What the encoding of a frame says of its parts. No program here. -/
import Derived.Test.YtgfldbllokbnaaaDoorLkFr
import Derived.Test.YtgfldbllokbnaaaDoorRefCrc
namespace Go.Proofs.YtgfldbllokbnaaaDoor
set_option linter.unusedVariables false

theorem beVal_inj : ∀ (n : Nat) (l l' : List UInt8), l.length = n → l'.length = n → beVal l = beVal l' → l = l'
  | 0, l, l', h, h', _ => by rw [List.eq_nil_of_length_eq_zero h, List.eq_nil_of_length_eq_zero h']
  | n + 1, l, l', h, h', e => by
    have hne : l ≠ [] := by intro e0; rw [e0] at h; simp at h
    have hne' : l' ≠ [] := by intro e0; rw [e0] at h'; simp at h'
    have d := (List.dropLast_concat_getLast hne).symm
    have d' := (List.dropLast_concat_getLast hne').symm
    rw [d, d', beVal_snoc, beVal_snoc] at e
    have b1 := (l.getLast hne).toNat_lt
    have b2 := (l'.getLast hne').toNat_lt
    have i1 : beVal l.dropLast = beVal l'.dropLast := by omega
    have i2 : (l.getLast hne).toNat = (l'.getLast hne').toNat := by omega
    have := beVal_inj n l.dropLast l'.dropLast (by rw [List.length_dropLast, h]; rfl) (by rw [List.length_dropLast, h']; rfl) i1
    rw [d, d', this, UInt8.toNat_inj.1 i2]

theorem beS_of (b : Nat) (l : List UInt8) (h1 : 1 ≤ b) (h2 : b ≤ 4) (hl : l.length = b) : (beS (b : Int) (beVal l)).data.toList = l := by
  obtain ⟨c1, c2⟩ := beVal_bd b l hl
  refine beVal_inj b _ _ ?_ hl ?_
  · rw [size_toList, beS_size _ _ (by omega) (by omega)]; rfl
  · exact beS_round b _ (by omega) (by omega) c1 c2

theorem cut5 (L : List UInt8) (n : Nat) : L = (((L.take 2 ++ (L.drop 2).take 2) ++ (L.drop 4).take 1) ++ (L.drop 5).take 2) ++ ((L.drop 7).take n ++ L.drop (7 + n)) := by
  have e1 : L.drop (7 + n) = (L.drop 7).drop n := by rw [List.drop_drop]
  have e2 : L.drop 7 = (L.drop 5).drop 2 := by rw [List.drop_drop]
  have e3 : L.drop 5 = (L.drop 4).drop 1 := by rw [List.drop_drop]
  have e4 : L.drop 4 = (L.drop 2).drop 2 := by rw [List.drop_drop]
  rw [e1, List.take_append_drop, List.append_assoc, e2, List.take_append_drop, List.append_assoc, e3, List.take_append_drop, List.append_assoc, e4, List.take_append_drop, List.take_append_drop]

theorem extract_list (s : ByteArray) (i j : Nat) : (s.extract i j).data.toList = (s.data.toList.drop i).take (j - i) := by
  simp

theorem body_list (a b c : Int) (s : ByteArray) : (bodyS a b c s).data.toList = ((((beS 2 a).data.toList ++ (beS 2 b).data.toList) ++ (beS 1 c).data.toList) ++ (beS 2 (s.size : Int)).data.toList) ++ s.data.toList := by
  unfold bodyS; simp only [toList_append]
theorem body_size (a b c : Int) (s : ByteArray) : (bodyS a b c s).size = 7 + s.size := by
  have h1 := beS_size 2 a (by decide) (by decide)
  have h2 := beS_size 2 b (by decide) (by decide)
  have h3 := beS_size 1 c (by decide) (by decide)
  have h4 := beS_size 2 (s.size : Int) (by decide) (by decide)
  unfold bodyS
  simp only [ByteArray.size_append, h1, h2, h3, h4]
  simp
theorem enc_size (a b c : Int) (s : ByteArray) : (encS a b c s).size = 11 + s.size := by
  unfold encS
  rw [ByteArray.size_append, body_size, beS_size 4 _ (by decide) (by decide)]
  simp; omega

/-- the parts of an encoding -/
theorem enc_parts (a b c : Int) (s : ByteArray) (h : okF a b c s.size) :
    rdV (encS a b c s) 0 2 = a ∧ rdV (encS a b c s) 2 2 = b ∧ rdV (encS a b c s) 4 1 = c ∧ rdV (encS a b c s) 5 2 = (s.size : Int) ∧
    (encS a b c s).data.toList.take (7 + s.size) = (bodyS a b c s).data.toList ∧ rdV (encS a b c s) (7 + s.size) 4 = ((crcN (bodyS a b c s).data.toList : Nat) : Int) ∧ (encS a b c s).extract 7 (7 + s.size) = s := by
  have l1 : (beS 2 a).data.toList.length = 2 := by rw [size_toList, beS_size 2 a (by decide) (by decide)]; rfl
  have l2 : (beS 2 b).data.toList.length = 2 := by rw [size_toList, beS_size 2 b (by decide) (by decide)]; rfl
  have l3 : (beS 1 c).data.toList.length = 1 := by rw [size_toList, beS_size 1 c (by decide) (by decide)]; rfl
  have l4 : (beS 2 (s.size : Int)).data.toList.length = 2 := by rw [size_toList, beS_size 2 (s.size : Int) (by decide) (by decide)]; rfl
  have l5 : (bodyS a b c s).data.toList.length = 7 + s.size := by rw [size_toList, body_size]
  have hcl := crcN_lt (bodyS a b c s).data.toList
  have l6 : (beS 4 ((crcN (bodyS a b c s).data.toList : Nat) : Int)).data.toList.length = 4 := by rw [size_toList, beS_size 4 _ (by decide) (by decide)]; rfl
  have hL : (encS a b c s).data.toList = (bodyS a b c s).data.toList ++ (beS 4 ((crcN (bodyS a b c s).data.toList : Nat) : Int)).data.toList := by unfold encS; rw [toList_append]
  obtain ⟨a1, a2, b1, b2, hc, hn⟩ := h
  have r1 := beS_round 2 a (by decide) (by decide) (by omega) (by simp; omega)
  have r2 := beS_round 2 b (by decide) (by decide) (by omega) (by simp; omega)
  have r3 := beS_round 1 c (by decide) (by decide) (by omega) (by simp; omega)
  have r4 := beS_round 2 (s.size : Int) (by decide) (by decide) (by omega) (by simp; omega)
  have r5 := beS_round 4 ((crcN (bodyS a b c s).data.toList : Nat) : Int) (by decide) (by decide) (by omega) (by simp; omega)
  generalize (encS a b c s) = X at *
  generalize (beS 4 ((crcN (bodyS a b c s).data.toList : Nat) : Int)).data.toList = K at *
  have hL2 := hL
  rw [body_list] at hL2
  generalize (beS 2 a).data.toList = A at *
  generalize (beS 2 b).data.toList = B at *
  generalize (beS 1 c).data.toList = C at *
  generalize (beS 2 (s.size : Int)).data.toList = N at *
  have g1 : X.data.toList = A ++ (B ++ (C ++ (N ++ (s.data.toList ++ K)))) := by rw [hL2]; simp only [List.append_assoc]
  have d2 : X.data.toList.drop 2 = B ++ (C ++ (N ++ (s.data.toList ++ K))) := by rw [g1]; exact List.drop_left' l1
  have d4 : X.data.toList.drop 4 = C ++ (N ++ (s.data.toList ++ K)) := by rw [show 4 = 2 + 2 from rfl, ← List.drop_drop, d2]; exact List.drop_left' l2
  have d5 : X.data.toList.drop 5 = N ++ (s.data.toList ++ K) := by rw [show 5 = 4 + 1 from rfl, ← List.drop_drop, d4]; exact List.drop_left' l3
  have d7 : X.data.toList.drop 7 = s.data.toList ++ K := by rw [show 7 = 5 + 2 from rfl, ← List.drop_drop, d5]; exact List.drop_left' l4
  refine ⟨?_, ?_, ?_, ?_, ?_, ?_, ?_⟩
  · unfold rdV; rw [List.drop_zero, g1, List.take_left' l1]; exact r1
  · unfold rdV; rw [d2, List.take_left' l2]; exact r2
  · unfold rdV; rw [d4, List.take_left' l3]; exact r3
  · unfold rdV; rw [d5, List.take_left' l4]; exact r4
  · rw [hL, List.take_left' l5]
  · unfold rdV; rw [hL, List.drop_left' l5, List.take_of_length_le (by omega)]; exact r5
  · refine ba_ext ?_
    rw [extract_list, d7, List.take_left' (by rw [size_toList]; omega)]

theorem dec_enc (a b c : Int) (s : ByteArray) (h : okF a b c s.size) : decC (encS a b c s) := by
  obtain ⟨p1, p2, p3, p4, p5, p6, p7⟩ := enc_parts a b c s h
  have hz := enc_size a b c s
  unfold decC
  rw [hz, show 11 + s.size - 4 = 7 + s.size by omega, show 11 + s.size - 11 = s.size by omega, p1, p2, p3, p4, p5, p6]
  exact ⟨by omega, by omega, h, rfl⟩

/-- what is accepted is the encoding of what it says -/
theorem enc_dec (s : ByteArray) (h : decC s) : encS (rdV s 0 2) (rdV s 2 2) (rdV s 4 1) (s.extract 7 (s.size - 4)) = s := by
  obtain ⟨h7, hl, hv, hc⟩ := h
  have hb := rdV_bd s 5 2 (by omega)
  obtain ⟨n, hn⟩ : ∃ n, s.size = 11 + n := ⟨s.size - 11, by omega⟩
  have hlen : s.data.toList.length = 11 + n := by rw [size_toList, hn]
  have e4 : s.size - 4 = 7 + n := by omega
  rw [e4] at hc ⊢
  have hxs : (s.extract 7 (7 + n)).size = n := by rw [ByteArray.size_extract]; omega
  have hln : rdV s 5 2 = (n : Int) := by omega
  have k1 := beS_of 2 (s.data.toList.take 2) (by decide) (by decide) (by rw [List.length_take]; omega)
  have k2 := beS_of 2 ((s.data.toList.drop 2).take 2) (by decide) (by decide) (by rw [List.length_take, List.length_drop]; omega)
  have k3 := beS_of 1 ((s.data.toList.drop 4).take 1) (by decide) (by decide) (by rw [List.length_take, List.length_drop]; omega)
  have k4 := beS_of 2 ((s.data.toList.drop 5).take 2) (by decide) (by decide) (by rw [List.length_take, List.length_drop]; omega)
  have k5 := beS_of 4 ((s.data.toList.drop (7 + n)).take 4) (by decide) (by decide) (by rw [List.length_take, List.length_drop]; omega)
  have hbody : (bodyS (rdV s 0 2) (rdV s 2 2) (rdV s 4 1) (s.extract 7 (7 + n))).data.toList = s.data.toList.take (7 + n) := by
    rw [body_list, hxs, ← hln, extract_list, show 7 + n - 7 = n by omega]
    have c5 := cut5 s.data.toList n
    have : (s.data.toList.take (7 + n)) = (((s.data.toList.take 2 ++ (s.data.toList.drop 2).take 2) ++ (s.data.toList.drop 4).take 1) ++ (s.data.toList.drop 5).take 2) ++ (s.data.toList.drop 7).take n := by
      rw [← List.append_assoc] at c5
      conv => lhs; rw [c5]
      refine List.take_left' ?_
      simp only [List.length_append, List.length_take, List.length_drop]
      omega
    rw [this]
    unfold rdV
    rw [List.drop_zero]
    exact congrArg (· ++ _) (by rw [show (2 : Int) = ((2 : Nat) : Int) from rfl, show (1 : Int) = ((1 : Nat) : Int) from rfl, k1, k2, k3, k4])
  refine ba_ext ?_
  unfold encS
  rw [toList_append, hbody, ← hc]
  unfold rdV
  rw [show (4 : Int) = ((4 : Nat) : Int) from rfl, k5, List.take_of_length_le (i := 4) (l := s.data.toList.drop (7 + n)) (by rw [List.length_drop]; omega), List.take_append_drop]

/-- one byte turned: not accepted -/
theorem dec_flip (P Q : List UInt8) (x y : UInt8) (s t : ByteArray) (hs : s.data.toList = P ++ x :: Q) (ht : t.data.toList = P ++ y :: Q) (h : decC s) (h' : decC t) : x = y := by
  obtain ⟨h7, hl, -, hc⟩ := h
  obtain ⟨-, -, -, hc'⟩ := h'
  have hb := rdV_bd s 5 2 (by omega)
  have z1 : s.size = (P ++ x :: Q).length := by rw [← hs, size_toList]
  have z2 : t.size = (P ++ y :: Q).length := by rw [← ht, size_toList]
  have hz : t.size = s.size := by rw [z1, z2]; simp
  obtain ⟨n, hn⟩ : ∃ n, s.size = n + 4 := ⟨s.size - 4, by omega⟩
  rw [hz] at hc'
  rw [hn, show n + 4 - 4 = n by omega] at hc hc'
  unfold rdV at hc hc'
  rw [hs] at hc
  rw [ht] at hc'
  have hpl : (P ++ x :: Q).length = n + 4 := by rw [← z1, hn]
  simp only [List.length_append, List.length_cons] at hpl
  by_cases hp : P.length < n
  · -- the byte lies ahead of the checksum
    have q1 : ∀ z : UInt8, (P ++ z :: Q).take n = P ++ z :: Q.take (n - P.length - 1) := fun z => by
      rw [List.take_append, List.take_of_length_le (by omega), show n - P.length = (n - P.length - 1) + 1 by omega, List.take_succ_cons]; rfl
    have q2 : ∀ z : UInt8, (P ++ z :: Q).drop n = Q.drop (n - P.length - 1) := fun z => by
      rw [List.drop_append, List.drop_of_length_le (by omega), show n - P.length = (n - P.length - 1) + 1 by omega]; simp
    rw [q1, q2] at hc hc'
    rw [hc] at hc'
    exact (crc_one _ _ x y).1 (by exact_mod_cast hc')
  · -- it is one of the checksum's
    have q1 : ∀ z : UInt8, (P ++ z :: Q).take n = P.take n := fun z => by rw [List.take_append_of_le_length (by omega)]
    have q2 : ∀ z : UInt8, (P ++ z :: Q).drop n = P.drop n ++ z :: Q := fun z => by rw [List.drop_append_of_le_length (by omega)]
    rw [q1, q2] at hc hc'
    rw [← hc'] at hc
    have l1 : ∀ z : UInt8, (P.drop n ++ z :: Q).length = 4 := fun z => by simp only [List.length_append, List.length_drop, List.length_cons]; omega
    rw [List.take_of_length_le (by rw [l1]; omega), List.take_of_length_le (by rw [l1]; omega)] at hc
    have := beVal_inj 4 _ _ (l1 x) (l1 y) hc
    have := List.append_cancel_left this
    exact (List.cons.inj this).1

/-- another length: not accepted -/
theorem dec_len (s t : ByteArray) (h : decC s) (k : Nat) (hst : s.data.toList.take k = t.data.toList.take k) (hne : t.size ≠ s.size) (hks : k = t.size ∨ k = s.size) : ¬ decC t := by
  intro h'
  obtain ⟨h7, hl, -, -⟩ := h
  obtain ⟨h7', hl', -, -⟩ := h'
  have hk7 : 7 ≤ k := by omega
  have : rdV s 5 2 = rdV t 5 2 := by
    unfold rdV
    have e : ∀ L : List UInt8, (L.drop 5).take 2 = ((L.take k).drop 5).take 2 := fun L => by
      rw [List.drop_take, List.take_take, Nat.min_eq_left (by omega)]
    rw [e s.data.toList, e t.data.toList, hst]
  omega
end Go.Proofs.YtgfldbllokbnaaaDoor
