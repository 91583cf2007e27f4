/- Parse undoes Format, ParsePrefix undoes FormatPrefix: on lists of bytes. -/
import Derived.Test.YtobcecnmeepjpaaDoorDom
namespace Go.Proofs.YtobcecnmeepjpaaDoor
open Go.RowKit
set_option linter.unusedVariables false

theorem ib_app (c : UInt8) : ∀ (l r : List UInt8), c ∉ l → Lib.indexByte (l ++ c :: r) c = l.length
  | [], r, _ => by simp [Lib.indexByte]
  | b :: l, r, h => by
    have hb : ¬ b = c := fun e => h (by rw [e]; exact List.mem_cons_self ..)
    have ih := ib_app c l r (fun hm => h (List.mem_cons_of_mem _ hm))
    have hne : ¬ ((l.length : Int) = -1) := by omega
    simp [Lib.indexByte, hb, ih, hne]
theorem ib_none (c : UInt8) : ∀ (l : List UInt8), c ∉ l → Lib.indexByte l c = -1
  | [], _ => by simp [Lib.indexByte]
  | b :: l, h => by
    have hb : ¬ b = c := fun e => h (by rw [e]; exact List.mem_cons_self ..)
    have ih := ib_none c l (fun hm => h (List.mem_cons_of_mem _ hm))
    simp [Lib.indexByte, hb, ih]
theorem split_hit (c : UInt8) (k : Nat) (a r : List UInt8) (h : c ∉ a) : Lib.splitK [c] 0 (k + 1) (a ++ c :: r) = a :: Lib.splitK [c] 0 k r := by
  have hi : Lib.index (a ++ c :: r) [c] = a.length := by rw [Lib.index_one, ib_app c a r h]
  have hne : ¬ ((a.length : Int) == -1) = true := by simp
  rw [Lib.splitK, hi, if_neg hne]
  simp
theorem split_end (c : UInt8) (k : Nat) (a : List UInt8) (h : c ∉ a) : Lib.splitK [c] 0 k a = [a] := by
  cases k with
  | zero => rfl
  | succ k =>
    rw [Lib.splitK, Lib.index_one, ib_none c a h]; rfl

theorem itoa_facts (n : Int) (h : 0 ≤ n) (h2 : n ≤ 255) : numZ (Lib.itoa n) 255 = some n ∧ (46 : UInt8) ∉ Lib.itoa n ∧ (47 : UInt8) ∉ Lib.itoa n := by
  have hd : ∀ k : Nat, k < 256 → numZ (Lib.itoa (k : Int)) 255 = some (k : Int) ∧ (46 : UInt8) ∉ Lib.itoa (k : Int) ∧ (47 : UInt8) ∉ Lib.itoa (k : Int) := by decide +kernel
  have := hd n.toNat (by omega)
  rwa [Int.toNat_of_nonneg h] at this
theorem bits_fact (n : Int) (h : 0 ≤ n) (h2 : n ≤ 32) : numZ (Lib.itoa n) 32 = some n := by
  have hd : ∀ k : Nat, k < 33 → numZ (Lib.itoa (k : Int)) 32 = some (k : Int) := by decide +kernel
  have := hd n.toNat (by omega)
  rwa [Int.toNat_of_nonneg h] at this

theorem parse_fmt (x : Int) (h : 0 ≤ x) (h2 : x ≤ 4294967295) : parseL ⟨(fmtL x).toArray⟩ = some x := by
  obtain ⟨n0, n1, n2, n3, e0, e1, e2, e3⟩ : ∃ n0 n1 n2 n3, x / 16777216 % 256 = n0 ∧ x / 65536 % 256 = n1 ∧ x / 256 % 256 = n2 ∧ x % 256 = n3 := ⟨_, _, _, _, rfl, rfl, rfl, rfl⟩
  obtain ⟨a0, a1, -⟩ := itoa_facts n0 (by omega) (by omega)
  obtain ⟨b0, b1, -⟩ := itoa_facts n1 (by omega) (by omega)
  obtain ⟨c0, c1, -⟩ := itoa_facts n2 (by omega) (by omega)
  obtain ⟨d0, d1, -⟩ := itoa_facts n3 (by omega) (by omega)
  have l0 := itoa_len n0 (by omega) (by omega)
  have l1 := itoa_len n1 (by omega) (by omega)
  have l2 := itoa_len n2 (by omega) (by omega)
  have l3 := itoa_len n3 (by omega) (by omega)
  have hf : fmtL x = Lib.itoa n0 ++ 46 :: (Lib.itoa n1 ++ 46 :: (Lib.itoa n2 ++ 46 :: Lib.itoa n3)) := by
    unfold fmtL; rw [e0, e1, e2, e3, join4]; rfl
  have hlen : 4 ≤ (fmtL x).length := by rw [hf]; simp only [List.length_append, List.length_cons]; omega
  have hs : (fieldsOf ⟨(fmtL x).toArray⟩).map (·.data.toList) = [Lib.itoa n0, Lib.itoa n1, Lib.itoa n2, Lib.itoa n3] := by
    unfold fieldsOf
    rw [Lib.splitB_data, size_mk, show min 5 ((fmtL x).length + 1) - 1 = 4 by omega]
    show Lib.splitK [46] 0 4 (fmtL x) = _
    rw [hf, split_hit 46 3 _ _ a1, split_hit 46 2 _ _ b1, split_hit 46 1 _ _ c1, split_end 46 1 _ d1]
  have h4 : (fieldsOf ⟨(fmtL x).toArray⟩).length = 4 := by rw [← List.length_map (f := (·.data.toList)), hs]; rfl
  unfold parseL
  rw [if_pos h4, hs, joinL_some a0, joinL_some b0, joinL_some c0, joinL_some d0]
  show some _ = some x
  congr 1
  omega

theorem fmt_no_slash (x : Int) (h : 0 ≤ x) (h2 : x ≤ 4294967295) : (47 : UInt8) ∉ fmtL x := by
  have a := (itoa_facts (x / 16777216 % 256) (by omega) (by omega)).2.2
  have b := (itoa_facts (x / 65536 % 256) (by omega) (by omega)).2.2
  have c := (itoa_facts (x / 256 % 256) (by omega) (by omega)).2.2
  have d := (itoa_facts (x % 256) (by omega) (by omega)).2.2
  unfold fmtL
  rw [join4]
  simp [a, b, c, d]

theorem pp_fmt (A B : Int) (h : vpZ A B = true) : ppL ⟨(fmtPL A B).toArray⟩ = some (A, B) := by
  obtain ⟨h1, h2, h3, h4⟩ := vpZ_bd h
  have hi : Lib.index (fmtL A ++ 47 :: Lib.itoa B) [47] = (fmtL A).length := by rw [Lib.index_one, ib_app 47 _ _ (fmt_no_slash A h1 h2)]
  have hc : Lib.cut (fmtPL A B) [47] = (fmtL A, Lib.itoa B, true) := by
    unfold Lib.cut fmtPL
    rw [hi, if_pos (by omega)]
    simp
  have ha : cutA ⟨(fmtPL A B).toArray⟩ = ⟨(fmtL A).toArray⟩ := by unfold cutA; simp only [hc]
  have hb : cutB ⟨(fmtPL A B).toArray⟩ = ⟨(Lib.itoa B).toArray⟩ := by unfold cutB; simp only [hc]
  rw [ppL_both (v := A) (n := B) (by rw [ha]; exact parse_fmt A h1 h2) (by rw [hb]; exact bits_fact B h3 h4), if_pos h]

theorem fmt_inj {x y : Int} (h : 0 ≤ x) (h2 : x ≤ 4294967295) (k : 0 ≤ y) (k2 : y ≤ 4294967295) (e : (ByteArray.mk (fmtL x).toArray) = ⟨(fmtL y).toArray⟩) : x = y := by
  have := parse_fmt x h h2
  rw [e, parse_fmt y k k2] at this
  exact (Option.some.inj this).symm
theorem fp_inj {A B C D : Int} (h : vpZ A B = true) (k : vpZ C D = true) (e : (ByteArray.mk (fmtPL A B).toArray) = ⟨(fmtPL C D).toArray⟩) : A = C ∧ B = D := by
  have := pp_fmt A B h
  rw [e, pp_fmt C D k] at this
  have := Option.some.inj this
  simp only [Prod.mk.injEq] at this
  exact ⟨this.1.symm, this.2.symm⟩
end Go.Proofs.YtobcecnmeepjpaaDoor
