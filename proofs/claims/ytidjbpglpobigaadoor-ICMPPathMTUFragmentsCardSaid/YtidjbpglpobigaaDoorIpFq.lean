/- What is true of the fragments of a datagram. No program here. -/
import Derived.Test.YtidjbpglpobigaaDoorIpFg
import Derived.Test.YtidjbpglpobigaaDoorIpQ
namespace Go.Proofs.YtidjbpglpobigaaDoor
open Go.RowKit
set_option linter.unusedVariables false

def catP (L : List Pk) : ByteArray := L.foldl (fun s p => s ++ p.s) ByteArray.empty
theorem catP_snoc (L : List Pk) (p : Pk) : catP (L ++ [p]) = catP L ++ p.s := by simp [catP]
theorem catP_nil : catP [] = ByteArray.empty := rfl

/-- the n-th fragment of a list of them, against the datagram -/
structure FrOk (p : Pk) (n : Int) (L : List Pk) (i : Nat) (Q : Pk) : Prop where
  at' : L[i]? = some Q
  ok : okW Q Q.s.size
  fits : (Q.s.size : Int) + 20 ≤ n
  off : Q.off = p.off + ((catP (L.take i)).size : Int)
  mf : Q.mf = (p.mf || decide (i + 1 < L.length))
  same : Q = ⟨p.fr, p.to, p.pr, p.tt, p.id, p.df, Q.mf, Q.off, Q.s⟩
  next : catP (L.take (i + 1)) = catP (L.take i) ++ Q.s
structure FrAll (p : Pk) (n : Int) (L : List Pk) : Prop where
  some : 1 ≤ L.length
  few : L.length ≤ 4001
  each : ∀ i, i < L.length → ∃ Q, FrOk p n L i Q
  all : catP L = p.s
  one : L.length = 1 ↔ (p.s.size : Int) + 20 ≤ n
  sub : ∀ i, i ≤ L.length → (catP (L.take i)).size ≤ p.s.size

theorem take_at {L : List Pk} {i : Nat} {Q : Pk} (h : L[i]? = some Q) : L.take (i + 1) = L.take i ++ [Q] := by
  rw [List.take_add_one, h]; rfl

theorem cat_pieces (p : Pk) (N : Nat) : ∀ k, k ≤ frN p N → (∀ j, j < k → j * N + N ≤ p.s.size) → catP ((frL p N).take k) = p.s.extract 0 (k * N)
  | 0, _, _ => by rw [List.take_zero, catP_nil]; refine (ba_ext ?_).symm; rw [extract_list]; simp
  | k + 1, hk, hj => by
    have ih := cat_pieces p N k (by omega) (fun j h => hj j (by omega))
    have hs := hj k (by omega)
    rw [frL_take p N k (by omega), catP_snoc, ih]
    refine ba_ext ?_
    show (p.s.extract 0 (k * N) ++ p.s.extract (k * N) (k * N + N)).data.toList = _
    rw [toList_append, extract_list, extract_list, extract_list, List.drop_zero, Nat.sub_zero, Nat.sub_zero, show k * N + N - k * N = N by omega, ← List.take_add, Nat.add_mul, Nat.one_mul]

theorem frag_all (p : Pk) (n : Int) (h : okW p p.s.size) (hdf : p.df = false) (hn : 68 ≤ n) : FrAll p n (fgL p n) ∧ fgE p n = 0 := by
  have hP := h.2.2.2.1
  have hD := h.2.2.2.2
  have hL : fgL p n = if (p.s.size : Int) ≤ n - 20 then [p] else frL p (fgN n) := by
    unfold fgL; rw [if_neg (by simpa using h), if_neg (by omega), hdf]; simp
  have hE : fgE p n = 0 := by
    unfold fgE; rw [if_neg (by simpa using h), if_neg (by omega), hdf]; simp
  refine ⟨?_, hE⟩
  by_cases hfit : (p.s.size : Int) ≤ n - 20
  · rw [hL, if_pos hfit]
    refine ⟨by simp, by simp, ?_, by simp [catP], ⟨fun _ => by omega, fun _ => rfl⟩, ?_⟩
    · intro i hi
      obtain rfl : i = 0 := by simp at hi; exact hi
      refine ⟨p, rfl, h, by omega, ?_, by simp, rfl, ?_⟩
      · rw [List.take_zero, catP_nil]; simp
      · simp [catP]
    · intro i hi
      rcases Nat.lt_or_ge i 1 with h1 | h1
      · obtain rfl : i = 0 := by omega
        rw [List.take_zero, catP_nil]; simp
      · rw [List.take_of_length_le (by simpa using h1)]; simp [catP]
  · rw [hL, if_neg hfit]
    obtain ⟨N, hN⟩ : ∃ N, fgN n = N := ⟨_, rfl⟩
    rw [hN]
    have hNI : (N : Int) = n - 20 - (n - 20) % 8 := by rw [← hN]; unfold fgN; omega
    have h48 : 48 ≤ N := by omega
    have hN8 : N % 8 = 0 := by omega
    have hNs : N < p.s.size := by omega
    unfold okP at hP
    have hm := frL_len p N
    have hiff := fun k => frN_iff p N k (by omega)
    have hlast : frN p N * N < p.s.size ∧ p.s.size ≤ frN p N * N + N := by
      refine ⟨?_, ?_⟩
      · rcases Nat.lt_or_ge (frN p N) 1 with h1 | h1
        · have : frN p N = 0 := by omega
          rw [this]; omega
        · have := (hiff (frN p N - 1)).1 (by omega)
          have e : (frN p N - 1) * N + N = frN p N * N := by rw [← Nat.succ_mul]; congr 1; omega
          omega
      · have := mt (hiff (frN p N)).2 (by omega)
        omega
    have hcat : ∀ k, k ≤ frN p N → catP ((frL p N).take k) = p.s.extract 0 (k * N) := fun k hk => cat_pieces p N k hk (fun j hj => by have := (hiff j).1 (by omega); omega)
    have hle : ∀ k, k ≤ frN p N → k * N < p.s.size := fun k hk => Nat.lt_of_le_of_lt (Nat.mul_le_mul_right N hk) hlast.1
    have hcs : ∀ k, k ≤ frN p N → (catP ((frL p N).take k)).size = k * N := fun k hk => by
      rw [hcat k hk, ByteArray.size_extract]; have := hle k hk; omega
    have hall : catP (frL p N) = p.s := by
      rw [frL_last, catP_snoc, hcat _ (Nat.le_refl _)]
      refine ba_ext ?_
      show (p.s.extract 0 (frN p N * N) ++ p.s.extract (frN p N * N) p.s.size).data.toList = _
      rw [toList_append, extract_list, extract_list, List.drop_zero, Nat.sub_zero, List.take_of_length_le (l := p.s.data.toList.drop (frN p N * N)) (by rw [List.length_drop, size_toList]; exact Nat.le_refl _), List.take_append_drop]
    have hN1 : 1 ≤ frN p N := by
      have := (hiff 0).2 (by omega); omega
    have h8 : ∀ k : Nat, (k * N) % 8 = 0 := fun k => by rw [Nat.mul_mod, hN8]; simp
    refine ⟨by omega, ?_, ?_, hall, ⟨fun e => by omega, fun e => by omega⟩, ?_⟩
    · rw [hm]
      have : frN p N ≤ p.s.size := by unfold frN; exact Nat.le_trans (Nat.div_le_self _ _) (Nat.sub_le _ _)
      omega
    · intro i hi
      rw [hm] at hi
      rcases Nat.lt_or_ge i (frN p N) with h1 | h1
      · have hb := (hiff i).1 h1
        have hk8 := h8 i
        refine ⟨frP p N i, ?_, ?_, ?_, ?_, ?_, rfl, ?_⟩
        · unfold frL; rw [List.getElem?_append_left (by simpa using h1)]; simp [h1]
        · have hsz : (frP p N i).s.size = N := by show (p.s.extract (i * N) (i * N + N)).size = N; rw [ByteArray.size_extract]; omega
          rw [hsz]
          refine ⟨h.1, h.2.1, h.2.2.1, ⟨?_, ?_, ?_⟩, .inr ⟨hdf, by omega, .inl (by omega)⟩⟩
          · show 0 ≤ p.off + ((i * N : Nat) : Int); omega
          · show p.off + ((i * N : Nat) : Int) ≤ 4000 - (N : Int); omega
          · show (p.off + ((i * N : Nat) : Int)) % 8 = 0; omega
        · have hsz : (frP p N i).s.size = N := by show (p.s.extract (i * N) (i * N + N)).size = N; rw [ByteArray.size_extract]; omega
          rw [hsz]; omega
        · rw [hcs i (by omega)]; rfl
        · show true = _; rw [hm]; simp; right; omega
        · rw [frL_take p N i h1, catP_snoc]
      · obtain rfl : i = frN p N := by omega
        have hk8 := h8 (frN p N)
        have hsz : (frR p N (frN p N)).s.size = p.s.size - frN p N * N := by show (p.s.extract _ p.s.size).size = _; rw [ByteArray.size_extract]; omega
        have hat : (frL p N)[frN p N]? = some (frR p N (frN p N)) := by unfold frL; rw [List.getElem?_append_right (by simp)]; simp
        refine ⟨frR p N (frN p N), hat, ?_, ?_, ?_, ?_, rfl, ?_⟩
        · rw [hsz]
          refine ⟨h.1, h.2.1, h.2.2.1, ⟨?_, ?_, ?_⟩, .inr ⟨hdf, by omega, ?_⟩⟩
          · show 0 ≤ p.off + ((frN p N * N : Nat) : Int); omega
          · show p.off + ((frN p N * N : Nat) : Int) ≤ 4000 - ((p.s.size - frN p N * N : Nat) : Int); omega
          · show (p.off + ((frN p N * N : Nat) : Int)) % 8 = 0; omega
          · unfold okD at hD
            rcases hD with ⟨hmf, -⟩ | ⟨-, -, h8' | hmf⟩
            · exact .inr hmf
            · exact .inl (by omega)
            · exact .inr hmf
        · rw [hsz]; omega
        · rw [hcs _ (Nat.le_refl _)]; rfl
        · show p.mf = _; rw [hm]; simp
        · rw [take_at hat, catP_snoc]
    · intro i hi
      rw [hm] at hi
      rcases Nat.lt_or_ge i (frN p N + 1) with h1 | h1
      · rw [hcs i (by omega)]; have := hle i (by omega); omega
      · rw [List.take_of_length_le (by omega), hall]; exact Nat.le_refl _

theorem flatP_at : ∀ (L : List Pk) (i : Nat) (Q : Pk), L[i]? = some Q → ∀ c, c < 9 → (flatP L)[i * 9 + c]? = (pcl Q)[c]?
  | [], i, Q, h, c, hc => by simp at h
  | p :: L, 0, Q, h, c, hc => by
    simp at h; subst h
    rw [show flatP (p :: L) = pcl p ++ flatP L from by simp [flatP], Nat.zero_mul, Nat.zero_add, List.getElem?_append_left (by simpa using hc)]
  | p :: L, i + 1, Q, h, c, hc => by
    have ih := flatP_at L i Q (by simpa using h) c hc
    rw [show flatP (p :: L) = pcl p ++ flatP L from by simp [flatP], List.getElem?_append_right (by simp; omega), ← ih]
    congr 1
    simp; omega
end Go.Proofs.YtidjbpglpobigaaDoor
