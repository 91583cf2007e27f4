/- What the answers of Lookup have to do with one another: no walk here. -/
import Derived.Test.YtgfcpimklmgnbaaRoN
namespace Go.Proofs.Ytgfcpimklmgnbaa
set_option linter.unusedVariables false

theorem best_spec (l : List Ro) : (bestC l = none ∧ l = []) ∨ ∃ c, bestC l = some c ∧ c ∈ l ∧ ∀ x, x ∈ l → x.nb ≤ c.nb := by
  have : ∀ (l : List Ro) (o : Option Ro), (l.foldl stepC o = none ∧ l = [] ∧ o = none) ∨ ∃ c, l.foldl stepC o = some c ∧ (c ∈ l ∨ o = some c) ∧ (∀ x, x ∈ l → x.nb ≤ c.nb) ∧ (∀ x, o = some x → x.nb ≤ c.nb) := by
    intro l
    induction l with
    | nil =>
      intro o
      cases o with
      | none => exact .inl ⟨rfl, rfl, rfl⟩
      | some c => exact .inr ⟨c, rfl, .inr rfl, fun x hx => by simp at hx, fun x hx => by cases hx; exact Int.le_refl _⟩
    | cons a r ih =>
      intro o
      obtain ⟨s, hs, hs2⟩ : ∃ s, stepC o a = some s ∧ ((s = a ∧ ∀ x, o = some x → x.nb ≤ a.nb) ∨ (o = some s ∧ a.nb ≤ s.nb)) := by
        cases o with
        | none => exact ⟨a, rfl, .inl ⟨rfl, fun x hx => by cases hx⟩⟩
        | some c =>
          by_cases h : c.nb < a.nb
          · exact ⟨a, by simp [stepC, h], .inl ⟨rfl, fun x hx => by cases hx; omega⟩⟩
          · exact ⟨c, by simp [stepC, h], .inr ⟨rfl, by omega⟩⟩
      rcases ih (some s) with ⟨-, -, h⟩ | ⟨c, h1, h2, h3, h4⟩
      · cases h
      · have hsc := h4 s rfl
        refine .inr ⟨c, by rw [List.foldl_cons, hs]; exact h1, ?_, ?_, ?_⟩
        · rcases h2 with h2 | h2
          · exact .inl (List.mem_cons_of_mem _ h2)
          · cases h2
            rcases hs2 with ⟨rfl, -⟩ | ⟨ho, -⟩
            · exact .inl (List.mem_cons_self ..)
            · exact .inr ho
        · intro x hx
          rcases List.mem_cons.1 hx with rfl | hx
          · rcases hs2 with ⟨rfl, -⟩ | ⟨-, h5⟩
            · exact hsc
            · omega
          · exact h3 x hx
        · intro x hx
          rcases hs2 with ⟨rfl, h5⟩ | ⟨ho, h5⟩
          · have := h5 x hx; omega
          · rw [ho] at hx; cases hx; exact hsc
  rcases this l none with ⟨h1, h2, -⟩ | ⟨c, h1, h2, h3, -⟩
  · exact .inl ⟨h1, h2⟩
  · rcases h2 with h2 | h2
    · exact .inr ⟨c, h1, h2, h3⟩
    · cases h2

/-- who the candidates are -/
theorem mem_cand {fs : List Fc} {rs : List Ro} {to : Int} {c : Ro} : c ∈ candL fs rs to ↔ (∃ (i : Nat) (f : Fc), fs[i]? = some f ∧ contZ f.na f.nb to = true ∧ c = ⟨f.na, f.nb, 0, (i : Int)⟩) ∨ (c ∈ rs ∧ contZ c.na c.nb to = true) := by
  unfold candL candF candR
  rw [List.mem_append, List.take_of_length_le (by simp), List.take_length, List.mem_filter, List.mem_map]
  constructor
  · rintro (⟨⟨f, i⟩, h1, rfl⟩ | h)
    · rw [List.mem_filter, List.mem_zipIdx_iff_getElem?] at h1
      exact .inl ⟨i, f, h1.1, h1.2, rfl⟩
    · exact .inr h
  · rintro (⟨i, f, h1, h2, rfl⟩ | h)
    · exact .inl ⟨(f, i), by rw [List.mem_filter, List.mem_zipIdx_iff_getElem?]; exact ⟨h1, h2⟩, rfl⟩
    · exact .inr h

theorem GoodF.cont {i : Nat} {f : Fc} (h : GoodF i f) (hi : i < 4) (q : Int) (hq : 0 ≤ q) (hq2 : q < szZ f.nb) : contZ f.na f.nb (f.na + q) = true := by
  have ha := h.addr_bd hi
  obtain ⟨-, -, -, hnb, hna, -, -⟩ := h
  rw [hna]
  refine contZ_net (by omega) (by omega) (by unfold okB; omega) hq hq2 ?_
  have : szZ f.nb ≤ 16777216 := by rcases hnb with e | e | e | e <;> (rw [e]; decide)
  omega
theorem GoodF.ok {i : Nat} {f : Fc} (h : GoodF i f) (hi : i < 4) : okF f = true := by
  have ha := h.addr_bd hi
  have hc : contZ f.na f.nb f.addr = true := by
    have hs := h.2.2.2.1
    have hb := sz_bd f.nb (by omega) (by omega)
    have h1 := Int.emod_nonneg f.addr (b := szZ f.nb) (by omega)
    have h2 := Int.emod_lt_of_pos f.addr (b := szZ f.nb) (by omega)
    have := h.cont hi (f.addr % szZ f.nb) h1 h2
    rw [h.2.2.2.2.1] at this ⊢
    rw [show netZ f.addr f.nb + f.addr % szZ f.nb = f.addr by unfold netZ; omega] at this
    exact this
  obtain ⟨-, h1, h2, hnb, hna, h3, h4⟩ := h
  unfold okF
  rw [hc]
  simp only [uni, Bool.true_and, Bool.and_eq_true, decide_eq_true_eq]
  omega
theorem GoodFs.loc {fs : List Fc} (h : GoodFs fs) {i : Nat} {f : Fc} (hf : fs[i]? = some f) : locN fs f.addr = some i := by
  refine locN_some hf rfl fun j g hj hg e => ?_
  obtain ⟨⟨p1, p2, p3, h1, h2, h3, h4, h5, h6, h7⟩, -⟩ := h.2 i f hf
  obtain ⟨⟨q1, q2, q3, g1, g2, g3, g4, g5, g6, g7⟩, -⟩ := h.2 j g hg
  have := (List.getElem?_eq_some_iff.1 hf).1
  have := h.1
  omega
theorem good_check {fs : List Fc} {rs : List Ro} (h : GoodFs fs) (h1 : 1 ≤ fs.length) (hr : rs.length ≤ 16) (hok : ∀ r, r ∈ rs → okR fs r = true) : checkP fs rs = true ∧ chE fs rs = 0 := by
  refine check_yes h1 h.1 hr (fun i f hi hf => ⟨(h.2 i f hf).ok (by have := h.1; omega), ?_⟩) (fun i r hi hr => hok r (List.mem_of_getElem? hr))
  unfold locI; rw [h.loc hf]
theorem loc_yes {fs : List Fc} (h : GoodFs fs) {i : Nat} {f : Fc} (hf : fs[i]? = some f) : locI fs f.addr = (i : Int) ∧ locB fs f.addr = true := by
  unfold locI locB; rw [h.loc hf]; exact ⟨rfl, rfl⟩

/-- what Lookup answers where the tables are good and the destination is an address -/
theorem look_good {fs : List Fc} {rs : List Ro} {to : Int} (h : checkP fs rs = true) (hu : uni to = true) :
    (lookP fs rs to = (0, 0, 91) ∧ candL fs rs to = []) ∨ ∃ c, c ∈ candL fs rs to ∧ bestC (candL fs rs to) = some c ∧ lookP fs rs to = (c.face, (if c.via = 0 then to else c.via), 0) ∧ ∀ x, x ∈ candL fs rs to → x.nb ≤ c.nb := by
  rcases best_spec (candL fs rs to) with ⟨h1, h2⟩ | ⟨c, h1, h2, h3⟩
  · exact .inl ⟨by unfold lookP; simp [h, hu, h1], h2⟩
  · exact .inr ⟨c, h2, h1, by unfold lookP; simp [h, hu, h1], h3⟩

/-- without routes: directly, over an interface at least as long -/
theorem onlink {fs : List Fc} (h : GoodFs fs) {k : Nat} {f : Fc} (hf : fs[k]? = some f) {a : Int} (ha : 1 ≤ a) (ha2 : a ≤ 4294967294) (hc : contZ f.na f.nb a = true) :
    ∃ (i : Nat) (e : Fc), fs[i]? = some e ∧ lookP fs [] a = ((i : Int), a, 0) ∧ contZ e.na e.nb a = true ∧ f.nb ≤ e.nb := by
  have hl := (List.getElem?_eq_some_iff.1 hf).1
  have hck := (good_check (rs := []) h (by omega) (by simp) (by simp)).1
  have hu : uni a = true := by simp only [uni, Bool.and_eq_true, decide_eq_true_eq]; omega
  have hin : (⟨f.na, f.nb, 0, (k : Int)⟩ : Ro) ∈ candL fs [] a := mem_cand.2 (.inl ⟨k, f, hf, hc, rfl⟩)
  rcases look_good hck hu with ⟨-, h2⟩ | ⟨c, h1, -, h3, h4⟩
  · rw [h2] at hin; simp at hin
  · rcases mem_cand.1 h1 with ⟨i, e, he, hce, rfl⟩ | ⟨hm, -⟩
    · exact ⟨i, e, he, by rw [h3]; simp, hce, h4 _ hin⟩
    · simp at hm
end Go.Proofs.Ytgfcpimklmgnbaa
