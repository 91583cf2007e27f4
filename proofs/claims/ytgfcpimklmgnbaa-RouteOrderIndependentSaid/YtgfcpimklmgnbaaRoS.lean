/- A host's own route; the order of routes: no walk here. -/
import Derived.Test.YtgfcpimklmgnbaaRoQ
namespace Go.Proofs.Ytgfcpimklmgnbaa
set_option linter.unusedVariables false

/-- the host route is good, and chosen for its own address alone -/
theorem host_ok {fs : List Fc} {rs : List Ro} {k : Nat} {f : Fc} {a via : Int} (hg : GoodFs fs) (h1 : 1 ≤ fs.length) (hr : GoodRs fs rs) (hf : fs[k]? = some f) (ha : 184549376 ≤ a) (ha2 : a ≤ 184550375)
    (hv : via = 0 ∨ ∃ q, 0 ≤ q ∧ q < szZ f.nb ∧ q ≤ 16 ∧ via = f.na + q ∧ locB fs via = false) :
    checkP fs (rs ++ [⟨a, 32, via, (k : Int)⟩]) = true := by
  refine (good_check hg h1 (by have := hr.1; simp; omega) (fun r h => ?_)).1
  rcases List.mem_append.1 h with h | h
  · exact (hr.2 r h).1
  · obtain rfl : r = ⟨a, 32, via, (k : Int)⟩ := by simpa using h
    have hl := (List.getElem?_eq_some_iff.1 hf).1
    have hgf := hg.2 k f hf
    have hs32 : szZ 32 = 1 := by decide
    rw [okR_in (by rw [vpZ_in (by show 0 ≤ a; omega) (by show a ≤ _; omega) (by show (0 : Int) ≤ 32; decide) (by show (32 : Int) ≤ 32; decide)]; show (a % szZ 32 == 0) = true; rw [hs32]; simp [Int.emod_one]) (by show (0 : Int) ≤ (k : Int); omega) (by show (k : Int) < _; omega)]
    unfold okVia
    rw [netOf_at hf]
    rcases hv with rfl | ⟨q, h1, h2, h3, rfl, h4⟩
    · rfl
    · have hc := hgf.cont (by have := hg.1; omega) q h1 h2
      have hk4 : k < 4 := by have := hg.1; omega
      have hb := hgf.addr_bd hk4
      have hna : 0 ≤ f.na ∧ f.na ≤ f.addr := by
        have := netZ_bd (a := f.addr) (b := f.nb) (by omega) (by have := hgf.2.2.2.1; unfold okB; omega)
        rw [hgf.2.2.2.2.1]; exact this
      have hu : uni (f.na + q) = true := by
        have h9 : 167772160 ≤ f.na := by
          rw [hgf.2.2.2.2.1]; unfold netZ
          rcases hgf.2.2.2.1 with e | e | e | e
          · rw [e, show szZ 8 = 16777216 from by decide]; omega
          · rw [e, show szZ 16 = 65536 from by decide]; omega
          · rw [e, show szZ 24 = 256 from by decide]; omega
          · rw [e, show szZ 28 = 16 from by decide]; omega
        simp only [uni, Bool.and_eq_true, decide_eq_true_eq]; omega
      simp only [hc, h4, hu]; simp
theorem cont32 {a b : Int} (h : contZ a 32 b = true) : b = a := by
  unfold contZ at h
  rw [show szZ 32 = 1 by decide] at h
  simp only [Bool.and_eq_true, beq_iff_eq] at h
  have := h.2.2
  omega
theorem host_self {fs : List Fc} {rs : List Ro} {k : Nat} {a via : Int} (hg : GoodFs fs) (hr : GoodRs fs rs) (ha : 184549376 ≤ a) (ha2 : a ≤ 184550375)
    (hck : checkP fs (rs ++ [⟨a, 32, via, (k : Int)⟩]) = true) : lookP fs (rs ++ [⟨a, 32, via, (k : Int)⟩]) a = ((k : Int), (if via = 0 then a else via), 0) := by
  have hu : uni a = true := by simp only [uni, Bool.and_eq_true, decide_eq_true_eq]; omega
  have hc32 : contZ a 32 a = true := by
    unfold contZ
    rw [show szZ 32 = 1 by decide, vpZ_in (by omega) (by omega) (by decide) (by decide), show szZ 32 = 1 by decide]
    simp [validZ]; omega
  have hin : (⟨a, 32, via, (k : Int)⟩ : Ro) ∈ candL fs (rs ++ [⟨a, 32, via, (k : Int)⟩]) a := mem_cand.2 (.inr ⟨by simp, hc32⟩)
  rcases look_good hck hu with ⟨-, h2⟩ | ⟨c, h1, -, h3, h4⟩
  · rw [h2] at hin; simp at hin
  · have h32 := h4 _ hin
    simp only at h32
    rcases mem_cand.1 h1 with ⟨i, f, hf, hcf, rfl⟩ | ⟨hm, hcc⟩
    · have := (hg.2 i f hf).2.2.2.1
      simp only at h32; omega
    · have hn := contZ_nb hcc
      rcases List.mem_append.1 hm with hm | hm
      · have hg9 := hr.2 c hm
        have e : c.nb = 32 := by omega
        rw [e] at hcc
        have := cont32 hcc
        have := hg9.2.2.1
        omega
      · obtain rfl : c = ⟨a, 32, via, (k : Int)⟩ := by simpa using hm
        exact h3
theorem host_other {fs : List Fc} {rs : List Ro} {k : Nat} {a b via : Int} (hab : b ≠ a) (hck : checkP fs (rs ++ [⟨a, 32, via, (k : Int)⟩]) = true) (hck0 : checkP fs rs = true) :
    lookP fs (rs ++ [⟨a, 32, via, (k : Int)⟩]) b = lookP fs rs b := by
  have hc : contZ a 32 b = false := by
    rw [← Bool.not_eq_true]; intro h; exact hab (cont32 h)
  have : candL fs (rs ++ [⟨a, 32, via, (k : Int)⟩]) b = candL fs rs b := by
    unfold candL candR
    rw [List.take_length, List.take_length, List.filter_append]
    simp [hc]
  unfold lookP
  rw [hck, hck0, this]

/-- the best of l and what was best ahead of it -/
theorem fold_spec (l : List Ro) (o : Option Ro) : (l.foldl stepC o = none ∧ l = [] ∧ o = none) ∨ ∃ c, l.foldl stepC o = some c ∧ ((c ∈ l ∧ ∀ x, o = some x → x.nb < c.nb) ∨ o = some c) ∧ ∀ x, x ∈ l → x.nb ≤ c.nb := by
  induction l generalizing o with
  | nil =>
    cases o with
    | none => exact .inl ⟨rfl, rfl, rfl⟩
    | some c => exact .inr ⟨c, rfl, .inr rfl, fun x hx => by simp at hx⟩
  | cons a r ih =>
    rw [List.foldl_cons]
    cases o with
    | none =>
      rcases ih (some a) with ⟨-, -, h⟩ | ⟨c, h1, h2, h3⟩
      · cases h
      · refine .inr ⟨c, h1, .inl ⟨?_, fun x hx => by cases hx⟩, fun x hx => ?_⟩
        · rcases h2 with ⟨h2, -⟩ | h2
          · exact List.mem_cons_of_mem _ h2
          · cases h2; exact List.mem_cons_self ..
        · rcases List.mem_cons.1 hx with rfl | hx
          · rcases h2 with ⟨-, h2⟩ | h2
            · have := h2 x rfl; omega
            · cases h2; exact Int.le_refl _
          · exact h3 x hx
    | some s =>
      by_cases hlt : s.nb < a.nb
      · have e : stepC (some s) a = some a := by simp [stepC, hlt]
        rw [e]
        rcases ih (some a) with ⟨-, -, h⟩ | ⟨c, h1, h2, h3⟩
        · cases h
        · refine .inr ⟨c, h1, .inl ⟨?_, fun x hx => ?_⟩, fun x hx => ?_⟩
          · rcases h2 with ⟨h2, -⟩ | h2
            · exact List.mem_cons_of_mem _ h2
            · cases h2; exact List.mem_cons_self ..
          · cases hx
            rcases h2 with ⟨-, h2⟩ | h2
            · have := h2 a rfl; omega
            · cases h2; exact hlt
          · rcases List.mem_cons.1 hx with rfl | hx
            · rcases h2 with ⟨-, h2⟩ | h2
              · have := h2 x rfl; omega
              · cases h2; exact Int.le_refl _
            · exact h3 x hx
      · have e : stepC (some s) a = some s := by simp [stepC, hlt]
        rw [e]
        rcases ih (some s) with ⟨-, -, h⟩ | ⟨c, h1, h2, h3⟩
        · cases h
        · refine .inr ⟨c, h1, ?_, fun x hx => ?_⟩
          · rcases h2 with ⟨h2, h4⟩ | h2
            · exact .inl ⟨List.mem_cons_of_mem _ h2, h4⟩
            · exact .inr h2
          · rcases List.mem_cons.1 hx with rfl | hx
            · rcases h2 with ⟨-, h2⟩ | h2
              · have := h2 s rfl; omega
              · cases h2; omega
            · exact h3 x hx
/-- of candidates whose lengths differ, the order makes no difference -/
theorem fold_perm {l m : List Ro} (o : Option Ro) (hs : ∀ x, x ∈ l ↔ x ∈ m) (hi : ∀ x y, x ∈ l → y ∈ l → x.nb = y.nb → x = y) : l.foldl stepC o = m.foldl stepC o := by
  rcases fold_spec l o with ⟨h1, h2, h3⟩ | ⟨c, h1, h2, h3⟩
  · rcases fold_spec m o with ⟨g1, -, -⟩ | ⟨d, g1, g2, g3⟩
    · rw [h1, g1]
    · rcases g2 with ⟨g2, -⟩ | g2
      · rw [← hs, h2] at g2; simp at g2
      · rw [h3] at g2; cases g2
  · rcases fold_spec m o with ⟨g1, g2, g3⟩ | ⟨d, g1, g2, g3⟩
    · rcases h2 with ⟨h2, -⟩ | h2
      · rw [hs, g2] at h2; simp at h2
      · rw [g3] at h2; cases h2
    · rw [h1, g1]
      congr 1
      rcases h2 with ⟨h2, h4⟩ | h2
      · rcases g2 with ⟨g2, g4⟩ | g2
        · have a1 := h3 d ((hs d).2 g2)
          have a2 := g3 c ((hs c).1 h2)
          exact hi c d h2 ((hs d).2 g2) (by omega)
        · have a1 := h4 d g2
          have a2 := g3 c ((hs c).1 h2)
          omega
      · rcases g2 with ⟨g2, g4⟩ | g2
        · have a1 := g4 c h2
          have a2 := h3 d ((hs d).2 g2)
          omega
        · rw [h2] at g2; cases g2; rfl

/-- of two routes to the same network the first -/
def sameN (r e : Ro) : Bool := (e.na == r.na) && (e.nb == r.nb)
def dedS (acc : List Ro) (r : Ro) : List Ro := if acc.any (sameN r) then acc else acc ++ [r]
def dedP (l : List Ro) : List Ro := l.foldl dedS []
theorem dedP_succ {l : List Ro} {k : Nat} {r : Ro} (h : l[k]? = some r) : dedP (l.take (k + 1)) = dedS (dedP (l.take k)) r := by
  unfold dedP
  rw [List.take_add_one, h, List.foldl_append]; rfl
theorem dedP_snoc (l : List Ro) (r : Ro) : dedP (l ++ [r]) = dedS (dedP l) r := by unfold dedP; rw [List.foldl_append]; rfl
theorem dedP_len (l : List Ro) : (dedP l).length ≤ l.length := by
  have : ∀ (l acc : List Ro), (l.foldl dedS acc).length ≤ acc.length + l.length := by
    intro l
    induction l with
    | nil => intro acc; simp
    | cons a r ih =>
      intro acc
      rw [List.foldl_cons]
      refine Nat.le_trans (ih _) ?_
      unfold dedS
      split <;> simp <;> omega
  have := this l []
  unfold dedP
  simpa using this
theorem dedP_sub (l : List Ro) : ∀ x, x ∈ dedP l → x ∈ l := by
  have : ∀ (l acc : List Ro) (x : Ro), x ∈ l.foldl dedS acc → x ∈ acc ∨ x ∈ l := by
    intro l
    induction l with
    | nil => intro acc x h; exact .inl h
    | cons a r ih =>
      intro acc x h
      rcases ih _ x h with h | h
      · unfold dedS at h
        split at h
        · exact .inl h
        · rcases List.mem_append.1 h with h | h
          · exact .inl h
          · obtain rfl : x = a := by simpa using h
            exact .inr (List.mem_cons_self ..)
      · exact .inr (List.mem_cons_of_mem _ h)
  intro x hx
  rcases this l [] x hx with h | h
  · simp at h
  · exact h
/-- the networks are told apart -/
theorem dedP_inj (l : List Ro) : ∀ x y, x ∈ dedP l → y ∈ dedP l → x.na = y.na → x.nb = y.nb → x = y := by
  have : ∀ (l acc : List Ro), (∀ x y, x ∈ acc → y ∈ acc → x.na = y.na → x.nb = y.nb → x = y) → ∀ x y, x ∈ l.foldl dedS acc → y ∈ l.foldl dedS acc → x.na = y.na → x.nb = y.nb → x = y := by
    intro l
    induction l with
    | nil => intro acc h; exact h
    | cons a r ih =>
      intro acc h
      refine ih _ ?_
      unfold dedS
      split
      · exact h
      · next hn =>
        have hn' : ∀ e, e ∈ acc → ¬ (e.na = a.na ∧ e.nb = a.nb) := fun e he hc => by
          refine hn (List.any_eq_true.2 ⟨e, he, ?_⟩)
          simp [sameN, hc.1, hc.2]
        intro x y hx hy h1 h2
        rcases List.mem_append.1 hx with hx2 | hx2 <;> rcases List.mem_append.1 hy with hy2 | hy2
        · exact h x y hx2 hy2 h1 h2
        · have e : y = a := by simpa using hy2
          rw [e] at h1 h2
          exact absurd ⟨h1, h2⟩ (hn' x hx2)
        · have e : x = a := by simpa using hx2
          rw [e] at h1 h2
          exact absurd ⟨h1.symm, h2.symm⟩ (hn' y hy2)
        · rw [show x = a by simpa using hx2, show y = a by simpa using hy2]
  exact this l [] (fun x y h => by simp at h)
theorem cont_same {x y : Ro} {a : Int} (hx : contZ x.na x.nb a = true) (hy : contZ y.na y.nb a = true) (h : x.nb = y.nb) : x.na = y.na := by
  unfold contZ at hx hy
  simp only [Bool.and_eq_true, beq_iff_eq] at hx hy
  rw [← hx.2.2, ← hy.2.2, h]
/-- what was left out changes no choice -/
theorem ded_fold (l : List Ro) (a : Int) (o : Option Ro) : ((dedP l).filter fun r => contZ r.na r.nb a).foldl stepC o = (l.filter fun r => contZ r.na r.nb a).foldl stepC o := by
  suffices h : ∀ k, k ≤ l.length → ((dedP (l.take k)).filter fun r => contZ r.na r.nb a).foldl stepC o = ((l.take k).filter fun r => contZ r.na r.nb a).foldl stepC o by
    have := h l.length (Nat.le_refl _)
    rwa [List.take_length] at this
  intro k
  induction k with
  | zero => intro _; rfl
  | succ k ih =>
    intro hk
    have hr : l[k]? = some l[k] := List.getElem?_eq_getElem (by omega)
    generalize l[k] = r at hr
    rw [dedP_succ hr, List.take_add_one, hr]
    simp only [Option.toList_some, List.filter_append, List.foldl_append]
    unfold dedS
    split
    · next hany =>
      rw [ih (by omega)]
      obtain ⟨e, he, hs⟩ := List.any_eq_true.1 hany
      simp only [sameN, Bool.and_eq_true, beq_iff_eq] at hs
      by_cases hc : contZ r.na r.nb a = true
      · have hce : contZ e.na e.nb a = true := by rw [hs.1, hs.2]; exact hc
        have hmem : e ∈ (l.take k).filter fun r => contZ r.na r.nb a := List.mem_filter.2 ⟨dedP_sub _ _ he, hce⟩
        simp only [List.filter_cons, hc, List.filter_nil, if_true, List.foldl_cons, List.foldl_nil]
        rcases fold_spec ((l.take k).filter fun r => contZ r.na r.nb a) o with ⟨-, h2, -⟩ | ⟨c, h1, -, h3⟩
        · rw [h2] at hmem; simp at hmem
        · rw [h1]
          have := h3 e hmem
          have hlt : ¬ (c.nb < r.nb) := by omega
          simp [stepC, hlt]
      · have hc' : contZ r.na r.nb a = false := by simpa using hc
        simp [hc']
    · rw [List.filter_append, List.foldl_append, ih (by omega)]
theorem cand_split (fs : List Fc) (rs : List Ro) (a : Int) : bestC (candL fs rs a) = (rs.filter fun r => contZ r.na r.nb a).foldl stepC (bestC (candF fs a fs.length)) := by
  unfold candL bestC candR
  rw [List.take_length, List.foldl_append]
/-- the order of routes makes no difference, nor do later routes to the same network -/
theorem order_same {fs : List Fc} {all : List Ro} (a : Int) (hck : ∀ rs : List Ro, rs.length ≤ all.length → (∀ r, r ∈ rs → r ∈ all) → checkP fs rs = true) :
    lookP fs (dedP all) a = lookP fs (dedP all).reverse a ∧ lookP fs (dedP all) a = lookP fs all a := by
  have h1 := hck (dedP all) (dedP_len all) (dedP_sub all)
  have h2 := hck (dedP all).reverse (by rw [List.length_reverse]; exact dedP_len all) (fun r hr => dedP_sub all r (List.mem_reverse.1 hr))
  have h3 := hck all (Nat.le_refl _) (fun r hr => hr)
  have e1 : bestC (candL fs (dedP all) a) = bestC (candL fs (dedP all).reverse a) := by
    rw [cand_split, cand_split]
    refine fold_perm _ (fun x => by simp [List.mem_filter]) (fun x y hx hy h => ?_)
    obtain ⟨hx1, hx2⟩ := List.mem_filter.1 hx
    obtain ⟨hy1, hy2⟩ := List.mem_filter.1 hy
    exact dedP_inj all x y hx1 hy1 (cont_same hx2 hy2 h) h
  have e2 : bestC (candL fs (dedP all) a) = bestC (candL fs all a) := by
    rw [cand_split, cand_split, ded_fold]
  unfold lookP
  rw [h1, h2, h3, ← e1, ← e2]
  exact ⟨rfl, rfl⟩
end Go.Proofs.Ytgfcpimklmgnbaa
