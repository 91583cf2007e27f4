/- Tick's contract as the laws' walks use it. -/
import Derived.Test.YtpkfjlbjahghgaaAtTick
import Derived.Test.YtpkfjlbjahghgaaAtSt
namespace Go.Proofs.Ytpkfjlbjahghgaa
open Go.RowKit Go.Maps
set_option linter.unusedVariables false

theorem flatM_length : ∀ (l : List Ms), (flatM l).length = l.length * 5
  | [] => rfl
  | x :: l => by
    have := flatM_length l
    simp only [flatM, List.flatMap_cons, List.length_append, List.length_cons, List.length_nil] at this ⊢
    omega
theorem flatM_at : ∀ (l : List Ms) (j : Nat) (h : j < l.length), (flatM l)[j * 5]? = some (.int .i64 l[j].o) ∧ (flatM l)[j * 5 + 1]? = some (.int .i64 l[j].f) ∧ (flatM l)[j * 5 + 2]? = some (.int .i64 l[j].m) ∧ (flatM l)[j * 5 + 3]? = some (.int .i64 l[j].t) ∧ (flatM l)[j * 5 + 4]? = some (.int .i64 l[j].n)
  | [], j, h => by simp at h
  | x :: l, 0, h => ⟨rfl, rfl, rfl, rfl, rfl⟩
  | x :: l, j + 1, h => by
    have ih := flatM_at l j (by simpa using h)
    have e : ∀ i, (flatM (x :: l))[(j + 1) * 5 + i]? = (flatM l)[j * 5 + i]? := by
      intro i
      have : flatM (x :: l) = [.int .i64 x.o, .int .i64 x.f, .int .i64 x.m, .int .i64 x.t, .int .i64 x.n] ++ flatM l := rfl
      rw [this, List.getElem?_append_right (by simp; omega)]
      congr 1
      simp; omega
    simp only [List.getElem_cons_succ]
    exact ⟨(e 0).trans ih.1, (e 1).trans ih.2.1, (e 2).trans ih.2.2.1, (e 3).trans ih.2.2.2.1, (e 4).trans ih.2.2.2.2⟩
/-- an owned row of messages reads as its list -/
theorem arps_own {w : World} {base n : Nat} {e : TypeId} {v : Value} {l : List Ms} (h : w.ownsRow base e 5 v n (flatM l)) (hn : l.length = n) : ArpsAt w v l := by
  cases n with
  | zero =>
    obtain rfl := List.eq_nil_of_length_eq_zero hn
    rcases h.2 with ⟨rfl, _⟩ | ⟨g, cap, cur, rfl, _⟩
    · exact .inl ⟨rfl, rfl⟩
    · exact .inr ⟨g, 0, cap, rfl, fun j hj => absurd hj (by simp)⟩
  | succ k =>
    obtain ⟨g, cap, rfl⟩ := ownsRow_succ h
    refine .inr ⟨g, 0, cap, by rw [hn], fun j hj => ?_⟩
    obtain ⟨e0, e1, e2, e3, e4⟩ := flatM_at l j hj
    have c0 := h.cellAt (j * 5) (by omega)
    have c1 := h.cellAt (j * 5 + 1) (by omega)
    have c2 := h.cellAt (j * 5 + 2) (by omega)
    have c3 := h.cellAt (j * 5 + 3) (by omega)
    have c4 := h.cellAt (j * 5 + 4) (by omega)
    rw [Nat.zero_add]
    exact ⟨c0.trans e0, c1.trans e1, c2.trans e2, c3.trans e3, c4.trans e4⟩

/-- the model -/
def tickMs (own mac now : Int) (L : List En) : List Ms := L.flatMap (tickM own mac now)
def tickHs (now : Int) (L : List En) : List Hp := L.flatMap (tickH now)
theorem mapM2_map (own mac now : Int) (R : List PE) : mapM2 own mac now R = tickMs own mac now (R.map (·.x)) := by simp [mapM2, tickMs, List.flatMap_map]
theorem mapH2_map (now : Int) (R : List PE) : mapH2 now R = tickHs now (R.map (·.x)) := by simp [mapH2, tickHs, List.flatMap_map]
/-- what Tick asks of an entry -/
def EnOk (x : En) : Prop := Bd x.told ∧ Bd x.last ∧ x.held.length ≤ 1000 ∧ Bd x.tries ∧ (x.known = false → 1 ≤ x.held.length)

theorem tick_any {w : World} {base T mb : Nat} {own mac when : Int} {said : Bool} {R : List PE} (h : TabP w base T mb own mac said when R) (hlen : R.length ≤ 1000) (now : Int) (hn : Bd now) (hbd : ∀ x ∈ R.map (·.x), EnOk x) :
    Calls Try.prog 28 #[.pointer (some ⟨T, 0, none⟩), .int .i64 now] w fun e w' => ∃ v1 v2, e = .returned (.tuple #[v1, v2]) ∧ ArpsAt w' v1 (tickMs own mac now (R.map (·.x))) ∧ HpsAt w' v2 (tickHs now (R.map (·.x))) ∧
      TabV w w' base T mb own mac said when R ((R.map (·.x)).filterMap (tickE now)) [v1, v2] := by
  refine callsIn_wide.1 ((tick_in h hlen now hn (fun p hp => hbd p.x (List.mem_map_of_mem hp))).mono ?_)
  rintro e w' ⟨v1, v2, rfl, h1, h2, h3, h4, h5⟩
  have hlt := fun k hk => (h.lt k hk).2
  have hsub : ∀ k ∈ T :: mb :: allB (R.filterMap (tickP now)), k ∈ T :: mb :: allB R := by
    intro k hk
    simp only [List.mem_cons] at hk ⊢
    exact hk.imp id (fun h => h.imp id (fun h => tick_blks now R R.length k (by rw [tickR_all]; exact h)))
  refine ⟨v1, v2, rfl, ?_, ?_, R.filterMap (tickP now), h1, tick_map now R, h5, fun k hk => .inl (hsub k hk), ?_⟩
  · rw [← mapM2_map]; exact arps_own h2 rfl
  · rw [← mapH2_map]; exact hps_own h3 rfl
  · intro v hv k hk
    have hb : w.heap.size ≤ k ∧ k < w'.heap.size := by
      simp only [List.mem_cons, List.not_mem_nil, or_false] at hv
      rcases hv with rfl | rfl
      · exact h2.lt k hk
      · exact h3.lt k hk
    exact ⟨hb.1, hb.2, fun hm => by have := hlt k (hsub k hm); omega⟩
end Go.Proofs.Ytpkfjlbjahghgaa
