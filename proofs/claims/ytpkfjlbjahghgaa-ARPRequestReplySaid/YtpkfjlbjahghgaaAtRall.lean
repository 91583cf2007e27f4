/- Receive, whatever comes: by a plain model. -/
import Derived.Test.YtpkfjlbjahghgaaAtRcv2
import Derived.Test.YtpkfjlbjahghgaaAtAsk
namespace Go.Proofs.Ytpkfjlbjahghgaa
open Go.RowKit Go.Maps
set_option linter.unusedVariables false

/-- what Receive does to a table's state, and what it hands back -/
structure RS where
  said : Bool
  when : Int
  L : List En
  arps : List Ms
  hps : List Hp
def recvM (own mac : Int) (said : Bool) (when : Int) (L : List En) (now o f m t n : Int) : RS :=
  if ¬ okA o f m t n then ⟨said, when, L, [], []⟩
  else if f = own then (if quiet mac said when now m = true then ⟨said, when, L, [], []⟩ else ⟨true, now, L, [⟨1, own, mac, own, 0⟩], []⟩)
  else if t ≠ own then ⟨said, when, L, [], []⟩
  else match (lookE L f).filter fun x => !x.known with
    | some x => ⟨said, when, setE L (resE f now m), if o = 1 then [⟨2, own, mac, f, m⟩] else [], outL f m x.held⟩
    | none => ⟨said, when, L, if o = 1 then [⟨2, own, mac, f, m⟩] else [], []⟩

theorem asked_map (R : List PE) (a : Int) : (askedP R a).map (·.x) = (lookE (R.map (·.x)) a).filter fun x => !x.known := by
  unfold askedP
  rw [← lookP_map]
  cases lookP R a with
  | none => rfl
  | some p => simp only [Option.map_some, Option.filter]; split <;> rfl

theorem recv_all {w : World} {base T mb : Nat} {own mac when : Int} {said : Bool} {R : List PE} (h : TabP w base T mb own mac said when R) (now o f m t n : Int)
    (h1 : -4611686018427387904 ≤ when) (h2 : when ≤ 4611686018427387904) (h3 : -4611686018427387904 ≤ now) (h4 : now ≤ 4611686018427387904) (hR : R.length ≤ 1000) (hh : ∀ p ∈ R, p.x.held.length ≤ 1000) :
    Calls Try.prog 31 #[.pointer (some ⟨T, 0, none⟩), .int .i64 now, av o f m t n] w fun e w' => ∃ u v, e = .returned (.tuple #[u, v]) ∧
      ArpsAt w' u (recvM own mac said when (R.map (·.x)) now o f m t n).arps ∧ HpsAt w' v (recvM own mac said when (R.map (·.x)) now o f m t n).hps ∧
      TabV w w' base T mb own mac (recvM own mac said when (R.map (·.x)) now o f m t n).said (recvM own mac said when (R.map (·.x)) now o f m t n).when R (recvM own mac said when (R.map (·.x)) now o f m t n).L [u, v] := by
  have hnn : ∀ v ∈ [Value.slice none 0 0, Value.slice none 0 0], v.ownBlock = none := by intro v hv; simp at hv; subst hv; rfl
  by_cases hb : okA o f m t n
  · by_cases hf : f = own
    · subst hf
      by_cases hq : quiet mac said when now m = true
      · have e : recvM f mac said when (R.map (·.x)) now o f m t n = ⟨said, when, R.map (·.x), [], []⟩ := by simp [recvM, hb, hq]
        rw [e]
        exact (recv_quiet h now o m t n hb hq h1 h2 h3 h4).mono fun e w' ⟨h5, h6⟩ => ⟨_, _, h5, arps_nil _, hps_nil _, TabV.same h h6 hnn⟩
      · have hq' : quiet mac said when now m = false := by simpa using hq
        have e : recvM f mac said when (R.map (·.x)) now o f m t n = ⟨true, now, R.map (·.x), [⟨1, f, mac, f, 0⟩], []⟩ := by simp [recvM, hb, hq']
        rw [e]
        refine (recv_loud h now o m t n hb hq' h1 h2 h3 h4).mono fun e w' ⟨v, h5, h6, R', g1, g2, g3, g4, g5⟩ => ⟨v, _, h5, h6, hps_nil _, R', g1, g2, g3, g4, fun u hu k hk => ?_⟩
        simp only [List.mem_cons, List.not_mem_nil, or_false] at hu
        rcases hu with rfl | rfl
        · exact g5 u (by simp) k hk
        · cases hk
    · by_cases ht : t = own
      · subst ht
        have e : recvM t mac said when (R.map (·.x)) now o f m t n = (match (lookE (R.map (·.x)) f).filter (fun x => !x.known) with
            | some x => ⟨said, when, setE (R.map (·.x)) (resE f now m), if o = 1 then [⟨2, t, mac, f, m⟩] else [], outL f m x.held⟩
            | none => ⟨said, when, R.map (·.x), if o = 1 then [⟨2, t, mac, f, m⟩] else [], []⟩) := by
          unfold recvM
          rw [if_neg (by simpa using hb), if_neg hf, if_neg (by simp)]
        have ho : o = 1 ∨ o = 2 := by have := hb.2.2.2; omega
        rw [← asked_map] at e
        cases hp : askedP R f with
        | none =>
          rw [hp] at e
          simp only [Option.map_none] at e
          rw [e]
          rcases ho with rfl | rfl
          · refine recv_ask h now f m n hb hf (X := fun u v w' => ArpsAt w' u [⟨2, t, mac, f, m⟩] ∧ HpsAt w' v [] ∧ TabV w w' base T mb t mac said when R (R.map (·.x)) [u, v]) (fun w1 g cap ht1 hb1 hg1 hg2 ha1 => ?_)
            refine (resolve_no ht1 now f m hb.1 hp).mono fun e w' ⟨h5, h6⟩ => ⟨_, h5, by rw [← h6]; exact ha1, hps_nil _, ?_⟩
            rw [← h6]
            refine ⟨R, ht1, rfl, Touch.of hb1, fun k hk => .inl hk, fun u hu k hk => ?_⟩
            simp only [List.mem_cons, List.not_mem_nil, or_false] at hu
            rcases hu with rfl | rfl
            · obtain rfl : g = k := by simpa [Value.ownBlock] using hk
              exact ⟨hg1, hg2, fun hm => by have := (h.lt _ hm).2; omega⟩
            · cases hk
          · rw [if_neg (by decide)]
            exact (recv_told_no h now f m n hb hf hp).mono fun e w' ⟨h5, h6⟩ => ⟨_, _, h5, arps_nil _, hps_nil _, TabV.same h h6 hnn⟩
        | some p =>
          have hp' := hp
          unfold askedP at hp'
          obtain ⟨hp1, hp2⟩ := Option.filter_eq_some_iff.1 hp'
          have hk : p.x.known = false := by simpa using hp2
          have hhl := hh p (lookP_some hp1).1
          rw [hp] at e
          simp only [Option.map_some] at e
          rw [e]
          rcases ho with rfl | rfl
          · refine recv_ask h now f m n hb hf (X := fun u v w' => ArpsAt w' u [⟨2, t, mac, f, m⟩] ∧ HpsAt w' v (outL f m p.x.held) ∧ TabV w w' base T mb t mac said when R (setE (R.map (·.x)) (resE f now m)) [u, v]) (fun w1 g cap ht1 hb1 hg1 hg2 ha1 => ?_)
            refine (resolve_yes ht1 now f m hb.1 hp1 hk hhl hR).mono fun e w' ⟨v, h5, h6, R', g1, g2, g3, g4, g5⟩ => ⟨v, h5, ?_, h6, ?_⟩
            · refine ha1.kept fun k hk => ?_
              obtain rfl : g = k := by simpa [Value.ownBlock] using hk
              exact g3.block _ hg2 (fun hm => by have := (h.lt _ hm).2; omega)
            · have hz := hb1.size
              refine ⟨R', g1, g2, (Touch.of hb1).trans g3 (fun k hk => .inl hk), fun k hk => (g4 k hk).imp id (fun h => Nat.le_trans hz h), fun u hu k hk => ?_⟩
              simp only [List.mem_cons, List.not_mem_nil, or_false] at hu
              rcases hu with rfl | rfl
              · obtain rfl : g = k := by simpa [Value.ownBlock] using hk
                have := g3.size
                refine ⟨hg1, by omega, fun hm => ?_⟩
                rcases g4 _ hm with h7 | h7
                · have := (h.lt _ h7).2; omega
                · omega
              · have := g5 u (by simp) k hk
                exact ⟨by omega, this.2⟩
          · rw [if_neg (by decide)]
            refine (recv_told_yes h now f m n hb hf hp1 hk hhl hR).mono fun e w' ⟨v, h5, h6, R', g1, g2, g3, g4, g5⟩ => ⟨_, v, h5, arps_nil _, h6, R', g1, g2, g3, g4, fun u hu k hk => ?_⟩
            simp only [List.mem_cons, List.not_mem_nil, or_false] at hu
            rcases hu with rfl | rfl
            · cases hk
            · exact g5 u (by simp) k hk
      · have e : recvM own mac said when (R.map (·.x)) now o f m t n = ⟨said, when, R.map (·.x), [], []⟩ := by simp [recvM, hb, hf, ht]
        rw [e]
        exact (recv_other h now o f m t n hb hf ht).mono fun e w' ⟨h5, h6⟩ => ⟨_, _, h5, arps_nil _, hps_nil _, TabV.same h h6 hnn⟩
  · have e : recvM own mac said when (R.map (·.x)) now o f m t n = ⟨said, when, R.map (·.x), [], []⟩ := by simp [recvM, hb]
    rw [e]
    exact (recv_bad T now o f m t n w hb).mono fun e w' ⟨h5, h6⟩ => ⟨_, _, h5, arps_nil _, hps_nil _, TabV.same h h6 hnn⟩
end Go.Proofs.Ytpkfjlbjahghgaa
