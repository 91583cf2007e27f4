/- A table in a law's walk: the state, and how values beside it stay. -/
import Derived.Test.YtpkfjlbjahghgaaAtRecv
import Derived.Test.YtpkfjlbjahghgaaArSamH
namespace Go.Proofs.Ytpkfjlbjahghgaa
open Go.RowKit Go.Maps
set_option linter.unusedVariables false

def Out (w : World) (T mb : Nat) (R : List PE) (u : Value) : Prop := ∀ k, u.ownBlock = some k → k < w.heap.size ∧ k ∉ T :: mb :: allB R
def Keeps (w w' : World) (T mb : Nat) (R R' : List PE) : Prop := ∀ u, Out w T mb R u → Out w' T mb R' u ∧ ∀ k, u.ownBlock = some k → w'.heap[k]? = w.heap[k]?
structure St (w0 w : World) (T mb : Nat) (own mac : Int) (said : Bool) (when : Int) (R : List PE) (L : List En) : Prop where
  tab : TabP w w0.heap.size T mb own mac said when R
  ents : R.map (·.x) = L
  below : Below w0.heap.size w0 w

theorem St.step {w0 w w' : World} {T mb : Nat} {own mac when when' : Int} {said said' : Bool} {R : List PE} {L L' : List En} {vs : List Value} (h : St w0 w T mb own mac said when R L) (ht : TabV w w' w0.heap.size T mb own mac said' when' R L' vs) :
    ∃ R', St w0 w' T mb own mac said' when' R' L' ∧ Keeps w w' T mb R R' ∧ ∀ v ∈ vs, Out w' T mb R' v := by
  obtain ⟨R', h1, h2, h3, h4, h5⟩ := ht
  refine ⟨R', ⟨h1, h2, h.below.trans (h3.below h.below.size (fun k hk => (h.tab.lt k hk).1))⟩, fun u hu => ⟨fun k hk => ?_, fun k hk => ?_⟩, fun v hv k hk => ⟨(h5 v hv k hk).2.1, (h5 v hv k hk).2.2⟩⟩
  · obtain ⟨a1, a2⟩ := hu k hk
    refine ⟨Nat.lt_of_lt_of_le a1 h3.size, fun hm => ?_⟩
    rcases h4 k hm with h | h
    · exact a2 h
    · omega
  · obtain ⟨a1, a2⟩ := hu k hk
    exact h3.block k a1 a2
theorem St.stay {w0 w w' : World} {T mb : Nat} {own mac when : Int} {said : Bool} {R : List PE} {L : List En} (h : St w0 w T mb own mac said when R L) (hb : Below w.heap.size w w') :
    St w0 w' T mb own mac said when R L ∧ Keeps w w' T mb R R :=
  ⟨⟨h.tab.kept fun k hk => hb.block k (h.tab.lt k hk).2, h.ents, h.below.trans (hb.mono h.below.size)⟩,
    fun u hu => ⟨fun k hk => ⟨Nat.lt_of_lt_of_le (hu k hk).1 hb.size, (hu k hk).2⟩, fun k hk => hb.block k (hu k hk).1⟩⟩
theorem St.init {w0 w' : World} {T mb : Nat} {own mac when : Int} {said : Bool} (hb : Below w0.heap.size w0 w') (h : TabP w' w0.heap.size T mb own mac said when []) : St w0 w' T mb own mac said when [] [] := ⟨h, rfl, hb⟩
/-- one entry -/
theorem ents_one {R : List PE} {x : En} (h : R.map (·.x) = [x]) : ∃ p, R = [p] ∧ p.x = x := by
  cases R with
  | nil => cases h
  | cons p r =>
    cases r with
    | nil => exact ⟨p, rfl, by simpa using h⟩
    | cons q r => simp at h

theorem ArpsAt.kept {w w' : World} {v : Value} {l : List Ms} (h : ArpsAt w v l) (hk : ∀ k, v.ownBlock = some k → w'.heap[k]? = w.heap[k]?) : ArpsAt w' v l := by
  rcases h with h | ⟨b, o, c, rfl, h⟩
  · exact .inl h
  · refine .inr ⟨b, o, c, rfl, fun j hj => ?_⟩
    have hb := hk b rfl
    have hc : ∀ i, w'.cell? ⟨b, i, none⟩ = w.cell? ⟨b, i, none⟩ := fun i => World.cell?_of_block (a := ⟨b, i, none⟩) hb
    obtain ⟨a1, a2, a3, a4, a5⟩ := h j hj
    exact ⟨(hc _).trans a1, (hc _).trans a2, (hc _).trans a3, (hc _).trans a4, (hc _).trans a5⟩
theorem HpsAt.kept {w w' : World} {v : Value} {l : List Hp} (h : HpsAt w v l) (hk : ∀ k, v.ownBlock = some k → w'.heap[k]? = w.heap[k]?) : HpsAt w' v l := by
  rcases h with h | ⟨b, o, c, rfl, h⟩
  · exact .inl h
  · refine .inr ⟨b, o, c, rfl, fun j hj => ?_⟩
    have hb := hk b rfl
    have hc : ∀ i, w'.cell? ⟨b, i, none⟩ = w.cell? ⟨b, i, none⟩ := fun i => World.cell?_of_block (a := ⟨b, i, none⟩) hb
    obtain ⟨a1, a2, a3⟩ := h j hj
    exact ⟨(hc _).trans a1, (hc _).trans a2, (hc _).trans a3⟩
theorem ArpsAt.go {w w' : World} {T mb : Nat} {R R' : List PE} {v : Value} {l : List Ms} (h : ArpsAt w v l) (ho : Out w T mb R v) (hk : Keeps w w' T mb R R') : ArpsAt w' v l ∧ Out w' T mb R' v := ⟨h.kept (hk v ho).2, (hk v ho).1⟩
theorem HpsAt.go {w w' : World} {T mb : Nat} {R R' : List PE} {v : Value} {l : List Hp} (h : HpsAt w v l) (ho : Out w T mb R v) (hk : Keeps w w' T mb R R') : HpsAt w' v l ∧ Out w' T mb R' v := ⟨h.kept (hk v ho).2, (hk v ho).1⟩
theorem arps_nil (w : World) : ArpsAt w (.slice none 0 0) [] := .inl ⟨rfl, rfl⟩
theorem hps_nil (w : World) : HpsAt w (.slice none 0 0) [] := .inl ⟨rfl, rfl⟩
end Go.Proofs.Ytpkfjlbjahghgaa
