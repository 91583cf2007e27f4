/- Contract of the laws' short; and three tables in one world. -/
import Derived.Test.YtpkfjlbjahghgaaAtTkA
import Derived.Test.YtpkfjlbjahghgaaAtRall
import Derived.Test.YtpkfjlbjahghgaaBytesMath
import Derived.Test.YtpkfjlbjahghgaaAwDef
namespace Go.Proofs.Ytpkfjlbjahghgaa
open Go.RowKit Go.Maps
set_option linter.unusedVariables false
attribute [local go_sem] Oper.semAt_some

def sh (s : ByteArray) : ByteArray := s.extract 0 (min s.size 20)
theorem sh_size (s : ByteArray) : (sh s).size ≤ 20 := by unfold sh; simp only [ByteArray.size_extract]; omega
set_option maxRecDepth 20000 in
theorem short_any (s : ByteArray) (w : World) (hs : s.size ≤ maxLen) :
    Calls Try.prog 25 #[.string s] w fun e w' => e = .returned (.string (sh s)) ∧ w = w' := by
  have e : s.extract 0 (min (s.size : Int) 20).toNat = sh s := by unfold sh; rw [show (min (s.size : Int) 20).toNat = min s.size 20 by omega]
  go_enter Try.func25, Try.ntmps25
  go_wp2
  go_ret
  exact ⟨by simp, rfl⟩

/-- three tables in one world, two of them empty -/
structure Ws (w0 wr : World) (T mb : Nat) (one : Int) (T2 mb2 : Nat) (two m : Int) (T3 mb3 : Nat) (third m3 : Int) (R : List PE) (L : List En) : Prop where
  t : St w0 wr T mb one 3 false 0 R L
  u : TabP wr w0.heap.size T2 mb2 two m false 0 []
  v : TabP wr w0.heap.size T3 mb3 third m3 false 0 []
  out : ∀ k ∈ [T2, mb2, T3, mb3], k ∉ T :: mb :: allB R
theorem tab0_kept {w w' : World} {base T mb : Nat} {own mac when : Int} {said : Bool} (h : TabP w base T mb own mac said when []) (hk : ∀ k, k = T ∨ k = mb → w'.heap[k]? = w.heap[k]?) : TabP w' base T mb own mac said when [] :=
  h.kept (fun k hm => hk k (by simpa [allB] using hm))
theorem tab0_lt {w : World} {base T mb : Nat} {own mac when : Int} {said : Bool} (h : TabP w base T mb own mac said when []) : T < w.heap.size ∧ mb < w.heap.size :=
  ⟨(h.lt T (by simp)).2, (h.lt mb (by simp)).2⟩
theorem Ws.step {w0 w w' : World} {T mb T2 mb2 T3 mb3 : Nat} {one two m third m3 : Int} {R : List PE} {L L' : List En} {vs : List Value} (h : Ws w0 w T mb one T2 mb2 two m T3 mb3 third m3 R L) (ht : TabV w w' w0.heap.size T mb one 3 false 0 R L' vs) :
    ∃ R', Ws w0 w' T mb one T2 mb2 two m T3 mb3 third m3 R' L' ∧ Keeps w w' T mb R R' ∧ ∀ v ∈ vs, Out w' T mb R' v := by
  obtain ⟨R', h1, h2, h3⟩ := h.t.step ht
  have hk : ∀ k ∈ [T2, mb2, T3, mb3], w'.heap[k]? = w.heap[k]? ∧ k ∉ T :: mb :: allB R' := by
    intro k hk
    have hlt : k < w.heap.size := by
      have a := tab0_lt h.u
      have b := tab0_lt h.v
      simp only [List.mem_cons, List.not_mem_nil, or_false] at hk
      rcases hk with rfl | rfl | rfl | rfl
      · exact a.1
      · exact a.2
      · exact b.1
      · exact b.2
    obtain ⟨g1, g2⟩ := h2 (.slice (some ⟨k, 0, none⟩) 0 0) (fun k' e => by
      simp only [Value.ownBlock, Option.some.injEq] at e
      subst e
      exact ⟨hlt, h.out k hk⟩)
    exact ⟨g2 k rfl, (g1 k rfl).2⟩
  exact ⟨R', ⟨h1, tab0_kept h.u (fun k e => (hk k (by simp; omega)).1), tab0_kept h.v (fun k e => (hk k (by simp; omega)).1), fun k h => (hk k h).2⟩, h2, h3⟩
theorem Ws.stay {w0 w w' : World} {T mb T2 mb2 T3 mb3 : Nat} {one two m third m3 : Int} {R : List PE} {L : List En} (h : Ws w0 w T mb one T2 mb2 two m T3 mb3 third m3 R L) (hb : Below w.heap.size w w') :
    Ws w0 w' T mb one T2 mb2 two m T3 mb3 third m3 R L ∧ Keeps w w' T mb R R :=
  ⟨⟨(h.t.stay hb).1, h.u.kept (fun k hk => hb.block k (h.u.lt k hk).2), h.v.kept (fun k hk => hb.block k (h.v.lt k hk).2), h.out⟩, (h.t.stay hb).2⟩
end Go.Proofs.Ytpkfjlbjahghgaa
