/- Receive's contracts, the table's relation behind the call. -/
import Derived.Test.YtpkfjlbjahghgaaAtSt
namespace Go.Proofs.Ytpkfjlbjahghgaa
open Go.RowKit Go.Maps
set_option linter.unusedVariables false

instance (own to : Int) (s : ByteArray) : Decidable (okS own to s) := by unfold okS; infer_instance
theorem TabV.pre {w w1 w' : World} {base T mb : Nat} {own mac when : Int} {said : Bool} {R : List PE} {L' : List En} {vs : List Value} (hb : Below w.heap.size w w1) (h : TabV w1 w' base T mb own mac said when R L' vs) : TabV w w' base T mb own mac said when R L' vs := by
  obtain ⟨R', h1, h2, h3, h4, h5⟩ := h
  have hz := hb.size
  refine ⟨R', h1, h2, (Touch.of hb).trans h3 (fun k hk => .inl hk), fun k hk => (h4 k hk).imp id (fun h => Nat.le_trans hz h), fun v hv k hk => ?_⟩
  have := h5 v hv k hk
  exact ⟨Nat.le_trans hz this.1, this.2⟩
theorem TabV.same {w w' : World} {base T mb : Nat} {own mac when : Int} {said : Bool} {R : List PE} (h : TabP w base T mb own mac said when R) (hb : Below w.heap.size w w') {vs : List Value} (hv : ∀ v ∈ vs, v.ownBlock = none) : TabV w w' base T mb own mac said when R (R.map (·.x)) vs :=
  ⟨R, h.kept fun k hk => hb.block k (h.lt k hk).2, rfl, Touch.of hb, fun k hk => .inl hk, fun v hm k hk => by rw [hv v hm] at hk; cases hk⟩

theorem recv_told_yes {w : World} {base T mb : Nat} {own mac when : Int} {said : Bool} {R : List PE} (h : TabP w base T mb own mac said when R) (now f m n : Int) (hb : okA 2 f m own n) (hf : f ≠ own) {p : PE} (hp : lookP R f = some p) (hk : p.x.known = false) (hl : p.x.held.length ≤ 1000) (hR : R.length ≤ 1000) :
    Calls Try.prog 31 #[.pointer (some ⟨T, 0, none⟩), .int .i64 now, av 2 f m own n] w fun e w' => ∃ v, e = .returned (.tuple #[.slice none 0 0, v]) ∧ HpsAt w' v (outL f m p.x.held) ∧ TabV w w' base T mb own mac said when R (setE (R.map (·.x)) (resE f now m)) [v] :=
  recv_told h now f m n hb hf (X := fun v w' => HpsAt w' v (outL f m p.x.held) ∧ TabV w w' base T mb own mac said when R (setE (R.map (·.x)) (resE f now m)) [v])
    (fun w1 h1 hb1 => (resolve_yes h1 now f m hb.1 hp hk hl hR).mono fun e w' ⟨v, h2, h3, h4⟩ => ⟨v, h2, h3, h4.pre hb1⟩)
theorem recv_told_no {w : World} {base T mb : Nat} {own mac when : Int} {said : Bool} {R : List PE} (h : TabP w base T mb own mac said when R) (now f m n : Int) (hb : okA 2 f m own n) (hf : f ≠ own) (hp : askedP R f = none) :
    Calls Try.prog 31 #[.pointer (some ⟨T, 0, none⟩), .int .i64 now, av 2 f m own n] w fun e w' => e = .returned (.tuple #[.slice none 0 0, .slice none 0 0]) ∧ Below w.heap.size w w' :=
  (recv_told h now f m n hb hf (X := fun v w' => v = .slice none 0 0 ∧ Below w.heap.size w w')
    (fun w1 h1 hb1 => (resolve_no h1 now f m hb.1 hp).mono fun e w' ⟨h2, h3⟩ => ⟨_, h2, rfl, by rw [← h3]; exact hb1⟩)).mono fun e w' ⟨v, h2, h3, h4⟩ => ⟨by rw [h2, h3], h4⟩
theorem recv_quiet {w : World} {base T mb : Nat} {own mac when : Int} {said : Bool} {R : List PE} (h : TabP w base T mb own mac said when R) (now o m t n : Int) (hb : okA o own m t n) (hq : quiet mac said when now m = true)
    (h1 : -4611686018427387904 ≤ when) (h2 : when ≤ 4611686018427387904) (h3 : -4611686018427387904 ≤ now) (h4 : now ≤ 4611686018427387904) :
    Calls Try.prog 31 #[.pointer (some ⟨T, 0, none⟩), .int .i64 now, av o own m t n] w fun e w' => e = .returned (.tuple #[.slice none 0 0, .slice none 0 0]) ∧ Below w.heap.size w w' :=
  (recv_self h now o m t n hb (X := fun v w' => v = .slice none 0 0 ∧ Below w.heap.size w w')
    (fun w1 ht1 hb1 => (defend_no ht1 now m hq h1 h2 h3 h4).mono fun e w' ⟨h2, h3⟩ => ⟨_, h2, rfl, by rw [← h3]; exact hb1⟩)).mono fun e w' ⟨v, h2, h3, h4⟩ => ⟨by rw [h2, h3], h4⟩
theorem recv_loud {w : World} {base T mb : Nat} {own mac when : Int} {said : Bool} {R : List PE} (h : TabP w base T mb own mac said when R) (now o m t n : Int) (hb : okA o own m t n) (hq : quiet mac said when now m = false)
    (h1 : -4611686018427387904 ≤ when) (h2 : when ≤ 4611686018427387904) (h3 : -4611686018427387904 ≤ now) (h4 : now ≤ 4611686018427387904) :
    Calls Try.prog 31 #[.pointer (some ⟨T, 0, none⟩), .int .i64 now, av o own m t n] w fun e w' => ∃ v, e = .returned (.tuple #[v, .slice none 0 0]) ∧ ArpsAt w' v [⟨1, own, mac, own, 0⟩] ∧ TabV w w' base T mb own mac true now R (R.map (·.x)) [v] :=
  recv_self h now o m t n hb (X := fun v w' => ArpsAt w' v [⟨1, own, mac, own, 0⟩] ∧ TabV w w' base T mb own mac true now R (R.map (·.x)) [v])
    (fun w1 ht1 hb1 => (defend_yes ht1 now m hq h1 h2 h3 h4).mono fun e w' ⟨v, h2, h3, h4⟩ => ⟨v, h2, h3, h4.pre hb1⟩)
end Go.Proofs.Ytpkfjlbjahghgaa
