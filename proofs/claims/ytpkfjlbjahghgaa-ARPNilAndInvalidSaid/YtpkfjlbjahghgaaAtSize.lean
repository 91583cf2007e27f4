/- Contract of Sizes. -/
import Derived.Test.YtpkfjlbjahghgaaAtUpd
import Derived.Maps.RangeWalk
namespace Go.Proofs.Ytpkfjlbjahghgaa
open Go.RowKit Go.Maps
set_option linter.unusedVariables false
attribute [local go_sem] Oper.semAt_some

def pl (x : En) : Nat := if x.known then 0 else x.held.length
def sumL : List En → Nat
  | [] => 0
  | x :: r => pl x + sumL r
def pendD (left : Lit → Bool) : List PE → Nat
  | [] => 0
  | p :: r => (if left (.int .i64 p.x.addr) then 0 else pl p.x) + pendD left r
theorem pendD_start (R : List PE) (left : Lit → Bool) (h : ∀ p ∈ R, left (.int .i64 p.x.addr) = true) : pendD left R = 0 := by
  induction R with
  | nil => rfl
  | cons p r ih => rw [pendD, h p (by simp), ih (fun q hq => h q (by simp [hq]))]; rfl
theorem pendD_end (R : List PE) (left : Lit → Bool) (h : ∀ kl, left kl = false) : pendD left R = sumL (R.map (·.x)) := by
  induction R with
  | nil => rfl
  | cons p r ih => rw [pendD, h, ih]; rfl
theorem pendD_le (R : List PE) (left : Lit → Bool) (h : ∀ p ∈ R, p.x.held.length ≤ 1000) : pendD left R ≤ 1000 * R.length := by
  induction R with
  | nil => simp [pendD]
  | cons p r ih =>
    have h1 := ih (fun q hq => h q (by simp [hq]))
    have h2 := h p (by simp)
    have h3 : pl p.x ≤ 1000 := by unfold pl; split <;> omega
    simp only [pendD, List.length_cons]
    split <;> omega
theorem pendD_other (R : List PE) (left : Lit → Bool) (a : Int) (h : ∀ p ∈ R, p.x.addr ≠ a) : pendD (fun z => left z && !z.sameKey (.int .i64 a)) R = pendD left R := by
  induction R with
  | nil => rfl
  | cons p r ih =>
    have h1 := h p (by simp)
    have e : Lit.sameKey (.int .i64 p.x.addr) (.int .i64 a) = false := by simp [Lit.sameKey, h1]
    rw [pendD, pendD, ih (fun q hq => h q (by simp [hq])), e]
    simp
theorem pendD_step (R : List PE) (left : Lit → Bool) (a : Int) {p : PE} (hs : R.Pairwise (fun p q => p.x.addr < q.x.addr)) (hp : lookP R a = some p) (hl : left (.int .i64 a) = true) :
    pendD (fun z => left z && !z.sameKey (.int .i64 a)) R = pendD left R + pl p.x := by
  obtain ⟨A, C, rfl, hA⟩ := look_split hp
  have hpa := (lookP_some hp).2
  rw [List.pairwise_append] at hs
  obtain ⟨s4, -⟩ := List.pairwise_cons.1 hs.2.1
  have hC : ∀ q ∈ C, q.x.addr ≠ a := fun q hq => by have := s4 q hq; omega
  clear hp hs s4
  induction A with
  | nil =>
    have e : Lit.sameKey (.int .i64 p.x.addr) (.int .i64 a) = true := by simp [Lit.sameKey, hpa]
    simp only [List.nil_append, pendD]
    rw [pendD_other C left a hC, e, hpa, hl]
    simp; omega
  | cons q r ih =>
    have h1 := hA q (by simp)
    have e : Lit.sameKey (.int .i64 q.x.addr) (.int .i64 a) = false := by simp [Lit.sameKey, h1]
    simp only [List.cons_append, pendD]
    rw [ih (fun q hq => hA q (by simp [hq])), e]
    simp; omega
theorem mapD_atz (R : List PE) (a : Int) (z : DataW Value) : (mapD R).atKey (.int .i64 a) z = match lookP R a with | some p => .held (entVal p) | none => z := by
  simp only [DataW.atKey]
  induction R with
  | nil => rfl
  | cons q r ih =>
    simp only [mapE, lookP, List.map_cons, List.find?_cons] at ih ⊢
    have e : Lit.sameKey (.int .i64 q.x.addr) (.int .i64 a) = decide (q.x.addr = a) := by simp [Lit.sameKey]
    rw [e]
    by_cases h : q.x.addr = a
    · simp [h]
    · simp only [h, decide_false] at ih ⊢
      exact ih
theorem mapD_has (R : List PE) (p : PE) (hp : p ∈ R) : Maps.has (mapD R) (.int .i64 p.x.addr) = true := by
  rw [Maps.has_eq]
  refine List.any_eq_true.2 ⟨_, List.mem_map.2 ⟨p, hp, rfl⟩, ?_⟩
  simp [Lit.sameKey]

theorem sizes_nil (w : World) :
    Calls Try.prog 33 #[.pointer none] w fun e w' => e = .returned (.tuple #[.int .i64 0, .int .i64 0]) ∧ w = w' := by
  go_enter Try.func33, Try.ntmps33
  go_wp2
  go_ret2
  exact ⟨rfl, rfl⟩

def SzI (w wr : World) (mb r : Nat) (R : List PE) (pend : Value) : Prop := ∃ left cnt, wr.ranges Try.prog 3 raw mb r R.length (mapD R) left cnt ∧ pend = .int .i64 (pendD left R : Int) ∧ Below w.heap.size w wr

set_option maxRecDepth 20000 in
set_option maxHeartbeats 1600000 in
theorem sizes_tab {w : World} {base T mb : Nat} {own mac when : Int} {said : Bool} {R : List PE} (h : TabP w base T mb own mac said when R) (hn : R.length ≤ 1000) (hh : ∀ p ∈ R, p.x.held.length ≤ 1000) :
    Calls Try.prog 33 #[.pointer (some ⟨T, 0, none⟩)] w fun e w' => e = .returned (.tuple #[.int .i64 (R.length : Int), .int .i64 (sumL (R.map (·.x)) : Int)]) ∧ Below w.heap.size w w' := by
  obtain ⟨-, -, x2, -, -⟩ := mb_of h
  have hTl := blk_lt h.blk
  have H := Lib.hid h
  have HH := Lib.hid hh
  clear hh
  go_enter Try.func33, Try.ntmps33
  go_wp2_with (at_range; refine wpList_range_own _ rfl _ 80 rfl 3 87 law Try.underlying80 raw mb R.length (mapD R) rfl h.map ?_; intro w0 hrg0 hg0 hs0)
  go_frame
  obtain ⟨r, hr⟩ : ∃ r, w.heap.size = r := ⟨_, rfl⟩
  rw [hr] at hrg0
  rw [hr]
  have hb0 : Below w.heap.size w w0 := (Below.refl _ w).grown hg0 (Nat.le_refl _) (fun j e => by cases e)
  have HR := Lib.hid hr
  have hst := Lib.hid (pendD_start R (Maps.has (mapD R)) (fun p hp => mapD_has R p hp))
  clear hr hg0 hs0
  clear h
  go_loopw [4] (fun pend wr => SzI w wr mb r R pend) (fun _ wr => wr.rangeLeft mb r)
  case atStart => exact ⟨_, _, hrg0, by rw [hst.out]; rfl, hb0⟩
  case round =>
    obtain ⟨left, cnt, hrg, rfl, hB⟩ := hrel
    have hrg' := Lib.hid hrg
    have hpd := pendD_le R left HH.out
    obtain ⟨P, hP⟩ : ∃ P, pendD left R = P := ⟨_, rfl⟩
    rw [hP] at hpd
    rw [hP]
    have HPd := Lib.hid hP
    clear hP
    go_wp2_with (at_next; refine wpList_next_ranges _ rfl _ rfl 3 law raw (Value.int .i64) (fun v => v) (fun key kl hkey => by obtain ⟨x, rfl, _⟩ := Maps.keyOf_int_inv Try.underlying3 hkey; exact ⟨x, rfl⟩) (fun v y hv => ⟨v, rfl⟩) mb r R.length (mapD R) _ _ rfl hrg'.out ?_ ?_)
    · intro hc0 hl0
      have hE := pendD_end R left hl0
      rw [HPd.out] at hE
      subst hE
      have y2 := (hB.cell (p := ⟨T, 2, none⟩) hTl).trans x2
      have hln : ∀ ty, (Builtin.len_ #[80] ty #[.map (some mb)]).run Try.prog wr = .ok (.int .i64 (R.length : Int)) wr := fun ty => by
        have := hrg'.out.owns.len Try.underlying80 ty
        simpa [Maps.size, mapE] using this
      go_wp2
      go_ret2
      exact ⟨rfl, hB⟩
    · intro x c kl yd yp w2 cnt2 hkey hlk hv hat hrg2 hlt hg2 hs2 hen
      obtain ⟨x', ex, rfl, hwx⟩ := Maps.keyOf_int_inv Try.underlying3 hkey
      cases ex
      unfold raw at hv
      cases hv
      have hrl := HR.out
      have hB2 : Below w.heap.size w w2 := hB.grown hg2 hB.size (fun j e => by cases e; omega)
      have hm : w2.rangeLeft mb r < wr.rangeLeft mb r := by rw [hrg2.left_eq, hrg'.out.left_eq]; exact hlt
      cases hp : lookP R x with
      | none =>
        have := hat .nil
        rw [mapD_atz, hp] at this
        cases this
      | some p =>
        have hc := hat .nil
        rw [mapD_atz, hp] at hc
        simp only [DataW.held.injEq] at hc
        subst hc
        have hstep := pendD_step R left x H.out.sorted hp hlk
        rw [HPd.out] at hstep
        have hent := H.out.ent p (lookP_some hp).1
        have hlen := HH.out p (lookP_some hp).1
        have hRg := Lib.hid hrg2
        have hM := Lib.hid hm
        have hSt := Lib.hid hstep
        cases hk : p.x.known with
        | true =>
          have hpl : pl p.x = 0 := by unfold pl; rw [hk]; rfl
          have hS2 := hSt.out
          rw [hpl] at hS2
          have hSt2 := Lib.hid hS2
          have hn := asIR (.pointer (some ⟨p.b, 0, none⟩)) w2
          have hev : entVal p = .iface 88 (.pointer (some ⟨p.b, 0, none⟩)) := by unfold entVal; rw [hk]; rfl
          rw [hev] at hen
          rw [hev]
          clear hev hpl hS2 hSt hstep hrg2 hm hp hk hlt hg2 hs2 hat hlk hrg hent
          go_wp2
          exact ⟨⟨_, _, hRg.out, by rw [hSt2.out]; rfl, hB2⟩, hM.out⟩
        | false =>
          have hpl : pl p.x = p.x.held.length := by unfold pl; rw [hk]; rfl
          obtain ⟨hin, hrow⟩ := hent.inc hk
          obtain ⟨q, cc, hv0, -⟩ := row_shape hrow
          have hcl := blk_lt hin
          have hc0 : w2.cell? ⟨p.b, 0, none⟩ = some (.slice q p.x.held.length cc) := by
            rw [hB2.cell (p := ⟨p.b, 0, none⟩) hcl, ← hv0]; exact (blk_cell (k := 0) hin rfl).1
          obtain ⟨m, hm2⟩ : ∃ m, p.x.held.length = m := ⟨_, rfl⟩
          have hS2 := hSt.out
          rw [hpl, hm2] at hS2
          rw [hm2] at hc0 hlen
          have hSt2 := Lib.hid hS2
          have hn := asII (.pointer (some ⟨p.b, 0, none⟩)) w2
          have hev : entVal p = .iface 91 (.pointer (some ⟨p.b, 0, none⟩)) := by unfold entVal; rw [hk]; rfl
          rw [hev] at hen
          rw [hev]
          clear hev hpl hS2 hSt hstep hrg2 hm hp hk hlt hg2 hs2 hat hlk hrg hin hrow hv0 hm2 hent
          go_wp2
          exact ⟨⟨_, _, hRg.out, by rw [hSt2.out]; rfl, hB2⟩, hM.out⟩
end Go.Proofs.Ytpkfjlbjahghgaa
