/- Contract of Sizes. -/
import Derived.Test.YtecboengeheapaaRtB
import Derived.Test.YtecboengeheapaaRtF2
import Derived.Maps.RangeWalk
namespace Go.Proofs.Ytecboengeheapaa
open Go.RowKit Go.Maps
set_option linter.unusedVariables false
attribute [local go_sem] Oper.semAt_some

theorem sizes_nil (w : World) :
    Calls Try.prog 38 #[.pointer none] w fun e w' => e = .returned (.tuple #[.int .i64 0, .int .i64 0]) ∧ w = w' := by
  go_enter Try.func38, Try.ntmps38
  go_wp2
  go_ret2
  exact ⟨rfl, rfl⟩

def sumL : List Dg → Nat
  | [] => 0
  | x :: r => cnt x.rcv + sumL r
def pendD (left : Lit → Bool) : List PE → Nat
  | [] => 0
  | p :: r => (if left (kl p.x.k) then 0 else cnt p.x.rcv) + pendD left r
theorem pendD_start (R : List PE) (left : Lit → Bool) (h : ∀ p ∈ R, left (kl p.x.k) = true) : pendD left R = 0 := by
  induction R with
  | nil => rfl
  | cons p r ih => rw [pendD, h p (by simp), ih (fun q hq => h q (by simp [hq]))]; rfl
theorem pendD_end (R : List PE) (left : Lit → Bool) (h : ∀ l, left l = false) : pendD left R = sumL (R.map (·.x)) := by
  induction R with
  | nil => rfl
  | cons p r ih => rw [pendD, h, ih]; rfl
theorem pendD_le (R : List PE) (left : Lit → Bool) (h : ∀ p ∈ R, p.x.rcv.length ≤ 4000) : pendD left R ≤ 4000 * R.length := by
  induction R with
  | nil => simp [pendD]
  | cons p r ih =>
    have h1 := ih (fun q hq => h q (by simp [hq]))
    have h2 := h p (by simp)
    have h3 := cnt_le p.x.rcv
    simp only [pendD, List.length_cons]
    split <;> omega
theorem pendD_other (R : List PE) (hok : ∀ p ∈ R, okK p.x.k) (left : Lit → Bool) (a : Ky) (ha : okK a) (h : ∀ p ∈ R, p.x.k ≠ a) : pendD (fun z => left z && !z.sameKey (kl a)) R = pendD left R := by
  induction R with
  | nil => rfl
  | cons p r ih =>
    rw [pendD, pendD, ih (fun q hq => hok q (by simp [hq])) (fun q hq => h q (by simp [hq])), kl_same (hok p (by simp)) ha]
    simp [h p (by simp)]
theorem pendD_step (R : List PE) (hok : ∀ p ∈ R, okK p.x.k) (left : Lit → Bool) {p : PE} (hs : R.Pairwise (fun p q => p.x.k ≠ q.x.k)) (hp : p ∈ R) (hl : left (kl p.x.k) = true) :
    pendD (fun z => left z && !z.sameKey (kl p.x.k)) R = pendD left R + cnt p.x.rcv := by
  induction R with
  | nil => simp at hp
  | cons q r ih =>
    obtain ⟨h1, h2⟩ := List.pairwise_cons.1 hs
    rcases List.mem_cons.1 hp with rfl | hp
    · rw [pendD, pendD, pendD_other r (fun q hq => hok q (by simp [hq])) left p.x.k (hok p (by simp)) (fun q hq => (h1 q hq).symm), kl_self (hok p (by simp)), hl]
      simp; omega
    · rw [pendD, pendD, ih (fun q hq => hok q (by simp [hq])) h2 hp, kl_same (hok q (by simp)) (hok p (by simp [hp]))]
      simp [h1 p hp]; omega
theorem atKey_mem2 (R : List PE) (l : Lit) (v : DataW Value) (h : (mapD R).atKey l .nil = v) (hv : v ≠ .nil) : ∃ p ∈ R, kl p.x.k = l ∧ v = .held (entVal p) := by
  simp only [DataW.atKey] at h
  induction R with
  | nil => exact absurd h.symm hv
  | cons q r ih =>
    simp only [mapE, List.map_cons, List.find?_cons] at h ih
    cases hs : (kl q.x.k).sameKey l with
    | true => rw [hs] at h; exact ⟨q, by simp, WideAt.sameKey_eq hs, h.symm⟩
    | false =>
      rw [hs] at h
      obtain ⟨p, hp, e⟩ := ih h
      exact ⟨p, by simp [hp], e⟩
theorem mapD_has (R : List PE) (p : PE) (hp : p ∈ R) (hok : okK p.x.k) : Maps.has (mapD R) (kl p.x.k) = true := by
  rw [Maps.has_eq]; exact List.any_eq_true.2 ⟨(kl p.x.k, .held (entVal p)), List.mem_map.2 ⟨p, hp, rfl⟩, kl_self hok⟩

def SzI (w wr : World) (mb r : Nat) (R : List PE) (pend : Value) : Prop := ∃ left cnt, wr.ranges Try.prog 94 raw mb r R.length (mapD R) left cnt ∧ pend = .int .i64 (pendD left R : Int) ∧ Below w.heap.size w wr

set_option maxRecDepth 20000 in
set_option maxHeartbeats 1600000 in
theorem sizes_tab {w : World} {base T mb : Nat} {cr : Int} {R : List PE} (h : TabP w base T mb cr R) (hn : R.length ≤ 1000) :
    Calls Try.prog 38 #[.pointer (some ⟨T, 0, none⟩)] w fun e w' => e = .returned (.tuple #[.int .i64 (R.length : Int), .int .i64 (sumL (R.map (·.x)) : Int)]) ∧ Below w.heap.size w w' := by
  obtain ⟨x0, -⟩ := mb_of h
  have hTl := blk_lt h.blk
  have H := Lib.hid h
  go_enter Try.func38, Try.ntmps38
  go_wp2_with (at_range; refine wpList_range_own _ rfl _ 84 rfl 94 91 lawK Try.underlying84 raw mb R.length (mapD R) rfl h.map ?_; intro w0 hrg0 hg0 hs0)
  go_frame
  obtain ⟨r, hr⟩ : ∃ r, w.heap.size = r := ⟨_, rfl⟩
  rw [hr] at hrg0
  rw [hr]
  have hb0 : Below w.heap.size w w0 := (Below.refl _ w).grown hg0 (Nat.le_refl _) (fun j e => by cases e)
  have HR := Lib.hid hr
  have hst := Lib.hid (pendD_start R (Maps.has (mapD R)) (fun p hp => mapD_has R p hp (H.out.ok p hp)))
  clear hr hg0 hs0
  clear h
  go_loopw [4] (fun pend wr => SzI w wr mb r R pend) (fun _ wr => wr.rangeLeft mb r)
  case atStart => exact ⟨_, _, hrg0, by rw [hst.out]; rfl, hb0⟩
  case round =>
    obtain ⟨left, cn, hrg, rfl, hB⟩ := hrel
    have hrg' := Lib.hid hrg
    have hpd := pendD_le R left (fun p hp => by have := (H.out.ent p hp).len; omega)
    obtain ⟨P, hP⟩ : ∃ P, pendD left R = P := ⟨_, rfl⟩
    rw [hP] at hpd
    rw [hP]
    have HPd := Lib.hid hP
    clear hP
    go_wp2_with (at_next; refine wpList_next_ranges _ rfl _ rfl 94 lawK raw (id : Value → Value) (id : Value → Value) (fun key kl hk => ⟨key, rfl⟩) (fun v _ _ => ⟨v, rfl⟩) mb r R.length (mapD R) _ _ rfl hrg'.out ?_ ?_)
    · intro hc0 hl0
      have hE := pendD_end R left hl0
      rw [HPd.out] at hE
      subst hE
      have y2 := (hB.cell (p := ⟨T, 0, none⟩) hTl).trans x0
      have hln : ∀ ty, (Builtin.len_ #[84] ty #[.map (some mb)]).run Try.prog wr = .ok (.int .i64 (R.length : Int)) wr := fun ty => by
        have := hrg'.out.owns.len Try.underlying84 ty
        simpa [Maps.size, mapE] using this
      go_wp2
      go_ret2
      exact ⟨rfl, hB⟩
    · intro x c l0 yd yp w2 cnt2 hkey hlk hv hat hrg2 hlt hg2 hs2 hen
      have hkey : keyOf Try.prog 94 x = some l0 := hkey
      have hv : raw c = some (yd, yp) := hv
      unfold raw at hv
      cases hv
      obtain ⟨p, hp, hpk, hpe⟩ := atKey_mem2 R l0 _ (hat .nil) (by simp)
      subst hpk
      simp only [DataW.held.injEq] at hpe
      subst hpe
      obtain rfl : x = kv p.x.k := lawK.inj hkey (keyK (H.out.ok p hp))
      have hrl := HR.out
      have hB2 : Below w.heap.size w w2 := hB.grown hg2 hB.size (fun j e => by cases e; omega)
      have hm : w2.rangeLeft mb r < wr.rangeLeft mb r := by rw [hrg2.left_eq, hrg'.out.left_eq]; exact hlt
      have hstep := pendD_step R H.out.ok left H.out.keys hp hlk
      rw [HPd.out] at hstep
      have hcn := cnt_le p.x.rcv
      have hln := (H.out.ent p hp).len
      have hE2 : EntAt w2 base p := (H.out.ent p hp).kept fun k hk => hB2.block k ((H.out.ent p hp).lt k hk).2
      have HE2 := Lib.hid hE2
      have hstep2 := Lib.hid hstep
      have hrg2' := Lib.hid hrg2
      obtain ⟨q, hq⟩ : ∃ q, cnt p.x.rcv = q := ⟨_, rfl⟩
      have HQ := Lib.hid hq
      have hw : wrap64 ((P : Int) + (q : Int)) = ((P + q : Nat) : Int) := by rw [IntWalk.wrap64_in _ ⟨by omega, by omega⟩]; omega
      clear hstep hrg2 hE2 hq hcn hln hat
      unfold entVal ptr at hen
      go_wp2_with fail
      have HS := stored_any HE2.out
      unfold ptr at HS
      refine HS.mono ?_
      rintro e w3 ⟨rfl, rfl⟩
      rw [HQ.out]
      clear HS
      go_wp2
      refine ⟨⟨_, cnt2, hrg2'.out, ?_, hB2⟩, hm⟩
      rw [hstep2.out, HQ.out, hw]
end Go.Proofs.Ytecboengeheapaa
