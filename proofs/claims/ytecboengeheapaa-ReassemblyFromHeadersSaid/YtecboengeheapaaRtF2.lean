/- The table's list as plain values: an entry is opened, turned, dropped. -/
import Derived.Test.YtecboengeheapaaRtF
namespace Go.Proofs.Ytecboengeheapaa
open Go.RowKit Go.Maps
set_option linter.unusedVariables false

def lookL (L : List Dg) (a : Ky) : Option Dg := L.find? fun x => decide (x.k = a)
def insL (y : Dg) : List Dg → List Dg
  | [] => [y]
  | q :: r => if (kl y.k).before (kl q.k) then y :: q :: r else q :: insL y r
def dropL (L : List Dg) (a : Ky) : List Dg := L.filter fun x => !decide (x.k = a)
def setL (L : List Dg) (a : Ky) (y : Dg) : List Dg := L.map fun x => if x.k = a then y else x
theorem lookP_map (R : List PE) (a : Ky) : (lookP R a).map (·.x) = lookL (R.map (·.x)) a := by
  simp only [lookP, lookL, List.find?_map]; rfl
theorem insP_map (p : PE) : ∀ R : List PE, (insP p R).map (·.x) = insL p.x (R.map (·.x))
  | [] => rfl
  | q :: r => by
    simp only [insP, insL, List.map_cons]
    split
    · rfl
    · rw [List.map_cons, insP_map p r]
theorem dropP_map (R : List PE) (a : Ky) : (dropP R a).map (·.x) = dropL (R.map (·.x)) a := by
  simp only [dropP, dropL, List.filter_map]; rfl
theorem set_mid {A C : List PE} {p p' : PE} {a : Ky} (hs : (A ++ p :: C).Pairwise (fun p q => p.x.k ≠ q.x.k)) (hp : p.x.k = a) : (A ++ p' :: C).map (·.x) = setL ((A ++ p :: C).map (·.x)) a p'.x := by
  rw [List.pairwise_append] at hs
  obtain ⟨-, s2, s3⟩ := hs
  obtain ⟨s4, -⟩ := List.pairwise_cons.1 s2
  have hA : ∀ q ∈ A, q.x.k ≠ a := fun q hq => by have := s3 q hq p (by simp); rwa [hp] at this
  have hC : ∀ q ∈ C, q.x.k ≠ a := fun q hq => by have := s4 q hq; rw [hp] at this; exact this.symm
  simp only [setL, List.map_append, List.map_cons, List.map_map, hp, if_true]
  congr 1
  · exact List.map_congr_left fun q hq => by simp [hA q hq]
  · congr 1
    exact List.map_congr_left fun q hq => by simp [hC q hq]

/-- the datagram that datagramOf gives, the list and the count behind it -/
def openX (L : List Dg) (k : Ky) (cr now : Int) : Dg := (lookL L k).getD (newD k cr now)
def openL (L : List Dg) (k : Ky) (cr now : Int) : List Dg := if (lookL L k).isSome then L else insL (newD k cr now) L
def openC (L : List Dg) (k : Ky) (cr : Int) : Int := if (lookL L k).isSome then cr else cr + 1

theorem dof_any {w : World} {base T mb : Nat} {cr : Int} {R : List PE} (h : TabP w base T mb cr R) (hbase : base ≤ w.heap.size) (now : Int) {k : Ky} (hk : okK k) (hl8 : lookP R k = none → R.length < 8) (hc1 : 0 ≤ cr) (hc2 : cr ≤ 1000000) :
    Calls Try.prog 50 #[.pointer (some ⟨T, 0, none⟩), .int .i64 now, kv k] w fun e w' => ∃ A p C, e = .returned (ptr p.b) ∧ TabP w' base T mb (openC (R.map (·.x)) k cr) (A ++ p :: C) ∧
      (A ++ p :: C).map (·.x) = openL (R.map (·.x)) k cr now ∧ p.x = openX (R.map (·.x)) k cr now ∧ p.x.k = k ∧ (∀ j ∈ allB (A ++ p :: C), j ∈ allB R ∨ w.heap.size ≤ j) ∧ Touch (fun j => j ∈ T :: mb :: allB R) w w' := by
  have hm := lookP_map R k
  unfold openX openL openC
  rw [← hm]
  cases hp : lookP R k with
  | some p =>
    refine (dof_some h now hk hp).mono ?_
    rintro e w' ⟨rfl, hb⟩
    obtain ⟨A, C, rfl, -⟩ := look_split hp
    exact ⟨A, p, C, rfl, h.below hb, rfl, rfl, (lookP_some hp).2, fun j hj => .inl hj, Touch.of hb⟩
  | none =>
    refine (dof_new h hbase now hk hp (hl8 hp) hc1 hc2).mono ?_
    rintro e w' ⟨b, rfl, hb, hT, ht⟩
    obtain ⟨P, hP⟩ : ∃ P : PE, ⟨newD k cr now, b, .slice none 0 0, .slice none 0 0⟩ = P := ⟨_, rfl⟩
    have hx : P.x = newD k cr now := by rw [← hP]
    have hPb : P.b = b := by rw [← hP]
    have hPk : P.blks = [b] := by rw [← hP]; simp [PE.blks, Value.ownBlock]
    rw [hP] at hT
    have hmem : P ∈ insP P R := (insP_perm P R).mem_iff.2 (by simp)
    obtain ⟨A, C, hAC⟩ := List.append_of_mem hmem
    have hL : (insP P R).map (·.x) = insL (newD k cr now) (R.map (·.x)) := by rw [insP_map, hx]
    have hB : ∀ j ∈ allB (insP P R), j ∈ allB R ∨ w.heap.size ≤ j := by
      intro j hj
      have := (allB_perm (insP_perm P R)).mem_iff.1 hj
      simp only [allB, List.flatMap_cons, List.mem_append, hPk, List.mem_singleton] at this
      rcases this with rfl | h3
      · exact .inr hb
      · exact .inl h3
    rw [hAC] at hT hL hB
    exact ⟨A, P, C, by rw [hPb], hT, hL, hx, by rw [hx], hB, ht.mono (fun j hj => by rcases hj with rfl | rfl <;> simp)⟩

/-- what Put makes of the list of datagrams: a fragment p whose key is known to the table -/
def pfX (x : Dg) (p : Pk) : Option Dg := if x.rej || clash x p then some (rejD x) else if compD (storeD x p) then none else some (storeD x p)
def pfE (x : Dg) (p : Pk) : Int := if x.rej || clash x p then 70 else 0
def pfW (x : Dg) (p : Pk) : Bool := !(x.rej || clash x p) && compD (storeD x p)
def pfV (x : Dg) (p : Pk) : Pk := if pfW x p then wholeD (storeD x p) else pz
def turnL (L : List Dg) (k : Ky) : Option Dg → List Dg
  | some y => setL L k y
  | none => dropL L k
end Go.Proofs.Ytecboengeheapaa
