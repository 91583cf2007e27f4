/- The iterator over a table's entries in the order of their addresses. -/
import Derived.Test.YtpkfjlbjahghgaaAtLaw
import Derived.Test.YtpkfjlbjahghgaaSortSh
import Derived.Test.YtpkfjlbjahghgaaAtHold
import Derived.RangeFuncNested
import Derived.RangeFuncBound
import Derived.RangeFuncCalls
import Derived.RangeFuncLeaves
import Derived.Shelf.Abstract
import Derived.Shelf.RegionOpen
import Derived.OwnWalkIn
import Derived.TacticsInMore
import Derived.LoopNIn
import Derived.LoopIn
namespace Go.Proofs.Ytpkfjlbjahghgaa
open Go.RowKit Go.Maps Go.Sort Go.Shelf
set_option linter.unusedVariables false
attribute [local go_sem] Oper.semAt_some

theorem sorts_any (m : Nat) : AnyZI.SortsIn Try.prog Try.sortedA_ren Fence.wide m :=
  ⟨fun blk off cap ss W hH hblk hsz => callsIn_wide.2 (AnyM.slices_Sort_int Try.sortA blk off cap ss W hH hblk hsz),
   fun p cap W => callsIn_wide.2 (AnyM.slices_Sort_int_none Try.sortA p cap W)⟩

theorem keys_mapD (R : List PE) : intKeys (mapD R) = R.map (fun p => p.x.addr) := by
  simp only [intKeys, mapE, List.map_map]; rfl
theorem sort_keys {R : List PE} (hs : R.Pairwise (fun p q => p.x.addr < q.x.addr)) {ss : List Int} (h : ss.Perm (intKeys (mapD R))) : ss.mergeSort (fun x y => decide (x ≤ y)) = R.map (fun p => p.x.addr) := by
  rw [keys_mapD] at h
  rw [show (fun x y : Int => decide (x ≤ y)) = leI from rfl, mergeSort_of_perm_i h]
  refine List.mergeSort_of_pairwise ?_
  refine List.pairwise_map.2 (hs.imp fun {p q} h => ?_)
  simp only [decide_eq_true_eq]; omega

/-- what the iterator hands on -/
def oenc (R : List PE) (i : Fin R.length) : Array Value := #[.int .i64 (R[i]).x.addr, entVal (R[i])]
/-- what it must find between two rounds -/
def OH (R : List PE) (Bm T mb : Nat) (pre : List (Fin R.length)) (W : World) : Prop :=
  W.cell? ⟨Bm, 0, none⟩ = some (.pointer (some ⟨T, 0, none⟩)) ∧ W.cell? ⟨T, 2, none⟩ = some (.map (some mb)) ∧
    ∀ i : Fin R.length, i.val = pre.length → (Instr.lookup 80 (.map (some mb)) (.int .i64 (R[i]).x.addr) false).run Try.prog W = .ok (entVal (R[i])) W
def ONx (R : List PE) (pre : List (Fin R.length)) (x : Fin R.length) : Prop := x.val = pre.length

set_option maxRecDepth 100000 in
set_option maxHeartbeats 3200000 in
theorem order_stops (R : List PE) (hR : R.Pairwise (fun p q => p.x.addr < q.x.addr)) (hlen : R.length ≤ 1000) (Bm T mb nn : Nat) (w : World) (hmb : mb < w.heap.size) (hBm : Bm < w.heap.size) (hown : w.ownsMap Try.prog 3 raw mb nn (mapD R)) :
    SeqStopsH Fence.wide 7 Try.prog 66 #[.pointer (some ⟨Bm, 0, none⟩)] (oenc R) (OH R Bm T mb) (ONx R) (fun xs => xs.length = R.length) (fun _ => True) w := by
  intro l J Jx W hW hJ hJx hH hY h0
  have h00 := h0 W (Below.refl _ _)
  obtain ⟨x1, x2, -⟩ := hH _ _ _ h00
  have hown' : W.ownsMap Try.prog 3 raw mb nn (mapD R) := map_of_block hown (hW.block mb hmb)
  have hz : Maps.size (mapD R) = R.length := by simp [Maps.size, mapE]
  have hmx : Maps.size (mapD R) ≤ maxLen := by rw [hz]; exact Nat.le_trans hlen (by decide)
  have hby : Maps.size (mapD R) * 8 ≤ 140737488355328 := by rw [hz]; omega
  have hseq : SeqGives Fence.wide 3 Try.prog 72 #[.pointer (some ⟨W.heap.size, 0, none⟩)] encZ (fun ss => ss.Perm (intKeys (mapD R))) (Maps.size (mapD R)) (W.alloc (.cells #[.map (some mb)] 80)) :=
    AnyZI.keys_gives (ρ := Try.keysA_ren) { Try.keysA with } Fence.wide _ trivial rfl (by omega) W.heap.size mb nn (mapD R) _ (by simp) (by simp) (by
      exact map_of_block hown' (Below.heap_alloc _ _ mb hown'.lt))
  have cK : ∀ mb W, CallsIn Fence.wide 6 Try.prog 68 #[.map mb] W fun e w' => e = .returned (.func (.func 72) #[] #[.pointer (some ⟨W.heap.size, 0, none⟩)]) ∧ w' = W.alloc (.cells #[.map mb] 80) := fun mb W => AnyZI.keys_in Try.keysA Fence.wide 6 trivial rfl mb W
  have cS := AnyZI.sorted_in Try.sortedA Fence.wide 6 trivial trivial trivial trivial rfl (by omega) (sorts_any _) (enters_of Try.func71 (by kernel_rfl) rfl) 72 #[.pointer (some ⟨W.heap.size, 0, none⟩)] trivial (enters_of Try.func72 (by kernel_rfl) rfl) _ _ hmx hby _ hseq
  change CallsIn _ _ Try.prog 67 _ _ _ at cS
  have cS2 : CallsIn Fence.wide 6 Try.prog 67 #[.func (.func 72) #[] #[.pointer (some ⟨W.heap.size, 0, none⟩)]] (W.alloc (.cells #[.map (some mb)] 80)) fun e w' =>
      ∃ p c, e = .returned (.slice p R.length c) ∧ w'.ownsRow (W.heap.size + 1) 3 1 (.slice p R.length c) R.length (R.map fun p => .int .i64 p.x.addr) ∧ Below W.heap.size W w' := by
    refine cS.mono ?_
    rintro e w' ⟨v, ss, rfl, hS, hrow, hnil, hb⟩
    have hl := hS.length_eq
    rw [keys_mapD, List.length_map] at hl
    rw [sort_keys hR hS, hl, List.map_map] at hrow
    obtain ⟨p, c, rfl, -⟩ := row_shape hrow
    refine ⟨p, c, rfl, ?_, ((Below.refl _ W).alloc (Nat.le_refl _) _).trans (hb.mono (by simp))⟩
    simp only [World.size_alloc] at hrow
    exact hrow
  clear cS hseq
  have hfK : Fence.wide.fn 68 := trivial
  have hfS : Fence.wide.fn 67 := trivial
  obtain ⟨n, hn⟩ : ∃ n, R.length = n := ⟨_, rfl⟩
  have hlR : ∀ (p : Option Addr) (c : Nat) (w' : World), (Builtin.len_ #[67] 3 #[.slice p R.length c]).run Try.prog w' = .ok (.int .i64 (n : Int)) w' := by
    intro p c w'; rw [hn]; rfl
  refine callsIn_of_wp Try.func66 rfl trivial ?_ rfl
  simp only [Try.ntmps66, List.size_toArray, List.length_cons, List.length_nil, Nat.reduceAdd, Nat.reduceSub, Array.replicate_succ, Array.replicate_zero, List.push_toArray, List.append_toArray, List.nil_append, List.cons_append]
  gi_wp2_with (first
    | (gi_at_call 68; refine (cK _ _).mono ?_; rintro e w' ⟨rfl, rfl⟩)
    | (gi_at_call 67; refine cS2.mono ?_; rintro e w0 ⟨p, c, rfl, hrow, hb⟩))
  have hI0 := h0 w0 hb
  obtain ⟨B, hB⟩ : ∃ B, w0.heap.size = B := ⟨_, rfl⟩
  rw [hB] at hI0
  have hWB : W.heap.size ≤ B := hB ▸ hb.size
  gi_loopw [12] (fun i wr => ∃ k : Nat, k ≤ n ∧ i = .int .i64 (k : Int) ∧ KeepsIn W.heap.size B w0 wr ∧ ∃ pre : List (Fin R.length), pre.length = k ∧ J B pre wr) (fun i _ => n - (intOf i).toNat)
  case atStart => exact ⟨0, by omega, rfl, KeepsIn.refl _ _ _, [], rfl, hI0⟩
  case round =>
    obtain ⟨k, hk, rfl, hkeep, pre, hpre, hJ1⟩ := hrel
    rcases Nat.lt_or_ge k n with hkn | hkn
    · have hkl : k < R.length := hn ▸ hkn
      have hrow' : wr.ownsRow (W.heap.size + 1) 3 1 (.slice p R.length c) R.length (R.map fun p => .int .i64 p.x.addr) := row_of_block hrow (fun g e => hkeep.same g (by have := (hrow.lt g e).1; omega) (by have := (hrow.lt g e).2; omega))
      obtain ⟨g, hg⟩ : ∃ g, p = some ⟨g, 0, none⟩ := by
        rcases hrow.2 with ⟨e, -⟩ | ⟨g, cap, cur, e, -⟩
        · simp only [Value.slice.injEq] at e; omega
        · simp only [Value.slice.injEq] at e; exact ⟨g, e.1⟩
      subst hg
      have hc : wr.cell? ⟨g, k, none⟩ = some (.int .i64 (R[k]'hkl).x.addr) := (hrow'.cellAt k (by omega)).trans (by simp [hkl])
      obtain ⟨c1, c2, c3⟩ := hH _ _ _ hJ1
      have hl := c3 ⟨k, hkl⟩ hpre.symm
      obtain ⟨fn, tmps, assign, body, hy, hR1⟩ := hY B pre ⟨k, hkl⟩ wr hWB hJ1 hpre.symm
      simp only [oenc] at hy
      simp only [Fin.getElem_fin] at hl hy
      obtain ⟨a, ha⟩ : ∃ a, (R[k]'hkl).x.addr = a := ⟨_, rfl⟩
      obtain ⟨ev, hev⟩ : ∃ ev, entVal (R[k]'hkl) = ev := ⟨_, rfl⟩
      rw [ha, hev] at hl hy
      rw [ha] at hc
      have hki : (k : Int) < n := by omega
      have hn63 : (n : Int) < 9223372036854775807 := by omega
      clear ha hev hrow' hrow cS2 cK hlR hz hmx hby x1 x2 hI0 h00 hown' hown hb
      gi_wp2
      refine hR1.mono ?_
      rintro e W2 (⟨rfl, hJ2, hk2⟩ | ⟨rfl, hJ2⟩)
      · gi_wp2
        refine ⟨⟨k + 1, by omega, by simp, hkeep.trans hk2, _, by simp [hpre], hJ2⟩, ?_⟩
        show n - ((k : Int) + 1).toNat < n - (k : Int).toNat
        omega
      · gi_wp2
        refine bodyPost_ret (results_none rfl _ _ _) rfl ?_
        exact ⟨⟨_, rfl⟩, .inr ⟨_, trivial, hJ2⟩⟩
    · obtain rfl : k = n := by omega
      have hkk : ((k : Int) < (k : Int)) = False := by simp
      gi_wp2
      go_end0
      exact ⟨⟨_, rfl⟩, .inl ⟨B, pre, by omega, hJ1⟩⟩

/-- the iterator's value -/
theorem order_in (F : Fence) (n : Nat) (hf : F.fn 52) (hro : F.round = none) (T : Nat) (w : World) :
    CallsIn F n Try.prog 52 #[.pointer (some ⟨T, 0, none⟩)] w fun e w' => e = .returned (.func (.func 66) #[] #[.pointer (some ⟨w.heap.size, 0, none⟩)]) ∧
      w' = w.alloc (.cells #[.pointer (some ⟨T, 0, none⟩)] 40) := by
  refine callsIn_of_wp Try.func52 rfl hf ?_ hro
  simp only [Try.ntmps52, List.size_toArray, List.length_cons, List.length_nil, Nat.reduceAdd, Nat.reduceSub, Array.replicate_succ, Array.replicate_zero, List.push_toArray, List.append_toArray, List.nil_append, List.cons_append]
  gi_wp2
  go_ret
  exact ⟨rfl, rfl⟩
end Go.Proofs.Ytpkfjlbjahghgaa
