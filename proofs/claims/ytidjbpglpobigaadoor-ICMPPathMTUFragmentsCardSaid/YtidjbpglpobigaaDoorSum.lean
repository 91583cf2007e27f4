/- Contract of wire.Checksum: a range over a function. -/
import Derived.Test.YtidjbpglpobigaaDoorSumMath
import Derived.Test.YtidjbpglpobigaaDoorPick
import Derived.RangeFuncNested
import Derived.RangeFuncBound
import Derived.RangeFuncCalls
import Derived.RangeFuncLeaves
import Derived.Shelf.Abstract
import Derived.Shelf.RegionOpen
import Derived.WalkKit
import Derived.OwnWalkIn
import Derived.TacticsInMore
import Derived.LoopNIn
import Derived.LoopIn
namespace Go.Proofs.YtidjbpglpobigaaDoor
open Go.RowKit Go.Shelf
attribute [local go_sem] Oper.semAt_some

theorem word_or (s : ByteArray) (a k : Nat) (h : a = 2 * k) (h1 : a + 1 < s.size) :
    bits .or .i64 ((s[a].toNat : Int) * 256) (s[a + 1].toNat : Int) = ((wordAt s.data.toList k : Nat) : Int) := by
  subst h
  have e1 : s.data.toList[2 * k]? = some s[2 * k] := by rw [Array.getElem?_toList]; exact Array.getElem?_eq_getElem _
  have e2 : s.data.toList[2 * k + 1]? = some s[2 * k + 1] := by rw [Array.getElem?_toList]; exact Array.getElem?_eq_getElem _
  have b1 := s[2 * k].toNat_lt
  have b2 := s[2 * k + 1].toNat_lt
  rw [or8_i64 _ _ (by omega) (by omega) (by omega) (by omega), wordAt, e1, e2]
  simp
theorem word_odd (s : ByteArray) (a k : Nat) (h : a = 2 * k) (h1 : a < s.size) (h2 : s.size ≤ a + 1) :
    ((s[a].toNat : Int) * 256) = ((wordAt s.data.toList k : Nat) : Int) := by
  subst h
  have e1 : s.data.toList[2 * k]? = some s[2 * k] := by rw [Array.getElem?_toList]; exact Array.getElem?_eq_getElem _
  have e2 : s.data.toList[2 * k + 1]? = none := by rw [Array.getElem?_toList]; exact Array.getElem?_eq_none h2
  rw [wordAt, e1, e2]
  simp

theorem box_new (W : World) (v : Value) (t : TypeId) : (W.alloc (.cells #[v] t)).cell? ⟨W.heap.size, 0, none⟩ = some v ∧ (W.alloc (.cells #[v] t)).frozen? ⟨W.heap.size, 0, none⟩ = false :=
  ⟨by rw [World.cell?_alloc_new]; rfl, by rw [World.frozen?_alloc_new]⟩
theorem lt_of_cell {W : World} {a : Addr} {v : Value} (h : W.cell? a = some v) : a.block < W.heap.size := by
  rcases Nat.lt_or_ge a.block W.heap.size with hl | hl
  · exact hl
  · rw [World.cell?, Array.getElem?_eq_none hl] at h; cases h
theorem box_cell {W : World} {a : Addr} {v : Value} {o : Obj} (h : W.cell? a = some v) : (W.alloc o).cell? a = some v := by
  rw [World.cell?_of_block (Below.heap_alloc W o a.block (lt_of_cell h))]; exact h
theorem box_frozen {W : World} {a : Addr} {v : Value} {o : Obj} (h : W.cell? a = some v) (hf : W.frozen? a = false) : (W.alloc o).frozen? a = false := by
  rw [World.frozen?_of_block (Below.heap_alloc W o a.block (lt_of_cell h))]; exact hf

/-- the number in a box -/
def natAt (W : World) (b : Nat) : Nat := match W.cell? ⟨b, 0, none⟩ with | some (.int _ n) => n.toNat | _ => 0
theorem natAt_eq {W : World} {b n : Nat} {k : IntKind} (h : W.cell? ⟨b, 0, none⟩ = some (.int k (n : Int))) : natAt W b = n := by unfold natAt; rw [h]; simp

/-- what a round must keep: the box of the string -/
def KpB (B : Nat) (W W' : World) : Prop := W'.heap[B]? = W.heap[B]?

set_option maxRecDepth 100000 in
set_option maxHeartbeats 1000000 in
theorem words1_in (F : Fence) (n : Nat) (hf : F.fn 101) (hro : F.round = none) (hn : 1 ≤ n) (l Bn : Nat) (s : ByteArray) (hs : s.size ≤ 1099511627776) (J Jx : List W16 → World → Prop)
    (hY : ∀ pre x W, J pre W → pre.length < (wordL s.data.toList).length → YieldAt F (n - 1) Tryd.prog l #[.int .i64 (x.1 : Int)] W fun e W' =>
      (e = .returned (.bool true) ∧ J (pre ++ [x]) W' ∧ KpB Bn W W') ∨ (e = .returned (.bool false) ∧ Jx (pre ++ [x]) W'))
    (W : World) (hBn : W.cell? ⟨Bn, 0, none⟩ = some (.string s)) (h0 : J [] W) :
    CallsIn F n Tryd.prog 101 #[.func (.yield l) #[] #[], .pointer (some ⟨Bn, 0, none⟩)] W fun e W' => (∃ v, e = .returned v) ∧
      ((∃ ys, ys = wordL s.data.toList ∧ J ys W') ∨ (∃ pre, pre <+: wordL s.data.toList ∧ Jx pre W')) := by
  refine callsIn_of_wp Tryd.func101 rfl hf ?_ hro
  simp only [Tryd.ntmps101, List.size_toArray, List.length_cons, List.length_nil, Nat.reduceAdd, Nat.reduceSub, Array.replicate_succ, Array.replicate_zero, List.push_toArray, List.append_toArray, List.nil_append, List.cons_append]
  gi_wp2
  gi_loopw [3] (fun i wr => ∃ k a : Nat, Hid (a = 2 * k) ∧ k ≤ nWords s.data.toList ∧ a ≤ s.size + 1 ∧ i = .int .i64 a ∧ wr.cell? ⟨Bn, 0, none⟩ = some (.string s) ∧ J ((wordL s.data.toList).take k) wr) (fun i _ => s.size + 1 - (intOf i).toNat)
  case atStart => exact ⟨0, 0, rfl, by omega, by omega, rfl, hBn, h0⟩
  case round =>
    obtain ⟨k, a, ha, hk, ha2, rfl, hc, hJ⟩ := hrel
    have hlen : s.data.toList.length = s.size := by rfl
    have hnw : nWords s.data.toList = (s.size + 1) / 2 := by unfold nWords; rw [hlen]
    have Hn := Lib.hid hnw
    clear hnw hlen
    by_cases h1 : a < s.size
    · have hk' : k < nWords s.data.toList := by have := ha.out; have := Hn.out; omega
      obtain ⟨x, hx⟩ : ∃ x : W16, x = ⟨wordAt s.data.toList k, wordAt_lt _ k⟩ := ⟨_, rfl⟩
      have hpre : ((wordL s.data.toList).take k).length < (wordL s.data.toList).length := by rw [List.length_take, wordL_length]; omega
      have htk : (wordL s.data.toList).take (k + 1) = (wordL s.data.toList).take k ++ [x] := by rw [hx]; exact wordL_take _ k hk'
      have Htk := Lib.hid htk
      clear htk
      obtain ⟨fn, tmps, assign, body, hy, hR⟩ := hY _ x wr hJ hpre
      by_cases h2 : a + 1 < s.size
      · have hw : bits .or .i64 ((s[a].toNat : Int) * 256) (s[a + 1].toNat : Int) = (x.1 : Int) := by rw [hx]; exact word_or s a k ha.out h2
        have hb1 := s[a].toNat_lt
        have hb2 := s[a + 1].toNat_lt
        clear hx
        gi_wp2
        refine hR.mono ?_
        rintro e W3 (⟨rfl, hJ3, hk3⟩ | ⟨rfl, hJx3⟩)
        · have hc3 : W3.cell? ⟨Bn, 0, none⟩ = some (.string s) := (World.cell?_of_block (a := ⟨Bn, 0, none⟩) hk3).trans hc
          gi_wp2
          go_roundw
          case rel => exact ⟨k + 1, a + 2, by have := ha.out; show a + 2 = 2 * (k + 1); omega, by omega, by omega, by go_num, hc3, by rw [Htk.out]; exact hJ3⟩
          case measure => simp [intOf]; omega
        · gi_wp2
          refine bodyPost_ret (results_none rfl _ _ _) rfl ?_
          exact ⟨⟨_, rfl⟩, .inr ⟨(wordL s.data.toList).take k ++ [x], by rw [← Htk.out]; exact List.take_prefix _ _, hJx3⟩⟩
      · have hw : ((s[a].toNat : Int) * 256) = (x.1 : Int) := by rw [hx]; exact word_odd s a k ha.out h1 (by omega)
        have hb1 := s[a].toNat_lt
        have h3 : s.size ≤ a + 1 := by omega
        clear h2
        clear hx
        gi_wp2
        refine hR.mono ?_
        rintro e W3 (⟨rfl, hJ3, hk3⟩ | ⟨rfl, hJx3⟩)
        · have hc3 : W3.cell? ⟨Bn, 0, none⟩ = some (.string s) := (World.cell?_of_block (a := ⟨Bn, 0, none⟩) hk3).trans hc
          gi_wp2
          go_roundw
          case rel => exact ⟨k + 1, a + 2, by have := ha.out; show a + 2 = 2 * (k + 1); omega, by omega, by omega, by go_num, hc3, by rw [Htk.out]; exact hJ3⟩
          case measure => simp [intOf]; omega
        · gi_wp2
          refine bodyPost_ret (results_none rfl _ _ _) rfl ?_
          exact ⟨⟨_, rfl⟩, .inr ⟨(wordL s.data.toList).take k ++ [x], by rw [← Htk.out]; exact List.take_prefix _ _, hJx3⟩⟩
    · obtain rfl : k = nWords s.data.toList := by have := ha.out; have := Hn.out; omega
      gi_wp2
      go_end0
      exact ⟨⟨_, rfl⟩, .inl ⟨_, rfl, by rw [List.take_of_length_le (by rw [wordL_length]; exact Nat.le_refl _)] at hJ; exact hJ⟩⟩
set_option maxHeartbeats 1000000 in
theorem words_in (F : Fence) (n : Nat) (hf : F.fn 88) (hro : F.round = none) (s : ByteArray) (w : World) :
    CallsIn F n Tryd.prog 88 #[.string s] w fun e w' => e = .returned (.func (.func 101) #[] #[.pointer (some ⟨w.heap.size, 0, none⟩)]) ∧ w' = w.alloc (.cells #[.string s] 9) := by
  refine callsIn_of_wp Tryd.func88 rfl hf ?_ hro
  simp only [Tryd.ntmps88, List.size_toArray, List.length_cons, List.length_nil, Nat.reduceAdd, Nat.reduceSub, Array.replicate_succ, Array.replicate_zero, List.push_toArray, List.append_toArray, List.nil_append, List.cons_append]
  gi_wp2
  go_ret
  exact ⟨rfl, rfl⟩

theorem words_stops (F : Fence) (n : Nat) (hf : F.fn 101) (hro : F.round = none) (hn : 1 ≤ n) (Bn : Nat) (s : ByteArray) (hs : s.size ≤ 1099511627776) (w : World) (hB : Bn < w.heap.size)
    (hc : w.cell? ⟨Bn, 0, none⟩ = some (.string s)) :
    SeqStopsK F n Tryd.prog 101 #[.pointer (some ⟨Bn, 0, none⟩)] (fun x : W16 => #[Value.int .i64 (x.1 : Int)]) (KpB Bn) (fun ys => ys = wordL s.data.toList) (fun pre => pre <+: wordL s.data.toList) (wordL s.data.toList).length w :=
  fun l J Jx W hW _ _ hY h0 => words1_in F n hf hro hn l Bn s hs J Jx hY W ((hW.cell (p := ⟨Bn, 0, none⟩) hB).trans hc) h0

set_option maxRecDepth 100000 in
set_option maxHeartbeats 2000000 in
theorem checksum_in (s : ByteArray) (hs : s.size ≤ 1099511627776) (w : World) :
    CallsIn Fence.wide 3 Tryd.prog 65 #[.string s] w fun e W' => e = .returned (.int .i64 ((sumN s.data.toList : Nat) : Int)) ∧ Below w.heap.size w W' := by
  have hro : Fence.wide.round = none := rfl
  have h1 : 1 ≤ 3 := by decide
  refine callsIn_of_wp_marks Tryd.func65 rfl trivial ?_ hro
  simp only [Tryd.ntmps65, List.size_toArray, List.length_cons, List.length_nil, Nat.reduceAdd, Nat.reduceSub, Array.replicate_succ, Array.replicate_zero, List.push_toArray, List.append_toArray, List.nil_append, List.cons_append]
  gi_wp2_with (refine ⟨trivial, ?_⟩; gi_at_call 88; refine (words_in Fence.wide _ trivial hro _ _).mono ?_; rintro e w' ⟨rfl, rfl⟩)
  have hs0 := box_new w (.int .i64 0) 3
  have hb := box_new (w.alloc (.cells #[.int .i64 0] 3)) (.string s) 9
  rw [World.size_alloc] at hb
  have hB0 : Below w.heap.size w ((w.alloc (.cells #[.int .i64 0] 3)).alloc (.cells #[.string s] 9)) := ((Below.refl _ w).alloc (Nat.le_refl _) _).alloc (by simp) _
  refine wpIn_rangeFunc_ownF hro h1 (gf := 101) (lb := #[.pointer (some ⟨w.heap.size + 1, 0, none⟩)]) rfl trivial (enters_of Tryd.func101 (by kernel_rfl) rfl)
    (words_stops Fence.wide _ trivial hro (by decide) (w.heap.size + 1) s hs _ (by simp) hb.1)
    (fun h k => k.trans h)
    (fun W l o o' hl h _ _ => ?hKb) (Below.refl _ _) (fun _ => rfl)
    (fun pre W => (W.cell? ⟨w.heap.size, 0, none⟩ = some (.int .i64 ((sumW pre : Nat) : Int)) ∧ W.frozen? ⟨w.heap.size, 0, none⟩ = false) ∧ Below w.heap.size w W)
    (fun _ _ _ => False)
    (OwnFrom.and (Own.from (fun s A B row hs hg hr => ⟨cell_kept hs.1 hg hr, (frozen_kept hs.1 hg hr).trans hs.2⟩) _) (ownFrom_below (Nat.le_refl _) (by simp; omega)))
    (fun _ _ _ _ _ hs _ _ => hs)
    ⟨⟨box_cell hs0.1, box_frozen hs0.1 hs0.2⟩, hB0⟩
    (fun x => { tmps := #[.string s, undef, .int .i64 0, .pointer (some ⟨w.heap.size, 0, none⟩), .int .i64 (x.1 : Int), .string s, .func (.func 101) #[] #[.pointer (some ⟨w.heap.size + 1, 0, none⟩)], .int .i64 (x.1 : Int), undef, undef, undef, undef, undef, undef, undef, undef, undef, undef, undef, undef], defers := [] }) ?assign ?body ?done ?stop
  case hKb =>
    show (W.putObj l o').heap[w.heap.size + 1]? = _
    exact World.putObj_heap_other (by simp at hl; omega)
  case assign =>
    intro l x W K hK
    gi_wp2
    exact hK
  case body =>
    rintro l pre x W ⟨⟨hc, hf⟩, hB⟩ hlen
    have hle := sumW_le pre
    have hx := x.2
    have hnl : pre.length ≤ 1099511627776 := by
      rw [wordL_length] at hlen
      have : s.data.toList.length = s.size := rfl
      unfold nWords at hlen
      omega
    have hbd : (0 : Int) ≤ (sumW pre : Int) + (x.1 : Int) ∧ (sumW pre : Int) + (x.1 : Int) ≤ 72057594037927936 := ⟨by omega, by omega⟩
    gi_wp2
    refine ⟨KeepsOthers.setCell _ _ _, ?_, ⟨?_, by rw [World.frozen?_setCell]; exact hf⟩, hB.setCell (p := ⟨w.heap.size, 0, none⟩) (Nat.le_refl _) _⟩
    · exact Below.heap_setCell W ⟨w.heap.size, 0, none⟩ _ (w.heap.size + 1) (by simp)
    · rw [sumW_snoc, Int.natCast_add]; exact World.cell?_setCell_same' _ _ _ (by rw [hc]; rfl)
  case done =>
    rintro D ys W hD rfl ⟨⟨hc, hf⟩, hB⟩ hK
    have hbig : sumW (wordL s.data.toList) ≤ 72057594037927936 := by
      have h1 := sumW_le (wordL s.data.toList)
      rw [wordL_length] at h1
      have : s.data.toList.length = s.size := rfl
      unfold nWords at h1
      omega
    generalize hS : sumW (wordL s.data.toList) = S0 at hc hbig
    gi_wp2
    gi_loopw [11] (fun _ wr => ∃ m : Nat, m ≤ 72057594037927936 ∧ wr.cell? ⟨w.heap.size, 0, none⟩ = some (.int .i64 (m : Int)) ∧ Hid (foldC m = foldC S0) ∧ wr.frozen? ⟨w.heap.size, 0, none⟩ = false ∧ Below w.heap.size w wr ∧ wr.heap[D]? = some (.deferred (some []))) (fun _ wr => natAt wr w.heap.size)
    case atStart => exact ⟨S0, hbig, hc, rfl, hf, hB, hK⟩
    case round =>
      obtain ⟨m, hm, hcm, hfold, hfm, hBm, hKm⟩ := hrel
      by_cases hgt : 65535 < m
      · have ha := and16_i64 (m : Int) (by omega) (by omega)
        have hstep := Lib.hid (foldC_step hgt)
        have hnat := Lib.hid (natAt_eq hcm)
        have hsame := fun u => World.cell?_setCell_same' wr ⟨w.heap.size, 0, none⟩ u (by rw [hcm]; rfl)
        gi_wp2
        go_roundw
        case rel => exact ⟨m % 65536 + m / 65536, by omega, by rw [hsame]; congr 2, by show _ = _; rw [hstep.out]; exact hfold.out, by rw [World.frozen?_setCell]; exact hfm, hBm.setCell (p := ⟨w.heap.size, 0, none⟩) (Nat.le_refl _) _, (KeepsOthers.setCell wr ⟨w.heap.size, 0, none⟩ _).same D _ hKm rfl⟩
        case measure => rw [natAt_eq (n := m % 65536 + m / 65536) (by rw [hsame]; congr 2), hnat.out]; omega
      · have hle : m ≤ 65535 := by omega
        clear hgt
        gi_wp2
        refine ⟨by simp, .inl ⟨_, _, rfl, run_takeDeferred hKm, ?_⟩⟩
        refine ⟨_, results_tmp rfl _ _ _, ?_, hBm.trans (belowK_b (w := w) (Nat.le_refl _) wr D _ _ (by simp at hD; omega) hKm rfl rfl)⟩
        refine ret_int ?_
        have h5 := hfold.out
        rw [foldC_done hle] at h5
        unfold sumN
        rw [hS, ← h5]
        omega
  case stop =>
    rintro D c pre W _ _ h _
    exact h.elim

/-- wire.Checksum -/
theorem sum_any (s : ByteArray) (hs : s.size ≤ 1099511627776) (w : World) :
    Calls Tryd.prog 65 #[.string s] w fun e W' => e = .returned (.int .i64 ((sumN s.data.toList : Nat) : Int)) ∧ Below w.heap.size w W' :=
  callsIn_wide.1 (checksum_in s hs w)
end Go.Proofs.YtidjbpglpobigaaDoor
