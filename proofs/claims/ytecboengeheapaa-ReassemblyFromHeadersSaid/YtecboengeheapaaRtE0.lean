/- What lies in memory between two steps of store. -/
import Derived.Test.YtecboengeheapaaRtD
import Derived.Test.YtecboengeheapaaRtApp
import Derived.StillTailTactics
import Derived.Laws.CopyOwn
import Derived.Lib.BufferWrite
namespace Go.Proofs.Ytecboengeheapaa
open Go.RowKit
set_option linter.unusedVariables false
attribute [local go_sem] Oper.semAt_some

/-- between two steps of store -/
structure SI (w : World) (base : Nat) (p : PE) (P : Nat) (pk : Pk) (x : Dg) (tv rv : Value) (w' : World) : Prop where
  low : base ≤ p.b
  blk : w'.heap[p.b]? = some (dgo x tv rv)
  txt : w'.ownsRow base 5 1 tv x.txt.length (byt x.txt)
  rcv : w'.ownsRow base 4 1 rv x.rcv.length (bls x.rcv)
  box : w'.heap[P]? = some (po pk)
  nd : (P :: PE.blks ⟨x, p.b, tv, rv⟩).Nodup
  row : ∀ k ∈ PE.blks ⟨x, p.b, tv, rv⟩, k ∈ p.blks ∨ w.heap.size ≤ k
  t : Touch (fun k => k ∈ p.blks) w w'

theorem SI.step {w : World} {base : Nat} {p : PE} {P : Nat} {pk : Pk} {x x' : Dg} {tv rv tv' rv' : Value} {w' w'' : World} (h : SI w base p P pk x tv rv w') (ht : Touch (fun k => k ∈ PE.blks ⟨x, p.b, tv, rv⟩) w' w'')
    (hb : w''.heap[p.b]? = some (dgo x' tv' rv')) (h1 : w''.ownsRow base 5 1 tv' x'.txt.length (byt x'.txt)) (h2 : w''.ownsRow base 4 1 rv' x'.rcv.length (bls x'.rcv))
    (hnd : (PE.blks ⟨x', p.b, tv', rv'⟩).Nodup) (hin : ∀ k ∈ PE.blks ⟨x', p.b, tv', rv'⟩, k ∈ PE.blks ⟨x, p.b, tv, rv⟩ ∨ w'.heap.size ≤ k) : SI w base p P pk x' tv' rv' w'' := by
  have hP := blk_lt h.box
  obtain ⟨hP1, -⟩ := List.nodup_cons.1 h.nd
  refine ⟨h.low, hb, h1, h2, (ht.block P hP hP1).trans h.box, List.nodup_cons.2 ⟨fun hk => ?_, hnd⟩, fun k hk => ?_, h.t.trans ht (fun k hk => h.row k hk)⟩
  · rcases hin P hk with h3 | h3
    · exact hP1 h3
    · omega
  · rcases hin k hk with h3 | h3
    · exact h.row k h3
    · have := h.t.size; exact .inr (by omega)
/-- cells of the datagram's own block turn -/
theorem SI.setb {w : World} {base : Nat} {p : PE} {P : Nat} {pk : Pk} {x x' : Dg} {tv rv : Value} {w' w'' : World} (h : SI w base p P pk x tv rv w') (ht : Touch (fun k => k = p.b) w' w'')
    (hb : w''.heap[p.b]? = some (dgo x' tv rv)) (e1 : x'.txt = x.txt) (e2 : x'.rcv = x.rcv) : SI w base p P pk x' tv rv w'' := by
  have hn := (List.nodup_cons.1 h.nd).2
  unfold PE.blks at hn
  obtain ⟨hn1, -⟩ := List.nodup_cons.1 hn
  refine h.step (ht.mono (fun k hk => by simp [PE.blks, hk])) hb ?_ ?_ (List.nodup_cons.1 h.nd).2 (fun k hk => .inl hk)
  · rw [e1]; exact row_blk h.txt (fun k e => ht.block k (h.txt.lt k e).2 (fun e2 => hn1 (by subst e2; simp [e])))
  · rw [e2]; exact row_blk h.rcv (fun k e => ht.block k (h.rcv.lt k e).2 (fun e2 => hn1 (by subst e2; simp [e])))

theorem SI.below {w : World} {base : Nat} {p : PE} {P : Nat} {pk : Pk} {x : Dg} {tv rv : Value} {w' w'' : World} (h : SI w base p P pk x tv rv w') (hb : Below w'.heap.size w' w'') : SI w base p P pk x tv rv w'' := by
  refine h.step (Touch.of hb) (blk_below h.blk hb (blk_lt h.blk)) (row_blk h.txt fun k e => hb.block k (h.txt.lt k e).2) (row_blk h.rcv fun k e => hb.block k (h.rcv.lt k e).2) (List.nodup_cons.1 h.nd).2 (fun k hk => .inl hk)
theorem SI.drew {w : World} {base : Nat} {p : PE} {P : Nat} {pk : Pk} {x : Dg} {tv rv : Value} {w' : World} (h : SI w base p P pk x tv rv w') : SI w base p P pk x tv rv w'.drew := h.below ((Below.refl _ w').drew)

theorem infoB8 : (Try.prog.info? 5).map (fun i => (i.zero, i.size, i.bytes)) = some (some (.int .u8 0), 1, 1) := by kernel_rfl
theorem infoBool : (Try.prog.info? 4).map (fun i => (i.zero, i.size, i.bytes)) = some (some (.bool false), 1, 1) := by kernel_rfl
theorem row_ne {w : World} {base b : Nat} {e t : TypeId} {size : Nat} {v : Value} {n : Nat} {xs : List Value} {cs : Array Value} (h : w.ownsRow base e size v n xs) (hb : w.heap[b]? = some (.cells cs t (0, 0))) (ht : t ≠ e) : v.ownBlock ≠ some b := by
  intro hv
  rcases h.2 with ⟨rfl, rfl⟩ | ⟨g, cap, cur, rfl, h2, h3, _⟩
  · simp [Value.ownBlock] at hv
  · obtain rfl : g = b := by simpa [Value.ownBlock] using hv
    rw [h3] at hb
    cases hb
    exact ht rfl

theorem SI.padT {w : World} {base : Nat} {p : PE} {P : Nat} {pk : Pk} {x : Dg} {tv rv : Value} {W : World} (h : SI w base p P pk x tv rv W) (hbase : base ≤ w.heap.size) (k : Nat) (hk : 0 < k) (hl : x.txt.length + k ≤ 8000) :
    ∃ tv' W', (Builtin.append_ #[40, 3] 40 #[tv, .int .i64 (k : Int)]).run Try.prog W = .ok tv' W' ∧ W'.heap[p.b]? = some (dgo x tv rv) ∧ SI w base p P pk { x with txt := x.txt ++ List.replicate k 0 } tv' rv (W'.setCell ⟨p.b, 12, none⟩ tv') := by
  obtain ⟨i0, hi, hz0, hz1, hz2⟩ := info_parts infoB8
  have hWs := h.t.size
  obtain ⟨tv', W', hr, hown, hg, hown3⟩ := run_zeros_own (P := Try.prog) W base 40 3 40 5 i0 (.int .u8 0) Try.underlying40 Try.underlying3 hi hz0 hz1 rfl rfl (by rw [hz2]; decide) tv x.txt.length (byt x.txt) h.txt k hk (by omega) (by omega)
  have hnd := (List.nodup_cons.1 h.nd).2
  unfold PE.blks at hnd
  obtain ⟨hb1, hnd2⟩ := List.nodup_cons.1 hnd
  rw [List.nodup_append] at hnd2
  have hbl := blk_lt h.blk
  have hbne : some p.b ≠ tv.ownBlock := fun e => hb1 (by simp [← e])
  have hB : W'.heap[p.b]? = some (dgo x tv rv) := (hg.block _ hbl hbne).trans h.blk
  have hB2 := blk_setc (k := 12) hB tv'
  simp only [List.setIfInBounds_toArray, List.set_cons_zero, List.set_cons_succ] at hB2
  have hne : tv'.ownBlock ≠ some p.b := row_ne hown hB (by decide)
  have hrne : rv.ownBlock ≠ some p.b := row_ne h.rcv h.blk (by decide)
  have htr : ∀ k, tv'.ownBlock = some k → tv.ownBlock = some k ∨ W.heap.size ≤ k := by
    intro k hk2
    rcases hown3 with e | ⟨g, e, hg2⟩
    · exact .inl (e ▸ hk2)
    · rw [e] at hk2; cases hk2; exact .inr hg2
  have hkeepR : ∀ k, rv.ownBlock = some k → W'.heap[k]? = W.heap[k]? := fun k e => hg.block k (h.rcv.lt k e).2 (fun e2 => hnd2.2.2 k (by simp [← e2]) k (by simp [e]) rfl)
  refine ⟨tv', W', hr, hB, h.step (x' := { x with txt := x.txt ++ List.replicate k 0 }) ?_ hB2 ?_ ?_ ?_ ?_⟩
  · exact Touch.setc (Touch.grown hg (fun k e => by simp [PE.blks, e])) _ (by simp [PE.blks])
  · have hz : byt x.txt ++ List.replicate k (.int .u8 0) = byt (x.txt ++ List.replicate k 0) := by simp [byt, byteV]
    rw [hz] at hown
    have := row_blk (w' := W'.setCell ⟨p.b, 12, none⟩ tv') hown (fun k e => Below.heap_setCell _ _ _ _ (fun e2 => hne (by rw [e, e2])))
    simpa using this
  · exact row_blk (row_blk h.rcv hkeepR) (fun k e => Below.heap_setCell _ _ _ _ (fun e2 => hrne (by rw [e, e2])))
  · unfold PE.blks
    refine List.nodup_cons.2 ⟨fun hm => ?_, List.nodup_append.2 ⟨by cases tv'.ownBlock <;> simp, hnd2.2.1, fun k1 hk1 k2 hk2 e => ?_⟩⟩
    · simp only [List.mem_append, Option.mem_toList] at hm
      rcases hm with hm | hm
      · exact hne hm
      · exact hrne hm
    · simp only [Option.mem_toList] at hk1 hk2
      subst e
      rcases htr k1 hk1 with h3 | h3
      · exact hnd2.2.2 k1 (by simp [h3]) k1 (by simp [hk2]) rfl
      · have := (h.rcv.lt k1 hk2).2; omega
  · intro k1 hk1
    simp only [PE.blks, List.mem_cons, List.mem_append, Option.mem_toList] at hk1 ⊢
    rcases hk1 with e | e | e
    · exact .inl (.inl e)
    · rcases htr k1 e with h3 | h3
      · exact .inl (.inr (.inl h3))
      · exact .inr h3
    · exact .inl (.inr (.inr e))

theorem SI.padR {w : World} {base : Nat} {p : PE} {P : Nat} {pk : Pk} {x : Dg} {tv rv : Value} {W : World} (h : SI w base p P pk x tv rv W) (hbase : base ≤ w.heap.size) (k : Nat) (hk : 0 < k) (hl : x.rcv.length + k ≤ 8000) :
    ∃ rv' W', (Builtin.append_ #[58, 3] 58 #[rv, .int .i64 (k : Int)]).run Try.prog W = .ok rv' W' ∧ W'.heap[p.b]? = some (dgo x tv rv) ∧ SI w base p P pk { x with rcv := x.rcv ++ List.replicate k false } tv rv' (W'.setCell ⟨p.b, 13, none⟩ rv') := by
  obtain ⟨i0, hi, hz0, hz1, hz2⟩ := info_parts infoBool
  have hWs := h.t.size
  obtain ⟨rv', W', hr, hown, hg, hown3⟩ := run_zeros_own (P := Try.prog) W base 58 3 58 4 i0 (.bool false) Try.underlying58 Try.underlying3 hi hz0 hz1 rfl rfl (by rw [hz2]; decide) rv x.rcv.length (bls x.rcv) h.rcv k hk (by omega) (by omega)
  have hnd := (List.nodup_cons.1 h.nd).2
  unfold PE.blks at hnd
  obtain ⟨hb1, hnd2⟩ := List.nodup_cons.1 hnd
  rw [List.nodup_append] at hnd2
  have hbl := blk_lt h.blk
  have hbne : some p.b ≠ rv.ownBlock := fun e => hb1 (by simp [← e])
  have hB : W'.heap[p.b]? = some (dgo x tv rv) := (hg.block _ hbl hbne).trans h.blk
  have hB2 := blk_setc (k := 13) hB rv'
  simp only [List.setIfInBounds_toArray, List.set_cons_zero, List.set_cons_succ] at hB2
  have hne : rv'.ownBlock ≠ some p.b := row_ne hown hB (by decide)
  have htne : tv.ownBlock ≠ some p.b := row_ne h.txt h.blk (by decide)
  have htr : ∀ k, rv'.ownBlock = some k → rv.ownBlock = some k ∨ W.heap.size ≤ k := by
    intro k hk2
    rcases hown3 with e | ⟨g, e, hg2⟩
    · exact .inl (e ▸ hk2)
    · rw [e] at hk2; cases hk2; exact .inr hg2
  have hkeepT : ∀ k, tv.ownBlock = some k → W'.heap[k]? = W.heap[k]? := fun k e => hg.block k (h.txt.lt k e).2 (fun e2 => hnd2.2.2 k (by simp [e]) k (by simp [← e2]) rfl)
  refine ⟨rv', W', hr, hB, h.step (x' := { x with rcv := x.rcv ++ List.replicate k false }) ?_ hB2 ?_ ?_ ?_ ?_⟩
  · exact Touch.setc (Touch.grown hg (fun k e => by simp [PE.blks, e])) _ (by simp [PE.blks])
  · exact row_blk (row_blk h.txt hkeepT) (fun k e => Below.heap_setCell _ _ _ _ (fun e2 => htne (by rw [e, e2])))
  · have hz : bls x.rcv ++ List.replicate k (.bool false) = bls (x.rcv ++ List.replicate k false) := by simp [bls]
    rw [hz] at hown
    have := row_blk (w' := W'.setCell ⟨p.b, 13, none⟩ rv') hown (fun k e => Below.heap_setCell _ _ _ _ (fun e2 => hne (by rw [e, e2])))
    simpa using this
  · unfold PE.blks
    refine List.nodup_cons.2 ⟨fun hm => ?_, List.nodup_append.2 ⟨hnd2.1, by cases rv'.ownBlock <;> simp, fun k1 hk1 k2 hk2 e => ?_⟩⟩
    · simp only [List.mem_append, Option.mem_toList] at hm
      rcases hm with hm | hm
      · exact htne hm
      · exact hne hm
    · simp only [Option.mem_toList] at hk1 hk2
      subst e
      rcases htr k1 hk2 with h3 | h3
      · exact hnd2.2.2 k1 (by simp [hk1]) k1 (by simp [h3]) rfl
      · have := (h.txt.lt k1 hk1).2; omega
  · intro k1 hk1
    simp only [PE.blks, List.mem_cons, List.mem_append, Option.mem_toList] at hk1 ⊢
    rcases hk1 with e | e | e
    · exact .inl (.inl e)
    · exact .inl (.inr (.inl e))
    · rcases htr k1 e with h3 | h3
      · exact .inl (.inr (.inr h3))
      · exact .inr h3


set_option maxRecDepth 20000 in
theorem SI.copy {w : World} {base : Nat} {p : PE} {P : Nat} {pk : Pk} {x : Dg} {rv : Value} {W : World} {g L cap : Nat} (h : SI w base p P pk x (.slice (some ⟨g, 0, none⟩) L cap) rv W) (off : Nat) (s : ByteArray) (hl : x.txt.length = L) (hs : off + s.size ≤ L) :
    ∃ W', (Builtin.copy_ #[40, 9] 3 #[.slice (some ⟨g, off, none⟩) (L - off) (cap - off), .string s]).run Try.prog W = .ok (goInt s.size) W' ∧
      SI w base p P pk { x with txt := x.txt.take off ++ (s.data.toList ++ x.txt.drop (off + s.size)) } (.slice (some ⟨g, 0, none⟩) L cap) rv W' := by
  have htx := h.txt
  rw [hl] at htx
  obtain ⟨i0, hi, hz0, hz1, hz2⟩ := info_parts infoB8
  have hsz1 : (Try.prog.info? 5).map (·.size) = some 1 := by rw [hi]; simp [hz1]
  rcases htx.2 with ⟨e, -⟩ | ⟨g', cap', cur, e, hbg, hg, hnc, hcm, hcs, htake⟩
  · cases e
  · cases e
    have hsz : s.data.toList.length = s.size := by simp
    have hfit : off + s.size ≤ cur.size := by omega
    have hr := Lib.run_copy_row_string (P := Try.prog) W 40 9 3 5 g off (L - off) (cap - off) s cur 5 Try.underlying40 hsz1 hg (by omega) hfit
    refine ⟨_, hr, ?_⟩
    have hnd := (List.nodup_cons.1 h.nd).2
    unfold PE.blks at hnd
    obtain ⟨hb1, hnd2⟩ := List.nodup_cons.1 hnd
    rw [List.nodup_append] at hnd2
    have hgb : g ≠ p.b := fun e => hb1 (by simp [Value.ownBlock, e])
    have hT : Touch (fun k => k = g) W (W.setRow g (cur.toList.take off ++ Lib.byteCells s.data.toList ++ cur.toList.drop (off + s.size)).toArray) := Touch.grown (row := some g) ⟨rfl, rfl, rfl, by simp, fun k _ hk => setRow_other W g k _ (fun e => hk (by rw [e]))⟩ (fun k e => by cases e; rfl)
    refine h.step (x' := { x with txt := x.txt.take off ++ (s.data.toList ++ x.txt.drop (off + s.size)) }) (hT.mono (fun k hk => by simp [PE.blks, Value.ownBlock, hk])) ((hT.block _ (blk_lt h.blk) (fun e => hgb e.symm)).trans h.blk) ?_ ?_ (List.nodup_cons.1 h.nd).2 (fun k hk => .inl hk)
    · have hlen2 : (x.txt.take off ++ (s.data.toList ++ x.txt.drop (off + s.size))).length = L := by simp [hl]; omega
      show World.ownsRow _ _ _ _ _ (x.txt.take off ++ (s.data.toList ++ x.txt.drop (off + s.size))).length _
      rw [hlen2]
      refine ⟨by simp [byt, hl]; omega, .inr ⟨g, cap, _, rfl, hbg, setRow_heap W g cur _ _ _ hg, hnc, hcm, ?_, ?_⟩⟩
      · simp only [List.size_toArray, List.length_append, List.length_take, List.length_drop, Array.length_toList, Lib.byteCells_length, hsz]
        omega
      · simp only [Nat.mul_one] at htake ⊢
        have e1 : cur.toList.take off = (byt x.txt).take off := by rw [← htake, List.take_take]; congr 1; omega
        have e2 : (cur.toList.drop (off + s.size)).take (L - (off + s.size)) = (byt x.txt).drop (off + s.size) := by rw [← htake, List.drop_take]
        have e3 : Lib.byteCells s.data.toList = byt s.data.toList := rfl
        rw [List.append_assoc, List.take_append, List.take_append]
        rw [List.take_of_length_le (by simp; omega), e1, e3]
        have e4 : (byt s.data.toList).take (L - (cur.toList.take off).length) = byt s.data.toList := List.take_of_length_le (by simp [byt]; omega)
        have e5 : L - (cur.toList.take off).length - (byt s.data.toList).length = L - (off + s.size) := by simp [byt]; omega
        rw [← e1, e4, e5, e2, e1]
        simp [byt]
    · exact row_blk h.rcv (fun k e => hT.block k (h.rcv.lt k e).2 (fun e2 => hnd2.2.2 g (by simp [Value.ownBlock]) k (by simp [e]) e2.symm))

theorem SI.mark {w : World} {base : Nat} {p : PE} {P : Nat} {pk : Pk} {x : Dg} {tv : Value} {W : World} {g L cap : Nat} (h : SI w base p P pk x tv (.slice (some ⟨g, 0, none⟩) L cap) W) (i : Nat) (hl : x.rcv.length = L) (hi : i < L) :
    SI w base p P pk { x with rcv := x.rcv.set i true } tv (.slice (some ⟨g, 0, none⟩) L cap) (W.setCell ⟨g, i, none⟩ (.bool true)) := by
  have hrc := h.rcv
  rw [hl] at hrc
  rcases hrc.2 with ⟨e, -⟩ | ⟨g', cap', cur, e, hbg, hg, hnc, hcm, hcs, htake⟩
  · cases e
  · cases e
    have hnd := (List.nodup_cons.1 h.nd).2
    unfold PE.blks at hnd
    obtain ⟨hb1, hnd2⟩ := List.nodup_cons.1 hnd
    rw [List.nodup_append] at hnd2
    have hgb : g ≠ p.b := fun e => hb1 (by simp [Value.ownBlock, e])
    have hT : Touch (fun k => k = g) W (W.setCell ⟨g, i, none⟩ (.bool true)) := Touch.setc (Touch.of (Below.refl _ _)) _ rfl
    refine h.step (x' := { x with rcv := x.rcv.set i true }) (hT.mono (fun k hk => by simp [PE.blks, Value.ownBlock, hk])) ((hT.block _ (blk_lt h.blk) (fun e => hgb e.symm)).trans h.blk) ?_ ?_ (List.nodup_cons.1 h.nd).2 (fun k hk => .inl hk)
    · exact row_blk h.txt (fun k e => hT.block k (h.txt.lt k e).2 (fun e2 => hnd2.2.2 k (by simp [e]) g (by simp [Value.ownBlock]) e2))
    · show World.ownsRow _ _ _ _ _ (x.rcv.set i true).length _
      rw [List.length_set, hl]
      have hg2 := blk_setc (k := i) hg (.bool true)
      refine ⟨by simp [bls, hl], .inr ⟨g, cap, _, rfl, hbg, hg2, hnc, hcm, by simpa using hcs, ?_⟩⟩
      simp only [Nat.mul_one] at htake ⊢
      rw [Array.toList_setIfInBounds, List.take_set, htake]
      simp [bls]

def fillR (r : List Bool) (off : Nat) : Nat → List Bool
  | 0 => r
  | k + 1 => (fillR r off k).set (off + k) true
theorem fillR_len (r : List Bool) (off k : Nat) : (fillR r off k).length = r.length := by
  induction k with
  | zero => rfl
  | succ k ih => simp [fillR, ih]
theorem fillR_get (r : List Bool) (off k i : Nat) (h : i < (fillR r off k).length) : (fillR r off k)[i] = if off ≤ i ∧ i < off + k then true else r[i]'(by rw [fillR_len] at h; exact h) := by
  induction k with
  | zero => rw [if_neg (by omega)]; rfl
  | succ k ih =>
    simp only [fillR, List.getElem_set]
    split
    · rename_i e; subst e; rw [if_pos (by omega)]
    · rename_i e
      rw [ih (by simpa [fillR] using h)]
      split
      · rw [if_pos (by omega)]
      · rw [if_neg (by omega)]
theorem fillR_put (r : List Bool) (off n k : Nat) (hk : off + n - r.length = k) : fillR (r ++ List.replicate k false) off n = putR r off n := by
  apply List.ext_getElem
  · simp [fillR_len, putR]; omega
  · intro i h1 h2
    rw [fillR_get]
    simp only [putR, List.getElem_map, List.getElem_range]
    split
    · rfl
    · rw [List.getElem_append]
      split
      · rename_i h3; simp [List.getD_eq_getElem?_getD, h3]
      · rename_i h3; simp [List.getD_eq_getElem?_getD, List.getElem?_eq_none (Nat.le_of_not_lt h3)]
theorem putT_eq (t s : List UInt8) (off k : Nat) (hk : off + s.length - t.length = k) : (t ++ List.replicate k 0).take off ++ (s ++ (t ++ List.replicate k 0).drop (off + s.length)) = putT t off s := by
  apply List.ext_getElem
  · simp [putT]; omega
  · intro i h1 h2
    simp only [putT, List.getElem_map, List.getElem_range]
    have hlen : (t ++ List.replicate k (0 : UInt8)).length = t.length + k := by simp
    have hto : ((t ++ List.replicate k (0 : UInt8)).take off).length = off := by simp; omega
    have hi : i < max t.length (off + s.length) := by simpa [putT] using h2
    have hg : ∀ (h : i < (t ++ List.replicate k (0 : UInt8)).length), (t ++ List.replicate k (0 : UInt8))[i] = t.getD i 0 := by
      intro h
      rw [List.getElem_append]
      split
      · rename_i h3; simp [List.getD_eq_getElem?_getD, h3]
      · rename_i h3; simp [List.getD_eq_getElem?_getD, List.getElem?_eq_none (Nat.le_of_not_lt h3)]
    rw [List.getElem_append]
    split
    · rename_i h3
      rw [if_neg (by omega), List.getElem_take]
      exact hg _
    · rename_i h3
      rw [List.getElem_append]
      split
      · rename_i h4
        rw [if_pos (by omega)]
        simp only [hto]
        rw [List.getD_eq_getElem?_getD, List.getElem?_eq_getElem (by omega)]; rfl
      · rename_i h4
        rw [if_neg (by omega), List.getElem_drop]
        simp only [hto]
        have e : off + s.length + (i - off - s.length) = i := by omega
        simp only [e]
        exact hg _

def fst1 (x : Dg) (pk : Pk) : Pk := if pk.off = 0 ∧ begun x = false then pk else x.fst
theorem store_eq {x : Dg} {pk : Pk} {off sz k : Nat} (hoff : pk.off = (off : Int)) (hsz : pk.s.size = sz) (hl : x.rcv.length = x.txt.length) (hk : off + sz - x.txt.length = k) :
    storeD x pk = { x with fst := fst1 x pk, fin := x.fin || !pk.mf, txt := (x.txt ++ List.replicate k 0).take off ++ (pk.s.data.toList ++ (x.txt ++ List.replicate k 0).drop (off + pk.s.size)), rcv := fillR (x.rcv ++ List.replicate k false) off sz } := by
  have hlt : pk.s.data.toList.length = pk.s.size := by simp
  have h1 := putT_eq x.txt pk.s.data.toList off k (by rw [hlt, hsz]; exact hk)
  have h2 := fillR_put x.rcv off sz k (by rw [hl]; exact hk)
  rw [hlt] at h1
  unfold storeD
  rw [show pk.off.toNat = off by rw [hoff]; simp, hsz, h2, ← hsz, h1]
  rfl
end Go.Proofs.Ytecboengeheapaa
