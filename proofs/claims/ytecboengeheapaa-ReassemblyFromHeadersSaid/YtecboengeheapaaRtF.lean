/- Contract of datagramOf, for a table of fewer than eight datagrams. -/
import Derived.Test.YtecboengeheapaaRtE
import Derived.Maps.OwnSet
import Derived.StillTailTactics
namespace Go.Proofs.Ytecboengeheapaa
open Go.RowKit Go.Maps
set_option linter.unusedVariables false
attribute [local go_sem] Oper.semAt_some

abbrev newD (k : Ky) (num st : Int) : Dg := ⟨k, num, st, false, pz, [], [], false⟩
abbrev ko (k : Ky) : Obj := .cells #[.int .i64 k.fr, .int .i64 k.to, .int .i64 k.pr, .int .i64 k.id] 94

set_option maxRecDepth 20000 in
set_option maxHeartbeats 1600000 in
theorem dof_some {w : World} {base T mb : Nat} {cr : Int} {R : List PE} (h : TabP w base T mb cr R) (now : Int) {k : Ky} (hk : okK k) {p : PE} (hp : lookP R k = some p) :
    Calls Try.prog 50 #[.pointer (some ⟨T, 0, none⟩), .int .i64 now, kv k] w fun e w' => e = .returned (ptr p.b) ∧ Below w.heap.size w w' := by
  have hb0 : Below w.heap.size w (w.alloc (ko k)) := (Below.refl _ w).alloc (Nat.le_refl _) _
  have h1 := h.below hb0
  have hl := tab_look (h1.below (Below.refl _ _).drew) hk
  rw [hp] at hl
  simp only [valOf, entVal] at hl
  obtain ⟨x0, -⟩ := mb_of h1
  have bk := blk_new w (ko k)
  obtain ⟨b0, -⟩ := blk_cell (k := 0) bk rfl
  obtain ⟨b1, -⟩ := blk_cell (k := 1) bk rfl
  obtain ⟨b2, -⟩ := blk_cell (k := 2) bk rfl
  obtain ⟨b3, -⟩ := blk_cell (k := 3) bk rfl
  simp only [List.getElem_toArray, List.getElem_cons_zero, List.getElem_cons_succ] at b0 b1 b2 b3
  have HB0 := Lib.hid hb0
  clear bk h1 h hp hb0
  unfold ptr at hl ⊢
  go_enter Try.func50, Try.ntmps50
  go_upto_region 1 with fail
  generalize w.alloc (ko k) = w1 at hl x0 b0 b1 b2 b3 HB0 ⊢
  go_still_tail 5, (by kernel_rfl)
  change wpList _ _ _ _ _ w1.drew
  go_wp2
  go_ret
  exact ⟨rfl, HB0.out.drew⟩

set_option maxRecDepth 20000 in
set_option maxHeartbeats 1600000 in
theorem dof_new {w : World} {base T mb : Nat} {cr : Int} {R : List PE} (h : TabP w base T mb cr R) (hbase : base ≤ w.heap.size) (now : Int) {k : Ky} (hk : okK k) (hp : lookP R k = none) (hl8 : R.length < 8) (hc1 : 0 ≤ cr) (hc2 : cr ≤ 1000000) :
    Calls Try.prog 50 #[.pointer (some ⟨T, 0, none⟩), .int .i64 now, kv k] w fun e w' => ∃ b, e = .returned (ptr b) ∧ w.heap.size ≤ b ∧
      TabP w' base T mb (cr + 1) (insP ⟨newD k cr now, b, .slice none 0 0, .slice none 0 0⟩ R) ∧ Touch (fun k => k = T ∨ k = mb) w w' := by
  have hb0 : Below w.heap.size w (w.alloc (ko k)) := (Below.refl _ w).alloc (Nat.le_refl _) _
  have h1 := h.below hb0
  have hl := tab_look (h1.below (Below.refl _ _).drew) hk
  rw [hp] at hl
  simp only [valOf] at hl
  obtain ⟨x0, x1⟩ := mb_of h1
  have bk := blk_new w (ko k)
  obtain ⟨b0, -⟩ := blk_cell (k := 0) bk rfl
  obtain ⟨b1, -⟩ := blk_cell (k := 1) bk rfl
  obtain ⟨b2, -⟩ := blk_cell (k := 2) bk rfl
  obtain ⟨b3, -⟩ := blk_cell (k := 3) bk rfl
  simp only [List.getElem_toArray, List.getElem_cons_zero, List.getElem_cons_succ] at b0 b1 b2 b3
  have hsz : (w.alloc (ko k)).heap.size = w.heap.size + 1 := by simp
  have H := Lib.hid h
  have HP := Lib.hid hp
  have HB0 := Lib.hid hb0
  have HBK := Lib.hid bk
  have H1 := Lib.hid h1
  clear bk h1 h hp hb0
  unfold ptr
  go_enter Try.func50, Try.ntmps50
  go_upto_region 1 with fail
  generalize w.alloc (ko k) = w1 at hl x0 x1 b0 b1 b2 b3 hsz HB0 HBK H1 ⊢
  go_still_tail 5, (by kernel_rfl)
  change wpList _ _ _ _ _ w1.drew
  go_upto_region 5 with fail
  clear hl x0 x1 b0 b1 b2 b3
  have hb1 : Below w1.heap.size w1 (w1.alloc (dgo (newD k cr now) (.slice none 0 0) (.slice none 0 0))) := (Below.refl _ w1).alloc (Nat.le_refl _) _
  have h2 := (H1.out.below hb1).below (Below.refl _ _).drew
  have hN : (w1.alloc (dgo (newD k cr now) (.slice none 0 0) (.slice none 0 0))).drew.heap[w.heap.size + 1]? = some (dgo (newD k cr now) (.slice none 0 0) (.slice none 0 0)) := by rw [← hsz]; exact blk_new w1 _
  have hK2 : (w1.alloc (dgo (newD k cr now) (.slice none 0 0) (.slice none 0 0))).drew.heap[w.heap.size]? = some (ko k) := blk_alloc HBK.out _
  have hB2 := (HB0.out.trans (hb1.mono HB0.out.size)).drew
  have hs2 : (w1.alloc (dgo (newD k cr now) (.slice none 0 0) (.slice none 0 0))).drew.heap.size = w.heap.size + 2 := by show (w1.alloc _).heap.size = _; simp [hsz]
  clear hb1 HB0 HBK H1 hsz
  generalize (w1.alloc (dgo (newD k cr now) (.slice none 0 0) (.slice none 0 0))).drew = w2 at h2 hN hK2 hB2 hs2 ⊢
  obtain ⟨d1, f1⟩ := blk_cell (k := 1) h2.blk rfl
  simp only [List.getElem_toArray, List.getElem_cons_zero, List.getElem_cons_succ] at d1
  have hw : wrap64 (cr + 1) = cr + 1 := IntWalk.wrap64_in _ ⟨by omega, by omega⟩
  have H2 := Lib.hid h2
  have HN := Lib.hid hN
  have HK2 := Lib.hid hK2
  have HB2 := Lib.hid hB2
  have HS2 := Lib.hid hs2
  clear h2 hN hK2 hB2 hs2
  go_upto_region 6 with fail
  clear d1 f1
  have hTne : T ≠ mb := by have := (List.nodup_cons.1 H.out.nodup).1; intro e; exact this (by simp [e])
  have hTl := (H.out.lt T (by simp)).2
  have hml := (H.out.lt mb (by simp)).2
  -- the table with the count turned
  have h3 : TabP (w2.setCell ⟨T, 1, none⟩ (.int .i64 (cr + 1))) base T mb (cr + 1) R := by
    have hk : ∀ j ∈ mb :: allB R, (w2.setCell ⟨T, 1, none⟩ (.int .i64 (cr + 1))).heap[j]? = w2.heap[j]? := fun j hj => Below.heap_setCell _ _ _ _ (fun e => by
      have := (List.nodup_cons.1 H.out.nodup).1
      exact this (by rw [show T = j from e.symm]; exact hj))
    refine ⟨H2.out.low, ?_, map_of_block H2.out.map (hk mb (by simp)), fun p hp => (H2.out.ent p hp).kept (fun j hj => hk j (by simp [mem_allB hp hj])), H2.out.nodup, H2.out.keys, H2.out.ok⟩
    have := blk_setc (k := 1) H2.out.blk (.int .i64 (cr + 1))
    simpa using this
  have hN3 : (w2.setCell ⟨T, 1, none⟩ (.int .i64 (cr + 1))).heap[w.heap.size + 1]? = some (dgo (newD k cr now) (.slice none 0 0) (.slice none 0 0)) := blk_set HN.out _ (by simp; omega) _
  have hK3 : (w2.setCell ⟨T, 1, none⟩ (.int .i64 (cr + 1))).heap[w.heap.size]? = some (ko k) := blk_set HK2.out _ (by simp; omega) _
  have hT3 : Touch (fun j => j = T ∨ j = mb) w (w2.setCell ⟨T, 1, none⟩ (.int .i64 (cr + 1))) := Touch.setc (Touch.of HB2.out) _ (.inl rfl)
  have hs3 : (w2.setCell ⟨T, 1, none⟩ (.int .i64 (cr + 1))).heap.size = w.heap.size + 2 := by simp [HS2.out]
  clear H2 HN HK2 HB2 HS2
  generalize (w2.setCell ⟨T, 1, none⟩ (.int .i64 (cr + 1))) = w3 at h3 hN3 hK3 hT3 hs3 ⊢
  obtain ⟨x0, -⟩ := mb_of h3
  obtain ⟨b0, -⟩ := blk_cell (k := 0) hK3 rfl
  obtain ⟨b1, -⟩ := blk_cell (k := 1) hK3 rfl
  obtain ⟨b2, -⟩ := blk_cell (k := 2) hK3 rfl
  obtain ⟨b3, -⟩ := blk_cell (k := 3) hK3 rfl
  simp only [List.getElem_toArray, List.getElem_cons_zero, List.getElem_cons_succ] at b0 b1 b2 b3
  have hown : w3.drew.ownsMap Try.prog 94 raw mb R.length (mapD R) := h3.map.drew
  have hcapM : R.length < maxLen := by unfold maxLen; omega
  have hkey := keyK hk
  have hE : EntAt w3 base ⟨newD k cr now, w.heap.size + 1, .slice none 0 0, .slice none 0 0⟩ := ⟨by show base ≤ w.heap.size + 1; omega, hN3, World.ownsRow_nil _ _ _ _, World.ownsRow_nil _ _ _ _, rfl, by simp⟩
  have H3 := Lib.hid h3
  have HE := Lib.hid hE
  have HT3 := Lib.hid hT3
  have HS3 := Lib.hid hs3
  clear h3 hN3 hK3 hT3 hs3 hE hw
  go_still_tail 6, (by kernel_rfl)
  change wpList _ _ _ _ _ w3.drew
  go_upto_region 7 with (at_mapUpdate; refine wpList_mapUpdate_own _ rfl _ _ _ 84 rfl 94 91 lawK Try.underlying84 raw mb R.length (mapD R) rfl hown hcapM _ _ (kl k) rfl rfl hkey (.held (entVal ⟨newD k cr now, w.heap.size + 1, .slice none 0 0, .slice none 0 0⟩)) [] rfl ?_)
  intro w4 hown4 hgrow4
  have hlt := H3.out.lt
  have hTab : TabP w4 base T mb (cr + 1) (insP ⟨newD k cr now, w.heap.size + 1, .slice none 0 0, .slice none 0 0⟩ R) := by
    refine H3.out.put _ hk (lookP_none HP.out) ⟨_, hown4⟩ ⟨hgrow4.os, hgrow4.tape, hgrow4.output, hgrow4.size, hgrow4.block⟩ HE.out (by simp [PE.blks, Value.ownBlock]) ?_
    intro j hj hj2
    simp [PE.blks, Value.ownBlock] at hj
    have := (H.out.lt j hj2).2
    omega
  have hT4 : Touch (fun j => j = T ∨ j = mb) w w4 := HT3.out.trans (T := fun j => j = mb) (Touch.grown (row := some mb) ⟨hgrow4.os, hgrow4.tape, hgrow4.output, hgrow4.size, hgrow4.block⟩ (fun j e => by cases e; rfl)) (fun j e => .inl (.inr e))
  clear x0 b0 b1 b2 b3 hown hkey hown4 hgrow4 hlt
  have hln := tab_len hTab
  rw [(insP_perm _ _).length_eq, List.length_cons] at hln
  obtain ⟨n, hn⟩ : ∃ n, R.length + 1 = n := ⟨_, rfl⟩
  rw [hn] at hln
  have hn8 : n ≤ 8 := by omega
  have hc8 : ((8 : Int) < (n : Int)) = False := eq_false (by omega)
  obtain ⟨x0, -⟩ := mb_of hTab
  have HTab := Lib.hid hTab
  have HT4 := Lib.hid hT4
  clear hTab hT4 hn
  go_wp2
  go_ret
  exact ⟨w.heap.size + 1, rfl, by omega, HTab.out, HT4.out⟩
end Go.Proofs.Ytecboengeheapaa
