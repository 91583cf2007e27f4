/- Contract of Tick. -/
import Derived.Test.YtpkfjlbjahghgaaAtTkP
import Derived.Deep.AppendLies
import Derived.Maps.OwnIn
namespace Go.Proofs.Ytpkfjlbjahghgaa
open Go.RowKit Go.Maps Go.Shelf
set_option linter.unusedVariables false
attribute [local go_sem] Oper.semAt_some

def Bd (x : Int) : Prop := -4611686018427387904 ≤ x ∧ x ≤ 4611686018427387904

set_option maxRecDepth 100000 in
set_option maxHeartbeats 8000000 in
theorem tick_in {w : World} {base T mb : Nat} {own mac when : Int} {said : Bool} {R : List PE} (h : TabP w base T mb own mac said when R) (hlen : R.length ≤ 1000) (now : Int) (hn : Bd now) (hbd : ∀ p ∈ R, Bd p.x.told ∧ Bd p.x.last ∧ p.x.held.length ≤ 1000 ∧ Bd p.x.tries ∧ (p.x.known = false → 1 ≤ p.x.held.length)) :
    CallsIn Fence.wide 8 Try.prog 28 #[.pointer (some ⟨T, 0, none⟩), .int .i64 now] w fun e w' => ∃ v1 v2, e = .returned (.tuple #[v1, v2]) ∧ TabP w' base T mb own mac said when (R.filterMap (tickP now)) ∧
      w'.ownsRow w.heap.size 23 5 v1 (mapM2 own mac now R).length (flatM (mapM2 own mac now R)) ∧ w'.ownsRow w.heap.size 65 3 v2 (mapH2 now R).length (flatH (mapH2 now R)) ∧
      (∀ k, v1.ownBlock = some k → v2.ownBlock ≠ some k) ∧ Touch (fun k => k ∈ T :: mb :: allB R) w w' := by
  have hro : Fence.wide.round = none := rfl
  have hlt := fun k hk => (h.lt k hk).2
  refine callsIn_of_wp_marks Try.func28 rfl trivial ?_ hro
  simp only [Try.ntmps28, List.size_toArray, List.length_cons, List.length_nil, Nat.reduceAdd, Nat.reduceSub, Array.replicate_succ, Array.replicate_zero, List.push_toArray, List.append_toArray, List.nil_append, List.cons_append]
  gi_wp2_with fail
  refine ⟨trivial, ?_⟩
  refine (order_in Fence.wide _ trivial hro _ _).mono ?_
  rintro e w5 ⟨rfl, hw5⟩
  have hT5 : w5.heap[w.heap.size]? = some (.cells #[.pointer (some ⟨T, 0, none⟩)] 40) := by rw [hw5]; exact blk_alloc (blk_alloc (blk_alloc (blk_alloc (blk_new w _) _) _) _) _
  have hN5 : w5.heap[w.heap.size + 1]? = some (.cells #[.int .i64 now] 3) := by
    rw [hw5]; have := blk_alloc (blk_alloc (blk_alloc (blk_new (w.alloc (.cells #[.pointer (some ⟨T, 0, none⟩)] 40)) (.cells #[.int .i64 now] 3)) (.cells #[.slice none 0 0] 28)) (.cells #[.slice none 0 0] 51)) (.cells #[.pointer (some ⟨T, 0, none⟩)] 40)
    simp only [World.size_alloc] at this; exact this
  have hR5 : w5.heap[w.heap.size + 2]? = some (.cells #[.slice none 0 0] 28) := by
    rw [hw5]; have := blk_alloc (blk_alloc (blk_new ((w.alloc (.cells #[.pointer (some ⟨T, 0, none⟩)] 40)).alloc (.cells #[.int .i64 now] 3)) (.cells #[.slice none 0 0] 28)) (.cells #[.slice none 0 0] 51)) (.cells #[.pointer (some ⟨T, 0, none⟩)] 40)
    simp only [World.size_alloc] at this; exact this
  have hD5 : w5.heap[w.heap.size + 3]? = some (.cells #[.slice none 0 0] 51) := by
    rw [hw5]; have := blk_alloc (blk_new (((w.alloc (.cells #[.pointer (some ⟨T, 0, none⟩)] 40)).alloc (.cells #[.int .i64 now] 3)).alloc (.cells #[.slice none 0 0] 28)) (.cells #[.slice none 0 0] 51)) (.cells #[.pointer (some ⟨T, 0, none⟩)] 40)
    simp only [World.size_alloc] at this; exact this
  have hO5 : w5.heap[w.heap.size + 4]? = some (.cells #[.pointer (some ⟨T, 0, none⟩)] 40) := by
    rw [hw5]; have := blk_new ((((w.alloc (.cells #[.pointer (some ⟨T, 0, none⟩)] 40)).alloc (.cells #[.int .i64 now] 3)).alloc (.cells #[.slice none 0 0] 28)).alloc (.cells #[.slice none 0 0] 51)) (.cells #[.pointer (some ⟨T, 0, none⟩)] 40)
    simp only [World.size_alloc] at this; exact this
  have hs5 : w5.heap.size = w.heap.size + 5 := by rw [hw5]; simp
  have hB5 : Below w.heap.size w w5 := by rw [hw5]; exact (((((Below.refl _ w).alloc (Nat.le_refl _) _).alloc (by simp) _).alloc (by simp; omega) _).alloc (by simp; omega) _).alloc (by simp; omega) _
  clear hw5
  gi_wp2
  refine wpIn_rangeFunc_ownX hro (by decide) (gf := 66) (lb := #[.pointer (some ⟨w.heap.size + 1 + 1 + 1 + 1, 0, none⟩)]) rfl trivial (enters_of Try.func66 (by kernel_rfl) rfl)
    (order_stops R h.sorted hlen (w.heap.size + 1 + 1 + 1 + 1) T mb R.length w5 (by have := hlt mb (by simp); omega) (by omega) (map_of_block h.map (hB5.block mb (hlt mb (by simp)))))
    (Below.refl _ _) (fun _ => rfl)
    (fun B (pre : List (Fin R.length)) W => w.heap.size + 5 ≤ B ∧ B ≤ W.heap.size ∧ ∃ v1 v2, TkI w W base T mb own mac said when now R B pre.length v1 v2)
    (fun _ _ _ => False) ?own (fun _ _ _ _ _ hs _ _ => hs) ?hH ?start
    (fun (x : Fin R.length) => { tmps := #[.pointer (some ⟨T, 0, none⟩), .int .i64 now, .pointer (some ⟨w.heap.size, 0, none⟩), .pointer (some ⟨w.heap.size + 1, 0, none⟩), .slice none 0 0, .slice none 0 0, .pointer (some ⟨w.heap.size + 1 + 1, 0, none⟩), .pointer (some ⟨w.heap.size + 1 + 1 + 1, 0, none⟩), .int .i64 (R[x]).x.addr, entVal (R[x]), undef, undef, .pointer (some ⟨T, 0, none⟩), .bool false, .pointer (some ⟨T, 0, none⟩), .func (.func 66) #[] #[.pointer (some ⟨w.heap.size + 1 + 1 + 1 + 1, 0, none⟩)], .int .i64 (R[x]).x.addr, entVal (R[x]), undef, undef, undef, undef, undef, undef, undef, undef, undef, undef, undef, undef, undef, undef, undef, undef, undef, undef, undef, undef, undef, undef, undef, undef, undef, undef, undef, undef, undef, undef, undef, undef, undef, undef, undef, undef, undef, undef, undef, undef, undef, undef, undef, undef, undef, undef, undef, undef, undef, undef, undef, undef, undef, undef, undef, undef, undef, undef, undef], defers := [] }) ?assign ?body ?done ?stop
  case own => exact fun B s W W' row hs hg hr => ⟨hs.1, Nat.le_trans hs.2.1 hg.size, TkI.own (L := w5.heap.size) hlt (by omega) (by omega) s W W' row hs.2.2 hg hr⟩
  case hH =>
    rintro B pre W ⟨hB, -, v1, v2, hI⟩
    refine ⟨(blk_cell (k := 0) hI.vars.o rfl).1, (mb_of hI.tab).2.2.1, fun i hi => ?_⟩
    have hT := hI.tab
    rw [← hi, tickR_at now R i.val i.isLt] at hT
    have hok := okOne_bd (h.ok (R[i]) (by simp))
    have hl := tab_look hT (a := (R[i]).x.addr) hok.1 hok.2
    rw [show (R[i]).x.addr = (R[i.val]).x.addr from rfl, look_mid hT.sorted] at hl
    exact hl
  case start =>
    intro W' hW'
    have hk : ∀ k ∈ T :: mb :: allB R, W'.heap[k]? = w.heap[k]? := fun k hk => (hW'.block k (by have := hlt k hk; omega)).trans (hB5.block k (hlt k hk))
    refine ⟨by have := hW'.size; omega, Nat.le_refl _, .slice none 0 0, .slice none 0 0, ?_, ⟨blk_below hT5 hW' (by omega), blk_below hN5 hW' (by omega), blk_below hR5 hW' (by omega), blk_below hD5 hW' (by omega), blk_below hO5 hW' (by omega)⟩, World.ownsRow_nil _ _ _ _, World.ownsRow_nil _ _ _ _, by simp [Value.ownBlock], Touch.of (hB5.trans (hW'.mono (by omega)))⟩
    rw [show ([] : List (Fin R.length)).length = 0 from rfl, tickR_zero]
    exact h.kept hk
  case assign =>
    intro l x W K hK
    unfold oenc
    gi_wp2
    exact hK
  case body =>
    rintro l B pre x W hB ⟨hB6, hBW, v1, v2, hI⟩ hx
    have hxl : pre.length < R.length := hx ▸ x.isLt
    have hRx : R[x] = R[pre.length] := by simp only [Fin.getElem_fin, show x.val = pre.length from hx]
    obtain ⟨p, hp⟩ : ∃ p, R[pre.length] = p := ⟨_, rfl⟩
    have hpm : p ∈ R := hp ▸ List.getElem_mem _
    have hT := hI.tab
    have hnext := tickR_next now R pre.length hxl
    rw [tickR_at now R pre.length hxl, hp] at hT
    have hM := mapM2_next own mac now R pre.length hxl
    have hH2 := mapH2_next now R pre.length hxl
    rw [hp] at hnext hM hH2
    have hlen2 : (pre ++ [x]).length = pre.length + 1 := by simp
    rw [hRx, hp]
    obtain ⟨c1, -⟩ := blk_cell (k := 0) hI.vars.t rfl
    obtain ⟨c2, -⟩ := blk_cell (k := 0) hI.vars.n rfl
    obtain ⟨c3, f3⟩ := blk_cell (k := 0) hI.vars.r rfl
    obtain ⟨c4, f4⟩ := blk_cell (k := 0) hI.vars.d rfl
    simp only [List.getElem_toArray, List.getElem_cons_zero] at c1 c2 c3 c4
    obtain ⟨x0, x1, x2, -, -⟩ := mb_of hT
    have he := hT.ent p (by simp)
    obtain ⟨hb1, hb2, hb3, hb4, hb5⟩ := hbd p hpm
    have hI0 := hI.bd hlt
    have hsz := hI.touch.size
    cases hk : p.x.known with
    | true =>
      have hev : entVal p = .iface 88 (.pointer (some ⟨p.b, 0, none⟩)) := by simp [entVal, hk]
      rw [hev]
      have a1 := asIR (.pointer (some ⟨p.b, 0, none⟩)) W
      have a2 := asRR (.pointer (some ⟨p.b, 0, none⟩)) W
      have e1 := (blk_cell (k := 1) (he.res hk).1 rfl).1
      simp only [List.getElem_toArray, List.getElem_cons_zero, List.getElem_cons_succ] at e1
      have hTd : TabP W.drew base T mb own mac said when ((R.take pre.length).filterMap (tickP now) ++ p :: R.drop (pre.length + 1)) := hT.kept fun k _ => rfl
      have hok := okOne_bd (h.ok p hpm)
      have e1d : W.drew.cell? ⟨p.b, 1, none⟩ = some (.int .i64 p.x.told) := e1
      have c2d : W.drew.cell? ⟨w.heap.size + 1, 0, none⟩ = some (.int .i64 now) := c2
      have c1d : W.drew.cell? ⟨w.heap.size, 0, none⟩ = some (.pointer (some ⟨T, 0, none⟩)) := c1
      have x2d : W.drew.cell? ⟨T, 2, none⟩ = some (.map (some mb)) := x2
      obtain ⟨w9, hrun9, hown9, hturn9⟩ := hTd.map.drop law Try.underlying80 (keyI hok.1 hok.2) 0
      have HI := Lib.hid hI
      clear hI
      gi_wp2
      -- KNOWN
      rcases Classical.em (600 ≤ now - p.x.told) with hq | hq
      · have hel : decide (600 ≤ now - p.x.told) = true := by simpa using hq
        refine region_round (by kernel_rfl) (fun ⟨_, _, h⟩ => h) (by kernel_rfl) (fun w' => w' = W.drew) (rfl) (fun hHeld => ?_)
        refine wpAnyH_take (i := 0) (oi := ⟨some 64, _, _, _, _, _⟩) (v := ?va0) rfl (by kernel_rfl) (by kernel_rfl) (by kernel_rfl) (fun _ _ _ h => h) (Or.inl ⟨by rfl, ?hya0⟩) hHeld ?rra0
        case hya0 => (intro w hSw; (try dsimp only at hSw); (try subst hSw); go_simp; try with_reducible rfl)
        try simp only [Act.put, List.setIfInBounds_toArray, List.set_cons_zero, List.set_cons_succ]
        refine wpAnyH_take (i := 1) (oi := ⟨some 65, _, _, _, _, _⟩) (v := ?va1) rfl (by kernel_rfl) (by kernel_rfl) (by kernel_rfl) (fun _ _ _ h => h) (Or.inl ⟨by rfl, ?hya1⟩) hHeld ?rra1
        case hya1 => (intro w hSw; (try dsimp only at hSw); (try subst hSw); go_simp; try with_reducible rfl)
        try simp only [Act.put, List.setIfInBounds_toArray, List.set_cons_zero, List.set_cons_succ]
        refine wpAnyH_take (i := 2) (oi := ⟨some 66, _, _, _, _, _⟩) (v := ?va2) rfl (by kernel_rfl) (by kernel_rfl) (by kernel_rfl) (fun _ _ _ h => h) (Or.inl ⟨by rfl, ?hya2⟩) hHeld ?rra2
        case hya2 => (intro w hSw; (try dsimp only at hSw); (try subst hSw); go_simp; try with_reducible rfl)
        try simp only [Act.put, List.setIfInBounds_toArray, List.set_cons_zero, List.set_cons_succ]
        refine wpAnyH_take (i := 3) (oi := ⟨some 67, _, _, _, _, _⟩) (v := ?va3) rfl (by kernel_rfl) (by kernel_rfl) (by kernel_rfl) (fun _ _ _ h => h) (Or.inl ⟨by rfl, ?hya3⟩) hHeld ?rra3
        case hya3 => (intro w hSw; (try dsimp only at hSw); (try subst hSw); go_simp; try with_reducible rfl)
        try simp only [Act.put, List.setIfInBounds_toArray, List.set_cons_zero, List.set_cons_succ]
        refine wpAnyH_take (i := 4) (oi := ⟨some 68, _, _, _, _, _⟩) (v := ?va4) rfl (by kernel_rfl) (by kernel_rfl) (by kernel_rfl) (fun _ _ _ h => h) (Or.inl ⟨by rfl, ?hya4⟩) hHeld ?rra4
        case hya4 => (intro w hSw; (try dsimp only at hSw); (try subst hSw); go_simp; try with_reducible rfl)
        try simp only [Act.put, List.setIfInBounds_toArray, List.set_cons_zero, List.set_cons_succ]
        refine wpAnyH_ready (rs := [5]) (by kernel_rfl) (by simp) ?_
        refine AllReadyH.cons (o := ⟨some 69, _, _, _, _, _⟩) rfl (fun K hK => ?_) AllReadyH.nil
        go_simp
        refine (elapsed_any p.x.told now 600 _ hb1.1 hb1.2 hn.1 hn.2 (by decide) (by decide)).mono ?_
        rintro e w2 ⟨rfl, rfl⟩
        go_simp
        try rw [hel]
        refine hK.out _ _ (rfl) (fun hHeld2 => ?_)
        clear hK K hHeld
        have hHeld := hHeld2
        clear hHeld2
        try simp only [Act.put, List.setIfInBounds_toArray, List.set_cons_zero, List.set_cons_succ]
        refine wpAnyH_done (by kernel_rfl) ?_ _
        gi_wp2
        have hnone : tickP now p = none := by unfold tickP; simp [hk, hq]
        have hfin := HI.out.next_same hlt hB6 hBW (W' := w9) (by
          rw [hnext, hnone]
          have := hTd.del p.x.addr ⟨_, hown9⟩ hturn9.grown
          rw [drop_mid hTd.sorted] at this
          exact this) (by rw [hM]; simp [tickM, hk]) (by rw [hH2]; simp [tickH, hk])
          ((Touch.of (S := fun k => k ∈ T :: mb :: allB R) (Below.drew (Below.refl _ W))).trans (Touch.grown (S := fun k => k = mb) hturn9.grown (fun k e => by cases e; rfl)) (fun k e => .inl (by rw [e]; simp)))
        rw [← hlen2] at hfin
        exact And.intro hfin.1 (And.intro hfin.2.1 hfin.2.2.2)
      · have hel : decide (600 ≤ now - p.x.told) = false := by simpa using hq
        refine region_round (by kernel_rfl) (fun ⟨_, _, h⟩ => h) (by kernel_rfl) (fun w' => w' = W.drew) (rfl) (fun hHeld => ?_)
        refine wpAnyH_take (i := 0) (oi := ⟨some 64, _, _, _, _, _⟩) (v := ?vb0) rfl (by kernel_rfl) (by kernel_rfl) (by kernel_rfl) (fun _ _ _ h => h) (Or.inl ⟨by rfl, ?hyb0⟩) hHeld ?rrb0
        case hyb0 => (intro w hSw; (try dsimp only at hSw); (try subst hSw); go_simp; try with_reducible rfl)
        try simp only [Act.put, List.setIfInBounds_toArray, List.set_cons_zero, List.set_cons_succ]
        refine wpAnyH_take (i := 1) (oi := ⟨some 65, _, _, _, _, _⟩) (v := ?vb1) rfl (by kernel_rfl) (by kernel_rfl) (by kernel_rfl) (fun _ _ _ h => h) (Or.inl ⟨by rfl, ?hyb1⟩) hHeld ?rrb1
        case hyb1 => (intro w hSw; (try dsimp only at hSw); (try subst hSw); go_simp; try with_reducible rfl)
        try simp only [Act.put, List.setIfInBounds_toArray, List.set_cons_zero, List.set_cons_succ]
        refine wpAnyH_take (i := 2) (oi := ⟨some 66, _, _, _, _, _⟩) (v := ?vb2) rfl (by kernel_rfl) (by kernel_rfl) (by kernel_rfl) (fun _ _ _ h => h) (Or.inl ⟨by rfl, ?hyb2⟩) hHeld ?rrb2
        case hyb2 => (intro w hSw; (try dsimp only at hSw); (try subst hSw); go_simp; try with_reducible rfl)
        try simp only [Act.put, List.setIfInBounds_toArray, List.set_cons_zero, List.set_cons_succ]
        refine wpAnyH_take (i := 3) (oi := ⟨some 67, _, _, _, _, _⟩) (v := ?vb3) rfl (by kernel_rfl) (by kernel_rfl) (by kernel_rfl) (fun _ _ _ h => h) (Or.inl ⟨by rfl, ?hyb3⟩) hHeld ?rrb3
        case hyb3 => (intro w hSw; (try dsimp only at hSw); (try subst hSw); go_simp; try with_reducible rfl)
        try simp only [Act.put, List.setIfInBounds_toArray, List.set_cons_zero, List.set_cons_succ]
        refine wpAnyH_take (i := 4) (oi := ⟨some 68, _, _, _, _, _⟩) (v := ?vb4) rfl (by kernel_rfl) (by kernel_rfl) (by kernel_rfl) (fun _ _ _ h => h) (Or.inl ⟨by rfl, ?hyb4⟩) hHeld ?rrb4
        case hyb4 => (intro w hSw; (try dsimp only at hSw); (try subst hSw); go_simp; try with_reducible rfl)
        try simp only [Act.put, List.setIfInBounds_toArray, List.set_cons_zero, List.set_cons_succ]
        refine wpAnyH_ready (rs := [5]) (by kernel_rfl) (by simp) ?_
        refine AllReadyH.cons (o := ⟨some 69, _, _, _, _, _⟩) rfl (fun K hK => ?_) AllReadyH.nil
        go_simp
        refine (elapsed_any p.x.told now 600 _ hb1.1 hb1.2 hn.1 hn.2 (by decide) (by decide)).mono ?_
        rintro e w2 ⟨rfl, rfl⟩
        go_simp
        try rw [hel]
        refine hK.out _ _ (rfl) (fun hHeld2 => ?_)
        clear hK K hHeld
        have hHeld := hHeld2
        clear hHeld2
        try simp only [Act.put, List.setIfInBounds_toArray, List.set_cons_zero, List.set_cons_succ]
        refine wpAnyH_done (by kernel_rfl) ?_ _
        gi_wp2
        have hsome : tickP now p = some p := by unfold tickP; simp [hk, hq]
        have hfin := HI.out.next_same hlt hB6 hBW (W' := W.drew) (by
          rw [hnext, hsome]
          exact hTd) (by rw [hM]; simp [tickM, hk]) (by rw [hH2]; simp [tickH, hk])
          (Touch.of (S := fun k => k ∈ T :: mb :: allB R) (Below.drew (Below.refl _ W)))
        rw [← hlen2] at hfin
        exact And.intro hfin.1 (And.intro hfin.2.1 hfin.2.2.2)
      -- KNOWN END
    | false =>
      have hev : entVal p = .iface 91 (.pointer (some ⟨p.b, 0, none⟩)) := by simp [entVal, hk]
      rw [hev]
      have a1 := asII (.pointer (some ⟨p.b, 0, none⟩)) W
      have hTd : TabP W.drew base T mb own mac said when ((R.take pre.length).filterMap (tickP now) ++ p :: R.drop (pre.length + 1)) := hT.kept fun k _ => rfl
      have hb6 := hb5 hk
      have hok := okOne_bd (h.ok p hpm)
      have hE : W.drew.heap[p.b]? = some (inco p.x p.hv) := (he.inc hk).1
      have e3d := (blk_cell (k := 3) hE rfl).1
      simp only [List.getElem_toArray, List.getElem_cons_zero, List.getElem_cons_succ] at e3d
      have c2d : W.drew.cell? ⟨w.heap.size + 1, 0, none⟩ = some (.int .i64 now) := c2
      obtain ⟨e1d, f1d⟩ := blk_cell (k := 1) hE rfl
      have hpl : p.b < w.heap.size := hlt _ (by simp [mem_allB hpm (show p.b ∈ p.blks by simp [PE.blks])])
      simp only [List.getElem_toArray, List.getElem_cons_zero, List.getElem_cons_succ] at e1d
      have HI := Lib.hid hI
      clear hI
      gi_wp2
      -- INC
      rcases Classical.em (10 ≤ now - p.x.last) with hq | hq
      · have hel : decide (10 ≤ now - p.x.last) = true := by simpa using hq
        refine region_round (by kernel_rfl) (fun ⟨_, _, h⟩ => h) (by kernel_rfl) (fun w' => w' = W.drew) (rfl) (fun hHeld => ?_)
        refine wpAnyH_take (i := 0) (oi := ⟨some 22, _, _, _, _, _⟩) (v := ?vc0) rfl (by kernel_rfl) (by kernel_rfl) (by kernel_rfl) (fun _ _ _ h => h) (Or.inl ⟨by rfl, ?hyc0⟩) hHeld ?rrc0
        case hyc0 => (intro w hSw; (try dsimp only at hSw); (try subst hSw); go_simp; try with_reducible rfl)
        try simp only [Act.put, List.setIfInBounds_toArray, List.set_cons_zero, List.set_cons_succ]
        refine wpAnyH_take (i := 1) (oi := ⟨some 23, _, _, _, _, _⟩) (v := ?vc1) rfl (by kernel_rfl) (by kernel_rfl) (by kernel_rfl) (fun _ _ _ h => h) (Or.inl ⟨by rfl, ?hyc1⟩) hHeld ?rrc1
        case hyc1 => (intro w hSw; (try dsimp only at hSw); (try subst hSw); go_simp; try with_reducible rfl)
        try simp only [Act.put, List.setIfInBounds_toArray, List.set_cons_zero, List.set_cons_succ]
        refine wpAnyH_take (i := 2) (oi := ⟨some 24, _, _, _, _, _⟩) (v := ?vc2) rfl (by kernel_rfl) (by kernel_rfl) (by kernel_rfl) (fun _ _ _ h => h) (Or.inl ⟨by rfl, ?hyc2⟩) hHeld ?rrc2
        case hyc2 => (intro w hSw; (try dsimp only at hSw); (try subst hSw); go_simp; try with_reducible rfl)
        try simp only [Act.put, List.setIfInBounds_toArray, List.set_cons_zero, List.set_cons_succ]
        refine wpAnyH_take (i := 3) (oi := ⟨some 25, _, _, _, _, _⟩) (v := ?vc3) rfl (by kernel_rfl) (by kernel_rfl) (by kernel_rfl) (fun _ _ _ h => h) (Or.inl ⟨by rfl, ?hyc3⟩) hHeld ?rrc3
        case hyc3 => (intro w hSw; (try dsimp only at hSw); (try subst hSw); go_simp; try with_reducible rfl)
        try simp only [Act.put, List.setIfInBounds_toArray, List.set_cons_zero, List.set_cons_succ]
        refine wpAnyH_take (i := 4) (oi := ⟨some 26, _, _, _, _, _⟩) (v := ?vc4) rfl (by kernel_rfl) (by kernel_rfl) (by kernel_rfl) (fun _ _ _ h => h) (Or.inl ⟨by rfl, ?hyc4⟩) hHeld ?rrc4
        case hyc4 => (intro w hSw; (try dsimp only at hSw); (try subst hSw); go_simp; try with_reducible rfl)
        try simp only [Act.put, List.setIfInBounds_toArray, List.set_cons_zero, List.set_cons_succ]
        refine wpAnyH_ready (rs := [5]) (by kernel_rfl) (by simp) ?_
        refine AllReadyH.cons (o := ⟨some 27, _, _, _, _, _⟩) rfl (fun K hK => ?_) AllReadyH.nil
        go_simp
        refine (elapsed_any p.x.last now 10 _ hb2.1 hb2.2 hn.1 hn.2 (by decide) (by decide)).mono ?_
        rintro e w2 ⟨rfl, rfl⟩
        go_simp
        try rw [hel]
        refine hK.out _ _ (rfl) (fun hHeld2 => ?_)
        clear hK K hHeld
        have hHeld := hHeld2
        clear hHeld2
        try simp only [Act.put, List.setIfInBounds_toArray, List.set_cons_zero, List.set_cons_succ]
        refine wpAnyH_take (i := 6) (oi := ⟨some 28, _, _, _, _, _⟩) (v := ?vc6) rfl (by kernel_rfl) (by kernel_rfl) (by kernel_rfl) (fun _ _ _ h => h) (Or.inl ⟨by rfl, ?hyc6⟩) hHeld ?rrc6
        case hyc6 => (intro w hSw; (try dsimp only at hSw); (try subst hSw); go_simp; try with_reducible rfl)
        try simp only [Act.put, List.setIfInBounds_toArray, List.set_cons_zero, List.set_cons_succ]
        refine wpAnyH_done (by kernel_rfl) ?_ _
        rcases Classical.em (p.x.tries < 3) with ht | ht
        · obtain ⟨ht1, ht2⟩ := hb4
          have hW1 := blk_setc (k := 1) hE (.int .i64 (p.x.tries + 1))
          obtain ⟨g3, f3x⟩ := blk_cell (k := 3) hW1 rfl
          have c2e := (blk_cell (k := 0) (blk_set (W := W.drew) HI.out.vars.n ⟨p.b, 1, none⟩ (by show p.b ≠ w.heap.size + 1; omega) (.int .i64 (p.x.tries + 1))) rfl).1
          simp only [List.getElem_toArray, List.getElem_cons_zero] at g3 c2e
          have f3y : (W.setCell ⟨p.b, 1, none⟩ (.int .i64 (p.x.tries + 1))).frozen? ⟨p.b, 3, none⟩ = false := f3x
          have g3y : (W.setCell ⟨p.b, 1, none⟩ (.int .i64 (p.x.tries + 1))).cell? ⟨p.b, 3, none⟩ = some (.int .i64 p.x.last) := g3
          have f3z : (W.setCell ⟨p.b, 1, none⟩ (.int .i64 (p.x.tries + 1))).drew.frozen? ⟨p.b, 3, none⟩ = false := f3x
          have g3z : (W.setCell ⟨p.b, 1, none⟩ (.int .i64 (p.x.tries + 1))).drew.cell? ⟨p.b, 3, none⟩ = some (.int .i64 p.x.last) := g3
          have c2y : (W.setCell ⟨p.b, 1, none⟩ (.int .i64 (p.x.tries + 1))).cell? ⟨w.heap.size + 1, 0, none⟩ = some (.int .i64 now) := c2e
          have c2z : (W.setCell ⟨p.b, 1, none⟩ (.int .i64 (p.x.tries + 1))).drew.cell? ⟨w.heap.size + 1, 0, none⟩ = some (.int .i64 now) := c2e
          gi_wp2
          clear g3 f3x c2e hW1 f3y g3y c2y f3z g3z c2z
          obtain ⟨hX0, hV0, hXm0, hXh0, hXt0⟩ := HI.out.again hlt hB6 hxl hp hk hq ht
          have hS0 : (agW W p.b p.x.tries now).drew.cell? ⟨w.heap.size, 0, none⟩ = some (.pointer (some ⟨T, 0, none⟩)) := (blk_cell (k := 0) hV0.t rfl).1
          refine region_round (by kernel_rfl) (fun ⟨_, _, h⟩ => h) (by kernel_rfl) (fun w' => w'.cell? ⟨w.heap.size, 0, none⟩ = some (.pointer (some ⟨T, 0, none⟩))) hS0 (fun hHeld => ?_)
          obtain ⟨Wx, hWx⟩ : ∃ Wx, (agW W p.b p.x.tries now).drew = Wx := ⟨_, rfl⟩
          change wpAnyH _ _ _ _ _ _ _ _ (agW W p.b p.x.tries now).drew
          change (agW W p.b p.x.tries now).drew.cell? _ = _ at hHeld
          have hX : TabP Wx base T mb own mac said when (tickR now R (pre.length + 1)) := by rw [← hWx]; exact hX0.kept (fun _ _ => rfl)
          have hV : TkV w Wx T now v1 v2 := by rw [← hWx]; exact ⟨hV0.t, hV0.n, hV0.r, hV0.d, hV0.o⟩
          have hXm : Wx.ownsRow B 23 5 v1 (mapM2 own mac now (R.take pre.length)).length (flatM (mapM2 own mac now (R.take pre.length))) := by rw [← hWx]; exact hXm0.drew
          have hXh : Wx.ownsRow B 65 3 v2 (mapH2 now (R.take pre.length)).length (flatH (mapH2 now (R.take pre.length))) := by rw [← hWx]; exact hXh0.drew
          have hXt : Touch (fun k => k ∈ T :: mb :: allB R) W Wx := by rw [← hWx]; exact ⟨hXt0.os, hXt0.tape, hXt0.output, hXt0.size, hXt0.block⟩
          rw [hWx] at hHeld ⊢
          clear hX0 hV0 hXm0 hXh0 hXt0 hWx
          obtain ⟨y0, y1, -, -, -⟩ := mb_of hX
          have hTx : T < Wx.heap.size := (hX.lt T (by simp)).2
          have d3 : Wx.cell? ⟨w.heap.size + 1 + 1, 0, none⟩ = some v1 := (blk_cell (k := 0) hV.r rfl).1
          have hML := Nat.le_trans (mapM2_len own mac now (R.take pre.length)) (List.length_take_le' _ _)
          obtain ⟨i0, hi, hz0, hz1, hz2⟩ := info_parts infoArp
          obtain ⟨hsome, hsM, hsH⟩ := tick_again (own := own) (mac := mac) hk hq ht
          have hszW := hXt.size
          refine wpAnyH_take (i := 1) (oi := ⟨some 46, _, _, _, _, _⟩) (v := ?ve1) rfl (by kernel_rfl) (by kernel_rfl) (by kernel_rfl) (fun _ _ _ h => h) (Or.inl ⟨by rfl, ?hye1⟩) hHeld ?rre1
          case hye1 => (intro w hSw; (try dsimp only at hSw); go_simp; try with_reducible rfl)
          try simp only [Act.put, List.setIfInBounds_toArray, List.set_cons_zero, List.set_cons_succ]
          refine wpAnyH_take (i := 2) (oi := ⟨some 47, _, _, _, _, _⟩) (v := ?ve2) rfl (by kernel_rfl) (by kernel_rfl) (by kernel_rfl) (fun _ _ _ h => h) (Or.inl ⟨by rfl, ?hye2⟩) hHeld ?rre2
          case hye2 => (intro w hSw; (try dsimp only at hSw); go_simp; try with_reducible rfl)
          try simp only [Act.put, List.setIfInBounds_toArray, List.set_cons_zero, List.set_cons_succ]
          refine wpAnyH_ready (rs := [0, 3]) (by kernel_rfl) (by simp) ?_
          refine AllReadyH.cons (o := ⟨some 45, _, _, _, _, _⟩) rfl (fun K hK => ?agz12x0) (AllReadyH.cons (o := ⟨some 48, _, _, _, _, _⟩) rfl (fun K hK => ?agz12x3) AllReadyH.nil)
          case agz12x0 =>
            go_simp
            refine hK.out _ _ (hHeld) (fun hHeld2 => ?_)
            clear hK K
            have hHeld := hHeld2
            clear hHeld2
            try simp only [Act.put, List.setIfInBounds_toArray, List.set_cons_zero, List.set_cons_succ]
            refine wpAnyH_ready (rs := [3]) (by kernel_rfl) (by simp) ?_
            refine AllReadyH.cons (o := ⟨some 48, _, _, _, _, _⟩) rfl (fun K hK => ?_) AllReadyH.nil
            go_simp
            refine (request_any T own mac p.x.addr _ hTx y0 y1).mono ?_
            rintro e w2 ⟨rfl, hb2⟩
            have d3w := (hb2.cell (cell_lt d3)).trans d3
            have hms2 := row_of_block hXm (fun g hg => hb2.block g (hXm.lt g hg).2)
            have hbw := hb2.size
            refine hK.out _ _ ((hb2.cell (cell_lt hHeld)).trans hHeld) (fun hHeld2 => ?_)
            clear hK K
            have hHeld := hHeld2
            clear hHeld2
            try simp only [Act.put, List.setIfInBounds_toArray, List.set_cons_zero, List.set_cons_succ]
            refine wpAnyH_ready (rs := [4]) (by kernel_rfl) (by simp) ?_
            refine AllReadyH.cons (o := ⟨some 49, _, _, _, _, _⟩) rfl (fun K hK => ?_) AllReadyH.nil
            have d3a := cell_alloc d3w (ao 1 own mac p.x.addr 0)
            go_simp
            refine hK.out _ _ (cell_alloc hHeld _) (fun hHeld2 => ?_)
            clear hK K
            have hHeld := hHeld2
            clear hHeld2
            try simp only [Act.put, List.setIfInBounds_toArray, List.set_cons_zero, List.set_cons_succ]
            refine wpAnyH_ready (rs := [5]) (by kernel_rfl) (by simp) ?_
            refine AllReadyH.cons (o := ⟨some 50, _, _, _, _, _⟩) rfl (fun K hK => ?_) AllReadyH.nil
            refine step_append_lies _ rfl (.tmp 45) (.tmp 49) 28 rfl B 23 i0 (.agg #[.int .i64 0, .int .i64 0, .int .i64 0, .int .i64 0, .int .i64 0]) 5 40 Try.underlying28 hi hz0 hz1 hz2 rfl (by decide) v1 (mapM2 own mac now (R.take pre.length)).length _ (by simp [Act.eval]) (by exact hms2.alloc _) ⟨w2.heap.size, 0, none⟩ 1 1 [.int .i64 1, .int .i64 own, .int .i64 mac, .int .i64 p.x.addr, .int .i64 0] (by simp [Act.eval]) rfl (World.news_of_block (blk_new w2 (ao 1 own mac p.x.addr 0))) (by simp [Value.oneCell']) (by decide) (by unfold maxLen; omega) (by omega) (by simp; omega) (w2.heap.size + 1) (by simp) ?_
            intro g cap w4 hown4 hgrow4 hat4 hlt4
            have hfar : ∀ (k : Nat) (o : Obj), k < B → Wx.heap[k]? = some o → w4.heap[k]? = some o := fun k o hkB ho => (hgrow4.block k (by have := blk_lt ho; simp; omega) (fun e => by have := (hXm.lt k e.symm).1; omega)).trans (blk_alloc (blk_below ho hb2 (blk_lt ho)) _)
            have k3 := blk_cell (k := 0) (hfar _ _ (by omega) hV.r) rfl
            obtain ⟨k3, k3f⟩ := k3
            change w4.cell? ⟨w.heap.size + 1 + 1, 0, none⟩ = some v1 at k3
            change w4.frozen? ⟨w.heap.size + 1 + 1, 0, none⟩ = false at k3f
            refine hK.out _ _ ((blk_cell (k := 0) (hfar _ _ (by omega) hV.t) rfl).1) (fun hHeld2 => ?_)
            clear hK K
            have hHeld := hHeld2
            clear hHeld2
            try simp only [Act.put, List.setIfInBounds_toArray, List.set_cons_zero, List.set_cons_succ]
            refine wpAnyH_ready (rs := [6]) (by kernel_rfl) (by simp) ?_
            refine AllReadyH.cons (o := ⟨none, _, _, _, _, _⟩) rfl (fun K hK => ?_) AllReadyH.nil
            go_simp
            refine hK.out _ _ ((blk_cell (k := 0) (blk_set (hfar _ _ (by omega) hV.t) ⟨w.heap.size + 1 + 1, 0, none⟩ (by show w.heap.size + 1 + 1 ≠ w.heap.size; omega) _) rfl).1) (fun hHeld2 => ?_)
            clear hK K
            have hHeld := hHeld2
            clear hHeld2
            try simp only [Act.put, List.setIfInBounds_toArray, List.set_cons_zero, List.set_cons_succ]
            refine wpAnyH_done (by kernel_rfl) ?_ _
            have hfin := HI.out.said hlt hB6 hBW hX hV hXm hXh hXt (hb2.alloc hb2.size (ao 1 own mac p.x.addr 0)) (w4 := w4) (g := g) (cap := cap) (n := (mapM2 own mac now (R.take pre.length)).length + 1) (by rw [hM, hsM, flatM_snoc]; exact hown4) (by rw [hM, hsM]; simp) hgrow4 (hat4.imp id (fun e => by rw [e]; simp)) (by rw [hH2, hsH]; simp)
            rw [← hlen2, ← hs5] at hfin
            exact And.intro hfin.1 (And.intro hfin.2.1 (And.intro hB6 hfin.2.2.2))
          case agz12x3 =>
            go_simp
            refine (request_any T own mac p.x.addr _ hTx y0 y1).mono ?_
            rintro e w2 ⟨rfl, hb2⟩
            have d3w := (hb2.cell (cell_lt d3)).trans d3
            have hms2 := row_of_block hXm (fun g hg => hb2.block g (hXm.lt g hg).2)
            have hbw := hb2.size
            refine hK.out _ _ ((hb2.cell (cell_lt hHeld)).trans hHeld) (fun hHeld2 => ?_)
            clear hK K
            have hHeld := hHeld2
            clear hHeld2
            try simp only [Act.put, List.setIfInBounds_toArray, List.set_cons_zero, List.set_cons_succ]
            refine wpAnyH_ready (rs := [0, 4]) (by kernel_rfl) (by simp) ?_
            refine AllReadyH.cons (o := ⟨some 45, _, _, _, _, _⟩) rfl (fun K hK => ?agz123x0) (AllReadyH.cons (o := ⟨some 49, _, _, _, _, _⟩) rfl (fun K hK => ?agz123x4) AllReadyH.nil)
            case agz123x0 =>
              go_simp
              refine hK.out _ _ (hHeld) (fun hHeld2 => ?_)
              clear hK K
              have hHeld := hHeld2
              clear hHeld2
              try simp only [Act.put, List.setIfInBounds_toArray, List.set_cons_zero, List.set_cons_succ]
              refine wpAnyH_ready (rs := [4]) (by kernel_rfl) (by simp) ?_
              refine AllReadyH.cons (o := ⟨some 49, _, _, _, _, _⟩) rfl (fun K hK => ?_) AllReadyH.nil
              have d3a := cell_alloc d3w (ao 1 own mac p.x.addr 0)
              go_simp
              refine hK.out _ _ (cell_alloc hHeld _) (fun hHeld2 => ?_)
              clear hK K
              have hHeld := hHeld2
              clear hHeld2
              try simp only [Act.put, List.setIfInBounds_toArray, List.set_cons_zero, List.set_cons_succ]
              refine wpAnyH_ready (rs := [5]) (by kernel_rfl) (by simp) ?_
              refine AllReadyH.cons (o := ⟨some 50, _, _, _, _, _⟩) rfl (fun K hK => ?_) AllReadyH.nil
              refine step_append_lies _ rfl (.tmp 45) (.tmp 49) 28 rfl B 23 i0 (.agg #[.int .i64 0, .int .i64 0, .int .i64 0, .int .i64 0, .int .i64 0]) 5 40 Try.underlying28 hi hz0 hz1 hz2 rfl (by decide) v1 (mapM2 own mac now (R.take pre.length)).length _ (by simp [Act.eval]) (by exact hms2.alloc _) ⟨w2.heap.size, 0, none⟩ 1 1 [.int .i64 1, .int .i64 own, .int .i64 mac, .int .i64 p.x.addr, .int .i64 0] (by simp [Act.eval]) rfl (World.news_of_block (blk_new w2 (ao 1 own mac p.x.addr 0))) (by simp [Value.oneCell']) (by decide) (by unfold maxLen; omega) (by omega) (by simp; omega) (w2.heap.size + 1) (by simp) ?_
              intro g cap w4 hown4 hgrow4 hat4 hlt4
              have hfar : ∀ (k : Nat) (o : Obj), k < B → Wx.heap[k]? = some o → w4.heap[k]? = some o := fun k o hkB ho => (hgrow4.block k (by have := blk_lt ho; simp; omega) (fun e => by have := (hXm.lt k e.symm).1; omega)).trans (blk_alloc (blk_below ho hb2 (blk_lt ho)) _)
              have k3 := blk_cell (k := 0) (hfar _ _ (by omega) hV.r) rfl
              obtain ⟨k3, k3f⟩ := k3
              change w4.cell? ⟨w.heap.size + 1 + 1, 0, none⟩ = some v1 at k3
              change w4.frozen? ⟨w.heap.size + 1 + 1, 0, none⟩ = false at k3f
              refine hK.out _ _ ((blk_cell (k := 0) (hfar _ _ (by omega) hV.t) rfl).1) (fun hHeld2 => ?_)
              clear hK K
              have hHeld := hHeld2
              clear hHeld2
              try simp only [Act.put, List.setIfInBounds_toArray, List.set_cons_zero, List.set_cons_succ]
              refine wpAnyH_ready (rs := [6]) (by kernel_rfl) (by simp) ?_
              refine AllReadyH.cons (o := ⟨none, _, _, _, _, _⟩) rfl (fun K hK => ?_) AllReadyH.nil
              go_simp
              refine hK.out _ _ ((blk_cell (k := 0) (blk_set (hfar _ _ (by omega) hV.t) ⟨w.heap.size + 1 + 1, 0, none⟩ (by show w.heap.size + 1 + 1 ≠ w.heap.size; omega) _) rfl).1) (fun hHeld2 => ?_)
              clear hK K
              have hHeld := hHeld2
              clear hHeld2
              try simp only [Act.put, List.setIfInBounds_toArray, List.set_cons_zero, List.set_cons_succ]
              refine wpAnyH_done (by kernel_rfl) ?_ _
              have hfin := HI.out.said hlt hB6 hBW hX hV hXm hXh hXt (hb2.alloc hb2.size (ao 1 own mac p.x.addr 0)) (w4 := w4) (g := g) (cap := cap) (n := (mapM2 own mac now (R.take pre.length)).length + 1) (by rw [hM, hsM, flatM_snoc]; exact hown4) (by rw [hM, hsM]; simp) hgrow4 (hat4.imp id (fun e => by rw [e]; simp)) (by rw [hH2, hsH]; simp)
              rw [← hlen2, ← hs5] at hfin
              exact And.intro hfin.1 (And.intro hfin.2.1 (And.intro hB6 hfin.2.2.2))
            case agz123x4 =>
              have d3a := cell_alloc d3w (ao 1 own mac p.x.addr 0)
              go_simp
              refine hK.out _ _ (cell_alloc hHeld _) (fun hHeld2 => ?_)
              clear hK K
              have hHeld := hHeld2
              clear hHeld2
              try simp only [Act.put, List.setIfInBounds_toArray, List.set_cons_zero, List.set_cons_succ]
              refine wpAnyH_ready (rs := [0]) (by kernel_rfl) (by simp) ?_
              refine AllReadyH.cons (o := ⟨some 45, _, _, _, _, _⟩) rfl (fun K hK => ?_) AllReadyH.nil
              go_simp
              refine hK.out _ _ (hHeld) (fun hHeld2 => ?_)
              clear hK K
              have hHeld := hHeld2
              clear hHeld2
              try simp only [Act.put, List.setIfInBounds_toArray, List.set_cons_zero, List.set_cons_succ]
              refine wpAnyH_ready (rs := [5]) (by kernel_rfl) (by simp) ?_
              refine AllReadyH.cons (o := ⟨some 50, _, _, _, _, _⟩) rfl (fun K hK => ?_) AllReadyH.nil
              refine step_append_lies _ rfl (.tmp 45) (.tmp 49) 28 rfl B 23 i0 (.agg #[.int .i64 0, .int .i64 0, .int .i64 0, .int .i64 0, .int .i64 0]) 5 40 Try.underlying28 hi hz0 hz1 hz2 rfl (by decide) v1 (mapM2 own mac now (R.take pre.length)).length _ (by simp [Act.eval]) (by exact hms2.alloc _) ⟨w2.heap.size, 0, none⟩ 1 1 [.int .i64 1, .int .i64 own, .int .i64 mac, .int .i64 p.x.addr, .int .i64 0] (by simp [Act.eval]) rfl (World.news_of_block (blk_new w2 (ao 1 own mac p.x.addr 0))) (by simp [Value.oneCell']) (by decide) (by unfold maxLen; omega) (by omega) (by simp; omega) (w2.heap.size + 1) (by simp) ?_
              intro g cap w4 hown4 hgrow4 hat4 hlt4
              have hfar : ∀ (k : Nat) (o : Obj), k < B → Wx.heap[k]? = some o → w4.heap[k]? = some o := fun k o hkB ho => (hgrow4.block k (by have := blk_lt ho; simp; omega) (fun e => by have := (hXm.lt k e.symm).1; omega)).trans (blk_alloc (blk_below ho hb2 (blk_lt ho)) _)
              have k3 := blk_cell (k := 0) (hfar _ _ (by omega) hV.r) rfl
              obtain ⟨k3, k3f⟩ := k3
              change w4.cell? ⟨w.heap.size + 1 + 1, 0, none⟩ = some v1 at k3
              change w4.frozen? ⟨w.heap.size + 1 + 1, 0, none⟩ = false at k3f
              refine hK.out _ _ ((blk_cell (k := 0) (hfar _ _ (by omega) hV.t) rfl).1) (fun hHeld2 => ?_)
              clear hK K
              have hHeld := hHeld2
              clear hHeld2
              try simp only [Act.put, List.setIfInBounds_toArray, List.set_cons_zero, List.set_cons_succ]
              refine wpAnyH_ready (rs := [6]) (by kernel_rfl) (by simp) ?_
              refine AllReadyH.cons (o := ⟨none, _, _, _, _, _⟩) rfl (fun K hK => ?_) AllReadyH.nil
              go_simp
              refine hK.out _ _ ((blk_cell (k := 0) (blk_set (hfar _ _ (by omega) hV.t) ⟨w.heap.size + 1 + 1, 0, none⟩ (by show w.heap.size + 1 + 1 ≠ w.heap.size; omega) _) rfl).1) (fun hHeld2 => ?_)
              clear hK K
              have hHeld := hHeld2
              clear hHeld2
              try simp only [Act.put, List.setIfInBounds_toArray, List.set_cons_zero, List.set_cons_succ]
              refine wpAnyH_done (by kernel_rfl) ?_ _
              have hfin := HI.out.said hlt hB6 hBW hX hV hXm hXh hXt (hb2.alloc hb2.size (ao 1 own mac p.x.addr 0)) (w4 := w4) (g := g) (cap := cap) (n := (mapM2 own mac now (R.take pre.length)).length + 1) (by rw [hM, hsM, flatM_snoc]; exact hown4) (by rw [hM, hsM]; simp) hgrow4 (hat4.imp id (fun e => by rw [e]; simp)) (by rw [hH2, hsH]; simp)
              rw [← hlen2, ← hs5] at hfin
              exact And.intro hfin.1 (And.intro hfin.2.1 (And.intro hB6 hfin.2.2.2))
        · obtain ⟨w9, hrun9, hown9, hturn9⟩ := hTd.map.drop law Try.underlying80 (keyI hok.1 hok.2) 0
          gi_wp2
          obtain ⟨hnone, hsM, hsH⟩ := tick_lost (own := own) (mac := mac) hk hq (show ¬ p.x.tries < 3 by omega)
          have hX0 : TabP w9 base T mb own mac said when (tickR now R (pre.length + 1)) := by
            rw [hnext, hnone]
            have := hTd.del p.x.addr ⟨_, hown9⟩ hturn9.grown
            rw [drop_mid hTd.sorted] at this
            exact this
          have ht9 : Touch (fun k => k = mb) W w9 := (Touch.of (S := fun k => k = mb) (Below.drew (Below.refl _ W))).trans (Touch.grown (S := fun k => k = mb) hturn9.grown (fun k e => by cases e; rfl)) (fun k e => .inl e)
          have hmbl := hlt mb (by simp)
          have hk9 : ∀ k, k ≠ mb → k < W.heap.size → w9.heap[k]? = W.heap[k]? := fun k h1 h2 => ht9.block k h2 h1
          have hV0 : TkV w w9 T now v1 v2 := HI.out.vars.kept (fun k h1 h2 => hk9 k (by omega) (by omega))
          have hXm0 := row_of_block (w' := w9) HI.out.ms (fun g hg => hk9 g (by have := (HI.out.ms.lt g hg).1; omega) (HI.out.ms.lt g hg).2)
          have hXh0 := row_of_block (w' := w9) HI.out.hs (fun g hg => hk9 g (by have := (HI.out.hs.lt g hg).1; omega) (HI.out.hs.lt g hg).2)
          have hXt0 : Touch (fun k => k ∈ T :: mb :: allB R) W w9 := ht9.wide (fun k e => by rw [e]; simp)
          have hbmb : p.b ≠ mb := by
            have hnd := hTd.nodup
            rw [allB_mid] at hnd
            have := (List.nodup_cons.1 (List.nodup_cons.1 hnd).2).1
            intro e; exact this (by simp [PE.blks, e])
          have hE9 : w9.heap[p.b]? = some (inco p.x p.hv) := (hk9 p.b hbmb (by omega)).trans hE
          have hO9 : w9.ownsRow base 9 1 p.hv p.x.held.length (strs p.x.held) := row_of_block (he.inc hk).2 (fun g hg => hk9 g (fun e => by
            have hnd := hTd.nodup
            rw [allB_mid] at hnd
            exact (List.nodup_cons.1 (List.nodup_cons.1 hnd).2).1 (by simp [PE.blks, hg, e])) ((he.inc hk).2.lt g hg).2)
          have hS0 : w9.drew.cell? ⟨w.heap.size, 0, none⟩ = some (.pointer (some ⟨T, 0, none⟩)) := (blk_cell (k := 0) hV0.t rfl).1
          refine region_round (by kernel_rfl) (fun ⟨_, _, h⟩ => h) (by kernel_rfl) (fun _ => True) trivial (fun hHeld => ?_)
          obtain ⟨Wx, hWx⟩ : ∃ Wx, w9.drew = Wx := ⟨_, rfl⟩
          have hX : TabP Wx base T mb own mac said when (tickR now R (pre.length + 1)) := by rw [← hWx]; exact hX0.kept (fun _ _ => rfl)
          have hV : TkV w Wx T now v1 v2 := by rw [← hWx]; exact ⟨hV0.t, hV0.n, hV0.r, hV0.d, hV0.o⟩
          have hXm : Wx.ownsRow B 23 5 v1 (mapM2 own mac now (R.take pre.length)).length (flatM (mapM2 own mac now (R.take pre.length))) := by rw [← hWx]; exact hXm0.drew
          have hXh : Wx.ownsRow B 65 3 v2 (mapH2 now (R.take pre.length)).length (flatH (mapH2 now (R.take pre.length))) := by rw [← hWx]; exact hXh0.drew
          have hXt : Touch (fun k => k ∈ T :: mb :: allB R) W Wx := by rw [← hWx]; exact ⟨hXt0.os, hXt0.tape, hXt0.output, hXt0.size, hXt0.block⟩
          have hEx : Wx.heap[p.b]? = some (inco p.x p.hv) := by rw [← hWx]; exact hE9
          have hOx : Wx.ownsRow base 9 1 p.hv p.x.held.length (strs p.x.held) := by rw [← hWx]; exact hO9.drew
          rw [hWx]
          clear hX0 hV0 hXm0 hXh0 hXt0 hE9 hO9 hS0 hWx hrun9 hown9 hturn9 ht9 hk9
          have d4 : Wx.cell? ⟨w.heap.size + 1 + 1 + 1, 0, none⟩ = some v2 := (blk_cell (k := 0) hV.d rfl).1
          have hHL := Nat.le_trans (mapH2_len now (R.take pre.length) (fun q hq => (hbd q (List.mem_of_mem_take hq)).2.2.1)) (Nat.mul_le_mul_left 1000 (List.length_take_le' _ _))
          obtain ⟨i0, hi, hz0, hz1, hz2⟩ := info_parts infoHp
          have hszW := hXt.size
          refine wpAnyH_take (i := 1) (oi := ⟨some 57, _, _, _, _, _⟩) (v := ?vl1) rfl (by kernel_rfl) (by kernel_rfl) (by kernel_rfl) (fun _ _ _ h => h) (Or.inl ⟨by rfl, ?hyl1⟩) hHeld ?rrl1
          case hyl1 => (intro w hSw; (try dsimp only at hSw); go_simp; try with_reducible rfl)
          try simp only [Act.put, List.setIfInBounds_toArray, List.set_cons_zero, List.set_cons_succ]
          refine wpAnyH_take (i := 2) (oi := ⟨some 58, _, _, _, _, _⟩) (v := ?vl2) rfl (by kernel_rfl) (by kernel_rfl) (by kernel_rfl) (fun _ _ _ h => h) (Or.inl ⟨by rfl, ?hyl2⟩) hHeld ?rrl2
          case hyl2 => (intro w hSw; (try dsimp only at hSw); go_simp; try with_reducible rfl)
          try simp only [Act.put, List.setIfInBounds_toArray, List.set_cons_zero, List.set_cons_succ]
          refine wpAnyH_ready (rs := [0, 3]) (by kernel_rfl) (by simp) ?_
          refine AllReadyH.cons (o := ⟨some 56, _, _, _, _, _⟩) rfl (fun K hK => ?loz12x0) (AllReadyH.cons (o := ⟨some 59, _, _, _, _, _⟩) rfl (fun K hK => ?loz12x3) AllReadyH.nil)
          case loz12x0 =>
            go_simp
            refine hK.out _ _ (trivial) (fun hHeld2 => ?_)
            clear hK K
            have hHeld := hHeld2
            clear hHeld2
            try simp only [Act.put, List.setIfInBounds_toArray, List.set_cons_zero, List.set_cons_succ]
            refine wpAnyH_ready (rs := [3]) (by kernel_rfl) (by simp) ?_
            refine AllReadyH.cons (o := ⟨some 59, _, _, _, _, _⟩) rfl (fun K hK => ?_) AllReadyH.nil
            go_simp
            refine (release_any p.x.addr 0 hEx hOx hb3).mono ?_
            rintro e w2 ⟨⟨u, rfl, hu⟩, hb2⟩
            have d4w := (hb2.cell (cell_lt d4)).trans d4
            have hms2 := row_of_block hXh (fun g hg => hb2.block g (hXh.lt g hg).2)
            have hbw := hb2.size
            obtain ⟨gu, cu, rfl, hgu, hgl⟩ := hu.form (by omega)
            refine hK.out _ _ (trivial) (fun hHeld2 => ?_)
            clear hK K
            have hHeld := hHeld2
            clear hHeld2
            try simp only [Act.put, List.setIfInBounds_toArray, List.set_cons_zero, List.set_cons_succ]
            refine wpAnyH_ready (rs := [4]) (by kernel_rfl) (by simp) ?_
            refine AllReadyH.cons (o := ⟨some 60, _, _, _, _, _⟩) rfl (fun K hK => ?_) AllReadyH.nil
            refine step_append_lies _ rfl (.tmp 56) (.tmp 59) 51 rfl B 65 i0 (.agg #[.int .i64 0, .int .i64 0, .string ⟨#[]⟩]) 3 32 Try.underlying51 hi hz0 hz1 hz2 rfl (by decide) v2 (mapH2 now (R.take pre.length)).length _ (by simp [Act.eval]) hms2 ⟨gu, 0, none⟩ p.x.held.length cu (flatH (p.x.held.map fun s => ⟨p.x.addr, 0, s⟩)) (by simp [Act.eval]) (by rw [flatH_length]; simp) (hu.cells rfl) (flatH_one _) (by omega) (by unfold maxLen; omega) (by omega) (by omega) w2.heap.size rfl ?_
            intro g cap w4 hown4 hgrow4 hat4 hlt4
            have hfar : ∀ (k : Nat) (o : Obj), k < B → Wx.heap[k]? = some o → w4.heap[k]? = some o := fun k o hkB ho => (hgrow4.block k (by have := blk_lt ho; omega) (fun e => by have := (hXh.lt k e.symm).1; omega)).trans (blk_below ho hb2 (blk_lt ho))
            have k3 := blk_cell (k := 0) (hfar _ _ (by omega) hV.d) rfl
            obtain ⟨k3, k3f⟩ := k3
            change w4.cell? ⟨w.heap.size + 1 + 1 + 1, 0, none⟩ = some v2 at k3
            change w4.frozen? ⟨w.heap.size + 1 + 1 + 1, 0, none⟩ = false at k3f
            refine hK.out _ _ (trivial) (fun hHeld2 => ?_)
            clear hK K
            have hHeld := hHeld2
            clear hHeld2
            try simp only [Act.put, List.setIfInBounds_toArray, List.set_cons_zero, List.set_cons_succ]
            refine wpAnyH_ready (rs := [5]) (by kernel_rfl) (by simp) ?_
            refine AllReadyH.cons (o := ⟨none, _, _, _, _, _⟩) rfl (fun K hK => ?_) AllReadyH.nil
            go_simp
            refine hK.out _ _ (trivial) (fun hHeld2 => ?_)
            clear hK K
            have hHeld := hHeld2
            clear hHeld2
            try simp only [Act.put, List.setIfInBounds_toArray, List.set_cons_zero, List.set_cons_succ]
            refine wpAnyH_done (by kernel_rfl) ?_ _
            have hfin := HI.out.lost hlt hB6 hBW hX hV hXm hXh hXt hb2 (w4 := w4) (g := g) (cap := cap) (n := (mapH2 now (R.take pre.length)).length + p.x.held.length) (by rw [hH2, hsH, flatH_append]; exact hown4) (by rw [hH2, hsH]; simp) hgrow4 hat4 (by rw [hM, hsM]; simp)
            rw [← hlen2, ← hs5] at hfin
            exact And.intro hfin.1 (And.intro hfin.2.1 (And.intro hB6 hfin.2.2.2))
          case loz12x3 =>
            go_simp
            refine (release_any p.x.addr 0 hEx hOx hb3).mono ?_
            rintro e w2 ⟨⟨u, rfl, hu⟩, hb2⟩
            have d4w := (hb2.cell (cell_lt d4)).trans d4
            have hms2 := row_of_block hXh (fun g hg => hb2.block g (hXh.lt g hg).2)
            have hbw := hb2.size
            obtain ⟨gu, cu, rfl, hgu, hgl⟩ := hu.form (by omega)
            refine hK.out _ _ (trivial) (fun hHeld2 => ?_)
            clear hK K
            have hHeld := hHeld2
            clear hHeld2
            try simp only [Act.put, List.setIfInBounds_toArray, List.set_cons_zero, List.set_cons_succ]
            refine wpAnyH_ready (rs := [0]) (by kernel_rfl) (by simp) ?_
            refine AllReadyH.cons (o := ⟨some 56, _, _, _, _, _⟩) rfl (fun K hK => ?_) AllReadyH.nil
            go_simp
            refine hK.out _ _ (trivial) (fun hHeld2 => ?_)
            clear hK K
            have hHeld := hHeld2
            clear hHeld2
            try simp only [Act.put, List.setIfInBounds_toArray, List.set_cons_zero, List.set_cons_succ]
            refine wpAnyH_ready (rs := [4]) (by kernel_rfl) (by simp) ?_
            refine AllReadyH.cons (o := ⟨some 60, _, _, _, _, _⟩) rfl (fun K hK => ?_) AllReadyH.nil
            refine step_append_lies _ rfl (.tmp 56) (.tmp 59) 51 rfl B 65 i0 (.agg #[.int .i64 0, .int .i64 0, .string ⟨#[]⟩]) 3 32 Try.underlying51 hi hz0 hz1 hz2 rfl (by decide) v2 (mapH2 now (R.take pre.length)).length _ (by simp [Act.eval]) hms2 ⟨gu, 0, none⟩ p.x.held.length cu (flatH (p.x.held.map fun s => ⟨p.x.addr, 0, s⟩)) (by simp [Act.eval]) (by rw [flatH_length]; simp) (hu.cells rfl) (flatH_one _) (by omega) (by unfold maxLen; omega) (by omega) (by omega) w2.heap.size rfl ?_
            intro g cap w4 hown4 hgrow4 hat4 hlt4
            have hfar : ∀ (k : Nat) (o : Obj), k < B → Wx.heap[k]? = some o → w4.heap[k]? = some o := fun k o hkB ho => (hgrow4.block k (by have := blk_lt ho; omega) (fun e => by have := (hXh.lt k e.symm).1; omega)).trans (blk_below ho hb2 (blk_lt ho))
            have k3 := blk_cell (k := 0) (hfar _ _ (by omega) hV.d) rfl
            obtain ⟨k3, k3f⟩ := k3
            change w4.cell? ⟨w.heap.size + 1 + 1 + 1, 0, none⟩ = some v2 at k3
            change w4.frozen? ⟨w.heap.size + 1 + 1 + 1, 0, none⟩ = false at k3f
            refine hK.out _ _ (trivial) (fun hHeld2 => ?_)
            clear hK K
            have hHeld := hHeld2
            clear hHeld2
            try simp only [Act.put, List.setIfInBounds_toArray, List.set_cons_zero, List.set_cons_succ]
            refine wpAnyH_ready (rs := [5]) (by kernel_rfl) (by simp) ?_
            refine AllReadyH.cons (o := ⟨none, _, _, _, _, _⟩) rfl (fun K hK => ?_) AllReadyH.nil
            go_simp
            refine hK.out _ _ (trivial) (fun hHeld2 => ?_)
            clear hK K
            have hHeld := hHeld2
            clear hHeld2
            try simp only [Act.put, List.setIfInBounds_toArray, List.set_cons_zero, List.set_cons_succ]
            refine wpAnyH_done (by kernel_rfl) ?_ _
            have hfin := HI.out.lost hlt hB6 hBW hX hV hXm hXh hXt hb2 (w4 := w4) (g := g) (cap := cap) (n := (mapH2 now (R.take pre.length)).length + p.x.held.length) (by rw [hH2, hsH, flatH_append]; exact hown4) (by rw [hH2, hsH]; simp) hgrow4 hat4 (by rw [hM, hsM]; simp)
            rw [← hlen2, ← hs5] at hfin
            exact And.intro hfin.1 (And.intro hfin.2.1 (And.intro hB6 hfin.2.2.2))
      · have hel : decide (10 ≤ now - p.x.last) = false := by simpa using hq
        refine region_round (by kernel_rfl) (fun ⟨_, _, h⟩ => h) (by kernel_rfl) (fun w' => w' = W.drew) (rfl) (fun hHeld => ?_)
        refine wpAnyH_take (i := 0) (oi := ⟨some 22, _, _, _, _, _⟩) (v := ?vd0) rfl (by kernel_rfl) (by kernel_rfl) (by kernel_rfl) (fun _ _ _ h => h) (Or.inl ⟨by rfl, ?hyd0⟩) hHeld ?rrd0
        case hyd0 => (intro w hSw; (try dsimp only at hSw); (try subst hSw); go_simp; try with_reducible rfl)
        try simp only [Act.put, List.setIfInBounds_toArray, List.set_cons_zero, List.set_cons_succ]
        refine wpAnyH_take (i := 1) (oi := ⟨some 23, _, _, _, _, _⟩) (v := ?vd1) rfl (by kernel_rfl) (by kernel_rfl) (by kernel_rfl) (fun _ _ _ h => h) (Or.inl ⟨by rfl, ?hyd1⟩) hHeld ?rrd1
        case hyd1 => (intro w hSw; (try dsimp only at hSw); (try subst hSw); go_simp; try with_reducible rfl)
        try simp only [Act.put, List.setIfInBounds_toArray, List.set_cons_zero, List.set_cons_succ]
        refine wpAnyH_take (i := 2) (oi := ⟨some 24, _, _, _, _, _⟩) (v := ?vd2) rfl (by kernel_rfl) (by kernel_rfl) (by kernel_rfl) (fun _ _ _ h => h) (Or.inl ⟨by rfl, ?hyd2⟩) hHeld ?rrd2
        case hyd2 => (intro w hSw; (try dsimp only at hSw); (try subst hSw); go_simp; try with_reducible rfl)
        try simp only [Act.put, List.setIfInBounds_toArray, List.set_cons_zero, List.set_cons_succ]
        refine wpAnyH_take (i := 3) (oi := ⟨some 25, _, _, _, _, _⟩) (v := ?vd3) rfl (by kernel_rfl) (by kernel_rfl) (by kernel_rfl) (fun _ _ _ h => h) (Or.inl ⟨by rfl, ?hyd3⟩) hHeld ?rrd3
        case hyd3 => (intro w hSw; (try dsimp only at hSw); (try subst hSw); go_simp; try with_reducible rfl)
        try simp only [Act.put, List.setIfInBounds_toArray, List.set_cons_zero, List.set_cons_succ]
        refine wpAnyH_take (i := 4) (oi := ⟨some 26, _, _, _, _, _⟩) (v := ?vd4) rfl (by kernel_rfl) (by kernel_rfl) (by kernel_rfl) (fun _ _ _ h => h) (Or.inl ⟨by rfl, ?hyd4⟩) hHeld ?rrd4
        case hyd4 => (intro w hSw; (try dsimp only at hSw); (try subst hSw); go_simp; try with_reducible rfl)
        try simp only [Act.put, List.setIfInBounds_toArray, List.set_cons_zero, List.set_cons_succ]
        refine wpAnyH_ready (rs := [5]) (by kernel_rfl) (by simp) ?_
        refine AllReadyH.cons (o := ⟨some 27, _, _, _, _, _⟩) rfl (fun K hK => ?_) AllReadyH.nil
        go_simp
        refine (elapsed_any p.x.last now 10 _ hb2.1 hb2.2 hn.1 hn.2 (by decide) (by decide)).mono ?_
        rintro e w2 ⟨rfl, rfl⟩
        go_simp
        try rw [hel]
        refine hK.out _ _ (rfl) (fun hHeld2 => ?_)
        clear hK K hHeld
        have hHeld := hHeld2
        clear hHeld2
        try simp only [Act.put, List.setIfInBounds_toArray, List.set_cons_zero, List.set_cons_succ]
        refine wpAnyH_take (i := 6) (oi := ⟨some 28, _, _, _, _, _⟩) (v := ?vd6) rfl (by kernel_rfl) (by kernel_rfl) (by kernel_rfl) (fun _ _ _ h => h) (Or.inl ⟨by rfl, ?hyd6⟩) hHeld ?rrd6
        case hyd6 => (intro w hSw; (try dsimp only at hSw); (try subst hSw); go_simp; try with_reducible rfl)
        try simp only [Act.put, List.setIfInBounds_toArray, List.set_cons_zero, List.set_cons_succ]
        refine wpAnyH_done (by kernel_rfl) ?_ _
        gi_wp2
        obtain ⟨hsome, hsM, hsH⟩ := tick_wait (own := own) (mac := mac) hk (show ¬ 10 ≤ now - p.x.last by omega)
        have hfin := HI.out.next_same hlt hB6 hBW (W' := W.drew) (by
          rw [hnext, hsome]
          exact hTd) (by rw [hM, hsM]; simp) (by rw [hH2, hsH]; simp)
          (Touch.of (S := fun k => k ∈ T :: mb :: allB R) (Below.drew (Below.refl _ W)))
        rw [← hlen2] at hfin
        exact And.intro hfin.1 (And.intro hfin.2.1 hfin.2.2.2)
      -- INC END
  case done =>
    rintro D B xs W hD hxs ⟨hB6, hBW, v1, v2, hI⟩ hK
    obtain ⟨c3, -⟩ := blk_cell (k := 0) hI.vars.r rfl
    obtain ⟨c4, -⟩ := blk_cell (k := 0) hI.vars.d rfl
    simp only [List.getElem_toArray, List.getElem_cons_zero] at c3 c4
    have hI2 := (hI.keep hlt (L := w5.heap.size) (W' := W.drew) (by omega) (by omega) (row := none) ⟨rfl, rfl, rfl, Nat.le_refl _, fun _ _ _ => rfl⟩ (fun r e => by cases e)).keep hlt (L := w5.heap.size) (W' := W.drew.putObj D (.deferred none)) (by omega) (by omega) (row := some D) (grownBy_putObj' _ _ _) (fun r e => by cases e; exact ⟨hD, _, hK, rfl⟩)
    rw [hxs] at hI2
    have hI3 := row_mono hI2.ms (base' := w.heap.size) (by omega)
    have hI4 := row_mono hI2.hs (base' := w.heap.size) (by omega)
    have hI5 := hI2.tab
    rw [tickR_all] at hI5
    rw [List.take_length] at hI3 hI4
    gi_wp2
    gi_region
    gi_wp2
    refine ⟨by simp, .inl ⟨_, _, rfl, run_takeDeferred (w := W.drew) hK, ?_⟩⟩
    exact ⟨_, results_tmp2 rfl _ _ _, v1, v2, rfl, hI5, hI3, hI4, hI2.ne, hI2.touch⟩
  case stop =>
    rintro D c pre W _ _ h _
    exact h.elim
end Go.Proofs.Ytpkfjlbjahghgaa
