/- Contract of Tick, for a table of at most one datagram. -/
import Derived.Test.YtecboengeheapaaRtT0
import Derived.Deep.AppendLies
import Derived.Maps.OwnIn
namespace Go.Proofs.Ytecboengeheapaa
open Go.RowKit Go.Maps Go.Shelf
set_option linter.unusedVariables false
attribute [local go_sem] Oper.semAt_some

set_option maxRecDepth 100000 in
set_option maxHeartbeats 8000000 in
theorem tick_in {w : World} {base T mb : Nat} {cr : Int} {R : List PE} (h : TabP w base T mb cr R) (hlen : R.length ≤ 1) (now : Int) (hn1 : -9223372036854775808 ≤ now) (hn2 : now ≤ 9223372036854775807) (hst : ∀ p ∈ R, -9223372036854775808 ≤ p.x.st ∧ p.x.st ≤ 9223372036854775807) :
    CallsIn Fence.wide 8 Try.prog 34 #[.pointer (some ⟨T, 0, none⟩), .int .i64 now] w fun e w' => ∃ v, e = .returned v ∧ w'.ownsRow w.heap.size 26 9 v (outP now R).length (flatP (outP now R)) ∧
      TabP w' base T mb cr (remP now R R) ∧ Touch (fun k => k ∈ T :: mb :: allB R) w w' := by
  have hro : Fence.wide.round = none := rfl
  have hlt := fun k hk => (h.lt k hk).2
  refine callsIn_of_wp_marks Try.func34 rfl trivial ?_ hro
  simp only [Try.ntmps34, List.size_toArray, List.length_cons, List.length_nil, Nat.reduceAdd, Nat.reduceSub, Array.replicate_succ, Array.replicate_zero, List.push_toArray, List.append_toArray, List.nil_append, List.cons_append]
  refine wpIn_wide.2 ?_
  go_wp2_with fail
  refine (order_any T _).mono ?_
  rintro e w5 ⟨rfl, hw5⟩
  have hT5 : w5.heap[w.heap.size]? = some (.cells #[.pointer (some ⟨T, 0, none⟩)] 47) := by rw [hw5]; exact blk_alloc (blk_alloc (blk_alloc (blk_new w _) _) _) _
  have hN5 : w5.heap[w.heap.size + 1]? = some (.cells #[.int .i64 now] 3) := by
    rw [hw5]; have := blk_alloc (blk_alloc (blk_new (w.alloc (.cells #[.pointer (some ⟨T, 0, none⟩)] 47)) (.cells #[.int .i64 now] 3)) (.cells #[.slice none 0 0] 29)) (.cells #[.pointer (some ⟨T, 0, none⟩)] 47)
    simp only [World.size_alloc] at this; exact this
  have hE5 : w5.heap[w.heap.size + 2]? = some (.cells #[.slice none 0 0] 29) := by
    rw [hw5]; have := blk_alloc (blk_new ((w.alloc (.cells #[.pointer (some ⟨T, 0, none⟩)] 47)).alloc (.cells #[.int .i64 now] 3)) (.cells #[.slice none 0 0] 29)) (.cells #[.pointer (some ⟨T, 0, none⟩)] 47)
    simp only [World.size_alloc] at this; exact this
  have hO5 : w5.heap[w.heap.size + 3]? = some (.cells #[.pointer (some ⟨T, 0, none⟩)] 47) := by
    rw [hw5]; have := blk_new (((w.alloc (.cells #[.pointer (some ⟨T, 0, none⟩)] 47)).alloc (.cells #[.int .i64 now] 3)).alloc (.cells #[.slice none 0 0] 29)) (.cells #[.pointer (some ⟨T, 0, none⟩)] 47)
    simp only [World.size_alloc] at this; exact this
  have hs5 : w5.heap.size = w.heap.size + 4 := by rw [hw5]; simp
  have hB5 : Below w.heap.size w w5 := by rw [hw5]; exact ((((Below.refl _ w).alloc (Nat.le_refl _) _).alloc (by simp) _).alloc (by simp; omega) _).alloc (by simp; omega) _
  clear hw5
  have h5 := h.below hB5
  have hst5 := order_stops R h.ok h.keys hlen (w.heap.size + 3) T mb w5 (by have := hlt mb (by simp); omega) h5.map
  go_wp2
  refine (wpIn_wide (n := 8)).1 ?_
  refine wpIn_rangeFunc_ownX hro (by decide) (gf := 82) (lb := #[.pointer (some ⟨w.heap.size + 1 + 1 + 1, 0, none⟩)]) rfl trivial (enters_of Try.func82 (by kernel_rfl) rfl)
    hst5 (Below.refl _ _) (fun _ => rfl)
    (TkI w base T mb cr now R) (fun _ _ _ => False) (fun B => TkI.own hlt (by omega)) (fun _ _ _ _ _ hs _ _ => hs)
    ?hH
    (fun B pre X Y r h1 h2 hg hI => TkI.turn (L := w5.heap.size + 2) hlt (by omega) (by omega) h2 hg hI)
    ?start
    (fun (x : PE) W0 => { tmps := #[.pointer (some ⟨T, 0, none⟩), .int .i64 now, .pointer (some ⟨w.heap.size, 0, none⟩), .pointer (some ⟨w.heap.size + 1, 0, none⟩), .slice none 0 0, .pointer (some ⟨w.heap.size + 1 + 1, 0, none⟩), .pointer (some ⟨W0.heap.size, 0, none⟩), ptr x.b, .pointer (some ⟨T, 0, none⟩), .bool false, .pointer (some ⟨T, 0, none⟩), .func (.func 82) #[] #[.pointer (some ⟨w.heap.size + 1 + 1 + 1, 0, none⟩)], kv x.x.k, ptr x.b, undef, undef, undef, undef, undef, undef, undef, undef, undef, undef, undef, undef, undef, undef, undef, undef, undef, undef, undef, undef, undef, undef], defers := [] })
    (fun x W => W.alloc (kobj x.x.k)) (fun x W0 W => W.heap[W0.heap.size]? = some (kobj x.x.k) ∧ W0.heap.size < W.heap.size) (fun x W => (Below.refl _ W).alloc (Nat.le_refl _) _)
    (fun x W l o hl => ⟨(World.putObj_heap_other (by omega)).trans (blk_new W (kobj x.x.k)), by have h9 := (grownBy_putObj' (W.alloc (kobj x.x.k)) l o).size; rw [World.size_alloc] at h9; omega⟩) (fun B pre W hI => hI.hi) ?assign ?body ?done ?stop
  case hH =>
    intro B pre W hI
    refine ⟨(blk_cell (k := 0) hI.bo rfl).1, (mb_of hI.tab).1, fun p hp => ?_⟩
    have hl := tab_look hI.tab (h.ok p (List.mem_of_getElem? hp))
    rw [(hI.next h.keys hp).2] at hl
    exact hl
  case start =>
    intro W' hW'
    have hbb := hB5.trans (hW'.mono (by omega))
    refine ⟨blk_below hT5 hW' (blk_lt hT5), blk_below hN5 hW' (blk_lt hN5), ⟨_, blk_below hE5 hW' (blk_lt hE5), World.ownsRow_nil _ _ _ _⟩, blk_below hO5 hW' (blk_lt hO5), ?_, Touch.of hbb, by simp, by have := hW'.size; omega, Nat.le_refl _⟩
    rw [remP_nil]
    exact h.below hbb
  case assign =>
    intro l x W K hK
    gi_wp2
    exact hK
  case body =>
    rintro l B pre x W0 W hLB hBW0 hI hnx ⟨hf, hW0⟩
    have hxl : pre.length < R.length := (List.getElem?_eq_some_iff.1 hnx).1
    obtain ⟨hxr, hxk⟩ := hI.next h.keys hnx
    have hxm : x ∈ R := (remP_sub now pre R).subset hxr
    have hE := hI.tab.ent x hxr
    have hsx := hst x hxm
    have HNP := Lib.hid (takeP_snoc hI.pr hnx)
    have hrem := remP_snoc now pre R x (uniq h.keys hxm)
    have hout := outP_snoc now pre x
    obtain ⟨e1, -⟩ := blk_cell (k := 1) hE.blk rfl
    obtain ⟨n0, -⟩ := blk_cell (k := 0) hI.bn rfl
    simp only [List.getElem_toArray, List.getElem_cons_zero, List.getElem_cons_succ] at e1 n0
    have HI := Lib.hid hI
    have HF := Lib.hid hf
    have HE := Lib.hid hE
    obtain ⟨tk, htk⟩ : ∃ tk, tickB now x.x = tk := ⟨_, rfl⟩
    rw [htk] at hrem hout
    unfold tickB at htk
    have HTK := Lib.hid htk
    have HREM := Lib.hid hrem
    have HOUT := Lib.hid hout
    clear hI hf hE hst5 htk hrem hout
    unfold ptr
    gi_wp2
    refine region_round (by kernel_rfl) (fun ⟨_, _, h⟩ => h) (by kernel_rfl) (fun w' => w' = W.drew) (rfl) (fun hHeld => ?_)
    refine wpAnyH_take (i := 0) (oi := ⟨some 14, _, _, _, _, _⟩) (v := ?va0) rfl (by kernel_rfl) (by kernel_rfl) (by kernel_rfl) (fun _ _ _ h => h) (Or.inl ⟨by rfl, ?hya0⟩) hHeld ?rra0
    case hya0 => (intro w hSw; subst hSw; go_simp; try with_reducible rfl)
    try simp only [Act.put, List.setIfInBounds_toArray, List.set_cons_zero, List.set_cons_succ]
    refine wpAnyH_take (i := 1) (oi := ⟨some 15, _, _, _, _, _⟩) (v := ?va1) rfl (by kernel_rfl) (by kernel_rfl) (by kernel_rfl) (fun _ _ _ h => h) (Or.inl ⟨by rfl, ?hya1⟩) hHeld ?rra1
    case hya1 => (intro w hSw; subst hSw; go_simp; try with_reducible rfl)
    try simp only [Act.put, List.setIfInBounds_toArray, List.set_cons_zero, List.set_cons_succ]
    refine wpAnyH_take (i := 2) (oi := ⟨some 16, _, _, _, _, _⟩) (v := ?va2) rfl (by kernel_rfl) (by kernel_rfl) (by kernel_rfl) (fun _ _ _ h => h) (Or.inl ⟨by rfl, ?hya2⟩) hHeld ?rra2
    case hya2 => (intro w hSw; subst hSw; go_simp; try with_reducible rfl)
    try simp only [Act.put, List.setIfInBounds_toArray, List.set_cons_zero, List.set_cons_succ]
    refine wpAnyH_take (i := 3) (oi := ⟨some 17, _, _, _, _, _⟩) (v := ?va3) rfl (by kernel_rfl) (by kernel_rfl) (by kernel_rfl) (fun _ _ _ h => h) (Or.inl ⟨by rfl, ?hya3⟩) hHeld ?rra3
    case hya3 => (intro w hSw; subst hSw; go_simp; try with_reducible rfl)
    try simp only [Act.put, List.setIfInBounds_toArray, List.set_cons_zero, List.set_cons_succ]
    refine wpAnyH_take (i := 4) (oi := ⟨some 18, _, _, _, _, _⟩) (v := ?va4) rfl (by kernel_rfl) (by kernel_rfl) (by kernel_rfl) (fun _ _ _ h => h) (Or.inl ⟨by rfl, ?hya4⟩) hHeld ?rra4
    case hya4 => (intro w hSw; subst hSw; go_simp; try with_reducible rfl)
    try simp only [Act.put, List.setIfInBounds_toArray, List.set_cons_zero, List.set_cons_succ]
    refine wpAnyH_ready (rs := [5]) (by kernel_rfl) (by simp) ?_
    refine AllReadyH.cons (o := ⟨some 19, _, _, _, _, _⟩) rfl (fun K hK => ?_) AllReadyH.nil
    go_simp
    refine (elapsed_any x.x.st now 30 _ hsx.1 hsx.2 hn1 hn2 (by decide) (by decide)).mono ?_
    rintro e w6 ⟨rfl, rfl⟩
    rw [HTK.out]
    refine hK.out _ _ (rfl) (fun hHeld2 => ?_)
    clear hK K hHeld
    have hHeld := hHeld2
    clear hHeld2
    try simp only [Act.put, List.setIfInBounds_toArray, List.set_cons_zero, List.set_cons_succ]
    refine wpAnyH_take (i := 6) (oi := ⟨some 20, _, _, _, _, _⟩) (v := ?va6) rfl (by kernel_rfl) (by kernel_rfl) (by kernel_rfl) (fun _ _ _ h => h) (Or.inl ⟨by rfl, ?hya6⟩) hHeld ?rra6
    case hya6 => (intro w hSw; subst hSw; go_simp; try with_reducible rfl)
    try simp only [Act.put, List.setIfInBounds_toArray, List.set_cons_zero, List.set_cons_succ]
    refine wpAnyH_done (by kernel_rfl) ?_ _
    cases tk with
    | false =>
      gi_wp2
      exact ⟨⟨Nat.le_refl _, fun k o _ h _ => h⟩, ⟨Nat.le_refl _, fun _ _ _ => rfl⟩, HI.out.stay (by rw [HREM.out]; rfl) (by rw [HOUT.out]; rfl) HNP.out⟩
    | true =>
      have hIw : TabP W.drew.drew base T mb cr (remP now pre R) := HI.out.tab.below (Below.refl _ _).drew.drew
      obtain ⟨w9, hdel, hown9, hturn⟩ := hIw.map.drop lawK Try.underlying84 (keyK (h.ok x hxm)) 0
      have hg9 := hturn.grown
      have hgW : W.grownBy w9 (some mb) := ⟨hg9.os, hg9.tape, hg9.output, hg9.size, hg9.block⟩
      have hml := hlt mb (by simp)
      have hS8 : TS T mb w.heap.size W0.heap.size x.x.k W.drew.drew := ⟨HI.out.bt, (mb_of HI.out.tab).1, HF.out⟩
      have hTne : T ≠ mb := by have := (List.nodup_cons.1 h.nodup).1; intro e; exact this (by simp [e])
      have hW0s : w.heap.size + 4 ≤ W0.heap.size := by have := HI.out.lo; omega
      have hS9 := hS8.grown hg9 (by omega) hTne (by omega)
      have HG := Lib.hid (HI.out.gone (L := w5.heap.size) hlt (h.ok x hxm) (by rw [HREM.out]; rfl) hown9 hgW (by omega))
      have hxmb : x.b ≠ mb := fun e => by
        have := (List.nodup_cons.1 (List.nodup_cons.1 HI.out.tab.nodup).2).1
        exact this (mem_allB hxr (by simp [PE.blks, e]))
      have hX9 := (hgW.block _ (blk_lt HE.out.blk) (by simpa using hxmb)).trans HE.out.blk
      have HX9 := Lib.hid hX9
      have HBG := Lib.hid (begun_any hX9)
      have HKf := Lib.hid hdel
      clear hIw hown9 hturn hg9 hgW hX9
      gi_wp2
      refine region_round (by kernel_rfl) (fun ⟨_, _, h⟩ => h) (by kernel_rfl) (TS T mb w.heap.size W0.heap.size x.x.k) hS8 (fun hHeld => ?_)
      refine wpAnyH_take (i := 0) (oi := ⟨some 21, _, _, _, _, _⟩) (v := ?vb0) rfl (by kernel_rfl) (by kernel_rfl) (by kernel_rfl) (fun _ _ _ h => h) (Or.inl ⟨by rfl, ?hyb0⟩) hHeld ?rrb0
      case hyb0 => (intro w hSw; have t0 := (blk_cell (k := 0) hSw.bt rfl).1; have x0 := hSw.x0; have b0 := (blk_cell (k := 0) hSw.bk rfl).1; have b1 := (blk_cell (k := 1) hSw.bk rfl).1; have b2 := (blk_cell (k := 2) hSw.bk rfl).1; have b3 := (blk_cell (k := 3) hSw.bk rfl).1; simp only [List.getElem_toArray, List.getElem_cons_zero, List.getElem_cons_succ] at t0 b0 b1 b2 b3; clear hSw; go_simp; try with_reducible rfl)
      try simp only [Act.put, List.setIfInBounds_toArray, List.set_cons_zero, List.set_cons_succ]
      refine wpAnyH_take (i := 1) (oi := ⟨some 22, _, _, _, _, _⟩) (v := ?vb1) rfl (by kernel_rfl) (by kernel_rfl) (by kernel_rfl) (fun _ _ _ h => h) (Or.inl ⟨by rfl, ?hyb1⟩) hHeld ?rrb1
      case hyb1 => (intro w hSw; have t0 := (blk_cell (k := 0) hSw.bt rfl).1; have x0 := hSw.x0; have b0 := (blk_cell (k := 0) hSw.bk rfl).1; have b1 := (blk_cell (k := 1) hSw.bk rfl).1; have b2 := (blk_cell (k := 2) hSw.bk rfl).1; have b3 := (blk_cell (k := 3) hSw.bk rfl).1; simp only [List.getElem_toArray, List.getElem_cons_zero, List.getElem_cons_succ] at t0 b0 b1 b2 b3; clear hSw; go_simp; try with_reducible rfl)
      try simp only [Act.put, List.setIfInBounds_toArray, List.set_cons_zero, List.set_cons_succ]
      refine wpAnyH_take (i := 2) (oi := ⟨some 23, _, _, _, _, _⟩) (v := ?vb2) rfl (by kernel_rfl) (by kernel_rfl) (by kernel_rfl) (fun _ _ _ h => h) (Or.inl ⟨by rfl, ?hyb2⟩) hHeld ?rrb2
      case hyb2 => (intro w hSw; have t0 := (blk_cell (k := 0) hSw.bt rfl).1; have x0 := hSw.x0; have b0 := (blk_cell (k := 0) hSw.bk rfl).1; have b1 := (blk_cell (k := 1) hSw.bk rfl).1; have b2 := (blk_cell (k := 2) hSw.bk rfl).1; have b3 := (blk_cell (k := 3) hSw.bk rfl).1; simp only [List.getElem_toArray, List.getElem_cons_zero, List.getElem_cons_succ] at t0 b0 b1 b2 b3; clear hSw; go_simp; try with_reducible rfl)
      try simp only [Act.put, List.setIfInBounds_toArray, List.set_cons_zero, List.set_cons_succ]
      refine wpAnyH_take (i := 3) (oi := ⟨some 24, _, _, _, _, _⟩) (v := ?vb3) rfl (by kernel_rfl) (by kernel_rfl) (by kernel_rfl) (fun _ _ _ h => h) (Or.inl ⟨by rfl, ?hyb3⟩) hHeld ?rrb3
      case hyb3 => (intro w hSw; have t0 := (blk_cell (k := 0) hSw.bt rfl).1; have x0 := hSw.x0; have b0 := (blk_cell (k := 0) hSw.bk rfl).1; have b1 := (blk_cell (k := 1) hSw.bk rfl).1; have b2 := (blk_cell (k := 2) hSw.bk rfl).1; have b3 := (blk_cell (k := 3) hSw.bk rfl).1; simp only [List.getElem_toArray, List.getElem_cons_zero, List.getElem_cons_succ] at t0 b0 b1 b2 b3; clear hSw; go_simp; try with_reducible rfl)
      try simp only [Act.put, List.setIfInBounds_toArray, List.set_cons_zero, List.set_cons_succ]
      refine wpAnyH_take (i := 4) (oi := ⟨some 25, _, _, _, _, _⟩) (v := ?vb4) rfl (by kernel_rfl) (by kernel_rfl) (by kernel_rfl) (fun _ _ _ h => h) (Or.inl ⟨by rfl, ?hyb4⟩) hHeld ?rrb4
      case hyb4 => (intro w hSw; have t0 := (blk_cell (k := 0) hSw.bt rfl).1; have x0 := hSw.x0; have b0 := (blk_cell (k := 0) hSw.bk rfl).1; have b1 := (blk_cell (k := 1) hSw.bk rfl).1; have b2 := (blk_cell (k := 2) hSw.bk rfl).1; have b3 := (blk_cell (k := 3) hSw.bk rfl).1; simp only [List.getElem_toArray, List.getElem_cons_zero, List.getElem_cons_succ] at t0 b0 b1 b2 b3; clear hSw; go_simp; try with_reducible rfl)
      try simp only [Act.put, List.setIfInBounds_toArray, List.set_cons_zero, List.set_cons_succ]
      refine wpAnyH_ready (rs := [5]) (by kernel_rfl) (by simp) ?_
      refine AllReadyH.cons (o := ⟨none, _, _, _, _, _⟩) rfl (fun K hK => ?_) AllReadyH.nil
      go_simp
      refine hK.out _ _ (hS9) (fun hHeld2 => ?_)
      clear hK K hHeld
      have hHeld := hHeld2
      clear hHeld2
      try simp only [Act.put, List.setIfInBounds_toArray, List.set_cons_zero, List.set_cons_succ]
      refine wpAnyH_done (by kernel_rfl) ?_ _
      clear hHeld hdel hS9 hS8 HKf
      obtain ⟨bg, hbg⟩ : ∃ bg, begun x.x = bg := ⟨_, rfl⟩
      rw [hbg] at HBG HOUT
      gi_wp2_with fail
      refine ⟨trivial, (CallsIn.inRound (F := Fence.wide) l (callsIn_wide.2 HBG.out)).mono ?_⟩
      rintro e w10 ⟨rfl, rfl⟩
      cases bg with
      | false =>
        gi_wp2
        obtain ⟨g1, g2, g3, g4, g6, g7, g8, g9, g10⟩ := HG.out
        exact ⟨g8, g9, ⟨g2, g3, by rw [HOUT.out]; exact g4, g6, g1, g7, HNP.out, HI.out.lo, g10⟩⟩
      | true =>
        obtain ⟨v, hv, hrow0⟩ := HG.out.2.2.2.1
        obtain ⟨n, hn⟩ : ∃ n, (outP now pre).length = n := ⟨_, rfl⟩
        rw [hn] at hrow0
        have hn1 : n ≤ 1 := by
          rw [← hn]
          unfold outP
          have h1 := List.length_filter_le (fun q : PE => tickB now q.x && begun q.x) pre
          rw [List.length_map]
          omega
        have hX9 := HX9.out
        have HV := Lib.hid hv
        have HNN := Lib.hid hn
        gi_wp2
        refine region_round (by kernel_rfl) (fun ⟨_, _, h⟩ => h) (by kernel_rfl) (fun w' => w'.heap[x.b]? = some (dgo x.x x.tv x.rv)) hX9 (fun hHeld => ?_)
        obtain ⟨Wx, hWx⟩ : ∃ Wx, w9.drew = Wx := ⟨_, rfl⟩
        have hEb : Wx.heap[w.heap.size + 2]? = some (.cells #[v] 29 (0, 0)) := by rw [← hWx]; exact hv
        have hXb : Wx.heap[x.b]? = some (dgo x.x x.tv x.rv) := by rw [← hWx]; exact hX9
        have hrow : Wx.ownsRow B 26 9 v n (flatP (outP now pre)) := by rw [← hWx]; exact hrow0.drew
        have hBx : B ≤ Wx.heap.size := by rw [← hWx]; exact HG.out.2.2.2.2.2.2.2.2
        have hEl : w.heap.size + 2 < B := by have := HI.out.lo; omega
        change wpAnyH _ _ _ _ _ _ _ _ w9.drew
        change w9.drew.heap[x.b]? = _ at hHeld
        rw [hWx] at hHeld ⊢
        have d4 : Wx.cell? ⟨w.heap.size + 1 + 1, 0, none⟩ = some v := (blk_cell (k := 0) hEb rfl).1
        have hEx : w.heap.size + 2 ≠ x.b := by
          have := hlt x.b (by simp [mem_allB hxm (show x.b ∈ x.blks by simp [PE.blks])])
          omega
        obtain ⟨i0, hi, hz0, hz1, hz2⟩ := info_parts infoP
        have d4a := cell_alloc d4 (po x.x.fst)
        clear hX9 hv hrow0 hn
        refine wpAnyH_take (i := 1) (oi := ⟨some 29, _, _, _, _, _⟩) (v := ?vc1) rfl (by kernel_rfl) (by kernel_rfl) (by kernel_rfl) (fun _ _ _ h => h) (Or.inl ⟨by rfl, ?hyc1⟩) hHeld ?rrc1
        case hyc1 => (intro w hSw; obtain ⟨c0, c1, c2, c3, c4, c5, c6, c7, c8⟩ := dg_first hSw; clear hSw; go_simp; try with_reducible rfl)
        try simp only [Act.put, List.setIfInBounds_toArray, List.set_cons_zero, List.set_cons_succ]
        refine wpAnyH_take (i := 2) (oi := ⟨some 30, _, _, _, _, _⟩) (v := ?vc2) rfl (by kernel_rfl) (by kernel_rfl) (by kernel_rfl) (fun _ _ _ h => h) (Or.inl ⟨by rfl, ?hyc2⟩) hHeld ?rrc2
        case hyc2 => (intro w hSw; obtain ⟨c0, c1, c2, c3, c4, c5, c6, c7, c8⟩ := dg_first hSw; clear hSw; go_simp; try with_reducible rfl)
        try simp only [Act.put, List.setIfInBounds_toArray, List.set_cons_zero, List.set_cons_succ]
        refine wpAnyH_take (i := 3) (oi := ⟨some 31, _, _, _, _, _⟩) (v := ?vc3) rfl (by kernel_rfl) (by kernel_rfl) (by kernel_rfl) (fun _ _ _ h => h) (Or.inl ⟨by rfl, ?hyc3⟩) hHeld ?rrc3
        case hyc3 => (intro w hSw; obtain ⟨c0, c1, c2, c3, c4, c5, c6, c7, c8⟩ := dg_first hSw; clear hSw; go_simp; try with_reducible rfl)
        try simp only [Act.put, List.setIfInBounds_toArray, List.set_cons_zero, List.set_cons_succ]
        refine wpAnyH_take (i := 4) (oi := ⟨some 32, _, _, _, _, _⟩) (v := ?vc4) rfl (by kernel_rfl) (by kernel_rfl) (by kernel_rfl) (fun _ _ _ h => h) (Or.inl ⟨by rfl, ?hyc4⟩) hHeld ?rrc4
        case hyc4 => (intro w hSw; obtain ⟨c0, c1, c2, c3, c4, c5, c6, c7, c8⟩ := dg_first hSw; clear hSw; go_simp; try with_reducible rfl)
        try simp only [Act.put, List.setIfInBounds_toArray, List.set_cons_zero, List.set_cons_succ]
        refine wpAnyH_ready (rs := [0, 5]) (by kernel_rfl) (by simp) ?_
        refine AllReadyH.cons (o := ⟨some 28, _, _, _, _, _⟩) rfl (fun K hK => ?cx0) (AllReadyH.cons (o := ⟨some 33, _, _, _, _, _⟩) rfl (fun K hK => ?cx5) AllReadyH.nil)
        case cx0 =>
          go_simp
          refine hK.out _ _ (hHeld) (fun hHeld2 => ?_)
          clear hK K hHeld
          have hHeld := hHeld2
          clear hHeld2
          try simp only [Act.put, List.setIfInBounds_toArray, List.set_cons_zero, List.set_cons_succ]
          refine wpAnyH_ready (rs := [5]) (by kernel_rfl) (by simp) ?_
          refine AllReadyH.cons (o := ⟨some 33, _, _, _, _, _⟩) rfl (fun K hK => ?_) AllReadyH.nil
          go_simp
          refine hK.out _ _ (blk_alloc hHeld _) (fun hHeld2 => ?_)
          clear hK K hHeld
          have hHeld := hHeld2
          clear hHeld2
          try simp only [Act.put, List.setIfInBounds_toArray, List.set_cons_zero, List.set_cons_succ]
          refine wpAnyH_ready (rs := [6]) (by kernel_rfl) (by simp) ?_
          refine AllReadyH.cons (o := ⟨some 34, _, _, _, _, _⟩) rfl (fun K hK => ?_) AllReadyH.nil
          refine step_append_lies _ rfl (.tmp 28) (.tmp 33) 29 rfl B 26 i0 (pv pz) 9 72 Try.underlying29 hi hz0 hz1 hz2 rfl (by decide) v n _ (by simp [Act.eval]) (hrow.alloc _) ⟨Wx.heap.size, 0, none⟩ 1 1 (pcl x.x.fst) (by simp [Act.eval]) rfl (World.news_of_block (blk_new Wx (po x.x.fst))) (by simp [Value.oneCell']) (by decide) (by unfold maxLen; omega) (by omega) (by simp; omega) (Wx.heap.size + 1) (by simp) ?_
          intro g cap w4 hown4 hgrow4 hat4 hlt4
          have hEv : v.ownBlock ≠ some (w.heap.size + 2) := fun e => by have := (rowc hrow e).1; omega
          have hE4 := (hgrow4.block _ (by have := blk_lt hEb; simp; omega) (fun e => hEv e.symm)).trans (blk_alloc hEb (po x.x.fst))
          obtain ⟨k3, k3f⟩ := blk_cell (k := 0) hE4 rfl
          simp only [List.getElem_toArray, List.getElem_cons_zero] at k3
          have hxv : v.ownBlock ≠ some x.b := fun e => by obtain ⟨-, cur, hcur⟩ := rowc hrow e; rw [hcur] at hXb; cases hXb
          have hX4 := (hgrow4.block _ (by have := blk_lt hXb; simp; omega) (fun e => hxv e.symm)).trans (blk_alloc hXb (po x.x.fst))
          refine hK.out _ _ (hX4) (fun hHeld2 => ?_)
          clear hK K hHeld
          have hHeld := hHeld2
          clear hHeld2
          try simp only [Act.put, List.setIfInBounds_toArray, List.set_cons_zero, List.set_cons_succ]
          refine wpAnyH_ready (rs := [7]) (by kernel_rfl) (by simp) ?_
          refine AllReadyH.cons (o := ⟨none, _, _, _, _, _⟩) rfl (fun K hK => ?_) AllReadyH.nil
          go_simp
          refine hK.out _ _ (blk_set hX4 _ (by show w.heap.size + 1 + 1 ≠ x.b; omega) _) (fun hHeld2 => ?_)
          clear hK K hHeld
          have hHeld := hHeld2
          clear hHeld2
          try simp only [Act.put, List.setIfInBounds_toArray, List.set_cons_zero, List.set_cons_succ]
          refine wpAnyH_done (by kernel_rfl) ?_ _
          obtain ⟨g1, g2, g3, ⟨v9, g4, g5⟩, g6, g7, g8, g9, g10⟩ := HG.out
          have hvv : v9 = v := by rw [HV.out] at g4; cases g4; rfl
          subst hvv
          rw [HNN.out] at g5
          rw [← hWx] at hgrow4
          exact TkI.told hlt g1 g2 g3 g4 g5 g6 g7 g8 g9 g10 HI.out.lo HI.out.hi (by omega) HNP.out (by rw [HOUT.out]; rfl) HNN.out hown4 hgrow4
        case cx5 =>
          go_simp
          refine hK.out _ _ (blk_alloc hHeld _) (fun hHeld2 => ?_)
          clear hK K hHeld
          have hHeld := hHeld2
          clear hHeld2
          try simp only [Act.put, List.setIfInBounds_toArray, List.set_cons_zero, List.set_cons_succ]
          refine wpAnyH_ready (rs := [0]) (by kernel_rfl) (by simp) ?_
          refine AllReadyH.cons (o := ⟨some 28, _, _, _, _, _⟩) rfl (fun K hK => ?_) AllReadyH.nil
          go_simp
          refine hK.out _ _ (hHeld) (fun hHeld2 => ?_)
          clear hK K hHeld
          have hHeld := hHeld2
          clear hHeld2
          try simp only [Act.put, List.setIfInBounds_toArray, List.set_cons_zero, List.set_cons_succ]
          refine wpAnyH_ready (rs := [6]) (by kernel_rfl) (by simp) ?_
          refine AllReadyH.cons (o := ⟨some 34, _, _, _, _, _⟩) rfl (fun K hK => ?_) AllReadyH.nil
          refine step_append_lies _ rfl (.tmp 28) (.tmp 33) 29 rfl B 26 i0 (pv pz) 9 72 Try.underlying29 hi hz0 hz1 hz2 rfl (by decide) v n _ (by simp [Act.eval]) (hrow.alloc _) ⟨Wx.heap.size, 0, none⟩ 1 1 (pcl x.x.fst) (by simp [Act.eval]) rfl (World.news_of_block (blk_new Wx (po x.x.fst))) (by simp [Value.oneCell']) (by decide) (by unfold maxLen; omega) (by omega) (by simp; omega) (Wx.heap.size + 1) (by simp) ?_
          intro g cap w4 hown4 hgrow4 hat4 hlt4
          have hEv : v.ownBlock ≠ some (w.heap.size + 2) := fun e => by have := (rowc hrow e).1; omega
          have hE4 := (hgrow4.block _ (by have := blk_lt hEb; simp; omega) (fun e => hEv e.symm)).trans (blk_alloc hEb (po x.x.fst))
          obtain ⟨k3, k3f⟩ := blk_cell (k := 0) hE4 rfl
          simp only [List.getElem_toArray, List.getElem_cons_zero] at k3
          have hxv : v.ownBlock ≠ some x.b := fun e => by obtain ⟨-, cur, hcur⟩ := rowc hrow e; rw [hcur] at hXb; cases hXb
          have hX4 := (hgrow4.block _ (by have := blk_lt hXb; simp; omega) (fun e => hxv e.symm)).trans (blk_alloc hXb (po x.x.fst))
          refine hK.out _ _ (hX4) (fun hHeld2 => ?_)
          clear hK K hHeld
          have hHeld := hHeld2
          clear hHeld2
          try simp only [Act.put, List.setIfInBounds_toArray, List.set_cons_zero, List.set_cons_succ]
          refine wpAnyH_ready (rs := [7]) (by kernel_rfl) (by simp) ?_
          refine AllReadyH.cons (o := ⟨none, _, _, _, _, _⟩) rfl (fun K hK => ?_) AllReadyH.nil
          go_simp
          refine hK.out _ _ (blk_set hX4 _ (by show w.heap.size + 1 + 1 ≠ x.b; omega) _) (fun hHeld2 => ?_)
          clear hK K hHeld
          have hHeld := hHeld2
          clear hHeld2
          try simp only [Act.put, List.setIfInBounds_toArray, List.set_cons_zero, List.set_cons_succ]
          refine wpAnyH_done (by kernel_rfl) ?_ _
          obtain ⟨g1, g2, g3, ⟨v9, g4, g5⟩, g6, g7, g8, g9, g10⟩ := HG.out
          have hvv : v9 = v := by rw [HV.out] at g4; cases g4; rfl
          subst hvv
          rw [HNN.out] at g5
          rw [← hWx] at hgrow4
          exact TkI.told hlt g1 g2 g3 g4 g5 g6 g7 g8 g9 g10 HI.out.lo HI.out.hi (by omega) HNP.out (by rw [HOUT.out]; rfl) HNN.out hown4 hgrow4
  case done =>
    rintro D B xs W hD hxs hI hK
    subst hxs
    obtain ⟨v, hv, hrow⟩ := hI.be
    have a0 := (blk_cell (k := 0) hv rfl).1
    simp only [List.getElem_toArray, List.getElem_cons_zero] at a0
    have hDl := (Array.getElem?_eq_some_iff.1 hK).1
    obtain ⟨vp, vc, hvs, -⟩ := row_shp hrow
    subst hvs
    go_wp2
    refine ⟨by simp, .inl ⟨_, _, rfl, run_takeDeferred hK, ?_⟩⟩
    have hbK := belowK_b (w := w) (Nat.le_refl _) W D _ (.deferred none) (by omega) hK rfl rfl
    refine ⟨_, results_tmp rfl _ _ _, _, rfl, ?_, ?_, ?_⟩
    · refine (row_blk hrow (fun k e => World.putObj_heap_other (fun e' => ?_))).mono ?_
      · obtain ⟨-, cur, hcur⟩ := rowc hrow e
        subst e'
        rw [hcur] at hK; cases hK
      · have := hI.lo; omega
    · refine hI.tab.kept fun k hk => hbK.block k (hlt k ?_)
      rcases List.mem_cons.1 hk with e | hk
      · simp [e]
      rcases List.mem_cons.1 hk with e | hk
      · simp [e]
      · simp [(allB_sub (remP_sub now xs xs)).subset hk]
    · exact ⟨hbK.os.trans hI.t.os, hbK.tape.trans hI.t.tape, hbK.output.trans hI.t.output, Nat.le_trans hI.t.size hbK.size, fun k hk hn => (hbK.block k hk).trans (hI.t.block k hk hn)⟩
  case stop =>
    rintro D c pre W _ _ h _
    exact h.elim
end Go.Proofs.Ytecboengeheapaa
