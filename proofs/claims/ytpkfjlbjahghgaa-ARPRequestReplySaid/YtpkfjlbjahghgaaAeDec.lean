/- Contract of arp.Decode. -/
import Derived.Test.YtpkfjlbjahghgaaAeEnc
import Derived.Test.YtpkfjlbjahghgaaArRd
import Derived.Test.YtpkfjlbjahghgaaGet
namespace Go.Proofs.Ytpkfjlbjahghgaa
open Go.RowKit Go.Shelf
attribute [local go_sem] Oper.semAt_some

/-- the state of the reading -/
structure DS where
  pos : Nat
  o : Int
  f : Int
  m : Int
  t : Int
  n : Int
def nSz : Fin 5 → Nat
  | 0 => 1
  | 1 => 4
  | 2 => 2
  | 3 => 4
  | 4 => 2
theorem nSz_bd (x : Fin 5) : 1 ≤ nSz x ∧ nSz x ≤ 4 ∧ fSz x = (nSz x : Int) := by
  obtain rfl | rfl | rfl | rfl | rfl := fin5 x
  all_goals exact ⟨by decide, by decide, by decide⟩
def DS.put (h : DS) (V : Int) : Fin 5 → DS
  | 0 => ⟨h.pos + 1, V, h.f, h.m, h.t, h.n⟩
  | 1 => ⟨h.pos + 4, h.o, V, h.m, h.t, h.n⟩
  | 2 => ⟨h.pos + 2, h.o, h.f, V, h.t, h.n⟩
  | 3 => ⟨h.pos + 4, h.o, h.f, h.m, V, h.n⟩
  | 4 => ⟨h.pos + 2, h.o, h.f, h.m, h.t, V⟩
def DS.step (s : ByteArray) (h : DS) (x : Fin 5) : DS := h.put (getV s (h.pos : Int) (nSz x : Int)) x
def drun (s : ByteArray) (pre : List (Fin 5)) : DS := pre.foldl (DS.step s) ⟨0, 0, 0, 0, 0, 0⟩
theorem drun_snoc (s : ByteArray) (pre : List (Fin 5)) (x : Fin 5) : drun s (pre ++ [x]) = (drun s pre).put (getV s ((drun s pre).pos : Int) (nSz x : Int)) x := by
  simp [drun, DS.step]
theorem put_pos (h : DS) (V : Int) (x : Fin 5) : (h.put V x).pos = h.pos + nSz x := by
  obtain rfl | rfl | rfl | rfl | rfl := fin5 x
  all_goals rfl
theorem run_pos (s : ByteArray) : ∀ (pre : List (Fin 5)) (h : DS), (pre.foldl (DS.step s) h).pos ≤ h.pos + 4 * pre.length
  | [], h => by simp
  | x :: t, h => by
    have h1 := run_pos s t (h.step s x)
    have h2 : (h.step s x).pos = h.pos + nSz x := put_pos _ _ _
    have h3 := (nSz_bd x).2.1
    simp only [List.foldl_cons, List.length_cons]
    omega
theorem drun_pos (s : ByteArray) (pre : List (Fin 5)) : (drun s pre).pos ≤ 4 * pre.length := by have := run_pos s pre ⟨0, 0, 0, 0, 0, 0⟩; simpa [drun] using this
theorem drun_all (s : ByteArray) : drun s fAll = ⟨13, getV s 0 1, getV s 1 4, getV s 5 2, getV s 7 4, getV s 11 2⟩ := rfl

abbrev DsB (Fb Eb : Nat) (h : DS) (W : World) : Prop :=
  W.heap[Fb]? = some (.cells #[.int .i64 h.o, .int .i64 h.f, .int .i64 h.m, .int .i64 h.t, .int .i64 h.n] 23 (0, 0)) ∧
  W.heap[Eb]? = some (.cells #[.int .i64 (h.pos : Int)] 3 (0, 0))
theorem fAt_block (Fb : Nat) (x : Fin 5) : (fAt Fb x).block = Fb := by
  obtain rfl | rfl | rfl | rfl | rfl := fin5 x
  all_goals rfl
theorem DsB.store {Fb Eb : Nat} {h : DS} {W : World} (H : DsB Fb Eb h W) (hne : Fb ≠ Eb) (x : Fin 5) (V : Int) :
    DsB Fb Eb (h.put V x) ((W.setCell (fAt Fb x) (.int .i64 V)).setCell ⟨Eb, 0, none⟩ (.int .i64 ((h.pos + nSz x : Nat) : Int))) := by
  obtain ⟨hF, hE⟩ := H
  obtain rfl | rfl | rfl | rfl | rfl := fin5 x
  · exact ⟨blk_set (blk_setc (k := 0) hF _) ⟨Eb, 0, none⟩ hne.symm _, blk_setc (k := 0) (blk_set hE ⟨Fb, 0, none⟩ hne _) _⟩
  · exact ⟨blk_set (blk_setc (k := 1) hF _) ⟨Eb, 0, none⟩ hne.symm _, blk_setc (k := 0) (blk_set hE ⟨Fb, 1, none⟩ hne _) _⟩
  · exact ⟨blk_set (blk_setc (k := 2) hF _) ⟨Eb, 0, none⟩ hne.symm _, blk_setc (k := 0) (blk_set hE ⟨Fb, 2, none⟩ hne _) _⟩
  · exact ⟨blk_set (blk_setc (k := 3) hF _) ⟨Eb, 0, none⟩ hne.symm _, blk_setc (k := 0) (blk_set hE ⟨Fb, 3, none⟩ hne _) _⟩
  · exact ⟨blk_set (blk_setc (k := 4) hF _) ⟨Eb, 0, none⟩ hne.symm _, blk_setc (k := 0) (blk_set hE ⟨Fb, 4, none⟩ hne _) _⟩
theorem DsB.at {Fb Eb : Nat} {h : DS} {W : World} (H : DsB Fb Eb h W) (x : Fin 5) : ∃ u, W.cell? (fAt Fb x) = some (.int .i64 u) ∧ W.frozen? (fAt Fb x) = false := by
  obtain ⟨hF, hE⟩ := H
  obtain rfl | rfl | rfl | rfl | rfl := fin5 x
  · exact ⟨_, blk_cell (k := 0) hF rfl⟩
  · exact ⟨_, blk_cell (k := 1) hF rfl⟩
  · exact ⟨_, blk_cell (k := 2) hF rfl⟩
  · exact ⟨_, blk_cell (k := 3) hF rfl⟩
  · exact ⟨_, blk_cell (k := 4) hF rfl⟩

set_option maxRecDepth 100000 in
set_option maxHeartbeats 1000000 in
theorem decode_in (s : ByteArray) (w : World) (hs : s.size ≤ maxLen) :
    CallsIn Fence.wide 3 Try.prog 19 #[.string s] w fun e w' => e = .returned (.tuple #[decV s, .int .i64 (decE s)]) ∧ Below w.heap.size w w' := by
  have hro : Fence.wide.round = none := rfl
  have h1 : 1 ≤ 3 := by decide
  refine callsIn_of_wp_marks Try.func19 rfl trivial ?_ hro
  simp only [Try.ntmps19, List.size_toArray, List.length_cons, List.length_nil, Nat.reduceAdd, Nat.reduceSub, Array.replicate_succ, Array.replicate_zero, List.push_toArray, List.append_toArray, List.nil_append, List.cons_append]
  gi_wp2
  refine ⟨trivial, ?_⟩
  refine (fields_in Fence.wide _ trivial hro _ _).mono ?_
  rintro e w5 ⟨rfl, hw5⟩
  have hS5 : w5.heap[w.heap.size]? = some (.cells #[.string s] 9) := by rw [hw5]; exact blk_alloc (blk_alloc (blk_alloc (blk_alloc (blk_new w _) _) _) _) _
  have hZ5 : w5.heap[w.heap.size + 1]? = some (ao 0 0 0 0 0) := by
    rw [hw5]; have := blk_alloc (blk_alloc (blk_alloc (blk_new (w.alloc (.cells #[.string s] 9)) (ao 0 0 0 0 0)) (ao 0 0 0 0 0)) (.cells #[.int .i64 0] 3)) (.cells #[.pointer (some ⟨w.heap.size + 1 + 1, 0, none⟩)] 73)
    simp only [World.size_alloc] at this; exact this
  have hF5 : w5.heap[w.heap.size + 1 + 1]? = some (ao 0 0 0 0 0) := by
    rw [hw5]; have := blk_alloc (blk_alloc (blk_new ((w.alloc (.cells #[.string s] 9)).alloc (ao 0 0 0 0 0)) (ao 0 0 0 0 0)) (.cells #[.int .i64 0] 3)) (.cells #[.pointer (some ⟨w.heap.size + 1 + 1, 0, none⟩)] 73)
    simp only [World.size_alloc] at this; exact this
  have hE5 : w5.heap[w.heap.size + 1 + 1 + 1]? = some (.cells #[.int .i64 0] 3) := by
    rw [hw5]; have := blk_alloc (blk_new (((w.alloc (.cells #[.string s] 9)).alloc (ao 0 0 0 0 0)).alloc (ao 0 0 0 0 0)) (.cells #[.int .i64 0] 3)) (.cells #[.pointer (some ⟨w.heap.size + 1 + 1, 0, none⟩)] 73)
    simp only [World.size_alloc] at this; exact this
  have hP5 : w5.heap[w.heap.size + 1 + 1 + 1 + 1]? = some (.cells #[.pointer (some ⟨w.heap.size + 1 + 1, 0, none⟩)] 73) := by
    rw [hw5]; have := blk_new ((((w.alloc (.cells #[.string s] 9)).alloc (ao 0 0 0 0 0)).alloc (ao 0 0 0 0 0)).alloc (.cells #[.int .i64 0] 3)) (.cells #[.pointer (some ⟨w.heap.size + 1 + 1, 0, none⟩)] 73)
    simp only [World.size_alloc] at this; exact this
  have hs5 : w5.heap.size = w.heap.size + 5 := by rw [hw5]; simp
  have hB5 : Below w.heap.size w w5 := by rw [hw5]; exact (((((Below.refl _ w).alloc (Nat.le_refl _) _).alloc (by simp) _).alloc (by simp; omega) _).alloc (by simp; omega) _).alloc (by simp; omega) _
  clear hw5
  gi_wp2
  refine wpIn_rangeFunc_ownF hro h1 (gf := 58) (lb := #[.pointer (some ⟨w.heap.size + 1 + 1 + 1 + 1, 0, none⟩)]) rfl trivial (enters_of Try.func58 (by kernel_rfl) rfl)
    (fields_stops Fence.wide _ trivial hro (by decide) (w.heap.size + 1 + 1 + 1 + 1) (w.heap.size + 1 + 1) w5 (by omega) (blk_cell hP5 rfl).1)
    (fun h k => k.trans h)
    (fun W l o o' hl h _ _ => World.putObj_heap_other (by omega)) (Below.refl _ _) (fun _ => rfl)
    (fun pre W => (DsB (w.heap.size + 1 + 1) (w.heap.size + 1 + 1 + 1) (drun s pre) W ∧ ((W.heap[w.heap.size]? = some (.cells #[.string s] 9 (0, 0)) ∧ W.heap[w.heap.size + 1]? = some (.cells #[.int .i64 0, .int .i64 0, .int .i64 0, .int .i64 0, .int .i64 0] 23 (0, 0))) ∧
      W.heap[w.heap.size + 1 + 1 + 1 + 1]? = some (.cells #[.pointer (some ⟨w.heap.size + 1 + 1, 0, none⟩)] 73 (0, 0)))) ∧ Below w.heap.size w W)
    (fun _ _ _ => False)
    (OwnFrom.and (OwnFrom.and (OwnFrom.and (Own.from (cells_own _ (fun pre => #[.int .i64 (drun s pre).o, .int .i64 (drun s pre).f, .int .i64 (drun s pre).m, .int .i64 (drun s pre).t, .int .i64 (drun s pre).n]) _) _) (Own.from (cells_own _ (fun pre => #[.int .i64 ((drun s pre).pos : Int)]) _) _))
      (OwnFrom.and (OwnFrom.and (Own.from (cells_own _ (fun _ => _) _) _) (Own.from (cells_own _ (fun _ => _) _) _)) (Own.from (cells_own _ (fun _ => _) _) _))) (ownFrom_below (Nat.le_refl _) (by omega)))
    (fun _ _ _ _ _ hs _ _ => hs)
    ⟨⟨⟨hF5, hE5⟩, ⟨hS5, hZ5⟩, hP5⟩, hB5⟩
    (fun x => { tmps := #[.string s, .pointer (some ⟨w.heap.size, 0, none⟩), .pointer (some ⟨w.heap.size + 1, 0, none⟩), .int .i64 0, .pointer (some ⟨w.heap.size + 1 + 1, 0, none⟩), .pointer (some ⟨w.heap.size + 1 + 1 + 1, 0, none⟩),
      .pointer (some (fAt (w.heap.size + 1 + 1) x)), .int .i64 ((nSz x : Nat) : Int),
      .func (.func 58) #[] #[.pointer (some ⟨w.heap.size + 1 + 1 + 1 + 1, 0, none⟩)],
      .pointer (some (fAt (w.heap.size + 1 + 1) x)), .int .i64 ((nSz x : Nat) : Int), undef, undef, undef, undef, undef, undef, undef, undef, undef, undef, undef, undef, undef, undef, undef, undef, undef, undef, undef, undef, undef, undef, undef], defers := [] }) ?assign ?body ?done ?stop
  case assign =>
    intro l x W K hK
    unfold fenc
    rw [(nSz_bd x).2.2]
    gi_wp2
    exact hK
  case body =>
    rintro l pre x W ⟨⟨H, ⟨hS, hZ⟩, hP⟩, hB⟩ hlt
    obtain ⟨n1, n2, -⟩ := nSz_bd x
    have hp8 := drun_pos s pre
    have cS := (blk_cell (k := 0) hS rfl).1
    have cE := (blk_cell (k := 0) H.2 rfl).1
    simp only [List.getElem_toArray, List.getElem_cons_zero] at cS cE
    have hsn := Lib.hid (drun_snoc s pre x)
    generalize hDD : drun s pre = h at *
    have hB' := hB.size
    gi_wp2
    refine ⟨trivial, (CallsIn.inRound l (callsIn_wide.2 (get_R s _ _ _ hs))).mono ?_⟩
    rintro e w2 ⟨rfl, hb2⟩
    have H2 : DsB (w.heap.size + 1 + 1) (w.heap.size + 1 + 1 + 1) h w2 := ⟨blk_below H.1 hb2 (blk_lt H.1), blk_below H.2 hb2 (blk_lt H.2)⟩
    obtain ⟨u, hu, hfu⟩ := H2.at x
    generalize hVV : getV s (h.pos : Int) (nSz x : Int) = V at *
    have H3 := H2.store (by omega) x V
    have hne : (fAt (w.heap.size + 1 + 1) x).block ≠ w.heap.size + 1 + 1 + 1 := by rw [fAt_block]; omega
    have hE2 : (w2.setCell (fAt (w.heap.size + 1 + 1) x) (.int .i64 V)).cell? ⟨w.heap.size + 1 + 1 + 1, 0, none⟩ = some (.int .i64 (h.pos : Int)) := by
      rw [World.cell?_setCell_far _ _ _ _ hne]; exact (blk_cell (k := 0) H2.2 rfl).1
    have hE2f : w2.frozen? ⟨w.heap.size + 1 + 1 + 1, 0, none⟩ = false := (blk_cell (k := 0) H2.2 rfl).2
    have hkk : ∀ k, k < W.heap.size → k ≠ w.heap.size + 1 + 1 → k ≠ w.heap.size + 1 + 1 + 1 → ((w2.setCell (fAt (w.heap.size + 1 + 1) x) (.int .i64 V)).setCell ⟨w.heap.size + 1 + 1 + 1, 0, none⟩ (.int .i64 ((h.pos + nSz x : Nat) : Int))).heap[k]? = W.heap[k]? := by
      intro k hk k1 k2
      rw [Below.heap_setCell _ _ _ k k2, Below.heap_setCell _ _ _ k (by rw [fAt_block]; exact k1)]
      exact hb2.block k hk
    have hko3 : KeepsOthers W ((w2.setCell (fAt (w.heap.size + 1 + 1) x) (.int .i64 V)).setCell ⟨w.heap.size + 1 + 1 + 1, 0, none⟩ (.int .i64 ((h.pos + nSz x : Nat) : Int))) := ((keeps_below hb2).trans (KeepsOthers.setCell _ _ _)).trans (KeepsOthers.setCell _ _ _)
    have hB3 : Below w.heap.size w ((w2.setCell (fAt (w.heap.size + 1 + 1) x) (.int .i64 V)).setCell ⟨w.heap.size + 1 + 1 + 1, 0, none⟩ (.int .i64 ((h.pos + nSz x : Nat) : Int))) := ((hB.trans (hb2.mono hB.size)).setCell (by rw [fAt_block]; omega) _).setCell (by show w.heap.size ≤ w.heap.size + 1 + 1 + 1; omega) _
    have kS := (hkk (w.heap.size) (blk_lt hS) (by omega) (by omega)).trans hS
    have kZ := (hkk (w.heap.size + 1) (blk_lt hZ) (by omega) (by omega)).trans hZ
    have kP := hkk (w.heap.size + 1 + 1 + 1 + 1) (blk_lt hP) (by omega) (by omega)
    have HC : Hid (((h.pos : Int) + (nSz x : Int)) = ((h.pos + nSz x : Nat) : Int)) := Lib.hid (by omega)
    gi_wp2
    rw [HC.out]
    refine ⟨hko3, kP, ⟨⟨?_, ⟨kS, kZ⟩, kP.trans hP⟩, hB3⟩⟩
    rw [hsn.out]; exact H3
  case done =>
    rintro D ys W hD rfl ⟨⟨H, ⟨hS, hZ⟩, hP⟩, hB⟩ hK
    rw [drun_all] at H
    have hDV : decA s ↔ s.size = 13 ∧ okA (getV s 0 1) (getV s 1 4) (getV s 5 2) (getV s 7 4) (getV s 11 2) := by
      unfold decA
      constructor
      · rintro ⟨h, h2⟩
        obtain ⟨g1, g2, g3, g4, g5⟩ := getV_dec s h
        rw [g1, g2, g3, g4, g5]; exact ⟨h, h2⟩
      · rintro ⟨h, h2⟩
        obtain ⟨g1, g2, g3, g4, g5⟩ := getV_dec s h
        rw [g1, g2, g3, g4, g5] at h2; exact ⟨h, h2⟩
    have hVV : s.size = 13 → av (rdV s 0 1) (rdV s 1 4) (rdV s 5 2) (rdV s 7 4) (rdV s 11 2) = av (getV s 0 1) (getV s 1 4) (getV s 5 2) (getV s 7 4) (getV s 11 2) := fun h => by
      obtain ⟨g1, g2, g3, g4, g5⟩ := getV_dec s h
      rw [g1, g2, g3, g4, g5]
    have hdv : decV s = if decA s then av (getV s 0 1) (getV s 1 4) (getV s 5 2) (getV s 7 4) (getV s 11 2) else av 0 0 0 0 0 := by
      unfold decV
      split
      · rename_i h; exact hVV (hDV.1 h).1
      · rfl
    have hde : decE s = if decA s then 0 else 50 := rfl
    clear hVV
    generalize getV s 0 1 = v0 at *
    generalize getV s 1 4 = v1 at *
    generalize getV s 5 2 = v2 at *
    generalize getV s 7 4 = v3 at *
    generalize getV s 11 2 = v4 at *
    have x0 := (blk_cell (k := 0) H.1 rfl).1
    have x1 := (blk_cell (k := 1) H.1 rfl).1
    have x2 := (blk_cell (k := 2) H.1 rfl).1
    have x3 := (blk_cell (k := 3) H.1 rfl).1
    have x4 := (blk_cell (k := 4) H.1 rfl).1
    have xE := (blk_cell (k := 0) H.2 rfl).1
    have xS := (blk_cell (k := 0) hS rfl).1
    have y0 := blk_cell (k := 0) hZ rfl
    have y1 := blk_cell (k := 1) hZ rfl
    have y2 := blk_cell (k := 2) hZ rfl
    have y3 := blk_cell (k := 3) hZ rfl
    have y4 := blk_cell (k := 4) hZ rfl
    simp only [List.getElem_toArray, List.getElem_cons_zero, List.getElem_cons_succ] at x0 x1 x2 x3 x4 xE xS y0 y1 y2 y3 y4
    by_cases h13 : s.size = 13
    · have hd13 : (s.size : Int) = 13 := by omega
      have HH13 := Lib.hid hd13
      by_cases hok : okA v0 v1 v2 v3 v4
      · rw [if_pos (hDV.2 ⟨h13, hok⟩)] at hdv hde
        have hdV := Lib.hid hdv
        have hdE := Lib.hid hde
        clear hdv hde hDV HH13
        have hZ6 := blk_alloc hZ (ao v0 v1 v2 v3 v4)
        have hF6 := blk_alloc H.1 (ao v0 v1 v2 v3 v4)
        have hK6 := blk_alloc hK (ao v0 v1 v2 v3 v4)
        have hB6 := hB.alloc (by exact hB.size) (ao v0 v1 v2 v3 v4)
        have hok' : decide (okA v0 v1 v2 v3 v4) = true := decide_eq_true hok
        gi_wp2
        refine ⟨trivial, (callsIn_wide.2 (valid_any v0 v1 v2 v3 v4 _)).mono ?_⟩
        rintro e w6 ⟨rfl, rfl⟩
        rw [hok']
        have y0 := blk_cell (k := 0) hZ6 rfl
        have y1 := blk_cell (k := 1) hZ6 rfl
        have y2 := blk_cell (k := 2) hZ6 rfl
        have y3 := blk_cell (k := 3) hZ6 rfl
        have y4 := blk_cell (k := 4) hZ6 rfl
        have x0 := (blk_cell (k := 0) hF6 rfl).1
        have x1 := (blk_cell (k := 1) hF6 rfl).1
        have x2 := (blk_cell (k := 2) hF6 rfl).1
        have x3 := (blk_cell (k := 3) hF6 rfl).1
        have x4 := (blk_cell (k := 4) hF6 rfl).1
        simp only [List.getElem_toArray, List.getElem_cons_zero, List.getElem_cons_succ] at x0 x1 x2 x3 x4 y0 y1 y2 y3 y4
        gi_wp2
        have hDl := (Array.getElem?_eq_some_iff.1 hK6).1
        have q1 := set5_res hZ6 v0 v1 v2 v3 v4
        have q2 := set5_below hB6 (show w.heap.size ≤ w.heap.size + 1 by omega) v0 v1 v2 v3 v4
        have q3 : (set5 (W.alloc (ao v0 v1 v2 v3 v4)) (w.heap.size + 1) v0 v1 v2 v3 v4).heap[D]? = some (.deferred (some [])) := blk_set (blk_set (blk_set (blk_set (blk_set hK6 ⟨w.heap.size + 1, 0, none⟩ (by show w.heap.size + 1 ≠ D; omega) _) ⟨w.heap.size + 1, 1, none⟩ (by show w.heap.size + 1 ≠ D; omega) _) ⟨w.heap.size + 1, 2, none⟩ (by show w.heap.size + 1 ≠ D; omega) _) ⟨w.heap.size + 1, 3, none⟩ (by show w.heap.size + 1 ≠ D; omega) _) ⟨w.heap.size + 1, 4, none⟩ (by show w.heap.size + 1 ≠ D; omega) _
        refine ⟨by simp, .inl ⟨_, _, rfl, run_takeDeferred q3, ?_⟩⟩
        have q6 : ((set5 (W.alloc (ao v0 v1 v2 v3 v4)) (w.heap.size + 1) v0 v1 v2 v3 v4).putObj D (.deferred none)).heap[w.heap.size + 1]? = some (ao v0 v1 v2 v3 v4) := (World.putObj_heap_other (by omega)).trans q1
        have q8 : Below w.heap.size w ((set5 (W.alloc (ao v0 v1 v2 v3 v4)) (w.heap.size + 1) v0 v1 v2 v3 v4).putObj D (.deferred none)) := q2.trans (belowK_b (w := w) (Nat.le_refl _) _ D _ _ (by omega) q3 rfl rfl)
        have g0 := (blk_cell (k := 0) q6 rfl).1
        have g1 := (blk_cell (k := 1) q6 rfl).1
        have g2 := (blk_cell (k := 2) q6 rfl).1
        have g3 := (blk_cell (k := 3) q6 rfl).1
        have g4 := (blk_cell (k := 4) q6 rfl).1
        simp only [List.getElem_toArray, List.getElem_cons_zero, List.getElem_cons_succ] at g0 g1 g2 g3 g4
        refine ⟨.tuple #[av v0 v1 v2 v3 v4, .int .i64 0], by simp [results, Try.results19, go_sem, g0, g1, g2, g3, g4]; try rfl, ?_, q8⟩
        rw [hdV.out, hdE.out]
      · rw [if_neg (fun h => hok (hDV.1 h).2)] at hdv hde
        have hdV := Lib.hid hdv
        have hdE := Lib.hid hde
        clear hdv hde hDV HH13
        have hZ6 := blk_alloc hZ (ao v0 v1 v2 v3 v4)
        have hF6 := blk_alloc H.1 (ao v0 v1 v2 v3 v4)
        have hK6 := blk_alloc hK (ao v0 v1 v2 v3 v4)
        have hB6 := hB.alloc (by exact hB.size) (ao v0 v1 v2 v3 v4)
        have hok' : decide (okA v0 v1 v2 v3 v4) = false := decide_eq_false hok
        gi_wp2
        refine ⟨trivial, (callsIn_wide.2 (valid_any v0 v1 v2 v3 v4 _)).mono ?_⟩
        rintro e w6 ⟨rfl, rfl⟩
        rw [hok']
        have y0 := blk_cell (k := 0) hZ6 rfl
        have y1 := blk_cell (k := 1) hZ6 rfl
        have y2 := blk_cell (k := 2) hZ6 rfl
        have y3 := blk_cell (k := 3) hZ6 rfl
        have y4 := blk_cell (k := 4) hZ6 rfl
        have x0 := (blk_cell (k := 0) hF6 rfl).1
        have x1 := (blk_cell (k := 1) hF6 rfl).1
        have x2 := (blk_cell (k := 2) hF6 rfl).1
        have x3 := (blk_cell (k := 3) hF6 rfl).1
        have x4 := (blk_cell (k := 4) hF6 rfl).1
        simp only [List.getElem_toArray, List.getElem_cons_zero, List.getElem_cons_succ] at x0 x1 x2 x3 x4 y0 y1 y2 y3 y4
        gi_wp2
        have hDl := (Array.getElem?_eq_some_iff.1 hK6).1
        have q1 := set5_res hZ6 0 0 0 0 0
        have q2 := set5_below hB6 (show w.heap.size ≤ w.heap.size + 1 by omega) 0 0 0 0 0
        have q3 : (set5 (W.alloc (ao v0 v1 v2 v3 v4)) (w.heap.size + 1) 0 0 0 0 0).heap[D]? = some (.deferred (some [])) := blk_set (blk_set (blk_set (blk_set (blk_set hK6 ⟨w.heap.size + 1, 0, none⟩ (by show w.heap.size + 1 ≠ D; omega) _) ⟨w.heap.size + 1, 1, none⟩ (by show w.heap.size + 1 ≠ D; omega) _) ⟨w.heap.size + 1, 2, none⟩ (by show w.heap.size + 1 ≠ D; omega) _) ⟨w.heap.size + 1, 3, none⟩ (by show w.heap.size + 1 ≠ D; omega) _) ⟨w.heap.size + 1, 4, none⟩ (by show w.heap.size + 1 ≠ D; omega) _
        refine ⟨by simp, .inl ⟨_, _, rfl, run_takeDeferred q3, ?_⟩⟩
        have q6 : ((set5 (W.alloc (ao v0 v1 v2 v3 v4)) (w.heap.size + 1) 0 0 0 0 0).putObj D (.deferred none)).heap[w.heap.size + 1]? = some (ao 0 0 0 0 0) := (World.putObj_heap_other (by omega)).trans q1
        have q8 : Below w.heap.size w ((set5 (W.alloc (ao v0 v1 v2 v3 v4)) (w.heap.size + 1) 0 0 0 0 0).putObj D (.deferred none)) := q2.trans (belowK_b (w := w) (Nat.le_refl _) _ D _ _ (by omega) q3 rfl rfl)
        have g0 := (blk_cell (k := 0) q6 rfl).1
        have g1 := (blk_cell (k := 1) q6 rfl).1
        have g2 := (blk_cell (k := 2) q6 rfl).1
        have g3 := (blk_cell (k := 3) q6 rfl).1
        have g4 := (blk_cell (k := 4) q6 rfl).1
        simp only [List.getElem_toArray, List.getElem_cons_zero, List.getElem_cons_succ] at g0 g1 g2 g3 g4
        refine ⟨.tuple #[av 0 0 0 0 0, .int .i64 50], by simp [results, Try.results19, go_sem, g0, g1, g2, g3, g4]; try rfl, ?_, q8⟩
        rw [hdV.out, hdE.out]
    · rw [if_neg (fun h => h13 (hDV.1 h).1)] at hdv hde
      have hdV := Lib.hid hdv
      have hdE := Lib.hid hde
      have hn : ((s.size : Int) != 13) = true := by simp; omega
      clear hdv hde hDV
      gi_wp2
      refine ⟨trivial, ?_⟩
      gi_wp2
      have hDl := (Array.getElem?_eq_some_iff.1 hK).1
      have q1 := set5_res hZ 0 0 0 0 0
      have q2 := set5_below hB (show w.heap.size ≤ w.heap.size + 1 by omega) 0 0 0 0 0
      have q3 : (set5 W (w.heap.size + 1) 0 0 0 0 0).heap[D]? = some (.deferred (some [])) := blk_set (blk_set (blk_set (blk_set (blk_set hK ⟨w.heap.size + 1, 0, none⟩ (by show w.heap.size + 1 ≠ D; omega) _) ⟨w.heap.size + 1, 1, none⟩ (by show w.heap.size + 1 ≠ D; omega) _) ⟨w.heap.size + 1, 2, none⟩ (by show w.heap.size + 1 ≠ D; omega) _) ⟨w.heap.size + 1, 3, none⟩ (by show w.heap.size + 1 ≠ D; omega) _) ⟨w.heap.size + 1, 4, none⟩ (by show w.heap.size + 1 ≠ D; omega) _
      refine ⟨by simp, .inl ⟨_, _, rfl, run_takeDeferred q3, ?_⟩⟩
      have q6 : ((set5 W (w.heap.size + 1) 0 0 0 0 0).putObj D (.deferred none)).heap[w.heap.size + 1]? = some (ao 0 0 0 0 0) := (World.putObj_heap_other (by omega)).trans q1
      have q8 : Below w.heap.size w ((set5 W (w.heap.size + 1) 0 0 0 0 0).putObj D (.deferred none)) := q2.trans (belowK_b (w := w) (Nat.le_refl _) _ D _ _ (by omega) q3 rfl rfl)
      have g0 := (blk_cell (k := 0) q6 rfl).1
      have g1 := (blk_cell (k := 1) q6 rfl).1
      have g2 := (blk_cell (k := 2) q6 rfl).1
      have g3 := (blk_cell (k := 3) q6 rfl).1
      have g4 := (blk_cell (k := 4) q6 rfl).1
      simp only [List.getElem_toArray, List.getElem_cons_zero, List.getElem_cons_succ] at g0 g1 g2 g3 g4
      refine ⟨.tuple #[av 0 0 0 0 0, .int .i64 50], by simp [results, Try.results19, go_sem, g0, g1, g2, g3, g4]; try rfl, ?_, q8⟩
      rw [hdV.out, hdE.out]
  case stop =>
    rintro D c pre W _ _ h _
    exact h.elim
/-- arp.Decode -/
theorem decode_any (s : ByteArray) (w : World) (hs : s.size ≤ maxLen) :
    Calls Try.prog 19 #[.string s] w fun e w' => e = .returned (.tuple #[decV s, .int .i64 (decE s)]) ∧ Below w.heap.size w w' :=
  callsIn_wide.1 (decode_in s w hs)
end Go.Proofs.Ytpkfjlbjahghgaa
