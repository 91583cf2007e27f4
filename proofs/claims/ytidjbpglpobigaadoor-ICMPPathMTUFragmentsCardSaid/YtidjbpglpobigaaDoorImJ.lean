/- Contract of the reader's read. -/
import Derived.Test.YtidjbpglpobigaaDoorImI
import Derived.Test.YtidjbpglpobigaaDoorImO
import Derived.Test.YtidjbpglpobigaaDoorImA
import Derived.WalkMore
import Derived.BigRegion
namespace Go.Proofs.YtidjbpglpobigaaDoor
open Go.RowKit Go.Shelf
set_option linter.unusedVariables false
attribute [local go_sem] Oper.semAt_some

abbrev evo (v : Value) : Obj := .cells #[v] 80
/-- within one round -/
def RdW (W0 : World) (R E1 B0 F x : Nat) (P : Addr) (S : Int) (y : Fin 4) (t t' : ByteArray) (V : Fin 4 → Int) (n : Int) (ev' : Value) (b7 b12 b13 : Bool) (W : World) : Prop :=
  Touch (fun k => k = R ∨ k = E1) W0 W ∧ W.heap[R]? = some (mst (if b7 then t' else t) (if b12 then msetV V y n else V)) ∧ W.heap[E1]? = some (evo (if b13 then ev' else .nilIface)) ∧
    W.heap[B0]? = some (.cells #[.pointer (some ⟨R, 0, none⟩)] 122) ∧ W.heap[F]? = some (.cells #[.pointer (some P), .int .i64 S] 117)
variable {W0 : World} {R E1 B0 F x : Nat} {P : Addr} {S : Int} {y : Fin 4} {t t' : ByteArray} {V : Fin 4 → Int} {n : Int} {ev' : Value} {b7 b12 b13 : Bool} {W : World}
theorem RdW.call (h : RdW W0 R E1 B0 F x P S y t t' V n ev' false b12 b13 W) (d1 : R ≠ E1) (d2 : R ≠ B0) (d3 : R ≠ F) {W' : World}
    (hw : (∃ w1, Below W.heap.size W w1 ∧ W' = w1.setCell ⟨R, 0, none⟩ (.string t')) ∨ (Below W.heap.size W W' ∧ t' = t)) : RdW W0 R E1 B0 F x P S y t t' V n ev' true b12 b13 W' := by
  obtain ⟨h1, h2, h3, h4, h5⟩ := h
  rcases hw with ⟨w1, hb, rfl⟩ | ⟨hb, rfl⟩
  · have g2 := blk_below h2 hb (blk_lt h2)
    refine ⟨(h1.trans (Touch.of (S := fun k => k = R ∨ k = E1) hb) (fun k hk => .inl hk)).setc _ (.inl rfl), ?_, blk_set (blk_below h3 hb (blk_lt h3)) ⟨R, 0, none⟩ d1 _, blk_set (blk_below h4 hb (blk_lt h4)) ⟨R, 0, none⟩ d2 _, blk_set (blk_below h5 hb (blk_lt h5)) ⟨R, 0, none⟩ d3 _⟩
    exact blk_setc (k := 0) g2 (.string t')
  · exact ⟨h1.trans (Touch.of (S := fun k => k = R ∨ k = E1) hb) (fun k hk => .inl hk), blk_below h2 hb (blk_lt h2), blk_below h3 hb (blk_lt h3), blk_below h4 hb (blk_lt h4), blk_below h5 hb (blk_lt h5)⟩
theorem RdW.num (h : RdW W0 R E1 B0 F x P S y t t' V n ev' b7 false b13 W) (hP : P = mAt R 1 y) (d1 : R ≠ E1) (d2 : R ≠ B0) (d3 : R ≠ F) : RdW W0 R E1 B0 F x P S y t t' V n ev' b7 true b13 (W.setCell P (.int .i64 n)) := by
  obtain ⟨h1, h2, h3, h4, h5⟩ := h
  subst hP
  have hbk : (mAt R 1 y).block = R := rfl
  exact ⟨h1.setc _ (.inl rfl), mstore_no h2 y n, blk_set h3 _ d1 _, blk_set h4 _ d2 _, blk_set h5 _ d3 _⟩
theorem RdW.err (h : RdW W0 R E1 B0 F x P S y t t' V n ev' b7 b12 false W) (d1 : R ≠ E1) (d2 : E1 ≠ B0) (d3 : E1 ≠ F) : RdW W0 R E1 B0 F x P S y t t' V n ev' b7 b12 true (W.setCell ⟨E1, 0, none⟩ ev') := by
  obtain ⟨h1, h2, h3, h4, h5⟩ := h
  exact ⟨h1.setc _ (.inr rfl), blk_set h2 _ (fun e => d1 e.symm) _, blk_setc (k := 0) h3 _, blk_set h4 _ d2 _, blk_set h5 _ d3 _⟩

def RdIo (W0 : World) (R E1 B0 F Bm : Nat) (P : Addr) (S : Int) (y : Fin 4) (t t' : ByteArray) (V : Fin 4 → Int) (n : Int) (ea : Addr) (l : Array Bool) (a : Act) (W : World) : Prop := ∃ (_ : Unit) (b0 b1 b2 b3 b4 b5 b6 b7 b8 b9 b10 b11 b12 b13 : Bool), l = #[b0, b1, b2, b3, b4, b5, b6, b7, b8, b9, b10, b11, b12, b13] ∧
  a = { tmps := #[.pointer (some ⟨R, 0, none⟩), .pointer (some ⟨B0, 0, none⟩), .nilIface, .pointer (some ⟨E1, 0, none⟩), .pointer (some ⟨F, 0, none⟩), .pointer (some ⟨R, 0, none⟩), .pointer (some ⟨R, 0, none⟩), .pointer (some ⟨R, 1, none⟩), .func (.func 90) #[] #[.pointer (some ⟨Bm, 0, none⟩)], .agg #[.pointer (some P), .int .i64 S], iv b8 (.tuple #[.int .i64 n, .nilIface]), iv b0 (.pointer (some ⟨F, 0, none⟩)), iv b1 (.pointer (some P)), iv b2 (.pointer (some ⟨R, 0, none⟩)), iv b3 (.pointer (some ⟨R, 0, none⟩)), iv b4 (.pointer (some ⟨R, 0, none⟩)), iv b5 (.pointer (some ⟨F, 1, none⟩)), iv b6 (.int .i64 S), iv b7 (.tuple #[.int .i64 n, .nilIface]), iv b9 (.int .i64 n), iv b10 (.nilIface), iv b11 (.pointer (some P)), undef, undef, undef, undef, undef, undef, undef, undef, undef, undef, undef, undef], defers := [] } ∧ RdW W0 R E1 B0 F 0 P S y t t' V n (.nilIface) b7 b12 b13 W
def RdIn (W0 : World) (R E1 B0 F Bm : Nat) (P : Addr) (S : Int) (y : Fin 4) (t t' : ByteArray) (V : Fin 4 → Int) (n : Int) (ea : Addr) (l : Array Bool) (a : Act) (W : World) : Prop := ∃ (_ : Unit) (b0 b1 b2 b3 b4 b5 b6 b7 b8 b9 b10 b11 b12 b13 : Bool), l = #[b0, b1, b2, b3, b4, b5, b6, b7, b8, b9, b10, b11, b12, b13] ∧
  a = { tmps := #[.pointer (some ⟨R, 0, none⟩), .pointer (some ⟨B0, 0, none⟩), .nilIface, .pointer (some ⟨E1, 0, none⟩), .pointer (some ⟨F, 0, none⟩), .pointer (some ⟨R, 0, none⟩), .pointer (some ⟨R, 0, none⟩), .pointer (some ⟨R, 1, none⟩), .func (.func 90) #[] #[.pointer (some ⟨Bm, 0, none⟩)], .agg #[.pointer (some P), .int .i64 S], iv b8 (.tuple #[.int .i64 n, .iface 170 (.pointer (some ea))]), iv b0 (.pointer (some ⟨F, 0, none⟩)), iv b1 (.pointer (some P)), iv b2 (.pointer (some ⟨R, 0, none⟩)), iv b3 (.pointer (some ⟨R, 0, none⟩)), iv b4 (.pointer (some ⟨R, 0, none⟩)), iv b5 (.pointer (some ⟨F, 1, none⟩)), iv b6 (.int .i64 S), iv b7 (.tuple #[.int .i64 n, .iface 170 (.pointer (some ea))]), iv b9 (.int .i64 n), iv b10 (.iface 170 (.pointer (some ea))), iv b11 (.pointer (some P)), undef, undef, undef, undef, undef, undef, undef, undef, undef, undef, undef, undef], defers := [] } ∧ RdW W0 R E1 B0 F 0 P S y t t' V n (.iface 170 (.pointer (some ea))) b7 b12 b13 W

/-- the loop's state -/
def RdS (w : World) (s : ByteArray) (R E1 B0 Bm B : Nat) (pre : List (Fin 4)) (W : World) : Prop :=
  (W.heap[R]? = some (mst (s.extract (mrun s pre).pos s.size) (mrun s pre).V) ∧ W.heap[E1]? = some (evo .nilIface) ∧ W.heap[B0]? = some (.cells #[.pointer (some ⟨R, 0, none⟩)] 122) ∧ W.heap[Bm]? = some (.cells #[.pointer (some ⟨R, 1, none⟩)] 148)) ∧
    w.grownBy W (some R) ∧ (mrun s pre).pos ≤ s.size ∧ B ≤ W.heap.size
def RdX (w : World) (s : ByteArray) (R E1 B0 : Nat) (ea : Addr) (c : Code) (pre : List (Fin 4)) (W : World) : Prop :=
  (∃ t V, W.heap[R]? = some (mst t V) ∧ W.heap[E1]? = some (evo (.iface 170 (.pointer (some ea)))) ∧ W.heap[B0]? = some (.cells #[.pointer (some ⟨R, 0, none⟩)] 122)) ∧
    w.grownBy W (some R) ∧ c = .exit 0 ∧ s.size < (mrun s pre).pos
theorem RdS.own {w : World} {s : ByteArray} {R E1 B0 Bm B L : Nat} (hL : w.heap.size ≤ L) : OwnFrom L (RdS w s R E1 B0 Bm B) := by
  rintro pre X Y row ⟨⟨h1, h2, h3, h4⟩, hg, hp, hB⟩ hgr hrow
  have k1 := fun (B : Nat) (cs : Array Value) (t : TypeId) (hb : X.heap[B]? = some (.cells cs t (0, 0))) => cells_own (β := Unit) B (fun _ => cs) t () X Y row hb hgr (fun r e => (hrow r e).2)
  exact ⟨⟨k1 _ _ _ h1, k1 _ _ _ h2, k1 _ _ _ h3, k1 _ _ _ h4⟩, hg.andThen hgr (fun j e => .inl (Nat.le_trans hL (hrow j e).1)), hp, Nat.le_trans hB hgr.size⟩
theorem RdX.own {w : World} {s : ByteArray} {R E1 B0 L : Nat} {ea : Addr} {c : Code} (hL : w.heap.size ≤ L) : OwnFrom L (RdX w s R E1 B0 ea c) := by
  rintro pre X Y row ⟨⟨t, V, h1, h2, h3⟩, hg, hc⟩ hgr hrow
  have k1 := fun (B : Nat) (cs : Array Value) (t : TypeId) (hb : X.heap[B]? = some (.cells cs t (0, 0))) => cells_own (β := Unit) B (fun _ => cs) t () X Y row hb hgr (fun r e => (hrow r e).2)
  exact ⟨⟨t, V, k1 _ _ _ h1, k1 _ _ _ h2, k1 _ _ _ h3⟩, hg.andThen hgr (fun j e => .inl (Nat.le_trans hL (hrow j e).1)), hc⟩
theorem RdS.turn {w : World} {s : ByteArray} {R E1 B0 Bm B L r : Nat} {pre : List (Fin 4)} {X Y : World} (hR : R < w.heap.size) (h1 : E1 < L) (h2 : B0 < L) (h3 : Bm < L) (hL : w.heap.size ≤ L) (hr : L ≤ r) (hgr : X.grownBy Y (some r)) (h : RdS w s R E1 B0 Bm B pre X) : RdS w s R E1 B0 Bm B pre Y := by
  obtain ⟨⟨g1, g2, g3, g4⟩, hg, hp, hB⟩ := h
  have keep : ∀ k, k ≠ r → k < X.heap.size → Y.heap[k]? = X.heap[k]? := fun k hk hl => hgr.block k hl (by simpa using hk)
  exact ⟨⟨(keep _ (by omega) (blk_lt g1)).trans g1, (keep _ (by omega) (blk_lt g2)).trans g2, (keep _ (by omega) (blk_lt g3)).trans g3, (keep _ (by omega) (blk_lt g4)).trans g4⟩, hg.andThen hgr (fun j e => by cases e; exact .inl (by omega)), hp, Nat.le_trans hB hgr.size⟩

theorem ext_zero (s : ByteArray) : s.extract 0 s.size = s := ba_ext (by rw [tail_list, List.drop_zero])
theorem grown_touch {w X Y : World} {R E1 : Nat} (hG : w.grownBy X (some R)) (hT : Touch (fun k => k = R ∨ k = E1) X Y) (hE : w.heap.size ≤ E1) : w.grownBy Y (some R) :=
  ⟨hT.os.trans hG.os, hT.tape.trans hG.tape, hT.output.trans hG.output, Nat.le_trans hG.size hT.size, fun k hk hn => (hT.block k (Nat.lt_of_lt_of_le hk hG.size) (by rintro (rfl | rfl); exact hn rfl; omega)).trans (hG.block k hk hn)⟩
theorem keeps_touch {X Y : World} {R E1 L : Nat} (hT : Touch (fun k => k = R ∨ k = E1) X Y) (hR : R < L) (hE : E1 < L) : KeepsFrom L X Y :=
  ⟨hT.size, fun k o hk1 hk2 _ => (hT.block k (blk_lt hk2) (by rintro (rfl | rfl) <;> omega)).trans hk2⟩
theorem keepsIn_touch {X Y : World} {R E1 L B : Nat} (hT : Touch (fun k => k = R ∨ k = E1) X Y) (hR : R < L) (hE : E1 < L) (hB : B ≤ X.heap.size) : KeepsIn L B X Y :=
  ⟨hT.size, fun k h1 h2 => hT.block k (by omega) (by rintro (rfl | rfl) <;> omega)⟩
set_option maxRecDepth 100000 in
set_option maxHeartbeats 6400000 in
theorem read_in (s : ByteArray) (R : Nat) (w : World) (ea : Addr) (E : Env w ea) (hR : w.heap[R]? = some (mst s fun _ => 0)) (hs : s.size ≤ maxLen) :
    CallsIn Fence.wide 3 Tryd.prog 40 #[.pointer (some ⟨R, 0, none⟩)] w fun e w' => w.grownBy w' (some R) ∧
      ((8 ≤ s.size ∧ e = .returned .nilIface ∧ w'.heap[R]? = some (mro (s.extract 8 s.size) ⟨rdM s 0, rdM s 1, rdM s 3, s.extract 8 s.size⟩ (rdM s 2))) ∨
       (s.size < 8 ∧ ∃ t m q, e = .returned (.iface 170 (.pointer (some ea))) ∧ w'.heap[R]? = some (mro t m q))) := by
  have hro : Fence.wide.round = none := rfl
  have h1 : 1 ≤ 3 := by decide
  have hRl := blk_lt hR
  have hM1 := blk_new w (.cells #[.pointer (some ⟨R, 0, none⟩)] 122)
  have hM2 := blk_alloc hM1 (evo .nilIface)
  have hM3 := blk_new (w.alloc (.cells #[.pointer (some ⟨R, 0, none⟩)] 122)) (evo .nilIface)
  have hB2 : Below w.heap.size w ((w.alloc (.cells #[.pointer (some ⟨R, 0, none⟩)] 122)).alloc (evo .nilIface)) := ((Below.refl _ w).alloc (Nat.le_refl _) _).alloc (by simp) _
  rw [World.size_alloc] at hM3
  have hz2 : ((w.alloc (.cells #[.pointer (some ⟨R, 0, none⟩)] 122)).alloc (evo .nilIface)).heap.size = w.heap.size + 2 := by simp
  refine callsIn_of_wp_marks Tryd.func40 rfl trivial ?_ hro
  simp only [Tryd.ntmps40, List.size_toArray, List.length_cons, List.length_nil, Nat.reduceAdd, Nat.reduceSub, Array.replicate_succ, Array.replicate_zero, List.push_toArray, List.append_toArray, List.nil_append, List.cons_append]
  refine wpIn_wide.2 ?_
  go_wp2
  go_step3
  go_wp2
  go_step3
  go_wp2_with fail
  refine (fields_any R 1 _).mono ?_
  rintro e w5 ⟨Bm, rfl, hX5, hb5⟩
  have hB05 := blk_below hM2 hb5 (blk_lt hM2)
  have hE15 := blk_below hM3 hb5 (blk_lt hM3)
  have hB5 := hB2.trans (hb5.mono hB2.size)
  have hR5 := blk_below hR hB5 hRl
  have hR50 : w5.heap[R]? = some (mst (s.extract (mrun s []).pos s.size) (mrun s []).V) := by rw [show (mrun s []).pos = 0 from rfl, ext_zero]; exact hR5
  have hz5 : w.heap.size + 2 ≤ w5.heap.size := by have h9 := hb5.size; simp only [World.size_alloc] at h9; omega
  have hXl := blk_lt hX5
  have hXR : Bm ≠ R := by rintro rfl; rw [hR5] at hX5; cases hX5
  have hXE : Bm ≠ w.heap.size + 1 := by rintro rfl; rw [hE15] at hX5; cases hX5
  clear hM1 hM2 hM3 hB2 hz2 hb5
  have E0 : R ≠ 0 := by
    rintro rfl
    have h1 := (blk_cell (k := 0) hR rfl).1
    unfold Env at E
    rw [E] at h1
    cases h1
  have hG5 : w.grownBy w5 (some R) := grown_below hB5 _
  go_wp2
  refine (wpIn_wide (n := 3)).1 ?_
  refine wpIn_rangeFunc_ownX hro (by decide) (gf := 90) (lb := #[.pointer (some ⟨Bm, 0, none⟩)]) rfl trivial (enters_of Tryd.func90 (by kernel_rfl) rfl)
    (mfields_H Fence.wide _ trivial hro (by decide) Bm R 1 w5 hX5) (Below.refl _ _) (fun _ => rfl)
    (RdS w s R (w.heap.size + 1) w.heap.size Bm) (RdX w s R (w.heap.size + 1) w.heap.size ea) (fun B => RdS.own (by omega)) (fun c => RdX.own (by omega))
    (fun B pre W hI => hI.1.2.2.2.trans hX5.symm)
    (fun B pre X Y r h1 h2 hg hI => RdS.turn hRl (L := w5.heap.size + 2) (by omega) (by omega) (by omega) (by omega) h1 hg hI)
    (fun W' hW' => ⟨⟨blk_below hR50 hW' (blk_lt hR50), blk_below hE15 hW' (blk_lt hE15), blk_below hB05 hW' (blk_lt hB05), blk_below hX5 hW' (blk_lt hX5)⟩, hG5.andThen (grown_below (hW') none) (fun j e => by cases e), Nat.zero_le _, Nat.le_refl _⟩)
    (fun x W0 => { tmps := #[.pointer (some ⟨R, 0, none⟩), .pointer (some ⟨w.heap.size, 0, none⟩), .nilIface, .pointer (some ⟨w.heap.size + 1, 0, none⟩), .pointer (some ⟨W0.heap.size, 0, none⟩), .pointer (some ⟨R, 0, none⟩), .pointer (some ⟨R, 0, none⟩), .pointer (some ⟨R, 1, none⟩), .func (.func 90) #[] #[.pointer (some ⟨Bm, 0, none⟩)], .agg #[.pointer (some (mAt R 1 x)), .int .i64 ((mSzN x : Nat) : Int)], undef, undef, undef, undef, undef, undef, undef, undef, undef, undef, undef, undef, undef, undef, undef, undef, undef, undef, undef, undef, undef, undef, undef, undef], defers := [] })
    (fun x W => W.alloc (.cells #[.pointer (some (mAt R 1 x)), .int .i64 ((mSzN x : Nat) : Int)] 117)) (fun x W0 W => W.heap[W0.heap.size]? = some (.cells #[.pointer (some (mAt R 1 x)), .int .i64 ((mSzN x : Nat) : Int)] 117) ∧ W0.heap.size < W.heap.size) (fun x W => (Below.refl _ W).alloc (Nat.le_refl _) _)
    (fun x W l o9 hl => ⟨(World.putObj_heap_other (by omega)).trans (blk_new W _), by have h9 := (grownBy_putObj' (W.alloc (.cells #[.pointer (some (mAt R 1 x)), .int .i64 ((mSzN x : Nat) : Int)] 117)) l o9).size; rw [World.size_alloc] at h9; omega⟩) (fun B pre W hI => hI.2.2.2) ?assign ?body ?done ?stop
  case assign =>
    intro l x W K hK
    unfold menc
    rw [(mSz_N x).1]
    gi_wp2
    exact hK
  case body =>
    rintro l B pre x W0 X0 hLB hBW0 ⟨⟨gR, gE, gB, gX⟩, hG, hpos, hBW⟩ hlt ⟨hf, hW0⟩
    obtain ⟨-, n1, n2⟩ := mSz_N x
    have hp16 := mrun_pos s pre
    have hsn := mrun_snoc s pre x
    have E1R : R ≠ w.heap.size + 1 := by omega
    have d2 : R ≠ w.heap.size := by omega
    have d3 : R ≠ W0.heap.size := by omega
    have d4 : w.heap.size + 1 ≠ w.heap.size := by omega
    have d5 : w.heap.size + 1 ≠ W0.heap.size := by omega
    have d1 := E1R
    have hEs := cell_lt E
    have hts : (s.extract (mrun s pre).pos s.size).size = s.size - (mrun s pre).pos := by rw [ByteArray.size_extract, Nat.min_self]
    obtain ⟨t, ht⟩ : ∃ t, s.extract (mrun s pre).pos s.size = t := ⟨_, rfl⟩
    obtain ⟨V, hV⟩ : ∃ V, (mrun s pre).V = V := ⟨_, rfl⟩
    rw [ht, hV] at gR
    rw [ht] at hts
    have ht2 := ext_ext s (mrun s pre).pos (mSzN x)
    have ht3 := rdV_ext s (mrun s pre).pos (mSzN x)
    rw [ht] at ht2 ht3
    have hms : (mrun s (pre ++ [x])).pos = (mrun s pre).pos + mSzN x ∧ (mrun s (pre ++ [x])).V = msetV V x (rdV t 0 (mSzN x)) := by rw [hsn, ht3, ← hV]; exact ⟨rfl, rfl⟩
    have HMS := Lib.hid hms
    have HT2 := Lib.hid ht2
    have HE := Lib.hid E
    clear hms hsn ht2 ht3 hlt E
    have HG := Lib.hid hG
    clear hG
    by_cases hk : (mrun s pre).pos + mSzN x ≤ s.size
    · have hC0 : ∀ b12 b13 W1, RdW X0 R (w.heap.size + 1) w.heap.size W0.heap.size 0 (mAt R 1 x) ((mSzN x : Nat) : Int) x t (t.extract (mSzN x) t.size) V (rdV t 0 (mSzN x)) .nilIface false b12 b13 W1 → Calls Tryd.prog 70 #[.pointer (some ⟨R, 0, none⟩), .int .i64 ((mSzN x : Nat) : Int)] W1 fun e W2 => e = .returned (.tuple #[.int .i64 (rdV t 0 (mSzN x)), .nilIface]) ∧ RdW X0 R (w.heap.size + 1) w.heap.size W0.heap.size 0 (mAt R 1 x) ((mSzN x : Nat) : Int) x t (t.extract (mSzN x) t.size) V (rdV t 0 (mSzN x)) .nilIface true b12 b13 W2 := fun b12 b13 W1 h => by
        have h0 : W1.cell? ⟨R, 0, none⟩ = some (.string t) ∧ W1.frozen? ⟨R, 0, none⟩ = false := blk_cell (k := 0) h.2.1 rfl
        refine (mnext_ok t (mSzN x) R W1 h0.1 h0.2 n1 n2 (by omega) (by omega)).mono ?_
        rintro e W2 ⟨rfl, w1, hb, rfl⟩
        exact ⟨rfl, h.call d1 d2 d3 (.inl ⟨w1, hb, rfl⟩)⟩
      have hC := Lib.hid hC0
      have hW00 : RdW X0 R (w.heap.size + 1) w.heap.size W0.heap.size 0 (mAt R 1 x) ((mSzN x : Nat) : Int) x t (t.extract (mSzN x) t.size) V (rdV t 0 (mSzN x)) .nilIface false false false X0.drew := ⟨⟨rfl, rfl, rfl, Nat.le_refl _, fun _ _ _ => rfl⟩, gR, gE, gB, hf⟩
      have HW00 := Lib.hid hW00
      clear hC0 hW00
      gi_wp2
      refine region_round_inv (by kernel_rfl) (fun ⟨_, _, h⟩ => h) (by kernel_rfl) (RdIo X0 R (w.heap.size + 1) w.heap.size W0.heap.size Bm (mAt R 1 x) ((mSzN x : Nat) : Int) x t (t.extract (mSzN x) t.size) V (rdV t 0 (mSzN x)) ea) ?h0 ?hd ?hs
      case h0 => exact ⟨(), false, false, false, false, false, false, false, false, false, false, false, false, false, false, rfl, rfl, HW00.out⟩
      case hd =>
        rintro l a W ⟨_, b0, b1, b2, b3, b4, b5, b6, b7, b8, b9, b10, b11, b12, b13, rfl, rfl, hW⟩ hr
        obtain rfl : b0 = true := by simpa [Region.binds, Array.getD] using List.filter_eq_nil_iff.1 hr 0 (by simp)
        obtain rfl : b1 = true := by simpa [Region.binds, Array.getD] using List.filter_eq_nil_iff.1 hr 1 (by simp)
        obtain rfl : b2 = true := by simpa [Region.binds, Array.getD] using List.filter_eq_nil_iff.1 hr 2 (by simp)
        obtain rfl : b3 = true := by simpa [Region.binds, Array.getD] using List.filter_eq_nil_iff.1 hr 3 (by simp)
        obtain rfl : b4 = true := by simpa [Region.binds, Array.getD] using List.filter_eq_nil_iff.1 hr 4 (by simp)
        obtain rfl : b5 = true := by simpa [Region.binds, Array.getD] using List.filter_eq_nil_iff.1 hr 5 (by simp)
        obtain rfl : b6 = true := by simpa [Region.binds, Array.getD] using List.filter_eq_nil_iff.1 hr 6 (by simp)
        obtain rfl : b7 = true := by simpa [Region.binds, Array.getD] using List.filter_eq_nil_iff.1 hr 7 (by simp)
        obtain rfl : b8 = true := by simpa [Region.binds, Array.getD] using List.filter_eq_nil_iff.1 hr 8 (by simp)
        obtain rfl : b9 = true := by simpa [Region.binds, Array.getD] using List.filter_eq_nil_iff.1 hr 9 (by simp)
        obtain rfl : b10 = true := by simpa [Region.binds, Array.getD] using List.filter_eq_nil_iff.1 hr 10 (by simp)
        obtain rfl : b11 = true := by simpa [Region.binds, Array.getD] using List.filter_eq_nil_iff.1 hr 11 (by simp)
        obtain rfl : b12 = true := by simpa [Region.binds, Array.getD] using List.filter_eq_nil_iff.1 hr 12 (by simp)
        obtain rfl : b13 = true := by simpa [Region.binds, Array.getD] using List.filter_eq_nil_iff.1 hr 13 (by simp)
        unfold iv
        clear hr
        have e1 := (blk_cell (k := 0) hW.2.2.1 rfl).1
        simp only [List.getElem_toArray, List.getElem_cons_zero] at e1
        gi_wp2
        obtain ⟨hT, hr1, hr2, hr3, -⟩ := hW
        rw [if_pos rfl, if_pos rfl] at hr1
        refine ⟨keeps_touch hT (by omega) (by omega), keepsIn_touch hT (by omega) (by omega) hBW, ⟨?_, hr2, hr3, ?_⟩, grown_touch HG.out hT (by omega), ?_, Nat.le_trans hBW hT.size⟩
        · rw [HMS.out.1, HMS.out.2, ← HT2.out]; exact hr1
        · exact (hT.block _ (blk_lt gX) (by rintro (e | e) <;> omega)).trans gX
        · rw [HMS.out.1]; exact hk
      case hs =>
        rintro l a W i ⟨_, b0, b1, b2, b3, b4, b5, b6, b7, b8, b9, b10, b11, b12, b13, rfl, rfl, hW⟩ hi
        have hi1 := (List.mem_filter.1 hi).1
        have hi2 := (List.mem_filter.1 hi).2
        clear hi
        rw [List.mem_range] at hi1
        simp only [List.size_toArray, List.length_cons, List.length_nil] at hi1
        rcases (by omega : i = 0 ∨ i = 1 ∨ i = 2 ∨ i = 3 ∨ i = 4 ∨ i = 5 ∨ i = 6 ∨ i = 7 ∨ i = 8 ∨ i = 9 ∨ i = 10 ∨ i = 11 ∨ i = 12 ∨ i = 13) with rfl | rfl | rfl | rfl | rfl | rfl | rfl | rfl | rfl | rfl | rfl | rfl | rfl | rfl
        · simp [Region.binds, Array.getD] at hi2
          obtain rfl := hi2
          refine wpOp_step rfl (fun K hK => ?_)
          unfold iv
          go_simp
          exact hK _ _ ⟨(), true, b1, b2, b3, b4, b5, b6, b7, b8, b9, b10, b11, b12, b13, rfl, rfl, hW⟩
        · simp [Region.binds, Array.getD] at hi2
          obtain ⟨rfl, rfl⟩ := hi2
          refine wpOp_step rfl (fun K hK => ?_)
          obtain ⟨e1, -⟩ := blk_cell (k := 0) hW.2.2.2.2 rfl
          simp only [List.getElem_toArray, List.getElem_cons_zero] at e1
          unfold iv
          go_simp
          exact hK _ _ ⟨(), true, true, b2, b3, b4, b5, b6, b7, b8, b9, b10, b11, b12, b13, rfl, rfl, hW⟩
        · simp [Region.binds, Array.getD] at hi2
          obtain rfl := hi2
          refine wpOp_step rfl (fun K hK => ?_)
          obtain ⟨e1, -⟩ := blk_cell (k := 0) hW.2.2.2.1 rfl
          simp only [List.getElem_toArray, List.getElem_cons_zero] at e1
          unfold iv
          go_simp
          exact hK _ _ ⟨(), b0, b1, true, b3, b4, b5, b6, b7, b8, b9, b10, b11, b12, b13, rfl, rfl, hW⟩
        · simp [Region.binds, Array.getD] at hi2
          obtain ⟨rfl, rfl⟩ := hi2
          refine wpOp_step rfl (fun K hK => ?_)
          unfold iv
          go_simp
          exact hK _ _ ⟨(), b0, b1, true, true, b4, b5, b6, b7, b8, b9, b10, b11, b12, b13, rfl, rfl, hW⟩
        · simp [Region.binds, Array.getD] at hi2
          obtain ⟨rfl, rfl⟩ := hi2
          refine wpOp_step rfl (fun K hK => ?_)
          unfold iv
          go_simp
          exact hK _ _ ⟨(), b0, b1, b2, true, true, b5, b6, b7, b8, b9, b10, b11, b12, b13, rfl, rfl, hW⟩
        · simp [Region.binds, Array.getD] at hi2
          obtain rfl := hi2
          refine wpOp_step rfl (fun K hK => ?_)
          unfold iv
          go_simp
          exact hK _ _ ⟨(), b0, b1, b2, b3, b4, true, b6, b7, b8, b9, b10, b11, b12, b13, rfl, rfl, hW⟩
        · simp [Region.binds, Array.getD] at hi2
          obtain ⟨rfl, rfl⟩ := hi2
          refine wpOp_step rfl (fun K hK => ?_)
          obtain ⟨e1, -⟩ := blk_cell (k := 1) hW.2.2.2.2 rfl
          simp only [List.getElem_toArray, List.getElem_cons_zero, List.getElem_cons_succ] at e1
          unfold iv
          go_simp
          exact hK _ _ ⟨(), b0, b1, b2, b3, b4, true, true, b7, b8, b9, b10, b11, b12, b13, rfl, rfl, hW⟩
        · simp [Region.binds, Array.getD] at hi2
          obtain ⟨rfl, rfl, rfl⟩ := hi2
          refine wpOp_step rfl (fun K hK => ?_)
          have hCW := hC.out _ _ _ hW
          unfold iv
          go_simp
          refine hCW.mono ?_
          rintro e9 W2 ⟨rfl, hW2⟩
          exact hK _ _ ⟨(), b0, b1, b2, b3, true, b5, true, true, b8, b9, b10, b11, b12, b13, rfl, rfl, hW2⟩
        · simp [Region.binds, Array.getD] at hi2
          obtain ⟨rfl, rfl⟩ := hi2
          refine wpOp_step rfl (fun K hK => ?_)
          unfold iv
          go_simp
          exact hK _ _ ⟨(), b0, b1, b2, b3, b4, b5, b6, true, true, b9, b10, b11, b12, b13, rfl, rfl, hW⟩
        · simp [Region.binds, Array.getD] at hi2
          obtain ⟨rfl, rfl⟩ := hi2
          refine wpOp_step rfl (fun K hK => ?_)
          unfold iv
          go_simp
          exact hK _ _ ⟨(), b0, b1, b2, b3, b4, b5, b6, b7, true, true, b10, b11, b12, b13, rfl, rfl, hW⟩
        · simp [Region.binds, Array.getD] at hi2
          obtain ⟨rfl, rfl⟩ := hi2
          refine wpOp_step rfl (fun K hK => ?_)
          unfold iv
          go_simp
          exact hK _ _ ⟨(), b0, b1, b2, b3, b4, b5, b6, b7, true, b9, true, b11, b12, b13, rfl, rfl, hW⟩
        · simp [Region.binds, Array.getD] at hi2
          repeat (first | (obtain ⟨rfl, hi2⟩ := hi2) | (obtain ⟨-, hi2⟩ := hi2))
          (first | subst hi2 | skip)
          refine wpOp_step rfl (fun K hK => ?_)
          unfold iv
          go_simp
          exact hK _ _ ⟨(), true, true, true, true, true, true, true, true, true, true, b10, true, b12, b13, rfl, rfl, hW⟩
        · simp [Region.binds, Array.getD] at hi2
          repeat (first | (obtain ⟨rfl, hi2⟩ := hi2) | (obtain ⟨-, hi2⟩ := hi2))
          (first | subst hi2 | skip)
          refine wpOp_step rfl (fun K hK => ?_)
          obtain ⟨u, e1, f1⟩ : ∃ u, W.cell? (mAt R 1 x) = some (.int .i64 u) ∧ W.frozen? (mAt R 1 x) = false := by
            have h9 := mcell_at hW.2.1 x
            exact ⟨_, h9.1, h9.2⟩
          unfold iv
          go_simp
          exact hK _ _ ⟨(), true, true, true, true, true, true, true, true, true, true, b10, true, true, b13, rfl, rfl, (hW.num rfl d1 d2 d3)⟩
        · simp [Region.binds, Array.getD] at hi2
          repeat (first | (obtain ⟨rfl, hi2⟩ := hi2) | (obtain ⟨-, hi2⟩ := hi2))
          (first | subst hi2 | skip)
          refine wpOp_step rfl (fun K hK => ?_)
          obtain ⟨e1, f1⟩ := blk_cell (k := 0) hW.2.2.1 rfl
          simp only [List.getElem_toArray, List.getElem_cons_zero] at e1
          unfold iv
          go_simp
          exact hK _ _ ⟨(), true, true, true, true, true, true, true, true, true, true, true, true, true, true, rfl, rfl, (hW.err d1 d4 d5)⟩
    · have hC0 : ∀ b12 b13 W1, RdW X0 R (w.heap.size + 1) w.heap.size W0.heap.size 0 (mAt R 1 x) ((mSzN x : Nat) : Int) x t t V 0 (.iface 170 (.pointer (some ea))) false b12 b13 W1 → Calls Tryd.prog 70 #[.pointer (some ⟨R, 0, none⟩), .int .i64 ((mSzN x : Nat) : Int)] W1 fun e W2 => e = .returned (.tuple #[.int .i64 0, (.iface 170 (.pointer (some ea)))]) ∧ RdW X0 R (w.heap.size + 1) w.heap.size W0.heap.size 0 (mAt R 1 x) ((mSzN x : Nat) : Int) x t t V 0 (.iface 170 (.pointer (some ea))) true b12 b13 W2 := fun b12 b13 W1 h => by
        have h0 : W1.cell? ⟨R, 0, none⟩ = some (.string t) ∧ W1.frozen? ⟨R, 0, none⟩ = false := blk_cell (k := 0) h.2.1 rfl
        have EW : Env W1 ea := by
          have e1 := HG.out.block _ hEs (fun e => E0 (by cases e; rfl))
          exact (World.cell?_of_block ((h.1.block _ (by have := HG.out.size; exact Nat.lt_of_lt_of_le hEs this) (by rintro (e | e); exact E0 e.symm; have : 0 < w.heap.size := hEs; omega)).trans e1)).trans HE.out
        refine (mnext_no t (mSzN x) R W1 ea EW h0.1 (by omega) n2 (by omega)).mono ?_
        rintro e W2 ⟨rfl, hb⟩
        exact ⟨rfl, h.call d1 d2 d3 (.inr ⟨hb, rfl⟩)⟩
      have hC := Lib.hid hC0
      have hW00 : RdW X0 R (w.heap.size + 1) w.heap.size W0.heap.size 0 (mAt R 1 x) ((mSzN x : Nat) : Int) x t t V 0 (.iface 170 (.pointer (some ea))) false false false X0.drew := ⟨⟨rfl, rfl, rfl, Nat.le_refl _, fun _ _ _ => rfl⟩, gR, gE, gB, hf⟩
      have HW00 := Lib.hid hW00
      clear hC0 hW00
      gi_wp2
      refine region_round_inv (by kernel_rfl) (fun ⟨_, _, h⟩ => h) (by kernel_rfl) (RdIn X0 R (w.heap.size + 1) w.heap.size W0.heap.size Bm (mAt R 1 x) ((mSzN x : Nat) : Int) x t t V 0 ea) ?h0 ?hd ?hs
      case h0 => exact ⟨(), false, false, false, false, false, false, false, false, false, false, false, false, false, false, rfl, rfl, HW00.out⟩
      case hd =>
        rintro l a W ⟨_, b0, b1, b2, b3, b4, b5, b6, b7, b8, b9, b10, b11, b12, b13, rfl, rfl, hW⟩ hr
        obtain rfl : b0 = true := by simpa [Region.binds, Array.getD] using List.filter_eq_nil_iff.1 hr 0 (by simp)
        obtain rfl : b1 = true := by simpa [Region.binds, Array.getD] using List.filter_eq_nil_iff.1 hr 1 (by simp)
        obtain rfl : b2 = true := by simpa [Region.binds, Array.getD] using List.filter_eq_nil_iff.1 hr 2 (by simp)
        obtain rfl : b3 = true := by simpa [Region.binds, Array.getD] using List.filter_eq_nil_iff.1 hr 3 (by simp)
        obtain rfl : b4 = true := by simpa [Region.binds, Array.getD] using List.filter_eq_nil_iff.1 hr 4 (by simp)
        obtain rfl : b5 = true := by simpa [Region.binds, Array.getD] using List.filter_eq_nil_iff.1 hr 5 (by simp)
        obtain rfl : b6 = true := by simpa [Region.binds, Array.getD] using List.filter_eq_nil_iff.1 hr 6 (by simp)
        obtain rfl : b7 = true := by simpa [Region.binds, Array.getD] using List.filter_eq_nil_iff.1 hr 7 (by simp)
        obtain rfl : b8 = true := by simpa [Region.binds, Array.getD] using List.filter_eq_nil_iff.1 hr 8 (by simp)
        obtain rfl : b9 = true := by simpa [Region.binds, Array.getD] using List.filter_eq_nil_iff.1 hr 9 (by simp)
        obtain rfl : b10 = true := by simpa [Region.binds, Array.getD] using List.filter_eq_nil_iff.1 hr 10 (by simp)
        obtain rfl : b11 = true := by simpa [Region.binds, Array.getD] using List.filter_eq_nil_iff.1 hr 11 (by simp)
        obtain rfl : b12 = true := by simpa [Region.binds, Array.getD] using List.filter_eq_nil_iff.1 hr 12 (by simp)
        obtain rfl : b13 = true := by simpa [Region.binds, Array.getD] using List.filter_eq_nil_iff.1 hr 13 (by simp)
        unfold iv
        clear hr
        have e1 := (blk_cell (k := 0) hW.2.2.1 rfl).1
        simp only [List.getElem_toArray, List.getElem_cons_zero] at e1
        gi_wp2
        obtain ⟨hT, hr1, hr2, hr3, -⟩ := hW
        rw [if_pos rfl, if_pos rfl] at hr1
        refine ⟨keeps_touch hT (by omega) (by omega), ⟨_, _, hr1, hr2, hr3⟩, grown_touch HG.out hT (by omega), rfl, ?_⟩
        rw [HMS.out.1]; omega
      case hs =>
        rintro l a W i ⟨_, b0, b1, b2, b3, b4, b5, b6, b7, b8, b9, b10, b11, b12, b13, rfl, rfl, hW⟩ hi
        have hi1 := (List.mem_filter.1 hi).1
        have hi2 := (List.mem_filter.1 hi).2
        clear hi
        rw [List.mem_range] at hi1
        simp only [List.size_toArray, List.length_cons, List.length_nil] at hi1
        rcases (by omega : i = 0 ∨ i = 1 ∨ i = 2 ∨ i = 3 ∨ i = 4 ∨ i = 5 ∨ i = 6 ∨ i = 7 ∨ i = 8 ∨ i = 9 ∨ i = 10 ∨ i = 11 ∨ i = 12 ∨ i = 13) with rfl | rfl | rfl | rfl | rfl | rfl | rfl | rfl | rfl | rfl | rfl | rfl | rfl | rfl
        · simp [Region.binds, Array.getD] at hi2
          obtain rfl := hi2
          refine wpOp_step rfl (fun K hK => ?_)
          unfold iv
          go_simp
          exact hK _ _ ⟨(), true, b1, b2, b3, b4, b5, b6, b7, b8, b9, b10, b11, b12, b13, rfl, rfl, hW⟩
        · simp [Region.binds, Array.getD] at hi2
          obtain ⟨rfl, rfl⟩ := hi2
          refine wpOp_step rfl (fun K hK => ?_)
          obtain ⟨e1, -⟩ := blk_cell (k := 0) hW.2.2.2.2 rfl
          simp only [List.getElem_toArray, List.getElem_cons_zero] at e1
          unfold iv
          go_simp
          exact hK _ _ ⟨(), true, true, b2, b3, b4, b5, b6, b7, b8, b9, b10, b11, b12, b13, rfl, rfl, hW⟩
        · simp [Region.binds, Array.getD] at hi2
          obtain rfl := hi2
          refine wpOp_step rfl (fun K hK => ?_)
          obtain ⟨e1, -⟩ := blk_cell (k := 0) hW.2.2.2.1 rfl
          simp only [List.getElem_toArray, List.getElem_cons_zero] at e1
          unfold iv
          go_simp
          exact hK _ _ ⟨(), b0, b1, true, b3, b4, b5, b6, b7, b8, b9, b10, b11, b12, b13, rfl, rfl, hW⟩
        · simp [Region.binds, Array.getD] at hi2
          obtain ⟨rfl, rfl⟩ := hi2
          refine wpOp_step rfl (fun K hK => ?_)
          unfold iv
          go_simp
          exact hK _ _ ⟨(), b0, b1, true, true, b4, b5, b6, b7, b8, b9, b10, b11, b12, b13, rfl, rfl, hW⟩
        · simp [Region.binds, Array.getD] at hi2
          obtain ⟨rfl, rfl⟩ := hi2
          refine wpOp_step rfl (fun K hK => ?_)
          unfold iv
          go_simp
          exact hK _ _ ⟨(), b0, b1, b2, true, true, b5, b6, b7, b8, b9, b10, b11, b12, b13, rfl, rfl, hW⟩
        · simp [Region.binds, Array.getD] at hi2
          obtain rfl := hi2
          refine wpOp_step rfl (fun K hK => ?_)
          unfold iv
          go_simp
          exact hK _ _ ⟨(), b0, b1, b2, b3, b4, true, b6, b7, b8, b9, b10, b11, b12, b13, rfl, rfl, hW⟩
        · simp [Region.binds, Array.getD] at hi2
          obtain ⟨rfl, rfl⟩ := hi2
          refine wpOp_step rfl (fun K hK => ?_)
          obtain ⟨e1, -⟩ := blk_cell (k := 1) hW.2.2.2.2 rfl
          simp only [List.getElem_toArray, List.getElem_cons_zero, List.getElem_cons_succ] at e1
          unfold iv
          go_simp
          exact hK _ _ ⟨(), b0, b1, b2, b3, b4, true, true, b7, b8, b9, b10, b11, b12, b13, rfl, rfl, hW⟩
        · simp [Region.binds, Array.getD] at hi2
          obtain ⟨rfl, rfl, rfl⟩ := hi2
          refine wpOp_step rfl (fun K hK => ?_)
          have hCW := hC.out _ _ _ hW
          unfold iv
          go_simp
          refine hCW.mono ?_
          rintro e9 W2 ⟨rfl, hW2⟩
          exact hK _ _ ⟨(), b0, b1, b2, b3, true, b5, true, true, b8, b9, b10, b11, b12, b13, rfl, rfl, hW2⟩
        · simp [Region.binds, Array.getD] at hi2
          obtain ⟨rfl, rfl⟩ := hi2
          refine wpOp_step rfl (fun K hK => ?_)
          unfold iv
          go_simp
          exact hK _ _ ⟨(), b0, b1, b2, b3, b4, b5, b6, true, true, b9, b10, b11, b12, b13, rfl, rfl, hW⟩
        · simp [Region.binds, Array.getD] at hi2
          obtain ⟨rfl, rfl⟩ := hi2
          refine wpOp_step rfl (fun K hK => ?_)
          unfold iv
          go_simp
          exact hK _ _ ⟨(), b0, b1, b2, b3, b4, b5, b6, b7, true, true, b10, b11, b12, b13, rfl, rfl, hW⟩
        · simp [Region.binds, Array.getD] at hi2
          obtain ⟨rfl, rfl⟩ := hi2
          refine wpOp_step rfl (fun K hK => ?_)
          unfold iv
          go_simp
          exact hK _ _ ⟨(), b0, b1, b2, b3, b4, b5, b6, b7, true, b9, true, b11, b12, b13, rfl, rfl, hW⟩
        · simp [Region.binds, Array.getD] at hi2
          repeat (first | (obtain ⟨rfl, hi2⟩ := hi2) | (obtain ⟨-, hi2⟩ := hi2))
          (first | subst hi2 | skip)
          refine wpOp_step rfl (fun K hK => ?_)
          unfold iv
          go_simp
          exact hK _ _ ⟨(), true, true, true, true, true, true, true, true, true, true, b10, true, b12, b13, rfl, rfl, hW⟩
        · simp [Region.binds, Array.getD] at hi2
          repeat (first | (obtain ⟨rfl, hi2⟩ := hi2) | (obtain ⟨-, hi2⟩ := hi2))
          (first | subst hi2 | skip)
          refine wpOp_step rfl (fun K hK => ?_)
          obtain ⟨u, e1, f1⟩ : ∃ u, W.cell? (mAt R 1 x) = some (.int .i64 u) ∧ W.frozen? (mAt R 1 x) = false := by
            have h9 := mcell_at hW.2.1 x
            exact ⟨_, h9.1, h9.2⟩
          unfold iv
          go_simp
          exact hK _ _ ⟨(), true, true, true, true, true, true, true, true, true, true, b10, true, true, b13, rfl, rfl, (hW.num rfl d1 d2 d3)⟩
        · simp [Region.binds, Array.getD] at hi2
          repeat (first | (obtain ⟨rfl, hi2⟩ := hi2) | (obtain ⟨-, hi2⟩ := hi2))
          (first | subst hi2 | skip)
          refine wpOp_step rfl (fun K hK => ?_)
          obtain ⟨e1, f1⟩ := blk_cell (k := 0) hW.2.2.1 rfl
          simp only [List.getElem_toArray, List.getElem_cons_zero] at e1
          unfold iv
          go_simp
          exact hK _ _ ⟨(), true, true, true, true, true, true, true, true, true, true, true, true, true, true, rfl, rfl, (hW.err d1 d4 d5)⟩
  case done =>
    rintro D B ys W hD rfl ⟨⟨gR, gE, gB, gX⟩, hG, hpos, hBW⟩ hK
    obtain ⟨a1, a2⟩ := mrun_all s
    rw [a1, a2] at gR
    rw [a1] at hpos
    have q0 := blk_cell (k := 0) gR rfl
    have q4 := blk_cell (k := 4) gR rfl
    have r0 := (blk_cell (k := 0) gB rfl).1
    have e0 := (blk_cell (k := 0) gE rfl).1
    simp only [List.getElem_toArray, List.getElem_cons_zero, List.getElem_cons_succ] at q0 q4 r0 e0
    have hDl := (Array.getElem?_eq_some_iff.1 hK).1
    go_wp2
    go_region
    have hRD : R ≠ D := by omega
    have z1 : (W.drew.setCell ⟨R, 4, none⟩ (.string (s.extract 8 s.size))).heap[R]? = some (mro (s.extract 8 s.size) ⟨rdM s 0, rdM s 1, rdM s 3, (s.extract 8 s.size)⟩ (rdM s 2)) := blk_setc (k := 4) gR _
    have z2 : (W.drew.setCell ⟨R, 4, none⟩ (.string (s.extract 8 s.size))).heap[D]? = some (.deferred (some [])) := blk_set hK ⟨R, 4, none⟩ hRD _
    have z3 : (W.drew.setCell ⟨R, 4, none⟩ (.string (s.extract 8 s.size))).heap[w.heap.size + 1]? = some (evo .nilIface) := blk_set gE ⟨R, 4, none⟩ (by show R ≠ _; omega) _
    have z4 : w.grownBy (W.drew.setCell ⟨R, 4, none⟩ (.string (s.extract 8 s.size))) (some R) := grown_drew (hG.andThen (grown_set _ _ _) (fun j e => by cases e; exact .inr rfl))
    have e4 := (blk_cell (k := 0) z3 rfl).1
    simp only [List.getElem_toArray, List.getElem_cons_zero] at e4
    go_wp2
    refine ⟨by simp, .inl ⟨_, _, rfl, run_takeDeferred z2, ?_⟩⟩
    refine ⟨_, results_tmp rfl _ _ _, z4.andThen (grownBy_putObj' _ D (.deferred none)) (fun j e => by simp only [Option.some.injEq] at e; exact .inl (by omega)), ?_⟩
    exact .inl ⟨hpos, rfl, (World.putObj_heap_other (by omega)).trans z1⟩
  case stop =>
    rintro D c pre W hD hpre ⟨⟨t, V, gR, gE, gB⟩, hG, rfl, hpos⟩ hK
    have hlt8 : s.size < 8 := by
      have h8 : pre = [] ∨ pre = [0] ∨ pre = [0, 1] ∨ pre = [0, 1, 2] ∨ pre = mAll := by
        obtain ⟨t, ht⟩ := hpre
        unfold mAll at ht ⊢
        rcases pre with _ | ⟨x0, _ | ⟨x1, _ | ⟨x2, _ | ⟨x3, _ | ⟨x4, pre⟩⟩⟩⟩⟩ <;> simp_all
      have : (mrun s pre).pos ≤ 8 := by
        rcases h8 with rfl | rfl | rfl | rfl | rfl
        · exact (by decide : (0 : Nat) ≤ 8)
        · exact (by decide : (1 : Nat) ≤ 8)
        · exact (by decide : (2 : Nat) ≤ 8)
        · exact (by decide : (4 : Nat) ≤ 8)
        · exact (by decide : (8 : Nat) ≤ 8)
      omega
    have q0 := blk_cell (k := 0) gR rfl
    have q4 := blk_cell (k := 4) gR rfl
    have r0 := (blk_cell (k := 0) gB rfl).1
    have e0 := (blk_cell (k := 0) gE rfl).1
    simp only [List.getElem_toArray, List.getElem_cons_zero, List.getElem_cons_succ] at q0 q4 r0 e0
    have hDl := (Array.getElem?_eq_some_iff.1 hK).1
    gi_wp2
    go_wp2
    go_region
    have hRD : R ≠ D := by omega
    have z1 : (W.drew.setCell ⟨R, 4, none⟩ (.string t)).heap[R]? = some (mro t ⟨V 0, V 1, V 3, t⟩ (V 2)) := blk_setc (k := 4) gR _
    have z2 : (W.drew.setCell ⟨R, 4, none⟩ (.string t)).heap[D]? = some (.deferred (some [])) := blk_set hK ⟨R, 4, none⟩ hRD _
    have z3 : (W.drew.setCell ⟨R, 4, none⟩ (.string t)).heap[w.heap.size + 1]? = some (evo (.iface 170 (.pointer (some ea)))) := blk_set gE ⟨R, 4, none⟩ (by show R ≠ _; omega) _
    have z4 : w.grownBy (W.drew.setCell ⟨R, 4, none⟩ (.string t)) (some R) := grown_drew (hG.andThen (grown_set _ _ _) (fun j e => by cases e; exact .inr rfl))
    have e4 := (blk_cell (k := 0) z3 rfl).1
    simp only [List.getElem_toArray, List.getElem_cons_zero] at e4
    go_wp2
    refine ⟨by simp, .inl ⟨_, _, rfl, run_takeDeferred z2, ?_⟩⟩
    refine ⟨_, results_tmp rfl _ _ _, z4.andThen (grownBy_putObj' _ D (.deferred none)) (fun j e => by simp only [Option.some.injEq] at e; exact .inl (by omega)), ?_⟩
    exact .inr ⟨hlt8, _, _, _, rfl, (World.putObj_heap_other (by omega)).trans z1⟩
end Go.Proofs.YtidjbpglpobigaaDoor
