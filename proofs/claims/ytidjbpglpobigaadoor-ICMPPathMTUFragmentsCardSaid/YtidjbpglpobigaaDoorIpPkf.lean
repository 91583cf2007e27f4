/- Contract of the statements' PacketFrom. -/
import Derived.Test.YtidjbpglpobigaaDoorIpPay
import Derived.Test.YtidjbpglpobigaaDoorIpDe
import Derived.Deep.RegionHeld3
import Derived.Deep.DeepCutAuto
namespace Go.Proofs.YtidjbpglpobigaaDoor
open Go.RowKit
set_option linter.unusedVariables false
attribute [local go_sem] Oper.semAt_some

def b64 (a : Int) : Prop := -9223372036854775808 ≤ a ∧ a ≤ 9223372036854775807
/-- the integers that a datagram is made from -/
structure Rw where
  a0 : Int
  a1 : Int
  a2 : Int
  a3 : Int
  a4 : Int
  fl : Int
  off : Int
  lg : Int
  s : ByteArray
abbrev rv (x : Rw) : Value := .agg #[.int .i64 x.a0, .int .i64 x.a1, .int .i64 x.a2, .int .i64 x.a3, .int .i64 x.a4, .int .i64 x.fl, .int .i64 x.off, .int .i64 x.lg, .string x.s]
abbrev ro (x : Rw) : Obj := .cells #[.int .i64 x.a0, .int .i64 x.a1, .int .i64 x.a2, .int .i64 x.a3, .int .i64 x.a4, .int .i64 x.fl, .int .i64 x.off, .int .i64 x.lg, .string x.s] 37
structure Rw.ok (x : Rw) : Prop where
  a0 : b64 x.a0
  a1 : b64 x.a1
  a2 : b64 x.a2
  a3 : b64 x.a3
  a4 : b64 x.a4
  fl : b64 x.fl
  off : b64 x.off
  lg : b64 x.lg
  s : x.s.size ≤ maxLen

set_option maxRecDepth 20000 in
set_option maxHeartbeats 1600000 in
theorem packet_any (x : Rw) (hx : x.ok) (w : World) :
    Calls Tryd.prog 22 #[rv x] w fun e w' => (∃ p : Pk, e = .returned (pv p) ∧ okW p p.s.size ∧ p.s.size ≤ 300) ∧ Below w.heap.size w w' := by
  obtain ⟨a0, a1, a2, a3, a4, fl, off, lg, s⟩ := x
  obtain ⟨⟨p0, q0⟩, ⟨p1, q1⟩, ⟨p2, q2⟩, ⟨p3, q3⟩, ⟨p4, q4⟩, ⟨pf, qf⟩, ⟨po', qo⟩, ⟨pl, ql⟩, hs⟩ := hx
  simp only at p0 q0 p1 q1 p2 q2 p3 q3 p4 q4 pf qf po' qo pl ql hs
  obtain ⟨b0, d0⟩ := pickZ_bd a0 4294967294 (by decide)
  obtain ⟨b1, d1⟩ := pickZ_bd a1 4294967295 (by decide)
  obtain ⟨b2, d2⟩ := pickZ_bd a2 256 (by decide)
  obtain ⟨b3, d3⟩ := pickZ_bd a3 255 (by decide)
  obtain ⟨b4, d4⟩ := pickZ_bd a4 65536 (by decide)
  obtain ⟨bf, df⟩ := pickZ_bd fl 4 (by decide)
  obtain ⟨bo, do'⟩ := pickZ_bd off 400 (by decide)
  obtain ⟨bl, dl⟩ := pickZ_bd lg 301 (by decide)
  have y0 : IntKind.i64.wrap (1 + pickZ a0 4294967294) = 1 + pickZ a0 4294967294 := wraps_i64 _ (by omega) (by omega)
  have y1 : IntKind.i64.wrap (1 + pickZ a1 4294967295) = 1 + pickZ a1 4294967295 := wraps_i64 _ (by omega) (by omega)
  have y3 : IntKind.i64.wrap (1 + pickZ a3 255) = 1 + pickZ a3 255 := wraps_i64 _ (by omega) (by omega)
  have hBW : Below w.heap.size w ((((w.alloc (ro ⟨a0, a1, a2, a3, a4, fl, off, lg, s⟩)).alloc (po pz)).alloc (po ⟨1 + pickZ a0 4294967294, 1 + pickZ a1 4294967295, pickZ a2 256, 1 + pickZ a3 255, pickZ a4 65536, false, false, 0, ⟨#[]⟩⟩)).drew) := ((((Below.refl _ w).alloc (Nat.le_refl _) _).alloc (by simp) _).alloc (by simp; omega) _).drew
  have hR1 : ((((w.alloc (ro ⟨a0, a1, a2, a3, a4, fl, off, lg, s⟩)).alloc (po pz)).alloc (po ⟨1 + pickZ a0 4294967294, 1 + pickZ a1 4294967295, pickZ a2 256, 1 + pickZ a3 255, pickZ a4 65536, false, false, 0, ⟨#[]⟩⟩)).drew).heap[w.heap.size]? = some (ro ⟨a0, a1, a2, a3, a4, fl, off, lg, s⟩) := blk_alloc (blk_alloc (blk_new w _) _) _
  have hZ1 : ((((w.alloc (ro ⟨a0, a1, a2, a3, a4, fl, off, lg, s⟩)).alloc (po pz)).alloc (po ⟨1 + pickZ a0 4294967294, 1 + pickZ a1 4294967295, pickZ a2 256, 1 + pickZ a3 255, pickZ a4 65536, false, false, 0, ⟨#[]⟩⟩)).drew).heap[w.heap.size + 1]? = some (po pz) := by
    have := blk_alloc (blk_new (w.alloc (ro ⟨a0, a1, a2, a3, a4, fl, off, lg, s⟩)) (po pz)) (po ⟨1 + pickZ a0 4294967294, 1 + pickZ a1 4294967295, pickZ a2 256, 1 + pickZ a3 255, pickZ a4 65536, false, false, 0, ⟨#[]⟩⟩)
    rw [World.size_alloc] at this; exact this
  have hX1 : ((((w.alloc (ro ⟨a0, a1, a2, a3, a4, fl, off, lg, s⟩)).alloc (po pz)).alloc (po ⟨1 + pickZ a0 4294967294, 1 + pickZ a1 4294967295, pickZ a2 256, 1 + pickZ a3 255, pickZ a4 65536, false, false, 0, ⟨#[]⟩⟩)).drew).heap[w.heap.size + 1 + 1]? = some (po ⟨1 + pickZ a0 4294967294, 1 + pickZ a1 4294967295, pickZ a2 256, 1 + pickZ a3 255, pickZ a4 65536, false, false, 0, ⟨#[]⟩⟩) := by
    have := blk_new ((w.alloc (ro ⟨a0, a1, a2, a3, a4, fl, off, lg, s⟩)).alloc (po pz)) (po ⟨1 + pickZ a0 4294967294, 1 + pickZ a1 4294967295, pickZ a2 256, 1 + pickZ a3 255, pickZ a4 65536, false, false, 0, ⟨#[]⟩⟩)
    rw [World.size_alloc, World.size_alloc] at this; exact this
  have HR := Lib.hid hR1
  have HZ := Lib.hid hZ1
  have HX := Lib.hid hX1
  have HB := Lib.hid hBW
  clear hR1 hZ1 hX1 hBW
  go_enter Tryd.func22, Tryd.ntmps22
  go_upto_region 1 with fail
  go_cut [3] (fun v wx => v = .pointer (some ⟨w.heap.size + 1 + 1, 0, none⟩) ∧ Hid (wx.heap[w.heap.size]? = some (ro ⟨a0, a1, a2, a3, a4, fl, off, lg, s⟩)) ∧ Hid (wx.heap[w.heap.size + 1]? = some (po pz)) ∧ Hid (wx.heap[w.heap.size + 1 + 1]? = some (po ⟨1 + pickZ a0 4294967294, 1 + pickZ a1 4294967295, pickZ a2 256, 1 + pickZ a3 255, pickZ a4 65536, false, false, 0, ⟨#[]⟩⟩)) ∧ Hid (Below w.heap.size w wx))
  case first =>
    go_wp2
    go_region_held3 (fun w' => w'.cell? ⟨w.heap.size, 0, none⟩ = some (.int .i64 a0) ∧ w'.cell? ⟨w.heap.size, 1, none⟩ = some (.int .i64 a1) ∧ w'.cell? ⟨w.heap.size, 2, none⟩ = some (.int .i64 a2) ∧ w'.cell? ⟨w.heap.size, 3, none⟩ = some (.int .i64 a3) ∧ w'.cell? ⟨w.heap.size, 4, none⟩ = some (.int .i64 a4))
      (go_keep)
      ((go_at_call 48; refine (pick_any _ _ _ (by assumption) (by assumption) (by decide) (by decide)).mono ?_; rintro e w' ⟨rfl, rfl⟩))
    all_goals (go_wp2_with fail; go_meet; exact ⟨rfl, HR, HZ, HX, HB⟩)
  case rest =>
    clear HR HZ HX HB
    obtain ⟨rfl, HR, HZ, HX, HB⟩ := hcut
    obtain ⟨v0, h0⟩ : ∃ v, pickZ a0 4294967294 = v := ⟨_, rfl⟩
    obtain ⟨v1, h1⟩ : ∃ v, pickZ a1 4294967295 = v := ⟨_, rfl⟩
    obtain ⟨v2, h2⟩ : ∃ v, pickZ a2 256 = v := ⟨_, rfl⟩
    obtain ⟨v3, h3⟩ : ∃ v, pickZ a3 255 = v := ⟨_, rfl⟩
    obtain ⟨v4, h4⟩ : ∃ v, pickZ a4 65536 = v := ⟨_, rfl⟩
    rw [h0] at b0 d0
    rw [h1] at b1 d1
    rw [h2] at b2 d2
    rw [h3] at b3 d3
    rw [h4] at b4 d4
    rw [h0, h1, h2, h3, h4] at HX
    clear h0 h1 h2 h3 h4 y0 y1 y3
    have hR1 := HR.out
    have hX1 := HX.out
    have hok : okU (1 + v0) ∧ (okU (1 + v1) ∨ 1 + v1 = 4294967295) ∧ 0 ≤ v2 ∧ v2 ≤ 255 ∧ 1 ≤ 1 + v3 ∧ 1 + v3 ≤ 255 ∧ 0 ≤ v4 ∧ v4 ≤ 65535 := by unfold okU; omega
    obtain ⟨r5, -⟩ := blk_cell (k := 5) hR1 rfl
    obtain ⟨r6, -⟩ := blk_cell (k := 6) hR1 rfl
    obtain ⟨r7, -⟩ := blk_cell (k := 7) hR1 rfl
    obtain ⟨r8, -⟩ := blk_cell (k := 8) hR1 rfl
    obtain ⟨x5, g5⟩ := blk_cell (k := 5) hX1 rfl
    obtain ⟨x6, g6⟩ := blk_cell (k := 6) hX1 rfl
    obtain ⟨x7, g7⟩ := blk_cell (k := 7) hX1 rfl
    simp only [List.getElem_toArray, List.getElem_cons_zero, List.getElem_cons_succ] at r5 r6 r7 r8 x5 x6 x7
    obtain ⟨m, hm⟩ : ∃ m : Nat, pickZ lg 301 = (m : Int) := ⟨(pickZ lg 301).toNat, by omega⟩
    obtain ⟨o, ho⟩ : ∃ o : Nat, pickZ off 400 = (o : Int) := ⟨(pickZ off 400).toNat, by omega⟩
    rw [hm] at bl dl
    rw [ho] at bo do'
    clear hR1 hX1
    go_wp2_with fail
    refine (pick_any lg 301 _ pl ql (by decide) (by decide)).mono ?_
    rintro e w' ⟨rfl, rfl⟩
    rw [hm]
    go_wp2_with fail
    refine (pick_any fl 4 _ pf qf (by decide) (by decide)).mono ?_
    rintro e w' ⟨rfl, rfl⟩
    rcases (by omega : pickZ fl 4 = 0 ∨ pickZ fl 4 = 1 ∨ pickZ fl 4 = 2 ∨ pickZ fl 4 = 3) with hf | hf | hf | hf
    · rw [hf]
      go_wp2_with fail
      have hX2 : wc.heap[w.heap.size + 1 + 1]? = some (po ⟨1 + v0, 1 + v1, v2, 1 + v3, v4, false, false, 0, ⟨#[]⟩⟩) := HX.out
      have hZ2 : wc.heap[w.heap.size + 1]? = some (po pz) := HZ.out
      have hB2 : Below w.heap.size w wc := HB.out
      clear HX HZ HB HR r5 r6 r7 r8 x5 g5 x6 g6 x7 g7
      generalize wc = W2 at *
      refine (payload_any s m hs (by omega) _).mono ?_
      rintro e w3 ⟨⟨t, rfl, ht⟩, hb3⟩
      have hX3 := blk_below hX2 hb3 (blk_lt hX2)
      have hZ3 := blk_below hZ2 hb3 (blk_lt hZ2)
      have hB3 := hB2.trans (hb3.mono hB2.size)
      clear hX2 hZ2 hB2 hb3
      obtain ⟨x0, g0⟩ := blk_cell (k := 0) hX3 rfl
      obtain ⟨x1, g1⟩ := blk_cell (k := 1) hX3 rfl
      obtain ⟨x2, g2⟩ := blk_cell (k := 2) hX3 rfl
      obtain ⟨x3, g3⟩ := blk_cell (k := 3) hX3 rfl
      obtain ⟨x4, g4⟩ := blk_cell (k := 4) hX3 rfl
      obtain ⟨x5, g5⟩ := blk_cell (k := 5) hX3 rfl
      obtain ⟨x6, g6⟩ := blk_cell (k := 6) hX3 rfl
      obtain ⟨x7, g7⟩ := blk_cell (k := 7) hX3 rfl
      obtain ⟨x8, g8⟩ := blk_cell (k := 8) hX3 rfl
      obtain ⟨z0, f0⟩ := blk_cell (k := 0) hZ3 rfl
      obtain ⟨z1, f1⟩ := blk_cell (k := 1) hZ3 rfl
      obtain ⟨z2, f2⟩ := blk_cell (k := 2) hZ3 rfl
      obtain ⟨z3, f3⟩ := blk_cell (k := 3) hZ3 rfl
      obtain ⟨z4, f4⟩ := blk_cell (k := 4) hZ3 rfl
      obtain ⟨z5, f5⟩ := blk_cell (k := 5) hZ3 rfl
      obtain ⟨z6, f6⟩ := blk_cell (k := 6) hZ3 rfl
      obtain ⟨z7, f7⟩ := blk_cell (k := 7) hZ3 rfl
      obtain ⟨z8, f8⟩ := blk_cell (k := 8) hZ3 rfl
      simp only [List.getElem_toArray, List.getElem_cons_zero, List.getElem_cons_succ] at x0 z0 x1 z1 x2 z2 x3 z3 x4 z4 x5 z5 x6 z6 x7 z7 x8 z8
      clear g0 g1 g2 g3 g4 g5 g6 g7
      go_wp2
      have q1 := set9_res (blk_set hZ3 ⟨w.heap.size + 1 + 1, 8, none⟩ (by show w.heap.size + 1 + 1 ≠ w.heap.size + 1; omega) (.string t)) ⟨1 + v0, 1 + v1, v2, 1 + v3, v4, false, false, 0, t⟩
      have q2 := set9_below (N := w.heap.size + 1) (hB3.setCell (p := ⟨w.heap.size + 1 + 1, 8, none⟩) (by show w.heap.size ≤ w.heap.size + 1 + 1; omega) (.string t)) (by omega) ⟨1 + v0, 1 + v1, v2, 1 + v3, v4, false, false, 0, t⟩
      clear x0 z0 f0 x1 z1 f1 x2 z2 f2 x3 z3 f3 x4 z4 f4 x5 z5 f5 x6 z6 f6 x7 z7 f7 x8 z8 f8 g8
      have g0 := (blk_cell (k := 0) q1 rfl).1
      have g1 := (blk_cell (k := 1) q1 rfl).1
      have g2 := (blk_cell (k := 2) q1 rfl).1
      have g3 := (blk_cell (k := 3) q1 rfl).1
      have g4 := (blk_cell (k := 4) q1 rfl).1
      have g5 := (blk_cell (k := 5) q1 rfl).1
      have g6 := (blk_cell (k := 6) q1 rfl).1
      have g7 := (blk_cell (k := 7) q1 rfl).1
      have g8 := (blk_cell (k := 8) q1 rfl).1
      simp only [List.getElem_toArray, List.getElem_cons_zero, List.getElem_cons_succ] at g0 g1 g2 g3 g4 g5 g6 g7 g8
      refine bodyPost_ret (v := pv ⟨1 + v0, 1 + v1, v2, 1 + v3, v4, false, false, 0, t⟩) (by simp [results, Tryd.results22, go_sem, g0, g1, g2, g3, g4, g5, g6, g7, g8]; try rfl) rfl ?_
      refine ⟨⟨⟨1 + v0, 1 + v1, v2, 1 + v3, v4, false, false, 0, t⟩, rfl, ⟨hok.1, hok.2.1, hok.2.2, ?_, ?_⟩, ?_⟩, q2⟩
      · unfold okP; simp only; omega
      · first | exact .inl ⟨rfl, rfl⟩ | exact .inr ⟨rfl, by (simp only; omega), .inr rfl⟩ | exact .inr ⟨rfl, by (simp only; omega), .inl (by (simp only; omega))⟩
      · simp only; omega
    · rw [hf]
      go_wp2_with fail
      have hX2 : (wc.setCell ⟨w.heap.size + 1 + 1, 5, none⟩ (.bool true)).heap[w.heap.size + 1 + 1]? = some (po ⟨1 + v0, 1 + v1, v2, 1 + v3, v4, true, false, 0, ⟨#[]⟩⟩) := (blk_setc (k := 5) HX.out (.bool true))
      have hZ2 : (wc.setCell ⟨w.heap.size + 1 + 1, 5, none⟩ (.bool true)).heap[w.heap.size + 1]? = some (po pz) := (blk_set HZ.out ⟨w.heap.size + 1 + 1, 5, none⟩ (by show w.heap.size + 1 + 1 ≠ w.heap.size + 1; omega) (.bool true))
      have hB2 : Below w.heap.size w (wc.setCell ⟨w.heap.size + 1 + 1, 5, none⟩ (.bool true)) := (HB.out.setCell (p := ⟨w.heap.size + 1 + 1, 5, none⟩) (by show w.heap.size ≤ w.heap.size + 1 + 1; omega) (.bool true))
      clear HX HZ HB HR r5 r6 r7 r8 x5 g5 x6 g6 x7 g7
      generalize (wc.setCell ⟨w.heap.size + 1 + 1, 5, none⟩ (.bool true)) = W2 at *
      refine (payload_any s m hs (by omega) _).mono ?_
      rintro e w3 ⟨⟨t, rfl, ht⟩, hb3⟩
      have hX3 := blk_below hX2 hb3 (blk_lt hX2)
      have hZ3 := blk_below hZ2 hb3 (blk_lt hZ2)
      have hB3 := hB2.trans (hb3.mono hB2.size)
      clear hX2 hZ2 hB2 hb3
      obtain ⟨x0, g0⟩ := blk_cell (k := 0) hX3 rfl
      obtain ⟨x1, g1⟩ := blk_cell (k := 1) hX3 rfl
      obtain ⟨x2, g2⟩ := blk_cell (k := 2) hX3 rfl
      obtain ⟨x3, g3⟩ := blk_cell (k := 3) hX3 rfl
      obtain ⟨x4, g4⟩ := blk_cell (k := 4) hX3 rfl
      obtain ⟨x5, g5⟩ := blk_cell (k := 5) hX3 rfl
      obtain ⟨x6, g6⟩ := blk_cell (k := 6) hX3 rfl
      obtain ⟨x7, g7⟩ := blk_cell (k := 7) hX3 rfl
      obtain ⟨x8, g8⟩ := blk_cell (k := 8) hX3 rfl
      obtain ⟨z0, f0⟩ := blk_cell (k := 0) hZ3 rfl
      obtain ⟨z1, f1⟩ := blk_cell (k := 1) hZ3 rfl
      obtain ⟨z2, f2⟩ := blk_cell (k := 2) hZ3 rfl
      obtain ⟨z3, f3⟩ := blk_cell (k := 3) hZ3 rfl
      obtain ⟨z4, f4⟩ := blk_cell (k := 4) hZ3 rfl
      obtain ⟨z5, f5⟩ := blk_cell (k := 5) hZ3 rfl
      obtain ⟨z6, f6⟩ := blk_cell (k := 6) hZ3 rfl
      obtain ⟨z7, f7⟩ := blk_cell (k := 7) hZ3 rfl
      obtain ⟨z8, f8⟩ := blk_cell (k := 8) hZ3 rfl
      simp only [List.getElem_toArray, List.getElem_cons_zero, List.getElem_cons_succ] at x0 z0 x1 z1 x2 z2 x3 z3 x4 z4 x5 z5 x6 z6 x7 z7 x8 z8
      clear g0 g1 g2 g3 g4 g5 g6 g7
      go_wp2
      have q1 := set9_res (blk_set hZ3 ⟨w.heap.size + 1 + 1, 8, none⟩ (by show w.heap.size + 1 + 1 ≠ w.heap.size + 1; omega) (.string t)) ⟨1 + v0, 1 + v1, v2, 1 + v3, v4, true, false, 0, t⟩
      have q2 := set9_below (N := w.heap.size + 1) (hB3.setCell (p := ⟨w.heap.size + 1 + 1, 8, none⟩) (by show w.heap.size ≤ w.heap.size + 1 + 1; omega) (.string t)) (by omega) ⟨1 + v0, 1 + v1, v2, 1 + v3, v4, true, false, 0, t⟩
      clear x0 z0 f0 x1 z1 f1 x2 z2 f2 x3 z3 f3 x4 z4 f4 x5 z5 f5 x6 z6 f6 x7 z7 f7 x8 z8 f8 g8
      have g0 := (blk_cell (k := 0) q1 rfl).1
      have g1 := (blk_cell (k := 1) q1 rfl).1
      have g2 := (blk_cell (k := 2) q1 rfl).1
      have g3 := (blk_cell (k := 3) q1 rfl).1
      have g4 := (blk_cell (k := 4) q1 rfl).1
      have g5 := (blk_cell (k := 5) q1 rfl).1
      have g6 := (blk_cell (k := 6) q1 rfl).1
      have g7 := (blk_cell (k := 7) q1 rfl).1
      have g8 := (blk_cell (k := 8) q1 rfl).1
      simp only [List.getElem_toArray, List.getElem_cons_zero, List.getElem_cons_succ] at g0 g1 g2 g3 g4 g5 g6 g7 g8
      refine bodyPost_ret (v := pv ⟨1 + v0, 1 + v1, v2, 1 + v3, v4, true, false, 0, t⟩) (by simp [results, Tryd.results22, go_sem, g0, g1, g2, g3, g4, g5, g6, g7, g8]; try rfl) rfl ?_
      refine ⟨⟨⟨1 + v0, 1 + v1, v2, 1 + v3, v4, true, false, 0, t⟩, rfl, ⟨hok.1, hok.2.1, hok.2.2, ?_, ?_⟩, ?_⟩, q2⟩
      · unfold okP; simp only; omega
      · first | exact .inl ⟨rfl, rfl⟩ | exact .inr ⟨rfl, by (simp only; omega), .inr rfl⟩ | exact .inr ⟨rfl, by (simp only; omega), .inl (by (simp only; omega))⟩
      · simp only; omega
    · rw [hf]
      go_wp2_with fail
      refine (pick_any off 400 _ po' qo (by decide) (by decide)).mono ?_
      rintro e w' ⟨rfl, rfl⟩
      rw [ho]
      go_wp2_with fail
      · have hX2 : ((wc.setCell ⟨w.heap.size + 1 + 1, 6, none⟩ (.bool true)).setCell ⟨w.heap.size + 1 + 1, 7, none⟩ (.int .i64 (8 * (o : Int)))).heap[w.heap.size + 1 + 1]? = some (po ⟨1 + v0, 1 + v1, v2, 1 + v3, v4, false, true, 8 * (o : Int), ⟨#[]⟩⟩) := (blk_setc (k := 7) (blk_setc (k := 6) HX.out (.bool true)) (.int .i64 (8 * (o : Int))))
        have hZ2 : ((wc.setCell ⟨w.heap.size + 1 + 1, 6, none⟩ (.bool true)).setCell ⟨w.heap.size + 1 + 1, 7, none⟩ (.int .i64 (8 * (o : Int)))).heap[w.heap.size + 1]? = some (po pz) := (blk_set (blk_set HZ.out ⟨w.heap.size + 1 + 1, 6, none⟩ (by show w.heap.size + 1 + 1 ≠ w.heap.size + 1; omega) (.bool true)) ⟨w.heap.size + 1 + 1, 7, none⟩ (by show w.heap.size + 1 + 1 ≠ w.heap.size + 1; omega) (.int .i64 (8 * (o : Int))))
        have hB2 : Below w.heap.size w ((wc.setCell ⟨w.heap.size + 1 + 1, 6, none⟩ (.bool true)).setCell ⟨w.heap.size + 1 + 1, 7, none⟩ (.int .i64 (8 * (o : Int)))) := ((HB.out.setCell (p := ⟨w.heap.size + 1 + 1, 6, none⟩) (by show w.heap.size ≤ w.heap.size + 1 + 1; omega) (.bool true)).setCell (p := ⟨w.heap.size + 1 + 1, 7, none⟩) (by show w.heap.size ≤ w.heap.size + 1 + 1; omega) (.int .i64 (8 * (o : Int))))
        clear HX HZ HB HR r5 r6 r7 r8 x5 g5 x6 g6 x7 g7
        generalize ((wc.setCell ⟨w.heap.size + 1 + 1, 6, none⟩ (.bool true)).setCell ⟨w.heap.size + 1 + 1, 7, none⟩ (.int .i64 (8 * (o : Int)))) = W2 at *
        refine (payload_any s 8 hs (by omega) _).mono ?_
        rintro e w3 ⟨⟨t, rfl, ht⟩, hb3⟩
        have hX3 := blk_below hX2 hb3 (blk_lt hX2)
        have hZ3 := blk_below hZ2 hb3 (blk_lt hZ2)
        have hB3 := hB2.trans (hb3.mono hB2.size)
        clear hX2 hZ2 hB2 hb3
        obtain ⟨x0, g0⟩ := blk_cell (k := 0) hX3 rfl
        obtain ⟨x1, g1⟩ := blk_cell (k := 1) hX3 rfl
        obtain ⟨x2, g2⟩ := blk_cell (k := 2) hX3 rfl
        obtain ⟨x3, g3⟩ := blk_cell (k := 3) hX3 rfl
        obtain ⟨x4, g4⟩ := blk_cell (k := 4) hX3 rfl
        obtain ⟨x5, g5⟩ := blk_cell (k := 5) hX3 rfl
        obtain ⟨x6, g6⟩ := blk_cell (k := 6) hX3 rfl
        obtain ⟨x7, g7⟩ := blk_cell (k := 7) hX3 rfl
        obtain ⟨x8, g8⟩ := blk_cell (k := 8) hX3 rfl
        obtain ⟨z0, f0⟩ := blk_cell (k := 0) hZ3 rfl
        obtain ⟨z1, f1⟩ := blk_cell (k := 1) hZ3 rfl
        obtain ⟨z2, f2⟩ := blk_cell (k := 2) hZ3 rfl
        obtain ⟨z3, f3⟩ := blk_cell (k := 3) hZ3 rfl
        obtain ⟨z4, f4⟩ := blk_cell (k := 4) hZ3 rfl
        obtain ⟨z5, f5⟩ := blk_cell (k := 5) hZ3 rfl
        obtain ⟨z6, f6⟩ := blk_cell (k := 6) hZ3 rfl
        obtain ⟨z7, f7⟩ := blk_cell (k := 7) hZ3 rfl
        obtain ⟨z8, f8⟩ := blk_cell (k := 8) hZ3 rfl
        simp only [List.getElem_toArray, List.getElem_cons_zero, List.getElem_cons_succ] at x0 z0 x1 z1 x2 z2 x3 z3 x4 z4 x5 z5 x6 z6 x7 z7 x8 z8
        clear g0 g1 g2 g3 g4 g5 g6 g7
        go_wp2
        have q1 := set9_res (blk_set hZ3 ⟨w.heap.size + 1 + 1, 8, none⟩ (by show w.heap.size + 1 + 1 ≠ w.heap.size + 1; omega) (.string t)) ⟨1 + v0, 1 + v1, v2, 1 + v3, v4, false, true, 8 * (o : Int), t⟩
        have q2 := set9_below (N := w.heap.size + 1) (hB3.setCell (p := ⟨w.heap.size + 1 + 1, 8, none⟩) (by show w.heap.size ≤ w.heap.size + 1 + 1; omega) (.string t)) (by omega) ⟨1 + v0, 1 + v1, v2, 1 + v3, v4, false, true, 8 * (o : Int), t⟩
        clear x0 z0 f0 x1 z1 f1 x2 z2 f2 x3 z3 f3 x4 z4 f4 x5 z5 f5 x6 z6 f6 x7 z7 f7 x8 z8 f8 g8
        have g0 := (blk_cell (k := 0) q1 rfl).1
        have g1 := (blk_cell (k := 1) q1 rfl).1
        have g2 := (blk_cell (k := 2) q1 rfl).1
        have g3 := (blk_cell (k := 3) q1 rfl).1
        have g4 := (blk_cell (k := 4) q1 rfl).1
        have g5 := (blk_cell (k := 5) q1 rfl).1
        have g6 := (blk_cell (k := 6) q1 rfl).1
        have g7 := (blk_cell (k := 7) q1 rfl).1
        have g8 := (blk_cell (k := 8) q1 rfl).1
        simp only [List.getElem_toArray, List.getElem_cons_zero, List.getElem_cons_succ] at g0 g1 g2 g3 g4 g5 g6 g7 g8
        refine bodyPost_ret (v := pv ⟨1 + v0, 1 + v1, v2, 1 + v3, v4, false, true, 8 * (o : Int), t⟩) (by simp [results, Tryd.results22, go_sem, g0, g1, g2, g3, g4, g5, g6, g7, g8]; try rfl) rfl ?_
        refine ⟨⟨⟨1 + v0, 1 + v1, v2, 1 + v3, v4, false, true, 8 * (o : Int), t⟩, rfl, ⟨hok.1, hok.2.1, hok.2.2, ?_, ?_⟩, ?_⟩, q2⟩
        · unfold okP; simp only; omega
        · first | exact .inl ⟨rfl, rfl⟩ | exact .inr ⟨rfl, by (simp only; omega), .inr rfl⟩ | exact .inr ⟨rfl, by (simp only; omega), .inl (by (simp only; omega))⟩
        · simp only; omega
      · have hX2 : ((wc.setCell ⟨w.heap.size + 1 + 1, 6, none⟩ (.bool true)).setCell ⟨w.heap.size + 1 + 1, 7, none⟩ (.int .i64 (8 * (o : Int)))).heap[w.heap.size + 1 + 1]? = some (po ⟨1 + v0, 1 + v1, v2, 1 + v3, v4, false, true, 8 * (o : Int), ⟨#[]⟩⟩) := (blk_setc (k := 7) (blk_setc (k := 6) HX.out (.bool true)) (.int .i64 (8 * (o : Int))))
        have hZ2 : ((wc.setCell ⟨w.heap.size + 1 + 1, 6, none⟩ (.bool true)).setCell ⟨w.heap.size + 1 + 1, 7, none⟩ (.int .i64 (8 * (o : Int)))).heap[w.heap.size + 1]? = some (po pz) := (blk_set (blk_set HZ.out ⟨w.heap.size + 1 + 1, 6, none⟩ (by show w.heap.size + 1 + 1 ≠ w.heap.size + 1; omega) (.bool true)) ⟨w.heap.size + 1 + 1, 7, none⟩ (by show w.heap.size + 1 + 1 ≠ w.heap.size + 1; omega) (.int .i64 (8 * (o : Int))))
        have hB2 : Below w.heap.size w ((wc.setCell ⟨w.heap.size + 1 + 1, 6, none⟩ (.bool true)).setCell ⟨w.heap.size + 1 + 1, 7, none⟩ (.int .i64 (8 * (o : Int)))) := ((HB.out.setCell (p := ⟨w.heap.size + 1 + 1, 6, none⟩) (by show w.heap.size ≤ w.heap.size + 1 + 1; omega) (.bool true)).setCell (p := ⟨w.heap.size + 1 + 1, 7, none⟩) (by show w.heap.size ≤ w.heap.size + 1 + 1; omega) (.int .i64 (8 * (o : Int))))
        clear HX HZ HB HR r5 r6 r7 r8 x5 g5 x6 g6 x7 g7
        generalize ((wc.setCell ⟨w.heap.size + 1 + 1, 6, none⟩ (.bool true)).setCell ⟨w.heap.size + 1 + 1, 7, none⟩ (.int .i64 (8 * (o : Int)))) = W2 at *
        rw [show ((m : Int) / 8 * 8) = ((m / 8 * 8 : Nat) : Int) from by omega]
        refine (payload_any s (m / 8 * 8) hs (by omega) _).mono ?_
        rintro e w3 ⟨⟨t, rfl, ht⟩, hb3⟩
        have hX3 := blk_below hX2 hb3 (blk_lt hX2)
        have hZ3 := blk_below hZ2 hb3 (blk_lt hZ2)
        have hB3 := hB2.trans (hb3.mono hB2.size)
        clear hX2 hZ2 hB2 hb3
        obtain ⟨x0, g0⟩ := blk_cell (k := 0) hX3 rfl
        obtain ⟨x1, g1⟩ := blk_cell (k := 1) hX3 rfl
        obtain ⟨x2, g2⟩ := blk_cell (k := 2) hX3 rfl
        obtain ⟨x3, g3⟩ := blk_cell (k := 3) hX3 rfl
        obtain ⟨x4, g4⟩ := blk_cell (k := 4) hX3 rfl
        obtain ⟨x5, g5⟩ := blk_cell (k := 5) hX3 rfl
        obtain ⟨x6, g6⟩ := blk_cell (k := 6) hX3 rfl
        obtain ⟨x7, g7⟩ := blk_cell (k := 7) hX3 rfl
        obtain ⟨x8, g8⟩ := blk_cell (k := 8) hX3 rfl
        obtain ⟨z0, f0⟩ := blk_cell (k := 0) hZ3 rfl
        obtain ⟨z1, f1⟩ := blk_cell (k := 1) hZ3 rfl
        obtain ⟨z2, f2⟩ := blk_cell (k := 2) hZ3 rfl
        obtain ⟨z3, f3⟩ := blk_cell (k := 3) hZ3 rfl
        obtain ⟨z4, f4⟩ := blk_cell (k := 4) hZ3 rfl
        obtain ⟨z5, f5⟩ := blk_cell (k := 5) hZ3 rfl
        obtain ⟨z6, f6⟩ := blk_cell (k := 6) hZ3 rfl
        obtain ⟨z7, f7⟩ := blk_cell (k := 7) hZ3 rfl
        obtain ⟨z8, f8⟩ := blk_cell (k := 8) hZ3 rfl
        simp only [List.getElem_toArray, List.getElem_cons_zero, List.getElem_cons_succ] at x0 z0 x1 z1 x2 z2 x3 z3 x4 z4 x5 z5 x6 z6 x7 z7 x8 z8
        clear g0 g1 g2 g3 g4 g5 g6 g7
        go_wp2
        have q1 := set9_res (blk_set hZ3 ⟨w.heap.size + 1 + 1, 8, none⟩ (by show w.heap.size + 1 + 1 ≠ w.heap.size + 1; omega) (.string t)) ⟨1 + v0, 1 + v1, v2, 1 + v3, v4, false, true, 8 * (o : Int), t⟩
        have q2 := set9_below (N := w.heap.size + 1) (hB3.setCell (p := ⟨w.heap.size + 1 + 1, 8, none⟩) (by show w.heap.size ≤ w.heap.size + 1 + 1; omega) (.string t)) (by omega) ⟨1 + v0, 1 + v1, v2, 1 + v3, v4, false, true, 8 * (o : Int), t⟩
        clear x0 z0 f0 x1 z1 f1 x2 z2 f2 x3 z3 f3 x4 z4 f4 x5 z5 f5 x6 z6 f6 x7 z7 f7 x8 z8 f8 g8
        have g0 := (blk_cell (k := 0) q1 rfl).1
        have g1 := (blk_cell (k := 1) q1 rfl).1
        have g2 := (blk_cell (k := 2) q1 rfl).1
        have g3 := (blk_cell (k := 3) q1 rfl).1
        have g4 := (blk_cell (k := 4) q1 rfl).1
        have g5 := (blk_cell (k := 5) q1 rfl).1
        have g6 := (blk_cell (k := 6) q1 rfl).1
        have g7 := (blk_cell (k := 7) q1 rfl).1
        have g8 := (blk_cell (k := 8) q1 rfl).1
        simp only [List.getElem_toArray, List.getElem_cons_zero, List.getElem_cons_succ] at g0 g1 g2 g3 g4 g5 g6 g7 g8
        refine bodyPost_ret (v := pv ⟨1 + v0, 1 + v1, v2, 1 + v3, v4, false, true, 8 * (o : Int), t⟩) (by simp [results, Tryd.results22, go_sem, g0, g1, g2, g3, g4, g5, g6, g7, g8]; try rfl) rfl ?_
        refine ⟨⟨⟨1 + v0, 1 + v1, v2, 1 + v3, v4, false, true, 8 * (o : Int), t⟩, rfl, ⟨hok.1, hok.2.1, hok.2.2, ?_, ?_⟩, ?_⟩, q2⟩
        · unfold okP; simp only; omega
        · first | exact .inl ⟨rfl, rfl⟩ | exact .inr ⟨rfl, by (simp only; omega), .inr rfl⟩ | exact .inr ⟨rfl, by (simp only; omega), .inl (by (simp only; omega))⟩
        · simp only; omega
    · rw [hf]
      go_wp2_with fail
      refine (pick_any off 400 _ po' qo (by decide) (by decide)).mono ?_
      rintro e w' ⟨rfl, rfl⟩
      rw [ho]
      go_wp2_with fail
      · have hX2 : (wc.setCell ⟨w.heap.size + 1 + 1, 7, none⟩ (.int .i64 (8 * (o : Int)))).heap[w.heap.size + 1 + 1]? = some (po ⟨1 + v0, 1 + v1, v2, 1 + v3, v4, false, false, 8 * (o : Int), ⟨#[]⟩⟩) := (blk_setc (k := 7) HX.out (.int .i64 (8 * (o : Int))))
        have hZ2 : (wc.setCell ⟨w.heap.size + 1 + 1, 7, none⟩ (.int .i64 (8 * (o : Int)))).heap[w.heap.size + 1]? = some (po pz) := (blk_set HZ.out ⟨w.heap.size + 1 + 1, 7, none⟩ (by show w.heap.size + 1 + 1 ≠ w.heap.size + 1; omega) (.int .i64 (8 * (o : Int))))
        have hB2 : Below w.heap.size w (wc.setCell ⟨w.heap.size + 1 + 1, 7, none⟩ (.int .i64 (8 * (o : Int)))) := (HB.out.setCell (p := ⟨w.heap.size + 1 + 1, 7, none⟩) (by show w.heap.size ≤ w.heap.size + 1 + 1; omega) (.int .i64 (8 * (o : Int))))
        clear HX HZ HB HR r5 r6 r7 r8 x5 g5 x6 g6 x7 g7
        generalize (wc.setCell ⟨w.heap.size + 1 + 1, 7, none⟩ (.int .i64 (8 * (o : Int)))) = W2 at *
        refine (payload_any s 1 hs (by omega) _).mono ?_
        rintro e w3 ⟨⟨t, rfl, ht⟩, hb3⟩
        have hX3 := blk_below hX2 hb3 (blk_lt hX2)
        have hZ3 := blk_below hZ2 hb3 (blk_lt hZ2)
        have hB3 := hB2.trans (hb3.mono hB2.size)
        clear hX2 hZ2 hB2 hb3
        obtain ⟨x0, g0⟩ := blk_cell (k := 0) hX3 rfl
        obtain ⟨x1, g1⟩ := blk_cell (k := 1) hX3 rfl
        obtain ⟨x2, g2⟩ := blk_cell (k := 2) hX3 rfl
        obtain ⟨x3, g3⟩ := blk_cell (k := 3) hX3 rfl
        obtain ⟨x4, g4⟩ := blk_cell (k := 4) hX3 rfl
        obtain ⟨x5, g5⟩ := blk_cell (k := 5) hX3 rfl
        obtain ⟨x6, g6⟩ := blk_cell (k := 6) hX3 rfl
        obtain ⟨x7, g7⟩ := blk_cell (k := 7) hX3 rfl
        obtain ⟨x8, g8⟩ := blk_cell (k := 8) hX3 rfl
        obtain ⟨z0, f0⟩ := blk_cell (k := 0) hZ3 rfl
        obtain ⟨z1, f1⟩ := blk_cell (k := 1) hZ3 rfl
        obtain ⟨z2, f2⟩ := blk_cell (k := 2) hZ3 rfl
        obtain ⟨z3, f3⟩ := blk_cell (k := 3) hZ3 rfl
        obtain ⟨z4, f4⟩ := blk_cell (k := 4) hZ3 rfl
        obtain ⟨z5, f5⟩ := blk_cell (k := 5) hZ3 rfl
        obtain ⟨z6, f6⟩ := blk_cell (k := 6) hZ3 rfl
        obtain ⟨z7, f7⟩ := blk_cell (k := 7) hZ3 rfl
        obtain ⟨z8, f8⟩ := blk_cell (k := 8) hZ3 rfl
        simp only [List.getElem_toArray, List.getElem_cons_zero, List.getElem_cons_succ] at x0 z0 x1 z1 x2 z2 x3 z3 x4 z4 x5 z5 x6 z6 x7 z7 x8 z8
        clear g0 g1 g2 g3 g4 g5 g6 g7
        go_wp2
        have q1 := set9_res (blk_set hZ3 ⟨w.heap.size + 1 + 1, 8, none⟩ (by show w.heap.size + 1 + 1 ≠ w.heap.size + 1; omega) (.string t)) ⟨1 + v0, 1 + v1, v2, 1 + v3, v4, false, false, 8 * (o : Int), t⟩
        have q2 := set9_below (N := w.heap.size + 1) (hB3.setCell (p := ⟨w.heap.size + 1 + 1, 8, none⟩) (by show w.heap.size ≤ w.heap.size + 1 + 1; omega) (.string t)) (by omega) ⟨1 + v0, 1 + v1, v2, 1 + v3, v4, false, false, 8 * (o : Int), t⟩
        clear x0 z0 f0 x1 z1 f1 x2 z2 f2 x3 z3 f3 x4 z4 f4 x5 z5 f5 x6 z6 f6 x7 z7 f7 x8 z8 f8 g8
        have g0 := (blk_cell (k := 0) q1 rfl).1
        have g1 := (blk_cell (k := 1) q1 rfl).1
        have g2 := (blk_cell (k := 2) q1 rfl).1
        have g3 := (blk_cell (k := 3) q1 rfl).1
        have g4 := (blk_cell (k := 4) q1 rfl).1
        have g5 := (blk_cell (k := 5) q1 rfl).1
        have g6 := (blk_cell (k := 6) q1 rfl).1
        have g7 := (blk_cell (k := 7) q1 rfl).1
        have g8 := (blk_cell (k := 8) q1 rfl).1
        simp only [List.getElem_toArray, List.getElem_cons_zero, List.getElem_cons_succ] at g0 g1 g2 g3 g4 g5 g6 g7 g8
        refine bodyPost_ret (v := pv ⟨1 + v0, 1 + v1, v2, 1 + v3, v4, false, false, 8 * (o : Int), t⟩) (by simp [results, Tryd.results22, go_sem, g0, g1, g2, g3, g4, g5, g6, g7, g8]; try rfl) rfl ?_
        refine ⟨⟨⟨1 + v0, 1 + v1, v2, 1 + v3, v4, false, false, 8 * (o : Int), t⟩, rfl, ⟨hok.1, hok.2.1, hok.2.2, ?_, ?_⟩, ?_⟩, q2⟩
        · unfold okP; simp only; omega
        · first | exact .inl ⟨rfl, rfl⟩ | exact .inr ⟨rfl, by (simp only; omega), .inr rfl⟩ | exact .inr ⟨rfl, by (simp only; omega), .inl (by (simp only; omega))⟩
        · simp only; omega
      · have hX2 : (wc.setCell ⟨w.heap.size + 1 + 1, 7, none⟩ (.int .i64 (8 * (o : Int)))).heap[w.heap.size + 1 + 1]? = some (po ⟨1 + v0, 1 + v1, v2, 1 + v3, v4, false, false, 8 * (o : Int), ⟨#[]⟩⟩) := (blk_setc (k := 7) HX.out (.int .i64 (8 * (o : Int))))
        have hZ2 : (wc.setCell ⟨w.heap.size + 1 + 1, 7, none⟩ (.int .i64 (8 * (o : Int)))).heap[w.heap.size + 1]? = some (po pz) := (blk_set HZ.out ⟨w.heap.size + 1 + 1, 7, none⟩ (by show w.heap.size + 1 + 1 ≠ w.heap.size + 1; omega) (.int .i64 (8 * (o : Int))))
        have hB2 : Below w.heap.size w (wc.setCell ⟨w.heap.size + 1 + 1, 7, none⟩ (.int .i64 (8 * (o : Int)))) := (HB.out.setCell (p := ⟨w.heap.size + 1 + 1, 7, none⟩) (by show w.heap.size ≤ w.heap.size + 1 + 1; omega) (.int .i64 (8 * (o : Int))))
        clear HX HZ HB HR r5 r6 r7 r8 x5 g5 x6 g6 x7 g7
        generalize (wc.setCell ⟨w.heap.size + 1 + 1, 7, none⟩ (.int .i64 (8 * (o : Int)))) = W2 at *
        refine (payload_any s m hs (by omega) _).mono ?_
        rintro e w3 ⟨⟨t, rfl, ht⟩, hb3⟩
        have hX3 := blk_below hX2 hb3 (blk_lt hX2)
        have hZ3 := blk_below hZ2 hb3 (blk_lt hZ2)
        have hB3 := hB2.trans (hb3.mono hB2.size)
        clear hX2 hZ2 hB2 hb3
        obtain ⟨x0, g0⟩ := blk_cell (k := 0) hX3 rfl
        obtain ⟨x1, g1⟩ := blk_cell (k := 1) hX3 rfl
        obtain ⟨x2, g2⟩ := blk_cell (k := 2) hX3 rfl
        obtain ⟨x3, g3⟩ := blk_cell (k := 3) hX3 rfl
        obtain ⟨x4, g4⟩ := blk_cell (k := 4) hX3 rfl
        obtain ⟨x5, g5⟩ := blk_cell (k := 5) hX3 rfl
        obtain ⟨x6, g6⟩ := blk_cell (k := 6) hX3 rfl
        obtain ⟨x7, g7⟩ := blk_cell (k := 7) hX3 rfl
        obtain ⟨x8, g8⟩ := blk_cell (k := 8) hX3 rfl
        obtain ⟨z0, f0⟩ := blk_cell (k := 0) hZ3 rfl
        obtain ⟨z1, f1⟩ := blk_cell (k := 1) hZ3 rfl
        obtain ⟨z2, f2⟩ := blk_cell (k := 2) hZ3 rfl
        obtain ⟨z3, f3⟩ := blk_cell (k := 3) hZ3 rfl
        obtain ⟨z4, f4⟩ := blk_cell (k := 4) hZ3 rfl
        obtain ⟨z5, f5⟩ := blk_cell (k := 5) hZ3 rfl
        obtain ⟨z6, f6⟩ := blk_cell (k := 6) hZ3 rfl
        obtain ⟨z7, f7⟩ := blk_cell (k := 7) hZ3 rfl
        obtain ⟨z8, f8⟩ := blk_cell (k := 8) hZ3 rfl
        simp only [List.getElem_toArray, List.getElem_cons_zero, List.getElem_cons_succ] at x0 z0 x1 z1 x2 z2 x3 z3 x4 z4 x5 z5 x6 z6 x7 z7 x8 z8
        clear g0 g1 g2 g3 g4 g5 g6 g7
        go_wp2
        have q1 := set9_res (blk_set hZ3 ⟨w.heap.size + 1 + 1, 8, none⟩ (by show w.heap.size + 1 + 1 ≠ w.heap.size + 1; omega) (.string t)) ⟨1 + v0, 1 + v1, v2, 1 + v3, v4, false, false, 8 * (o : Int), t⟩
        have q2 := set9_below (N := w.heap.size + 1) (hB3.setCell (p := ⟨w.heap.size + 1 + 1, 8, none⟩) (by show w.heap.size ≤ w.heap.size + 1 + 1; omega) (.string t)) (by omega) ⟨1 + v0, 1 + v1, v2, 1 + v3, v4, false, false, 8 * (o : Int), t⟩
        clear x0 z0 f0 x1 z1 f1 x2 z2 f2 x3 z3 f3 x4 z4 f4 x5 z5 f5 x6 z6 f6 x7 z7 f7 x8 z8 f8 g8
        have g0 := (blk_cell (k := 0) q1 rfl).1
        have g1 := (blk_cell (k := 1) q1 rfl).1
        have g2 := (blk_cell (k := 2) q1 rfl).1
        have g3 := (blk_cell (k := 3) q1 rfl).1
        have g4 := (blk_cell (k := 4) q1 rfl).1
        have g5 := (blk_cell (k := 5) q1 rfl).1
        have g6 := (blk_cell (k := 6) q1 rfl).1
        have g7 := (blk_cell (k := 7) q1 rfl).1
        have g8 := (blk_cell (k := 8) q1 rfl).1
        simp only [List.getElem_toArray, List.getElem_cons_zero, List.getElem_cons_succ] at g0 g1 g2 g3 g4 g5 g6 g7 g8
        refine bodyPost_ret (v := pv ⟨1 + v0, 1 + v1, v2, 1 + v3, v4, false, false, 8 * (o : Int), t⟩) (by simp [results, Tryd.results22, go_sem, g0, g1, g2, g3, g4, g5, g6, g7, g8]; try rfl) rfl ?_
        refine ⟨⟨⟨1 + v0, 1 + v1, v2, 1 + v3, v4, false, false, 8 * (o : Int), t⟩, rfl, ⟨hok.1, hok.2.1, hok.2.2, ?_, ?_⟩, ?_⟩, q2⟩
        · unfold okP; simp only; omega
        · first | exact .inl ⟨rfl, rfl⟩ | exact .inr ⟨rfl, by (simp only; omega), .inr rfl⟩ | exact .inr ⟨rfl, by (simp only; omega), .inl (by (simp only; omega))⟩
        · simp only; omega
end Go.Proofs.YtidjbpglpobigaaDoor
