/- Contract of the statements' own Routes: what it builds are good routes. -/
import Derived.Test.YtgfcpimklmgnbaaRoJ
namespace Go.Proofs.Ytgfcpimklmgnbaa
open Go.RowKit Go.Shelf
set_option linter.unusedVariables false
attribute [local go_sem] Oper.semAt_some

/-- raw routes handed in -/
structure Rr where
  a : Int
  b : Int
  v : Int
  f : Int
def InRr (x : Rr) : Prop := InI x.a ∧ InI x.b ∧ InI x.v ∧ InI x.f
abbrev rrc (x : Rr) : List Value := [.int .i64 x.a, .int .i64 x.b, .int .i64 x.v, .int .i64 x.f]
def RrIn (W : World) (v : Value) (xs : List Rr) : Prop := ((v = .slice none 0 0 ∧ xs = []) ∨ ∃ (a : Addr) (cap : Nat), v = .slice (some a) xs.length cap ∧ ∀ (i : Nat) (h : i < xs.length) (j : Nat) (hj : j < 4), W.cell? ((a.add (i * 4)).add j) = (rrc xs[i])[j]?) ∧ (∀ x ∈ xs, InRr x) ∧ xs.length ≤ maxLen
theorem RrIn.form {W : World} {v : Value} {xs : List Rr} (h : RrIn W v xs) : ∃ p c, v = .slice p xs.length c ∧ xs.length ≤ maxLen := by
  obtain ⟨h1, h2, h3⟩ := h
  rcases h1 with ⟨rfl, rfl⟩ | ⟨a, c, rfl, _⟩
  · exact ⟨_, _, rfl, h3⟩
  · exact ⟨_, _, rfl, h3⟩
theorem RrIn.keep {w w' : World} {v : Value} {xs : List Rr} (h : RrIn w v xs) (hb : Below w.heap.size w w') : RrIn w' v xs := by
  obtain ⟨h1, h2, h3⟩ := h
  refine ⟨?_, h2, h3⟩
  rcases h1 with h1 | ⟨a, c, e, h1⟩
  · exact .inl h1
  · refine .inr ⟨a, c, e, fun i hi j hj => ?_⟩
    have h5 := h1 i hi j hj
    rw [List.getElem?_eq_getElem (by simpa using hj)] at h5 ⊢
    exact (hb.cell (World.block_lt_of_cell? _ _ h5)).trans h5
theorem RrIn.at {w : World} {p : Option Addr} {n c : Nat} {xs : List Rr} (h : RrIn w (.slice p n c) xs) (k : Nat) (hk : k < n) :
    ∃ x, InRr x ∧ ∃ a, p = some a ∧ w.cell? (a.add (k * 4)) = some (.int .i64 x.a) ∧ w.cell? ⟨(a.add (k * 4)).block, (a.add (k * 4)).off + 1, none⟩ = some (.int .i64 x.b) ∧ w.cell? ⟨(a.add (k * 4)).block, (a.add (k * 4)).off + 2, none⟩ = some (.int .i64 x.v) ∧ w.cell? ⟨(a.add (k * 4)).block, (a.add (k * 4)).off + 3, none⟩ = some (.int .i64 x.f) := by
  obtain ⟨h1, h2, h3⟩ := h
  rcases h1 with ⟨h1, -⟩ | ⟨a, c', e, h1⟩
  · cases h1; omega
  · cases e
    exact ⟨xs[k], h2 _ (List.getElem_mem hk), a, rfl, h1 k hk 0 (by decide), h1 k hk 1 (by decide), h1 k hk 2 (by decide), h1 k hk 3 (by decide)⟩

theorem netZ_mod {a b : Int} (ha : 0 ≤ a) (hb : okB b) : netZ a b % szZ b = 0 := by
  have h := sz_bd b (okB_bd hb).1 (okB_bd hb).2
  have e : netZ a b = szZ b * (a / szZ b) := by
    have := Int.mul_ediv_add_emod a (szZ b)
    unfold netZ; omega
  rw [e]; exact Int.mul_emod_right _ _
theorem vpZ_net {a b : Int} (ha : 0 ≤ a) (ha2 : a ≤ 4294967295) (hb : okB b) : vpZ (netZ a b) b = true := by
  have h1 := netZ_bd ha hb
  have h2 := okB_bd hb
  rw [vpZ_in h1.1 (by omega) h2.1 h2.2, netZ_mod ha hb]; rfl
theorem contZ_net {a b q : Int} (ha : 0 ≤ a) (ha2 : a ≤ 184549375) (hb : okB b) (hq : 0 ≤ q) (hq2 : q < szZ b) (hq3 : q ≤ 16777216) : contZ (netZ a b) b (netZ a b + q) = true := by
  have h1 := netZ_bd ha hb
  unfold contZ
  rw [vpZ_net ha (by omega) hb]
  have hm : (netZ a b + q) % szZ b = q := by
    rw [Int.add_emod, netZ_mod ha hb, Int.zero_add, Int.emod_emod, Int.emod_eq_of_lt hq hq2]
  rw [hm]
  simp only [validZ, Bool.true_and, Bool.and_eq_true, decide_eq_true_eq, beq_iff_eq]
  omega
theorem GoodF.addr_bd {i : Nat} {f : Fc} (h : GoodF i f) (hi : i < 4) : 167772160 ≤ f.addr ∧ f.addr ≤ 184549375 := by
  obtain ⟨⟨p1, p2, p3, h1, h2, h3, h4, h5, h6, h7⟩, -⟩ := h
  omega

/-- a route as Routes builds it -/
def GoodR (fs : List Fc) (r : Ro) : Prop := okR fs r = true ∧ 0 ≤ r.na ∧ r.na ≤ 184549375 ∧ InR r
def GoodRs (fs : List Fc) (rs : List Ro) : Prop := rs.length ≤ 8 ∧ ∀ r, r ∈ rs → GoodR fs r
theorem GoodRs.snoc {fs : List Fc} {rs : List Ro} {k : Nat} {r : Ro} (h : GoodRs fs rs) (hk : rs.length = k) (hk8 : k < 8) (hr : GoodR fs r) : GoodRs fs (rs ++ [r]) := by
  refine ⟨by simp; omega, fun x hx => ?_⟩
  rcases List.mem_append.1 hx with hx | hx
  · exact h.2 x hx
  · obtain rfl : x = r := by simpa using hx
    exact hr
theorem GoodRs.nil {fs : List Fc} : GoodRs fs [] := ⟨by simp, fun r h => by simp at h⟩
theorem good_route {fs : List Fc} {fi : Nat} {f : Fc} {P NB via : Int} (hg : GoodFs fs) (hf : fs[fi]? = some f) (hP : 167772160 ≤ P) (hP2 : P ≤ 184549375) (hB : okB NB)
    (hv : via = 0 ∨ ∃ q, 0 ≤ q ∧ q < szZ f.nb ∧ q ≤ 16777216 ∧ via = f.na + q ∧ locB fs via = false) : GoodR fs ⟨netZ P NB, NB, via, (fi : Int)⟩ := by
  have hl := (List.getElem?_eq_some_iff.1 hf).1
  have hgf := hg.2 fi f hf
  have hb := netZ_bd (a := P) (by omega) hB
  have hbb := okB_bd hB
  have ha := hgf.addr_bd (by have := hg.1; omega)
  obtain ⟨-, -, -, hnb, hna, -, -⟩ := hgf
  have hokb : okB f.nb := by unfold okB; omega
  have hna2 := netZ_bd (a := f.addr) (by omega) hokb
  rw [← hna] at hna2
  refine ⟨?_, hb.1, by show netZ P NB ≤ _; omega, ⟨⟨by show _ ≤ netZ P NB; omega, by show netZ P NB ≤ _; omega⟩, ⟨by show _ ≤ NB; omega, by show NB ≤ _; omega⟩, ?_, ⟨by show _ ≤ (fi : Int); omega, by show (fi : Int) ≤ _; have := hg.1; omega⟩⟩⟩
  · rw [okR_in (vpZ_net (by omega) (by omega) hB) (by show (0 : Int) ≤ (fi : Int); omega) (by show (fi : Int) < _; omega)]
    unfold okVia
    rw [netOf_at hf]
    rcases hv with rfl | ⟨q, h1, h2, h3, rfl, h4⟩
    · rfl
    · have hc := contZ_net (a := f.addr) (b := f.nb) (q := q) (by omega) (by omega) hokb h1 h2 h3
      rw [← hna] at hc
      simp only [hc, h4]
      have : uni (f.na + q) = true := by
        have h8 : szZ f.nb ≤ 16777216 := by
          rcases hnb with e | e | e | e <;> (rw [e]; decide)
        have h9 : 167772160 ≤ f.na := by
          rw [hna]; unfold netZ
          rcases hnb with e | e | e | e
          · rw [e, show szZ 8 = 16777216 from by decide]; omega
          · rw [e, show szZ 16 = 65536 from by decide]; omega
          · rw [e, show szZ 24 = 256 from by decide]; omega
          · rw [e, show szZ 28 = 16 from by decide]; omega
        simp only [uni, Bool.and_eq_true, decide_eq_true_eq]; omega
      simp [this]
  · rcases hv with rfl | ⟨q, h1, h2, h3, rfl, h4⟩
    · exact ⟨by show (-9223372036854775808 : Int) ≤ 0; decide, by show (0 : Int) ≤ 9223372036854775807; decide⟩
    · exact ⟨by show _ ≤ f.na + q; omega, by show f.na + q ≤ _; omega⟩

theorem rr_first {W : World} {X : Nat} {a b m f : Int} {t : TypeId} (h : W.heap[X]? = some (.cells #[.int .i64 a, .int .i64 b, .int .i64 m, .int .i64 f] t (0, 0))) : W.cell? ⟨X, 0, none⟩ = some (.int .i64 a) ∧ W.cell? ⟨X, 1, none⟩ = some (.int .i64 b) ∧ W.cell? ⟨X, 2, none⟩ = some (.int .i64 m) ∧ W.cell? ⟨X, 3, none⟩ = some (.int .i64 f) := by
  obtain ⟨c0, -⟩ := blk_cell (k := 0) h rfl
  obtain ⟨c1, -⟩ := blk_cell (k := 1) h rfl
  obtain ⟨c2, -⟩ := blk_cell (k := 2) h rfl
  obtain ⟨c3, -⟩ := blk_cell (k := 3) h rfl
  exact ⟨c0, c1, c2, c3⟩
def litR (j : Nat) : Int := match j with | 0 => 0 | 1 => 7 | 2 => 8 | 3 => 13 | 4 => 16 | 5 => 23 | 6 => 24 | _ => 32
abbrev oLit8 : Obj := .cells #[.int .i64 0, .int .i64 7, .int .i64 8, .int .i64 13, .int .i64 16, .int .i64 23, .int .i64 24, .int .i64 32] 3
theorem litR_at (W : World) (j : Nat) (h : j < 8) : (W.alloc oLit8).cell? ⟨W.heap.size, j, none⟩ = some (.int .i64 (litR j)) := by
  rcases (by omega : j = 0 ∨ j = 1 ∨ j = 2 ∨ j = 3 ∨ j = 4 ∨ j = 5 ∨ j = 6 ∨ j = 7) with rfl | rfl | rfl | rfl | rfl | rfl | rfl | rfl <;> simp [litR]
theorem litR_ok (j : Nat) : okB (litR j) := by
  unfold litR okB; split <;> simp
/-- the state with the route's own box -/
structure RzSt (w : World) (X : Nat) (ox : Obj) (k : Nat) (v : Value) (xs : List Value) (Z : Nat) (r : Ro) (W : World) : Prop where
  st : RwSt w X ox 29 4 k v xs W
  z : W.heap[Z]? = some (ro r)
  zx : Z ≠ X
  zv : v.ownBlock ≠ some Z
  lo : w.heap.size ≤ Z
theorem RzSt.below {w : World} {X : Nat} {ox : Obj} {k : Nat} {v : Value} {xs : List Value} {Z : Nat} {r : Ro} {W W' : World} (h : RzSt w X ox k v xs Z r W) (hb : Below W.heap.size W W') : RzSt w X ox k v xs Z r W' :=
  ⟨h.st.below hb, blk_below h.z hb (blk_lt h.z), h.zx, h.zv, h.lo⟩
theorem RzSt.made {w : World} {X : Nat} {ox : Obj} {k : Nat} {v : Value} {xs : List Value} {W : World} (h : RwSt w X ox 29 4 k v xs W) : RzSt w X ox k v xs W.heap.size rz (W.alloc (ro rz)) :=
  ⟨h.below (below_alloc W _), blk_new W _, fun e => by have := blk_lt h.x; omega, fun e => by obtain ⟨-, cur, hc⟩ := row_cells h.row e; have := blk_lt hc; omega, h.be.size⟩
theorem RwSt.set {w : World} {X : Nat} {ox : Obj} {t : TypeId} {size k : Nat} {v : Value} {xs : List Value} {W : World} (h : RwSt w X ox t size k v xs W) {Z : Nat} (hx : Z ≠ X) (hv : v.ownBlock ≠ some Z) (hl : w.heap.size ≤ Z) (j : Nat) (u : Value) : RwSt w X ox t size k v xs (W.setCell ⟨Z, j, none⟩ u) :=
  ⟨h.be.setCell hl _, blk_set h.x _ hx _, row_of_block h.row (fun g e => Below.heap_setCell _ _ _ _ (by show g ≠ Z; intro e'; subst e'; exact hv e)), h.ne⟩
theorem RzSt.put {w : World} {X : Nat} {ox : Obj} {k : Nat} {v : Value} {xs : List Value} {Z : Nat} {q : Ro} {W : World} (h : RzSt w X ox k v xs Z q W) (r : Ro) :
    RzSt w X ox k v xs Z r ((((W.setCell ⟨Z, 0, none⟩ (.int .i64 r.na)).setCell ⟨Z, 1, none⟩ (.int .i64 r.nb)).setCell ⟨Z, 2, none⟩ (.int .i64 r.via)).setCell ⟨Z, 3, none⟩ (.int .i64 r.face)) :=
  ⟨(((h.st.set h.zx h.zv h.lo _ _).set h.zx h.zv h.lo _ _).set h.zx h.zv h.lo _ _).set h.zx h.zv h.lo _ _, blk_setc (k := 3) (blk_setc (k := 2) (blk_setc (k := 1) (blk_setc (k := 0) h.z _) _) _) _, h.zx, h.zv, h.lo⟩
theorem RzSt.via {w : World} {X : Nat} {ox : Obj} {k : Nat} {v : Value} {xs : List Value} {Z : Nat} {q : Ro} {W : World} (h : RzSt w X ox k v xs Z q W) (x : Int) : RzSt w X ox k v xs Z { q with via := x } (W.setCell ⟨Z, 2, none⟩ (.int .i64 x)) :=
  ⟨h.st.set h.zx h.zv h.lo _ _, blk_setc (k := 2) h.z _, h.zx, h.zv, h.lo⟩
theorem RzSt.drawN {w : World} {X : Nat} {ox : Obj} {k : Nat} {v : Value} {xs : List Value} {Z : Nat} {q : Ro} {W : World} (h : RzSt w X ox k v xs Z q W) (n : Nat) : RzSt w X ox k v xs Z q (W.drewN n) := ⟨h.st.drawN n, h.z, h.zx, h.zv, h.lo⟩
theorem rz_cells {w : World} {X : Nat} {ox : Obj} {k : Nat} {v : Value} {xs : List Value} {Z : Nat} {q : Ro} {W : World} (h : RzSt w X ox k v xs Z q W) :
    W.cell? ⟨Z, 0, none⟩ = some (.int .i64 q.na) ∧ W.cell? ⟨Z, 1, none⟩ = some (.int .i64 q.nb) ∧ W.cell? ⟨Z, 2, none⟩ = some (.int .i64 q.via) ∧ W.cell? ⟨Z, 3, none⟩ = some (.int .i64 q.face) ∧ W.frozen? ⟨Z, 0, none⟩ = false ∧ W.frozen? ⟨Z, 1, none⟩ = false ∧ W.frozen? ⟨Z, 2, none⟩ = false ∧ W.frozen? ⟨Z, 3, none⟩ = false := by
  obtain ⟨c0, f0⟩ := blk_cell (k := 0) h.z rfl
  obtain ⟨c1, f1⟩ := blk_cell (k := 1) h.z rfl
  obtain ⟨c2, f2⟩ := blk_cell (k := 2) h.z rfl
  obtain ⟨c3, f3⟩ := blk_cell (k := 3) h.z rfl
  exact ⟨c0, c1, c2, c3, f0, f1, f2, f3⟩

end Go.Proofs.Ytgfcpimklmgnbaa
