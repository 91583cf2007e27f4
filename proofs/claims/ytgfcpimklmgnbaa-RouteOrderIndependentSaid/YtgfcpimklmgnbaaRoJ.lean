/- Contract of the statements' own Faces: what it builds are good interfaces. -/
import Derived.Test.YtgfcpimklmgnbaaRoI
import Derived.Deep.AppendLies
import Derived.Deep.Onto
import Derived.Laws.OwnMore
import Derived.Maps.OwnIn
import Derived.Deep.OwnRows
namespace Go.Proofs.Ytgfcpimklmgnbaa
open Go.RowKit Go.Shelf
set_option linter.unusedVariables false
attribute [local go_sem] Oper.semAt_some

theorem infoF : (Try.prog.info? 27).map (fun i => (i.zero, i.size, i.bytes)) = some (some (.agg #[.int .i64 0, .int .i64 0, .int .i64 0, .int .i64 0, .int .i64 0]), 5, 40) := by kernel_rfl
theorem infoR : (Try.prog.info? 29).map (fun i => (i.zero, i.size, i.bytes)) = some (some (.agg #[.int .i64 0, .int .i64 0, .int .i64 0, .int .i64 0]), 4, 32) := by kernel_rfl
def flatF (l : List Fc) : List Value := l.flatMap fcl
def flatR (l : List Ro) : List Value := l.flatMap rcl
theorem flatF_snoc (l : List Fc) (f : Fc) : flatF (l ++ [f]) = flatF l ++ fcl f := by simp [flatF]
theorem flatR_snoc (l : List Ro) (f : Ro) : flatR (l ++ [f]) = flatR l ++ rcl f := by simp [flatR]
theorem flatF_get (l : List Fc) (k : Nat) (h : k < l.length) (j : Nat) (hj : j < 5) : (flatF l)[k * 5 + j]? = (fcl l[k])[j]? := by
  induction l generalizing k with
  | nil => simp at h
  | cons a r ih =>
    simp only [flatF, List.flatMap_cons] at ih ⊢
    cases k with
    | zero => rw [Nat.zero_mul, Nat.zero_add, List.getElem?_append_left (by simp; omega)]; rfl
    | succ k =>
      rw [List.getElem?_append_right (by simp; omega), show (k + 1) * 5 + j - (fcl a).length = k * 5 + j by simp; omega, ih k (by simpa using h)]
      rfl
theorem flatR_get (l : List Ro) (k : Nat) (h : k < l.length) (j : Nat) (hj : j < 4) : (flatR l)[k * 4 + j]? = (rcl l[k])[j]? := by
  induction l generalizing k with
  | nil => simp at h
  | cons a r ih =>
    simp only [flatR, List.flatMap_cons] at ih ⊢
    cases k with
    | zero => rw [Nat.zero_mul, Nat.zero_add, List.getElem?_append_left (by simp; omega)]; rfl
    | succ k =>
      rw [List.getElem?_append_right (by simp; omega), show (k + 1) * 4 + j - (rcl a).length = k * 4 + j by simp; omega, ih k (by simpa using h)]
      rfl
theorem flatF_len (l : List Fc) : (flatF l).length = 5 * l.length := by
  induction l with
  | nil => rfl
  | cons a r ih => simp only [flatF, List.flatMap_cons, List.length_append] at ih ⊢; simp [ih]; omega
theorem flatR_len (l : List Ro) : (flatR l).length = 4 * l.length := by
  induction l with
  | nil => rfl
  | cons a r ih => simp only [flatR, List.flatMap_cons, List.length_append] at ih ⊢; simp [ih]; omega
/-- a row of one's own reads as interfaces -/
theorem FsAt.of_row {w : World} {base n : Nat} {v : Value} {fs : List Fc} (h : w.ownsRow base 27 5 v n (flatF fs)) (hn : fs.length = n) (hl : n ≤ 1000) (hin : ∀ f, f ∈ fs → InF f) : FsAt w v fs := by
  subst hn
  obtain ⟨p, c, hv⟩ : ∃ p c, v = .slice p fs.length c := by
    rcases h.2 with ⟨rfl, h2⟩ | ⟨g, cap, cur, rfl, _⟩
    · exact ⟨_, _, by rw [h2]⟩
    · exact ⟨_, _, rfl⟩
  refine ⟨hl, p, c, hv, fun k hk => ⟨hin _ (List.getElem_mem hk), ?_⟩⟩
  rcases h.2 with ⟨h1, h2⟩ | ⟨g, cap, cur, h1, -⟩
  · omega
  · rw [h1] at hv h
    cases hv
    refine ⟨g, rfl, fun j hj => ?_⟩
    rw [h.cellAt (k * 5 + j) (by omega), flatF_get fs k hk j hj]
theorem RsAt.of_row {w : World} {base n : Nat} {v : Value} {rs : List Ro} (h : w.ownsRow base 29 4 v n (flatR rs)) (hn : rs.length = n) (hl : n ≤ 1000) (hin : ∀ f, f ∈ rs → InR f) : RsAt w v rs := by
  subst hn
  obtain ⟨p, c, hv⟩ : ∃ p c, v = .slice p rs.length c := by
    rcases h.2 with ⟨rfl, h2⟩ | ⟨g, cap, cur, rfl, _⟩
    · exact ⟨_, _, by rw [h2]⟩
    · exact ⟨_, _, rfl⟩
  refine ⟨hl, p, c, hv, fun k hk => ⟨hin _ (List.getElem_mem hk), ?_⟩⟩
  rcases h.2 with ⟨h1, h2⟩ | ⟨g, cap, cur, h1, -⟩
  · omega
  · rw [h1] at hv h
    cases hv
    refine ⟨g, rfl, fun j hj => ?_⟩
    rw [h.cellAt (k * 4 + j) (by omega), flatR_get rs k hk j hj]

/-- raw interfaces handed in -/
structure Fr where
  a : Int
  b : Int
  m : Int
def InFr (x : Fr) : Prop := InI x.a ∧ InI x.b ∧ InI x.m
abbrev frc (x : Fr) : List Value := [.int .i64 x.a, .int .i64 x.b, .int .i64 x.m]
def FrIn (W : World) (v : Value) (xs : List Fr) : Prop := ((v = .slice none 0 0 ∧ xs = []) ∨ ∃ (a : Addr) (cap : Nat), v = .slice (some a) xs.length cap ∧ ∀ (i : Nat) (h : i < xs.length) (j : Nat) (hj : j < 3), W.cell? ((a.add (i * 3)).add j) = (frc xs[i])[j]?) ∧ (∀ x ∈ xs, InFr x) ∧ xs.length ≤ maxLen
theorem FrIn.form {W : World} {v : Value} {xs : List Fr} (h : FrIn W v xs) : ∃ p c, v = .slice p xs.length c ∧ xs.length ≤ maxLen := by
  obtain ⟨h1, h2, h3⟩ := h
  rcases h1 with ⟨rfl, rfl⟩ | ⟨a, c, rfl, _⟩
  · exact ⟨_, _, rfl, h3⟩
  · exact ⟨_, _, rfl, h3⟩
theorem FrIn.keep {w w' : World} {v : Value} {xs : List Fr} (h : FrIn w v xs) (hb : Below w.heap.size w w') : FrIn w' v xs := by
  obtain ⟨h1, h2, h3⟩ := h
  refine ⟨?_, h2, h3⟩
  rcases h1 with h1 | ⟨a, c, e, h1⟩
  · exact .inl h1
  · refine .inr ⟨a, c, e, fun i hi j hj => ?_⟩
    have h5 := h1 i hi j hj
    rw [List.getElem?_eq_getElem (by simpa using hj)] at h5 ⊢
    exact (hb.cell (World.block_lt_of_cell? _ _ h5)).trans h5
theorem FrIn.at {w : World} {p : Option Addr} {n c : Nat} {xs : List Fr} (h : FrIn w (.slice p n c) xs) (k : Nat) (hk : k < n) :
    ∃ x, InFr x ∧ ∃ a, p = some a ∧ w.cell? (a.add (k * 3)) = some (.int .i64 x.a) ∧ w.cell? ⟨(a.add (k * 3)).block, (a.add (k * 3)).off + 1, none⟩ = some (.int .i64 x.b) ∧ w.cell? ⟨(a.add (k * 3)).block, (a.add (k * 3)).off + 2, none⟩ = some (.int .i64 x.m) := by
  obtain ⟨h1, h2, h3⟩ := h
  rcases h1 with ⟨h1, -⟩ | ⟨a, c', e, h1⟩
  · cases h1; omega
  · cases e
    exact ⟨xs[k], h2 _ (List.getElem_mem hk), a, rfl, h1 k hk 0 (by decide), h1 k hk 1 (by decide), h1 k hk 2 (by decide)⟩

/-- an interface as Faces builds the i-th -/
def GoodF (i : Nat) (f : Fc) : Prop := (∃ p1 p2 p3 : Int, 0 ≤ p1 ∧ p1 < 4 ∧ 0 ≤ p2 ∧ p2 < 4 ∧ 0 ≤ p3 ∧ p3 < 15 ∧ f.addr = 167772160 + p1 * 65536 + p2 * 256 + 16 * (i : Int) + 1 + p3) ∧
  1 ≤ f.mac ∧ f.mac ≤ 65534 ∧ (f.nb = 8 ∨ f.nb = 16 ∨ f.nb = 24 ∨ f.nb = 28) ∧ f.na = netZ f.addr f.nb ∧ 68 ≤ f.mtu ∧ f.mtu ≤ 1024
def GoodFs (fs : List Fc) : Prop := fs.length ≤ 4 ∧ ∀ (i : Nat) (f : Fc), fs[i]? = some f → GoodF i f
theorem GoodF.inF {i : Nat} {f : Fc} (h : GoodF i f) (hi : i < 4) : InF f := by
  obtain ⟨⟨p1, p2, p3, h1, h2, h3, h4, h5, h6, h7⟩, h8, h9, h10, h11, h12, h13⟩ := h
  have hb : okB f.nb := by unfold okB; omega
  have := netZ_bd (a := f.addr) (b := f.nb) (by omega) hb
  rw [← h11] at this
  unfold InF InI
  omega
theorem GoodFs.inF {fs : List Fc} (h : GoodFs fs) : ∀ f, f ∈ fs → InF f := by
  intro f hf
  obtain ⟨i, hi⟩ := List.getElem?_of_mem hf
  exact (h.2 i f hi).inF (by have := (List.getElem?_eq_some_iff.1 hi).1; have := h.1; omega)
theorem GoodFs.snoc {fs : List Fc} {k : Nat} {f : Fc} (h : GoodFs fs) (hk : fs.length = k) (hk4 : k < 4) (hf : GoodF k f) : GoodFs (fs ++ [f]) := by
  refine ⟨by simp; omega, fun i g hg => ?_⟩
  rcases Nat.lt_or_ge i fs.length with hi | hi
  · rw [List.getElem?_append_left hi] at hg; exact h.2 i g hg
  · rw [List.getElem?_append_right hi] at hg
    have : i - fs.length = 0 := by
      have := (List.getElem?_eq_some_iff.1 hg).1; simp at this; omega
    rw [this] at hg
    simp at hg
    subst hg
    rw [show i = k by omega]; exact hf
theorem GoodFs.nil : GoodFs [] := ⟨by simp, fun i f h => by simp at h⟩
theorem row_of_block {w w' : World} {base : Nat} {e : TypeId} {size : Nat} {v : Value} {n : Nat} {xs : List Value} (h : w.ownsRow base e size v n xs) (hk : ∀ k, v.ownBlock = some k → w'.heap[k]? = w.heap[k]?) : w'.ownsRow base e size v n xs := by
  refine ⟨h.1, ?_⟩
  rcases h.2 with h2 | ⟨g, cap, cur, e1, e2, e3, e4⟩
  · exact .inl h2
  · exact .inr ⟨g, cap, cur, e1, e2, (hk g (by rw [e1]; rfl)).trans e3, e4⟩
theorem row_shape {w : World} {base : Nat} {e : TypeId} {size : Nat} {v : Value} {n : Nat} {xs : List Value} (h : w.ownsRow base e size v n xs) : ∃ p c, v = .slice p n c ∧ (v.ownBlock = none ↔ p = none) := by
  rcases h.2 with ⟨rfl, rfl⟩ | ⟨g, cap, cur, rfl, _⟩
  · exact ⟨_, _, rfl, by simp [Value.ownBlock]⟩
  · exact ⟨_, _, rfl, by simp [Value.ownBlock]⟩
theorem row_cells {w : World} {base : Nat} {e : TypeId} {size : Nat} {v : Value} {n : Nat} {xs : List Value} (h : w.ownsRow base e size v n xs) {g : Nat} (hg : v.ownBlock = some g) : base ≤ g ∧ ∃ cur, w.heap[g]? = some (.cells cur e (0, 0)) := by
  rcases h.2 with ⟨rfl, _⟩ | ⟨g', cap, cur, rfl, e2, e3, _⟩
  · cases hg
  · simp only [Value.ownBlock, Option.some.injEq] at hg; subst hg; exact ⟨e2, cur, e3⟩


theorem below_alloc (W : World) (o : Obj) : Below W.heap.size W (W.alloc o) := (Below.refl _ W).alloc (Nat.le_refl _) _
/-- the state of a round: the block of the raw thing, the row -/
structure RwSt (w : World) (X : Nat) (ox : Obj) (t : TypeId) (size k : Nat) (v : Value) (xs : List Value) (W : World) : Prop where
  be : Below w.heap.size w W
  x : W.heap[X]? = some ox
  row : W.ownsRow w.heap.size t size v k xs
  ne : v.ownBlock ≠ some X
theorem RwSt.below {w : World} {X : Nat} {ox : Obj} {t : TypeId} {size k : Nat} {v : Value} {xs : List Value} {W W' : World} (h : RwSt w X ox t size k v xs W) (hb : Below W.heap.size W W') : RwSt w X ox t size k v xs W' := by
  refine ⟨h.be.trans (hb.mono h.be.size), blk_below h.x hb (blk_lt h.x), row_of_block h.row (fun g e => hb.block g ?_), h.ne⟩
  obtain ⟨-, cur, hc⟩ := row_cells h.row e
  exact blk_lt hc
theorem RwSt.draw {w : World} {X : Nat} {ox : Obj} {t : TypeId} {size k : Nat} {v : Value} {xs : List Value} {W : World} (h : RwSt w X ox t size k v xs W) : RwSt w X ox t size k v xs W.drew := ⟨h.be.drew, h.x, h.row, h.ne⟩
theorem RwSt.drawN {w : World} {X : Nat} {ox : Obj} {t : TypeId} {size k : Nat} {v : Value} {xs : List Value} {W : World} (h : RwSt w X ox t size k v xs W) (n : Nat) : RwSt w X ox t size k v xs (W.drewN n) := ⟨below_drewN h.be, h.x, h.row, h.ne⟩
/-- behind an append to the row -/
theorem RwSt.app {w : World} {X : Nat} {ox : Obj} {t : TypeId} {size k : Nat} {v : Value} {xs : List Value} {W W' : World} (h : RwSt w X ox t size k v xs W) (hg : W.grownBy W' v.ownBlock) : W'.heap[X]? = some ox ∧ Below w.heap.size w W' :=
  ⟨(hg.block X (blk_lt h.x) (fun e => h.ne e.symm)).trans h.x, h.be.grown hg h.be.size (fun g e => (row_cells h.row e).1)⟩

theorem fr_first {W : World} {X : Nat} {a b m : Int} {t : TypeId} (h : W.heap[X]? = some (.cells #[.int .i64 a, .int .i64 b, .int .i64 m] t (0, 0))) : W.cell? ⟨X, 0, none⟩ = some (.int .i64 a) ∧ W.cell? ⟨X, 1, none⟩ = some (.int .i64 b) ∧ W.cell? ⟨X, 2, none⟩ = some (.int .i64 m) := by
  obtain ⟨c0, -⟩ := blk_cell (k := 0) h rfl
  obtain ⟨c1, -⟩ := blk_cell (k := 1) h rfl
  obtain ⟨c2, -⟩ := blk_cell (k := 2) h rfl
  exact ⟨c0, c1, c2⟩
def litF (j : Nat) : Int := match j with | 0 => 8 | 1 => 16 | 2 => 24 | 3 => 24 | _ => 28
abbrev oLit : Obj := .cells #[.int .i64 8, .int .i64 16, .int .i64 24, .int .i64 24, .int .i64 28] 3
theorem litF_at (W : World) (j : Nat) (h : j < 5) : (W.alloc oLit).cell? ⟨W.heap.size, j, none⟩ = some (.int .i64 (litF j)) := by
  rcases (by omega : j = 0 ∨ j = 1 ∨ j = 2 ∨ j = 3 ∨ j = 4) with rfl | rfl | rfl | rfl | rfl <;> simp [litF]
theorem litF_ok (j : Nat) : litF j = 8 ∨ litF j = 16 ∨ litF j = 24 ∨ litF j = 28 := by
  unfold litF; split <;> simp

theorem FsAt.one (W : World) (f : Fc) (h : InF f) : FsAt (W.alloc (fo f)) (.slice (some ⟨W.heap.size, 0, none⟩) 1 1) [f] := by
  refine ⟨by simp, _, _, rfl, fun k hk => ?_⟩
  obtain rfl : k = 0 := by simp at hk; omega
  refine ⟨h, _, rfl, fun j hj => ?_⟩
  rcases (by omega : j = 0 ∨ j = 1 ∨ j = 2 ∨ j = 3 ∨ j = 4) with rfl | rfl | rfl | rfl | rfl <;> simp

set_option maxRecDepth 100000 in
set_option maxHeartbeats 3200000 in
theorem faces_any (xs : List Fr) (v : Value) (w : World) (hx : FrIn w v xs) :
    Calls Try.prog 9 #[v] w fun e w' => (∃ v' fs, e = .returned v' ∧ FsAt w' v' fs ∧ GoodFs fs ∧ 1 ≤ fs.length) ∧ Below w.heap.size w w' := by
  obtain ⟨p, c, rfl, hl⟩ := hx.form
  obtain ⟨n, hn⟩ : ∃ n, xs.length = n := ⟨_, rfl⟩
  rw [hn] at hx hl ⊢
  unfold maxLen at hl
  have HX := Lib.hid hx
  clear hx hn
  go_enter Try.func9, Try.ntmps9
  go_wp2_with fail
  go_loopw [3, 4] (fun o i wr => ∃ (k : Nat) (fs : List Fc), k ≤ 4 ∧ k ≤ n ∧ i = .int .i64 (k : Int) ∧ fs.length = k ∧ Hid (wr.ownsRow w.heap.size 27 5 o k (flatF fs)) ∧ Hid (GoodFs fs) ∧ Hid (Below w.heap.size w wr)) (fun _ i _ => n - (intOf i).toNat)
  case atStart => exact ⟨0, [], by omega, by omega, rfl, rfl, World.ownsRow_nil _ _ _ _, GoodFs.nil, Below.refl _ _⟩
  case round =>
    obtain ⟨k, fs, hk4, hkn, rfl, hlen, HO, HG, HB⟩ := hrel
    obtain ⟨vp, vc, rfl, -⟩ := row_shape HO.out
    by_cases h : k < n ∧ k < 4
    · obtain ⟨h1, h2⟩ := h
      obtain ⟨x, hin, a, hp, c0, c1, c2⟩ := (HX.out.keep HB.out).at k h1
      subst hp
      obtain ⟨xa, xb, xm⟩ := x
      simp only at c0 c1 c2
      have hki : (k : Int) < (n : Int) := by omega
      have hk4i : decide ((k : Int) < 4) = true := decide_eq_true (by omega)
      obtain ⟨ia, ib, im⟩ := hin
      simp only at ia ib im
      have b1 := tdiv_bd ia (k := 64) (by decide)
      have b2 := tdiv_bd ia (k := 16) (by decide)
      have PK := fun c n w (h1 : InI c) (h2 : 1 ≤ n) (h3 : n ≤ 9223372036854775807) => pickQ_any c n w h1.1 h1.2 h2 h3
      have HPK := Lib.hid PK
      clear PK
      have k1 : wrap64 (xa.tdiv 64) = xa.tdiv 64 := IntWalk.wrap64_in _ b1
      have k2 : wrap64 (xa.tdiv 16) = xa.tdiv 16 := IntWalk.wrap64_in _ b2
      have z0 : (wr.alloc (.cells #[.int .i64 xa, .int .i64 xb, .int .i64 xm] 55)).cell? ⟨wr.heap.size, 0, none⟩ = some (.int .i64 xa) := by simp
      have HLen := Lib.hid hlen
      clear hlen
      have q1 := pickQ_bd (xa.tdiv 64) 4 (by decide)
      have q2 := pickQ_bd (xa.tdiv 16) 4 (by decide)
      have q3 := pickQ_bd xa 15 (by decide)
      go_wp2_with fail
      go_quiet (first | (go_at_call 11; refine Calls.quiet_of_same ((HPK.out _ _ _ (by assumption) (by decide) (by decide)).mono fun _ _ ⟨h1, h2⟩ => ⟨h1, h2.symm⟩)))
      generalize pickQ (xa.tdiv 64) 4 = p1 at *
      generalize pickQ (xa.tdiv 16) 4 = p2 at *
      generalize pickQ xa 15 = p3 at *
      go_wp2_with fail
      have ib2 := ib
      have im2 := im
      obtain ⟨A, hA⟩ : ∃ A, 167772160 + p1 * 65536 + p2 * 256 + 16 * (k : Int) + 1 + p3 = A := ⟨_, rfl⟩
      have hA1 : 167772160 ≤ A ∧ A ≤ 184549375 := by omega
      have P4 := Lib.hid (pickQ_any xa 100 · ia.1 ia.2 (by decide) (by decide))
      have P5 := Lib.hid (pickQ_any xb 5 · ib.1 ib.2 (by decide) (by decide))
      have P6 := Lib.hid (pickQ_any xm 957 · im.1 im.2 (by decide) (by decide))
      have q4 := pickQ_bd xa 100 (by decide)
      have q5 := pickQ_bd xb 5 (by decide)
      have q6 := pickQ_bd xm 957 (by decide)
      generalize pickQ xa 100 = p4 at *
      generalize pickQ xb 5 = p5 at *
      generalize pickQ xm 957 = p6 at *
      obtain ⟨j, rfl⟩ := Int.eq_ofNat_of_zero_le q5.1
      have hj5 : j < 5 := by omega
      have hji : (j : Int) < 5 := by omega
      have hnb := litF_ok j
      obtain ⟨NB, hNB⟩ : ∃ NB, litF j = NB := ⟨_, rfl⟩
      have hlj : ∀ W : World, (W.alloc oLit).cell? ⟨W.heap.size, j, none⟩ = some (.int .i64 NB) := fun W => by rw [← hNB]; exact litF_at W j hj5
      rw [hNB] at hnb
      have HN := Lib.hid (fun w => net_any A NB w (by omega) (by omega) (by unfold okB; omega))
      have HGood : Hid (GoodF k ⟨1 + (k : Int) + 10 * p4, A, netZ A NB, NB, 68 + p6⟩) := Lib.hid ⟨⟨p1, p2, p3, q1.1, q1.2, q2.1, q2.2, q3.1, q3.2, hA.symm⟩, by show 1 ≤ 1 + (k : Int) + 10 * p4; omega, by show 1 + (k : Int) + 10 * p4 ≤ 65534; omega, hnb, rfl, by show 68 ≤ 68 + p6; omega, by show 68 + p6 ≤ 1024; omega⟩
      have u1 : IntKind.i64.wrap (1 + (k : Int)) = 1 + (k : Int) := wrap_id (by omega) (by omega)
      have u2 : IntKind.i64.wrap (10 * p4) = 10 * p4 := wrap_id (by omega) (by omega)
      have u3 : IntKind.i64.wrap (1 + (k : Int) + 10 * p4) = 1 + (k : Int) + 10 * p4 := wrap_id (by omega) (by omega)
      have u4 : IntKind.i64.wrap (68 + p6) = 68 + p6 := wrap_id (by omega) (by omega)
      have HLJ := Lib.hid hlj
      rw [hA]
      clear hA hNB hlj q1 q2 q3 hnb b1 b2 ia ib im ib2 im2 k1 k2
      have hrow0 := HO.out
      have hst0 : RwSt w wr.heap.size (.cells #[.int .i64 xa, .int .i64 xb, .int .i64 xm] 55) 27 5 k (.slice vp k vc) (flatF fs) (wr.alloc (.cells #[.int .i64 xa, .int .i64 xb, .int .i64 xm] 55)) :=
        ⟨HB.out.alloc HB.out.size _, blk_new wr _, row_of_block hrow0 (fun g e => by obtain ⟨-, cur, hc⟩ := row_cells hrow0 e; exact Below.heap_alloc _ _ _ (blk_lt hc)), fun e => by obtain ⟨-, cur, hc⟩ := row_cells hrow0 e; exact Nat.lt_irrefl _ (blk_lt hc)⟩
      obtain ⟨W1, hW1⟩ : ∃ W1, (wr.alloc (.cells #[.int .i64 xa, .int .i64 xb, .int .i64 xm] 55)).drewN nq = W1 := ⟨_, rfl⟩
      have hSt1 := Lib.hid (hst0.drawN nq)
      rw [hW1] at hSt1 ⊢
      clear hW1 hst0 hrow0 z0 c0 c1 c2
      refine wp_region_noPanic ?_
      refine wp_region_held_drew (S := fun w' => w'.heap[wr.heap.size]? = some (.cells #[.int .i64 xa, .int .i64 xb, .int .i64 xm] 55 (0, 0))) (by kernel_rfl) (hSt1.out.draw.x) (fun hHeld => ?_)
      obtain ⟨Wd, hWd⟩ : ∃ Wd, W1.drew = Wd := ⟨_, rfl⟩
      have hSt : Hid (RwSt w wr.heap.size (.cells #[.int .i64 xa, .int .i64 xb, .int .i64 xm] 55) 27 5 k (.slice vp k vc) (flatF fs) Wd) := by rw [← hWd]; exact Lib.hid hSt1.out.draw
      rw [hWd] at hHeld ⊢
      clear hWd hSt1
      first
        | (refine wpAnyH_take (i := 0) (oi := ⟨some 41, _, _, _, _, _⟩) (v := ?vq1x0) rfl (by kernel_rfl) (by kernel_rfl) (by kernel_rfl) (fun _ _ _ h => h) (Or.inl ⟨by rfl, ?hyq1x0⟩) hHeld ?rrq1x0
           case hyq1x0 => (intro w hSw; obtain ⟨c0, c1, c2⟩ := fr_first hSw; clear hSw; go_simp; try with_reducible rfl))
        | (refine wpAnyH_take (i := 0) (oi := ⟨some 41, _, _, _, _, _⟩) (v := undef) rfl (by kernel_rfl) (by kernel_rfl) (by kernel_rfl) (fun _ _ _ h => h) (Or.inr ⟨by rfl, rfl⟩) hHeld ?rrq1x0)
      try simp only [Act.put, List.setIfInBounds_toArray, List.set_cons_zero, List.set_cons_succ]
      first
        | (refine wpAnyH_take (i := 1) (oi := ⟨some 42, _, _, _, _, _⟩) (v := ?vq1x1) rfl (by kernel_rfl) (by kernel_rfl) (by kernel_rfl) (fun _ _ _ h => h) (Or.inl ⟨by rfl, ?hyq1x1⟩) hHeld ?rrq1x1
           case hyq1x1 => (intro w hSw; obtain ⟨c0, c1, c2⟩ := fr_first hSw; clear hSw; go_simp; try with_reducible rfl))
        | (refine wpAnyH_take (i := 1) (oi := ⟨some 42, _, _, _, _, _⟩) (v := undef) rfl (by kernel_rfl) (by kernel_rfl) (by kernel_rfl) (fun _ _ _ h => h) (Or.inr ⟨by rfl, rfl⟩) hHeld ?rrq1x1)
      try simp only [Act.put, List.setIfInBounds_toArray, List.set_cons_zero, List.set_cons_succ]
      first
        | (refine wpAnyH_take (i := 2) (oi := ⟨some 43, _, _, _, _, _⟩) (v := ?vq1x2) rfl (by kernel_rfl) (by kernel_rfl) (by kernel_rfl) (fun _ _ _ h => h) (Or.inl ⟨by rfl, ?hyq1x2⟩) hHeld ?rrq1x2
           case hyq1x2 => (intro w hSw; obtain ⟨c0, c1, c2⟩ := fr_first hSw; clear hSw; go_simp; try with_reducible rfl))
        | (refine wpAnyH_take (i := 2) (oi := ⟨some 43, _, _, _, _, _⟩) (v := undef) rfl (by kernel_rfl) (by kernel_rfl) (by kernel_rfl) (fun _ _ _ h => h) (Or.inr ⟨by rfl, rfl⟩) hHeld ?rrq1x2)
      try simp only [Act.put, List.setIfInBounds_toArray, List.set_cons_zero, List.set_cons_succ]
      first
        | (refine wpAnyH_take (i := 3) (oi := ⟨some 44, _, _, _, _, _⟩) (v := ?vq1x3) rfl (by kernel_rfl) (by kernel_rfl) (by kernel_rfl) (fun _ _ _ h => h) (Or.inl ⟨by rfl, ?hyq1x3⟩) hHeld ?rrq1x3
           case hyq1x3 => (intro w hSw; obtain ⟨c0, c1, c2⟩ := fr_first hSw; clear hSw; go_simp; try with_reducible rfl))
        | (refine wpAnyH_take (i := 3) (oi := ⟨some 44, _, _, _, _, _⟩) (v := undef) rfl (by kernel_rfl) (by kernel_rfl) (by kernel_rfl) (fun _ _ _ h => h) (Or.inr ⟨by rfl, rfl⟩) hHeld ?rrq1x3)
      try simp only [Act.put, List.setIfInBounds_toArray, List.set_cons_zero, List.set_cons_succ]
      first
        | (refine wpAnyH_take (i := 4) (oi := ⟨some 45, _, _, _, _, _⟩) (v := ?vq1x4) rfl (by kernel_rfl) (by kernel_rfl) (by kernel_rfl) (fun _ _ _ h => h) (Or.inl ⟨by rfl, ?hyq1x4⟩) hHeld ?rrq1x4
           case hyq1x4 => (intro w hSw; obtain ⟨c0, c1, c2⟩ := fr_first hSw; clear hSw; go_simp; try with_reducible rfl))
        | (refine wpAnyH_take (i := 4) (oi := ⟨some 45, _, _, _, _, _⟩) (v := undef) rfl (by kernel_rfl) (by kernel_rfl) (by kernel_rfl) (fun _ _ _ h => h) (Or.inr ⟨by rfl, rfl⟩) hHeld ?rrq1x4)
      try simp only [Act.put, List.setIfInBounds_toArray, List.set_cons_zero, List.set_cons_succ]
      first
        | (refine wpAnyH_take (i := 8) (oi := ⟨some 49, _, _, _, _, _⟩) (v := ?vq1x8) rfl (by kernel_rfl) (by kernel_rfl) (by kernel_rfl) (fun _ _ _ h => h) (Or.inl ⟨by rfl, ?hyq1x8⟩) hHeld ?rrq1x8
           case hyq1x8 => (intro w hSw; obtain ⟨c0, c1, c2⟩ := fr_first hSw; clear hSw; go_simp; try with_reducible rfl))
        | (refine wpAnyH_take (i := 8) (oi := ⟨some 49, _, _, _, _, _⟩) (v := undef) rfl (by kernel_rfl) (by kernel_rfl) (by kernel_rfl) (fun _ _ _ h => h) (Or.inr ⟨by rfl, rfl⟩) hHeld ?rrq1x8)
      try simp only [Act.put, List.setIfInBounds_toArray, List.set_cons_zero, List.set_cons_succ]
      first
        | (refine wpAnyH_take (i := 9) (oi := ⟨some 50, _, _, _, _, _⟩) (v := ?vq1x9) rfl (by kernel_rfl) (by kernel_rfl) (by kernel_rfl) (fun _ _ _ h => h) (Or.inl ⟨by rfl, ?hyq1x9⟩) hHeld ?rrq1x9
           case hyq1x9 => (intro w hSw; obtain ⟨c0, c1, c2⟩ := fr_first hSw; clear hSw; go_simp; try with_reducible rfl))
        | (refine wpAnyH_take (i := 9) (oi := ⟨some 50, _, _, _, _, _⟩) (v := undef) rfl (by kernel_rfl) (by kernel_rfl) (by kernel_rfl) (fun _ _ _ h => h) (Or.inr ⟨by rfl, rfl⟩) hHeld ?rrq1x9)
      try simp only [Act.put, List.setIfInBounds_toArray, List.set_cons_zero, List.set_cons_succ]
      first
        | (refine wpAnyH_take (i := 11) (oi := ⟨some 52, _, _, _, _, _⟩) (v := ?vq1x11) rfl (by kernel_rfl) (by kernel_rfl) (by kernel_rfl) (fun _ _ _ h => h) (Or.inl ⟨by rfl, ?hyq1x11⟩) hHeld ?rrq1x11
           case hyq1x11 => (intro w hSw; obtain ⟨c0, c1, c2⟩ := fr_first hSw; clear hSw; go_simp; try with_reducible rfl))
        | (refine wpAnyH_take (i := 11) (oi := ⟨some 52, _, _, _, _, _⟩) (v := undef) rfl (by kernel_rfl) (by kernel_rfl) (by kernel_rfl) (fun _ _ _ h => h) (Or.inr ⟨by rfl, rfl⟩) hHeld ?rrq1x11)
      try simp only [Act.put, List.setIfInBounds_toArray, List.set_cons_zero, List.set_cons_succ]
      first
        | (refine wpAnyH_take (i := 12) (oi := ⟨some 53, _, _, _, _, _⟩) (v := ?vq1x12) rfl (by kernel_rfl) (by kernel_rfl) (by kernel_rfl) (fun _ _ _ h => h) (Or.inl ⟨by rfl, ?hyq1x12⟩) hHeld ?rrq1x12
           case hyq1x12 => (intro w hSw; obtain ⟨c0, c1, c2⟩ := fr_first hSw; clear hSw; go_simp; try with_reducible rfl))
        | (refine wpAnyH_take (i := 12) (oi := ⟨some 53, _, _, _, _, _⟩) (v := undef) rfl (by kernel_rfl) (by kernel_rfl) (by kernel_rfl) (fun _ _ _ h => h) (Or.inr ⟨by rfl, rfl⟩) hHeld ?rrq1x12)
      try simp only [Act.put, List.setIfInBounds_toArray, List.set_cons_zero, List.set_cons_succ]
      first
        | (refine wpAnyH_take (i := 17) (oi := ⟨some 58, _, _, _, _, _⟩) (v := ?vq1x17) rfl (by kernel_rfl) (by kernel_rfl) (by kernel_rfl) (fun _ _ _ h => h) (Or.inl ⟨by rfl, ?hyq1x17⟩) hHeld ?rrq1x17
           case hyq1x17 => (intro w hSw; obtain ⟨c0, c1, c2⟩ := fr_first hSw; clear hSw; go_simp; try with_reducible rfl))
        | (refine wpAnyH_take (i := 17) (oi := ⟨some 58, _, _, _, _, _⟩) (v := undef) rfl (by kernel_rfl) (by kernel_rfl) (by kernel_rfl) (fun _ _ _ h => h) (Or.inr ⟨by rfl, rfl⟩) hHeld ?rrq1x17)
      try simp only [Act.put, List.setIfInBounds_toArray, List.set_cons_zero, List.set_cons_succ]
      first
        | (refine wpAnyH_take (i := 18) (oi := ⟨some 59, _, _, _, _, _⟩) (v := ?vq1x18) rfl (by kernel_rfl) (by kernel_rfl) (by kernel_rfl) (fun _ _ _ h => h) (Or.inl ⟨by rfl, ?hyq1x18⟩) hHeld ?rrq1x18
           case hyq1x18 => (intro w hSw; obtain ⟨c0, c1, c2⟩ := fr_first hSw; clear hSw; go_simp; try with_reducible rfl))
        | (refine wpAnyH_take (i := 18) (oi := ⟨some 59, _, _, _, _, _⟩) (v := undef) rfl (by kernel_rfl) (by kernel_rfl) (by kernel_rfl) (fun _ _ _ h => h) (Or.inr ⟨by rfl, rfl⟩) hHeld ?rrq1x18)
      try simp only [Act.put, List.setIfInBounds_toArray, List.set_cons_zero, List.set_cons_succ]
      refine wpAnyH_ready (rs := [5, 10]) (by kernel_rfl) (by simp) ?_
      refine (AllReadyH.cons (o := ⟨some 46, _, _, _, _, _⟩) rfl (fun K hK => ?evq1x5) (AllReadyH.cons (o := ⟨some 51, _, _, _, _, _⟩) rfl (fun K hK => ?evq1x10) AllReadyH.nil))
      case evq1x5 =>
        go_simp
        (go_at_call 11; refine (P4.out _).mono ?_; rintro e9 w9 ⟨rfl, rfl⟩)
        refine hK.out _ _ (hHeld) (fun hHeld2 => ?_)
        clear hK K hHeld
        have hHeld := hHeld2
        clear hHeld2
        try simp only [Act.put, List.setIfInBounds_toArray, List.set_cons_zero, List.set_cons_succ]
        first
          | (refine wpAnyH_take (i := 6) (oi := ⟨some 47, _, _, _, _, _⟩) (v := ?vq2x6) rfl (by kernel_rfl) (by kernel_rfl) (by kernel_rfl) (fun _ _ _ h => h) (Or.inl ⟨by rfl, ?hyq2x6⟩) hHeld ?rrq2x6
             case hyq2x6 => (intro w hSw; obtain ⟨c0, c1, c2⟩ := fr_first hSw; clear hSw; go_simp; try with_reducible rfl))
          | (refine wpAnyH_take (i := 6) (oi := ⟨some 47, _, _, _, _, _⟩) (v := undef) rfl (by kernel_rfl) (by kernel_rfl) (by kernel_rfl) (fun _ _ _ h => h) (Or.inr ⟨by rfl, rfl⟩) hHeld ?rrq2x6)
        try simp only [Act.put, List.setIfInBounds_toArray, List.set_cons_zero, List.set_cons_succ]
        first
          | (refine wpAnyH_take (i := 7) (oi := ⟨some 48, _, _, _, _, _⟩) (v := ?vq2x7) rfl (by kernel_rfl) (by kernel_rfl) (by kernel_rfl) (fun _ _ _ h => h) (Or.inl ⟨by rfl, ?hyq2x7⟩) hHeld ?rrq2x7
             case hyq2x7 => (intro w hSw; obtain ⟨c0, c1, c2⟩ := fr_first hSw; clear hSw; go_simp; try with_reducible rfl))
          | (refine wpAnyH_take (i := 7) (oi := ⟨some 48, _, _, _, _, _⟩) (v := undef) rfl (by kernel_rfl) (by kernel_rfl) (by kernel_rfl) (fun _ _ _ h => h) (Or.inr ⟨by rfl, rfl⟩) hHeld ?rrq2x7)
        try simp only [Act.put, List.setIfInBounds_toArray, List.set_cons_zero, List.set_cons_succ]
        refine wpAnyH_ready (rs := [10, 13]) (by kernel_rfl) (by simp) ?_
        refine (AllReadyH.cons (o := ⟨some 51, _, _, _, _, _⟩) rfl (fun K hK => ?evq2x10) (AllReadyH.cons (o := ⟨some 54, _, _, _, _, _⟩) rfl (fun K hK => ?evq2x13) AllReadyH.nil))
        case evq2x10 =>
          go_simp
          refine hK.out _ _ (blk_alloc hHeld _) (fun hHeld2 => ?_)
          clear hK K hHeld
          have hHeld := hHeld2
          clear hHeld2
          try simp only [Act.put, List.setIfInBounds_toArray, List.set_cons_zero, List.set_cons_succ]
          have hlit := HLJ.out Wd
          have hSt2 := Lib.hid (hSt.out.below (below_alloc Wd oLit))
          refine wpAnyH_ready (rs := [13]) (by kernel_rfl) (by simp) ?_
          refine (AllReadyH.cons (o := ⟨some 54, _, _, _, _, _⟩) rfl (fun K hK => ?evq3x13) AllReadyH.nil)
          case evq3x13 =>
            go_simp
            (go_at_call 11; refine (P5.out _).mono ?_; rintro e9 w9 ⟨rfl, rfl⟩)
            refine hK.out _ _ (hHeld) (fun hHeld2 => ?_)
            clear hK K hHeld
            have hHeld := hHeld2
            clear hHeld2
            try simp only [Act.put, List.setIfInBounds_toArray, List.set_cons_zero, List.set_cons_succ]
            first
              | (refine wpAnyH_take (i := 14) (oi := ⟨some 55, _, _, _, _, _⟩) (v := ?vq4x14) rfl (by kernel_rfl) (by kernel_rfl) (by kernel_rfl) (fun _ _ _ h => h) (Or.inl ⟨by rfl, ?hyq4x14⟩) hHeld ?rrq4x14
                 case hyq4x14 => (intro w hSw; obtain ⟨c0, c1, c2⟩ := fr_first hSw; clear hSw; go_simp; try with_reducible rfl))
              | (refine wpAnyH_take (i := 14) (oi := ⟨some 55, _, _, _, _, _⟩) (v := undef) rfl (by kernel_rfl) (by kernel_rfl) (by kernel_rfl) (fun _ _ _ h => h) (Or.inr ⟨by rfl, rfl⟩) hHeld ?rrq4x14)
            try simp only [Act.put, List.setIfInBounds_toArray, List.set_cons_zero, List.set_cons_succ]
            refine wpAnyH_ready (rs := [15]) (by kernel_rfl) (by simp) ?_
            refine (AllReadyH.cons (o := ⟨some 56, _, _, _, _, _⟩) rfl (fun K hK => ?evq4x15) AllReadyH.nil)
            case evq4x15 =>
              go_simp
              refine hK.out _ _ (hHeld) (fun hHeld2 => ?_)
              clear hK K hHeld
              have hHeld := hHeld2
              clear hHeld2
              try simp only [Act.put, List.setIfInBounds_toArray, List.set_cons_zero, List.set_cons_succ]
              clear hlit
              refine wpAnyH_ready (rs := [16]) (by kernel_rfl) (by simp) ?_
              refine (AllReadyH.cons (o := ⟨some 57, _, _, _, _, _⟩) rfl (fun K hK => ?evq5x16) AllReadyH.nil)
              case evq5x16 =>
                go_simp
                (go_at_call 23; refine (HN.out _).mono ?_; rintro e9 w9 ⟨rfl, hb9⟩)
                refine hK.out _ _ (blk_below hHeld hb9 (blk_lt hHeld)) (fun hHeld2 => ?_)
                clear hK K hHeld
                have hHeld := hHeld2
                clear hHeld2
                try simp only [Act.put, List.setIfInBounds_toArray, List.set_cons_zero, List.set_cons_succ]
                have hSt3 := Lib.hid (hSt2.out.below hb9)
                clear hb9
                refine wpAnyH_ready (rs := [19]) (by kernel_rfl) (by simp) ?_
                refine (AllReadyH.cons (o := ⟨some 60, _, _, _, _, _⟩) rfl (fun K hK => ?evq6x19) AllReadyH.nil)
                case evq6x19 =>
                  go_simp
                  (go_at_call 11; refine (P6.out _).mono ?_; rintro e9 w9 ⟨rfl, rfl⟩)
                  refine hK.out _ _ (hHeld) (fun hHeld2 => ?_)
                  clear hK K hHeld
                  have hHeld := hHeld2
                  clear hHeld2
                  try simp only [Act.put, List.setIfInBounds_toArray, List.set_cons_zero, List.set_cons_succ]
                  first
                    | (refine wpAnyH_take (i := 20) (oi := ⟨some 61, _, _, _, _, _⟩) (v := ?vq7x20) rfl (by kernel_rfl) (by kernel_rfl) (by kernel_rfl) (fun _ _ _ h => h) (Or.inl ⟨by rfl, ?hyq7x20⟩) hHeld ?rrq7x20
                       case hyq7x20 => (intro w hSw; obtain ⟨c0, c1, c2⟩ := fr_first hSw; clear hSw; go_simp; try with_reducible rfl))
                    | (refine wpAnyH_take (i := 20) (oi := ⟨some 61, _, _, _, _, _⟩) (v := undef) rfl (by kernel_rfl) (by kernel_rfl) (by kernel_rfl) (fun _ _ _ h => h) (Or.inr ⟨by rfl, rfl⟩) hHeld ?rrq7x20)
                  try simp only [Act.put, List.setIfInBounds_toArray, List.set_cons_zero, List.set_cons_succ]
                  first
                    | (refine wpAnyH_take (i := 21) (oi := ⟨some 62, _, _, _, _, _⟩) (v := ?vq7x21) rfl (by kernel_rfl) (by kernel_rfl) (by kernel_rfl) (fun _ _ _ h => h) (Or.inl ⟨by rfl, ?hyq7x21⟩) hHeld ?rrq7x21
                       case hyq7x21 => (intro w hSw; obtain ⟨c0, c1, c2⟩ := fr_first hSw; clear hSw; go_simp; try with_reducible rfl))
                    | (refine wpAnyH_take (i := 21) (oi := ⟨some 62, _, _, _, _, _⟩) (v := undef) rfl (by kernel_rfl) (by kernel_rfl) (by kernel_rfl) (fun _ _ _ h => h) (Or.inr ⟨by rfl, rfl⟩) hHeld ?rrq7x21)
                  try simp only [Act.put, List.setIfInBounds_toArray, List.set_cons_zero, List.set_cons_succ]
                  refine wpAnyH_ready (rs := [22]) (by kernel_rfl) (by simp) ?_
                  refine (AllReadyH.cons (o := ⟨some 63, _, _, _, _, _⟩) rfl (fun K hK => ?evq7x22) AllReadyH.nil)
                  case evq7x22 =>
                    go_simp
                    refine hK.out _ _ (blk_alloc hHeld _) (fun hHeld2 => ?_)
                    clear hK K hHeld
                    have hHeld := hHeld2
                    clear hHeld2
                    try simp only [Act.put, List.setIfInBounds_toArray, List.set_cons_zero, List.set_cons_succ]
                    have hSt4 := Lib.hid (hSt3.out.below (below_alloc w9 (.cells #[.int .i64 (1 + (k : Int) + 10 * p4), .int .i64 A, .int .i64 (netZ A NB), .int .i64 NB, .int .i64 (68 + p6)] 27)))
                    refine wpAnyH_ready (rs := [23]) (by kernel_rfl) (by simp) ?_
                    refine (AllReadyH.cons (o := ⟨some 64, _, _, _, _, _⟩) rfl (fun K hK => ?evq8x23) AllReadyH.nil)
                    case evq8x23 =>
                      obtain ⟨i0, hi, hz0, hz1, hz2⟩ := info_parts infoF
                      refine step_append_lies _ rfl (.tmp 41) (.tmp 63) 31 rfl w.heap.size 27 i0 (.agg #[.int .i64 0, .int .i64 0, .int .i64 0, .int .i64 0, .int .i64 0]) 5 40 Try.underlying31 hi hz0 hz1 hz2 rfl (by decide) (.slice vp k vc) k _ (by simp [Act.eval]) hSt4.out.row ⟨w9.heap.size, 0, none⟩ 1 1 (fcl ⟨1 + (k : Int) + 10 * p4, A, netZ A NB, NB, 68 + p6⟩) (by simp [Act.eval]) rfl (World.news_of_block (blk_new w9 (.cells #[.int .i64 (1 + (k : Int) + 10 * p4), .int .i64 A, .int .i64 (netZ A NB), .int .i64 NB, .int .i64 (68 + p6)] 27))) (by simp [Value.oneCell']) (by decide) (by unfold maxLen; omega) (by omega) hSt4.out.be.size (w9.heap.size + 1) (by simp) ?_
                      intro g cap w4 hown4 hgrow4 hat4 hlt4
                      obtain ⟨hx4, hb4⟩ := hSt4.out.app hgrow4
                      refine hK.out _ _ (hx4) (fun hHeld2 => ?_)
                      clear hK K hHeld
                      have hHeld := hHeld2
                      clear hHeld2
                      try simp only [Act.put, List.setIfInBounds_toArray, List.set_cons_zero, List.set_cons_succ]
                      first
                        | (refine wpAnyH_take (i := 24) (oi := ⟨some 3, _, _, _, _, _⟩) (v := ?vq9x24) rfl (by kernel_rfl) (by kernel_rfl) (by kernel_rfl) (fun _ _ _ h => h) (Or.inl ⟨by rfl, ?hyq9x24⟩) hHeld ?rrq9x24
                           case hyq9x24 => (intro w hSw; obtain ⟨c0, c1, c2⟩ := fr_first hSw; clear hSw; go_simp; try with_reducible rfl))
                        | (refine wpAnyH_take (i := 24) (oi := ⟨some 3, _, _, _, _, _⟩) (v := undef) rfl (by kernel_rfl) (by kernel_rfl) (by kernel_rfl) (fun _ _ _ h => h) (Or.inr ⟨by rfl, rfl⟩) hHeld ?rrq9x24)
                      try simp only [Act.put, List.setIfInBounds_toArray, List.set_cons_zero, List.set_cons_succ]
                      refine wpAnyH_done (by kernel_rfl) ?_ _
                      refine NoPanic.normal ?_
                      go_wp2_with fail
                      go_roundw
                      case rel => exact ⟨k + 1, fs ++ [⟨1 + (k : Int) + 10 * p4, A, netZ A NB, NB, 68 + p6⟩], by omega, by omega, by go_num, by rw [List.length_append, HLen.out]; rfl, by rw [flatF_snoc]; exact hown4, HG.out.snoc HLen.out (by omega) HGood.out, hb4⟩
                      case measure => simp [intOf]; omega
        case evq2x13 =>
          go_simp
          (go_at_call 11; refine (P5.out _).mono ?_; rintro e9 w9 ⟨rfl, rfl⟩)
          refine hK.out _ _ (hHeld) (fun hHeld2 => ?_)
          clear hK K hHeld
          have hHeld := hHeld2
          clear hHeld2
          try simp only [Act.put, List.setIfInBounds_toArray, List.set_cons_zero, List.set_cons_succ]
          refine wpAnyH_ready (rs := [10]) (by kernel_rfl) (by simp) ?_
          refine (AllReadyH.cons (o := ⟨some 51, _, _, _, _, _⟩) rfl (fun K hK => ?evq10x10) AllReadyH.nil)
          case evq10x10 =>
            go_simp
            refine hK.out _ _ (blk_alloc hHeld _) (fun hHeld2 => ?_)
            clear hK K hHeld
            have hHeld := hHeld2
            clear hHeld2
            try simp only [Act.put, List.setIfInBounds_toArray, List.set_cons_zero, List.set_cons_succ]
            have hlit := HLJ.out Wd
            have hSt2 := Lib.hid (hSt.out.below (below_alloc Wd oLit))
            first
              | (refine wpAnyH_take (i := 14) (oi := ⟨some 55, _, _, _, _, _⟩) (v := ?vq11x14) rfl (by kernel_rfl) (by kernel_rfl) (by kernel_rfl) (fun _ _ _ h => h) (Or.inl ⟨by rfl, ?hyq11x14⟩) hHeld ?rrq11x14
                 case hyq11x14 => (intro w hSw; obtain ⟨c0, c1, c2⟩ := fr_first hSw; clear hSw; go_simp; try with_reducible rfl))
              | (refine wpAnyH_take (i := 14) (oi := ⟨some 55, _, _, _, _, _⟩) (v := undef) rfl (by kernel_rfl) (by kernel_rfl) (by kernel_rfl) (fun _ _ _ h => h) (Or.inr ⟨by rfl, rfl⟩) hHeld ?rrq11x14)
            try simp only [Act.put, List.setIfInBounds_toArray, List.set_cons_zero, List.set_cons_succ]
            refine wpAnyH_ready (rs := [15]) (by kernel_rfl) (by simp) ?_
            refine (AllReadyH.cons (o := ⟨some 56, _, _, _, _, _⟩) rfl (fun K hK => ?evq11x15) AllReadyH.nil)
            case evq11x15 =>
              go_simp
              refine hK.out _ _ (hHeld) (fun hHeld2 => ?_)
              clear hK K hHeld
              have hHeld := hHeld2
              clear hHeld2
              try simp only [Act.put, List.setIfInBounds_toArray, List.set_cons_zero, List.set_cons_succ]
              clear hlit
              refine wpAnyH_ready (rs := [16]) (by kernel_rfl) (by simp) ?_
              refine (AllReadyH.cons (o := ⟨some 57, _, _, _, _, _⟩) rfl (fun K hK => ?evq12x16) AllReadyH.nil)
              case evq12x16 =>
                go_simp
                (go_at_call 23; refine (HN.out _).mono ?_; rintro e9 w9 ⟨rfl, hb9⟩)
                refine hK.out _ _ (blk_below hHeld hb9 (blk_lt hHeld)) (fun hHeld2 => ?_)
                clear hK K hHeld
                have hHeld := hHeld2
                clear hHeld2
                try simp only [Act.put, List.setIfInBounds_toArray, List.set_cons_zero, List.set_cons_succ]
                have hSt3 := Lib.hid (hSt2.out.below hb9)
                clear hb9
                refine wpAnyH_ready (rs := [19]) (by kernel_rfl) (by simp) ?_
                refine (AllReadyH.cons (o := ⟨some 60, _, _, _, _, _⟩) rfl (fun K hK => ?evq13x19) AllReadyH.nil)
                case evq13x19 =>
                  go_simp
                  (go_at_call 11; refine (P6.out _).mono ?_; rintro e9 w9 ⟨rfl, rfl⟩)
                  refine hK.out _ _ (hHeld) (fun hHeld2 => ?_)
                  clear hK K hHeld
                  have hHeld := hHeld2
                  clear hHeld2
                  try simp only [Act.put, List.setIfInBounds_toArray, List.set_cons_zero, List.set_cons_succ]
                  first
                    | (refine wpAnyH_take (i := 20) (oi := ⟨some 61, _, _, _, _, _⟩) (v := ?vq14x20) rfl (by kernel_rfl) (by kernel_rfl) (by kernel_rfl) (fun _ _ _ h => h) (Or.inl ⟨by rfl, ?hyq14x20⟩) hHeld ?rrq14x20
                       case hyq14x20 => (intro w hSw; obtain ⟨c0, c1, c2⟩ := fr_first hSw; clear hSw; go_simp; try with_reducible rfl))
                    | (refine wpAnyH_take (i := 20) (oi := ⟨some 61, _, _, _, _, _⟩) (v := undef) rfl (by kernel_rfl) (by kernel_rfl) (by kernel_rfl) (fun _ _ _ h => h) (Or.inr ⟨by rfl, rfl⟩) hHeld ?rrq14x20)
                  try simp only [Act.put, List.setIfInBounds_toArray, List.set_cons_zero, List.set_cons_succ]
                  first
                    | (refine wpAnyH_take (i := 21) (oi := ⟨some 62, _, _, _, _, _⟩) (v := ?vq14x21) rfl (by kernel_rfl) (by kernel_rfl) (by kernel_rfl) (fun _ _ _ h => h) (Or.inl ⟨by rfl, ?hyq14x21⟩) hHeld ?rrq14x21
                       case hyq14x21 => (intro w hSw; obtain ⟨c0, c1, c2⟩ := fr_first hSw; clear hSw; go_simp; try with_reducible rfl))
                    | (refine wpAnyH_take (i := 21) (oi := ⟨some 62, _, _, _, _, _⟩) (v := undef) rfl (by kernel_rfl) (by kernel_rfl) (by kernel_rfl) (fun _ _ _ h => h) (Or.inr ⟨by rfl, rfl⟩) hHeld ?rrq14x21)
                  try simp only [Act.put, List.setIfInBounds_toArray, List.set_cons_zero, List.set_cons_succ]
                  refine wpAnyH_ready (rs := [22]) (by kernel_rfl) (by simp) ?_
                  refine (AllReadyH.cons (o := ⟨some 63, _, _, _, _, _⟩) rfl (fun K hK => ?evq14x22) AllReadyH.nil)
                  case evq14x22 =>
                    go_simp
                    refine hK.out _ _ (blk_alloc hHeld _) (fun hHeld2 => ?_)
                    clear hK K hHeld
                    have hHeld := hHeld2
                    clear hHeld2
                    try simp only [Act.put, List.setIfInBounds_toArray, List.set_cons_zero, List.set_cons_succ]
                    have hSt4 := Lib.hid (hSt3.out.below (below_alloc w9 (.cells #[.int .i64 (1 + (k : Int) + 10 * p4), .int .i64 A, .int .i64 (netZ A NB), .int .i64 NB, .int .i64 (68 + p6)] 27)))
                    refine wpAnyH_ready (rs := [23]) (by kernel_rfl) (by simp) ?_
                    refine (AllReadyH.cons (o := ⟨some 64, _, _, _, _, _⟩) rfl (fun K hK => ?evq15x23) AllReadyH.nil)
                    case evq15x23 =>
                      obtain ⟨i0, hi, hz0, hz1, hz2⟩ := info_parts infoF
                      refine step_append_lies _ rfl (.tmp 41) (.tmp 63) 31 rfl w.heap.size 27 i0 (.agg #[.int .i64 0, .int .i64 0, .int .i64 0, .int .i64 0, .int .i64 0]) 5 40 Try.underlying31 hi hz0 hz1 hz2 rfl (by decide) (.slice vp k vc) k _ (by simp [Act.eval]) hSt4.out.row ⟨w9.heap.size, 0, none⟩ 1 1 (fcl ⟨1 + (k : Int) + 10 * p4, A, netZ A NB, NB, 68 + p6⟩) (by simp [Act.eval]) rfl (World.news_of_block (blk_new w9 (.cells #[.int .i64 (1 + (k : Int) + 10 * p4), .int .i64 A, .int .i64 (netZ A NB), .int .i64 NB, .int .i64 (68 + p6)] 27))) (by simp [Value.oneCell']) (by decide) (by unfold maxLen; omega) (by omega) hSt4.out.be.size (w9.heap.size + 1) (by simp) ?_
                      intro g cap w4 hown4 hgrow4 hat4 hlt4
                      obtain ⟨hx4, hb4⟩ := hSt4.out.app hgrow4
                      refine hK.out _ _ (hx4) (fun hHeld2 => ?_)
                      clear hK K hHeld
                      have hHeld := hHeld2
                      clear hHeld2
                      try simp only [Act.put, List.setIfInBounds_toArray, List.set_cons_zero, List.set_cons_succ]
                      first
                        | (refine wpAnyH_take (i := 24) (oi := ⟨some 3, _, _, _, _, _⟩) (v := ?vq16x24) rfl (by kernel_rfl) (by kernel_rfl) (by kernel_rfl) (fun _ _ _ h => h) (Or.inl ⟨by rfl, ?hyq16x24⟩) hHeld ?rrq16x24
                           case hyq16x24 => (intro w hSw; obtain ⟨c0, c1, c2⟩ := fr_first hSw; clear hSw; go_simp; try with_reducible rfl))
                        | (refine wpAnyH_take (i := 24) (oi := ⟨some 3, _, _, _, _, _⟩) (v := undef) rfl (by kernel_rfl) (by kernel_rfl) (by kernel_rfl) (fun _ _ _ h => h) (Or.inr ⟨by rfl, rfl⟩) hHeld ?rrq16x24)
                      try simp only [Act.put, List.setIfInBounds_toArray, List.set_cons_zero, List.set_cons_succ]
                      refine wpAnyH_done (by kernel_rfl) ?_ _
                      refine NoPanic.normal ?_
                      go_wp2_with fail
                      go_roundw
                      case rel => exact ⟨k + 1, fs ++ [⟨1 + (k : Int) + 10 * p4, A, netZ A NB, NB, 68 + p6⟩], by omega, by omega, by go_num, by rw [List.length_append, HLen.out]; rfl, by rw [flatF_snoc]; exact hown4, HG.out.snoc HLen.out (by omega) HGood.out, hb4⟩
                      case measure => simp [intOf]; omega
      case evq1x10 =>
        go_simp
        refine hK.out _ _ (blk_alloc hHeld _) (fun hHeld2 => ?_)
        clear hK K hHeld
        have hHeld := hHeld2
        clear hHeld2
        try simp only [Act.put, List.setIfInBounds_toArray, List.set_cons_zero, List.set_cons_succ]
        have hlit := HLJ.out Wd
        have hSt2 := Lib.hid (hSt.out.below (below_alloc Wd oLit))
        refine wpAnyH_ready (rs := [5]) (by kernel_rfl) (by simp) ?_
        refine (AllReadyH.cons (o := ⟨some 46, _, _, _, _, _⟩) rfl (fun K hK => ?evq17x5) AllReadyH.nil)
        case evq17x5 =>
          go_simp
          (go_at_call 11; refine (P4.out _).mono ?_; rintro e9 w9 ⟨rfl, rfl⟩)
          refine hK.out _ _ (hHeld) (fun hHeld2 => ?_)
          clear hK K hHeld
          have hHeld := hHeld2
          clear hHeld2
          try simp only [Act.put, List.setIfInBounds_toArray, List.set_cons_zero, List.set_cons_succ]
          first
            | (refine wpAnyH_take (i := 6) (oi := ⟨some 47, _, _, _, _, _⟩) (v := ?vq18x6) rfl (by kernel_rfl) (by kernel_rfl) (by kernel_rfl) (fun _ _ _ h => h) (Or.inl ⟨by rfl, ?hyq18x6⟩) hHeld ?rrq18x6
               case hyq18x6 => (intro w hSw; obtain ⟨c0, c1, c2⟩ := fr_first hSw; clear hSw; go_simp; try with_reducible rfl))
            | (refine wpAnyH_take (i := 6) (oi := ⟨some 47, _, _, _, _, _⟩) (v := undef) rfl (by kernel_rfl) (by kernel_rfl) (by kernel_rfl) (fun _ _ _ h => h) (Or.inr ⟨by rfl, rfl⟩) hHeld ?rrq18x6)
          try simp only [Act.put, List.setIfInBounds_toArray, List.set_cons_zero, List.set_cons_succ]
          first
            | (refine wpAnyH_take (i := 7) (oi := ⟨some 48, _, _, _, _, _⟩) (v := ?vq18x7) rfl (by kernel_rfl) (by kernel_rfl) (by kernel_rfl) (fun _ _ _ h => h) (Or.inl ⟨by rfl, ?hyq18x7⟩) hHeld ?rrq18x7
               case hyq18x7 => (intro w hSw; obtain ⟨c0, c1, c2⟩ := fr_first hSw; clear hSw; go_simp; try with_reducible rfl))
            | (refine wpAnyH_take (i := 7) (oi := ⟨some 48, _, _, _, _, _⟩) (v := undef) rfl (by kernel_rfl) (by kernel_rfl) (by kernel_rfl) (fun _ _ _ h => h) (Or.inr ⟨by rfl, rfl⟩) hHeld ?rrq18x7)
          try simp only [Act.put, List.setIfInBounds_toArray, List.set_cons_zero, List.set_cons_succ]
          refine wpAnyH_ready (rs := [13]) (by kernel_rfl) (by simp) ?_
          refine (AllReadyH.cons (o := ⟨some 54, _, _, _, _, _⟩) rfl (fun K hK => ?evq18x13) AllReadyH.nil)
          case evq18x13 =>
            go_simp
            (go_at_call 11; refine (P5.out _).mono ?_; rintro e9 w9 ⟨rfl, rfl⟩)
            refine hK.out _ _ (hHeld) (fun hHeld2 => ?_)
            clear hK K hHeld
            have hHeld := hHeld2
            clear hHeld2
            try simp only [Act.put, List.setIfInBounds_toArray, List.set_cons_zero, List.set_cons_succ]
            first
              | (refine wpAnyH_take (i := 14) (oi := ⟨some 55, _, _, _, _, _⟩) (v := ?vq19x14) rfl (by kernel_rfl) (by kernel_rfl) (by kernel_rfl) (fun _ _ _ h => h) (Or.inl ⟨by rfl, ?hyq19x14⟩) hHeld ?rrq19x14
                 case hyq19x14 => (intro w hSw; obtain ⟨c0, c1, c2⟩ := fr_first hSw; clear hSw; go_simp; try with_reducible rfl))
              | (refine wpAnyH_take (i := 14) (oi := ⟨some 55, _, _, _, _, _⟩) (v := undef) rfl (by kernel_rfl) (by kernel_rfl) (by kernel_rfl) (fun _ _ _ h => h) (Or.inr ⟨by rfl, rfl⟩) hHeld ?rrq19x14)
            try simp only [Act.put, List.setIfInBounds_toArray, List.set_cons_zero, List.set_cons_succ]
            refine wpAnyH_ready (rs := [15]) (by kernel_rfl) (by simp) ?_
            refine (AllReadyH.cons (o := ⟨some 56, _, _, _, _, _⟩) rfl (fun K hK => ?evq19x15) AllReadyH.nil)
            case evq19x15 =>
              go_simp
              refine hK.out _ _ (hHeld) (fun hHeld2 => ?_)
              clear hK K hHeld
              have hHeld := hHeld2
              clear hHeld2
              try simp only [Act.put, List.setIfInBounds_toArray, List.set_cons_zero, List.set_cons_succ]
              clear hlit
              refine wpAnyH_ready (rs := [16]) (by kernel_rfl) (by simp) ?_
              refine (AllReadyH.cons (o := ⟨some 57, _, _, _, _, _⟩) rfl (fun K hK => ?evq20x16) AllReadyH.nil)
              case evq20x16 =>
                go_simp
                (go_at_call 23; refine (HN.out _).mono ?_; rintro e9 w9 ⟨rfl, hb9⟩)
                refine hK.out _ _ (blk_below hHeld hb9 (blk_lt hHeld)) (fun hHeld2 => ?_)
                clear hK K hHeld
                have hHeld := hHeld2
                clear hHeld2
                try simp only [Act.put, List.setIfInBounds_toArray, List.set_cons_zero, List.set_cons_succ]
                have hSt3 := Lib.hid (hSt2.out.below hb9)
                clear hb9
                refine wpAnyH_ready (rs := [19]) (by kernel_rfl) (by simp) ?_
                refine (AllReadyH.cons (o := ⟨some 60, _, _, _, _, _⟩) rfl (fun K hK => ?evq21x19) AllReadyH.nil)
                case evq21x19 =>
                  go_simp
                  (go_at_call 11; refine (P6.out _).mono ?_; rintro e9 w9 ⟨rfl, rfl⟩)
                  refine hK.out _ _ (hHeld) (fun hHeld2 => ?_)
                  clear hK K hHeld
                  have hHeld := hHeld2
                  clear hHeld2
                  try simp only [Act.put, List.setIfInBounds_toArray, List.set_cons_zero, List.set_cons_succ]
                  first
                    | (refine wpAnyH_take (i := 20) (oi := ⟨some 61, _, _, _, _, _⟩) (v := ?vq22x20) rfl (by kernel_rfl) (by kernel_rfl) (by kernel_rfl) (fun _ _ _ h => h) (Or.inl ⟨by rfl, ?hyq22x20⟩) hHeld ?rrq22x20
                       case hyq22x20 => (intro w hSw; obtain ⟨c0, c1, c2⟩ := fr_first hSw; clear hSw; go_simp; try with_reducible rfl))
                    | (refine wpAnyH_take (i := 20) (oi := ⟨some 61, _, _, _, _, _⟩) (v := undef) rfl (by kernel_rfl) (by kernel_rfl) (by kernel_rfl) (fun _ _ _ h => h) (Or.inr ⟨by rfl, rfl⟩) hHeld ?rrq22x20)
                  try simp only [Act.put, List.setIfInBounds_toArray, List.set_cons_zero, List.set_cons_succ]
                  first
                    | (refine wpAnyH_take (i := 21) (oi := ⟨some 62, _, _, _, _, _⟩) (v := ?vq22x21) rfl (by kernel_rfl) (by kernel_rfl) (by kernel_rfl) (fun _ _ _ h => h) (Or.inl ⟨by rfl, ?hyq22x21⟩) hHeld ?rrq22x21
                       case hyq22x21 => (intro w hSw; obtain ⟨c0, c1, c2⟩ := fr_first hSw; clear hSw; go_simp; try with_reducible rfl))
                    | (refine wpAnyH_take (i := 21) (oi := ⟨some 62, _, _, _, _, _⟩) (v := undef) rfl (by kernel_rfl) (by kernel_rfl) (by kernel_rfl) (fun _ _ _ h => h) (Or.inr ⟨by rfl, rfl⟩) hHeld ?rrq22x21)
                  try simp only [Act.put, List.setIfInBounds_toArray, List.set_cons_zero, List.set_cons_succ]
                  refine wpAnyH_ready (rs := [22]) (by kernel_rfl) (by simp) ?_
                  refine (AllReadyH.cons (o := ⟨some 63, _, _, _, _, _⟩) rfl (fun K hK => ?evq22x22) AllReadyH.nil)
                  case evq22x22 =>
                    go_simp
                    refine hK.out _ _ (blk_alloc hHeld _) (fun hHeld2 => ?_)
                    clear hK K hHeld
                    have hHeld := hHeld2
                    clear hHeld2
                    try simp only [Act.put, List.setIfInBounds_toArray, List.set_cons_zero, List.set_cons_succ]
                    have hSt4 := Lib.hid (hSt3.out.below (below_alloc w9 (.cells #[.int .i64 (1 + (k : Int) + 10 * p4), .int .i64 A, .int .i64 (netZ A NB), .int .i64 NB, .int .i64 (68 + p6)] 27)))
                    refine wpAnyH_ready (rs := [23]) (by kernel_rfl) (by simp) ?_
                    refine (AllReadyH.cons (o := ⟨some 64, _, _, _, _, _⟩) rfl (fun K hK => ?evq23x23) AllReadyH.nil)
                    case evq23x23 =>
                      obtain ⟨i0, hi, hz0, hz1, hz2⟩ := info_parts infoF
                      refine step_append_lies _ rfl (.tmp 41) (.tmp 63) 31 rfl w.heap.size 27 i0 (.agg #[.int .i64 0, .int .i64 0, .int .i64 0, .int .i64 0, .int .i64 0]) 5 40 Try.underlying31 hi hz0 hz1 hz2 rfl (by decide) (.slice vp k vc) k _ (by simp [Act.eval]) hSt4.out.row ⟨w9.heap.size, 0, none⟩ 1 1 (fcl ⟨1 + (k : Int) + 10 * p4, A, netZ A NB, NB, 68 + p6⟩) (by simp [Act.eval]) rfl (World.news_of_block (blk_new w9 (.cells #[.int .i64 (1 + (k : Int) + 10 * p4), .int .i64 A, .int .i64 (netZ A NB), .int .i64 NB, .int .i64 (68 + p6)] 27))) (by simp [Value.oneCell']) (by decide) (by unfold maxLen; omega) (by omega) hSt4.out.be.size (w9.heap.size + 1) (by simp) ?_
                      intro g cap w4 hown4 hgrow4 hat4 hlt4
                      obtain ⟨hx4, hb4⟩ := hSt4.out.app hgrow4
                      refine hK.out _ _ (hx4) (fun hHeld2 => ?_)
                      clear hK K hHeld
                      have hHeld := hHeld2
                      clear hHeld2
                      try simp only [Act.put, List.setIfInBounds_toArray, List.set_cons_zero, List.set_cons_succ]
                      first
                        | (refine wpAnyH_take (i := 24) (oi := ⟨some 3, _, _, _, _, _⟩) (v := ?vq24x24) rfl (by kernel_rfl) (by kernel_rfl) (by kernel_rfl) (fun _ _ _ h => h) (Or.inl ⟨by rfl, ?hyq24x24⟩) hHeld ?rrq24x24
                           case hyq24x24 => (intro w hSw; obtain ⟨c0, c1, c2⟩ := fr_first hSw; clear hSw; go_simp; try with_reducible rfl))
                        | (refine wpAnyH_take (i := 24) (oi := ⟨some 3, _, _, _, _, _⟩) (v := undef) rfl (by kernel_rfl) (by kernel_rfl) (by kernel_rfl) (fun _ _ _ h => h) (Or.inr ⟨by rfl, rfl⟩) hHeld ?rrq24x24)
                      try simp only [Act.put, List.setIfInBounds_toArray, List.set_cons_zero, List.set_cons_succ]
                      refine wpAnyH_done (by kernel_rfl) ?_ _
                      refine NoPanic.normal ?_
                      go_wp2_with fail
                      go_roundw
                      case rel => exact ⟨k + 1, fs ++ [⟨1 + (k : Int) + 10 * p4, A, netZ A NB, NB, 68 + p6⟩], by omega, by omega, by go_num, by rw [List.length_append, HLen.out]; rfl, by rw [flatF_snoc]; exact hown4, HG.out.snoc HLen.out (by omega) HGood.out, hb4⟩
                      case measure => simp [intOf]; omega
    · by_cases hk0 : k = 0
      · subst hk0
        have hn0 : n = 0 := by omega
        subst hn0
        go_wp2_with fail
        refine (net24 167772160 _ (by decide) (by decide)).mono ?_
        rintro e w9 ⟨rfl, hb9⟩
        have HB9 := Lib.hid (HB.out.trans (hb9.mono HB.out.size))
        clear hb9
        rw [show netZ 167772160 24 = 167772160 from by decide]
        go_wp2_with fail
        go_ret
        exact ⟨⟨_, [⟨1, 167772161, 167772160, 24, 500⟩], rfl, FsAt.one w9 _ (by unfold InF InI; decide), GoodFs.nil.snoc rfl (by decide) ⟨⟨0, 0, 0, by decide, by decide, by decide, by decide, by decide, by decide, by decide⟩, by decide, by decide, by decide, by decide, by decide, by decide⟩, by decide⟩, HB9.out.alloc HB9.out.size _⟩
      · have hk0' : ((k : Int) == 0) = false := by simpa using hk0
        have hfin := Lib.hid (FsAt.of_row HO.out hlen (by omega) HG.out.inF)
        have HLen := Lib.hid hlen
        clear hlen
        by_cases h1 : k < n
        · have : k = 4 := by omega
          subst this
          have hki : ((4 : Nat) : Int) < (n : Int) := by omega
          go_wp2_with fail
          go_ret
          exact ⟨⟨_, fs, rfl, hfin.out, HG.out, by rw [HLen.out]; omega⟩, HB.out⟩
        · have hki : ((k : Int) < (n : Int)) = False := eq_false (by omega)
          go_wp2_with fail
          go_ret
          exact ⟨⟨_, fs, rfl, hfin.out, HG.out, by rw [HLen.out]; omega⟩, HB.out⟩
end Go.Proofs.Ytgfcpimklmgnbaa
