/- The contracts of Format where there is no address, FormatPrefix and ParsePrefix. -/
import Derived.Test.YtobcecnmeepjpaaDoorFmt
namespace Go.Proofs.YtobcecnmeepjpaaDoor
open Go.RowKit
set_option linter.unusedVariables false

theorem fmt_no (a : Int) (w : World) (la : -9223372036854775808 ≤ a) (ua : a ≤ 9223372036854775807) (h : validZ a = false) :
    Calls Tryd.prog 20 #[.int .i64 a] w fun e w' => e = .returned (.tuple #[.string ⟨#[]⟩, .int .i64 30]) ∧ Below w.heap.size w w' := by
  have V := Lib.hid (valid_any a · la ua)
  rw [h] at V
  go_enter Tryd.func20, Tryd.ntmps20
  go_wp2_with fail
  refine (V.out _).mono ?_
  rintro e w' ⟨rfl, rfl⟩
  go_wp2_with fail
  go_ret2
  exact ⟨rfl, Below.refl _ _⟩

set_option maxRecDepth 20000 in
theorem fp_no (a b : Int) (w : World) (la : -9223372036854775808 ≤ a) (ua : a ≤ 9223372036854775807) (lb : -9223372036854775808 ≤ b) (ub : b ≤ 9223372036854775807) (h : vpZ a b = false) :
    Calls Tryd.prog 21 #[.agg #[.int .i64 a, .int .i64 b]] w fun e w' => e = .returned (.tuple #[.string ⟨#[]⟩, .int .i64 30]) ∧ Below w.heap.size w w' := by
  have V := Lib.hid (vprefix_any a b · la ua lb ub)
  rw [h] at V
  go_enter Tryd.func21, Tryd.ntmps21
  go_wp2_with fail
  refine (V.out _).mono ?_
  rintro e w' ⟨rfl, hb⟩
  go_wp2_with fail
  go_ret2
  exact ⟨rfl, (keep2 (keep2n w _ _ _) hb).1⟩

/-- the dotted form of a prefix -/
def fmtPL (a b : Int) : List UInt8 := fmtL a ++ 47 :: Lib.itoa b
theorem fmtL_len (a : Int) (h : 0 ≤ a) (h2 : a ≤ 4294967295) : (fmtL a).length ≤ 15 := by
  unfold fmtL
  have l0 := itoa_len (a / 16777216 % 256) (by omega) (by omega)
  have l1 := itoa_len (a / 65536 % 256) (by omega) (by omega)
  have l2 := itoa_len (a / 256 % 256) (by omega) (by omega)
  have l3 := itoa_len (a % 256) (by omega) (by omega)
  rw [join4]; simp only [List.length_append, List.length_cons, List.length_nil]; omega
theorem size_mk (l : List UInt8) : (ByteArray.mk l.toArray).size = l.length := by simp [ByteArray.size]

set_option maxRecDepth 20000 in
theorem fp_in (a b : Int) (w : World) (la : -9223372036854775808 ≤ a) (ua : a ≤ 9223372036854775807) (lb : -9223372036854775808 ≤ b) (ub : b ≤ 9223372036854775807) (h : vpZ a b = true) (E : Env w) :
    Calls Tryd.prog 21 #[.agg #[.int .i64 a, .int .i64 b]] w fun e w' => e = .returned (.tuple #[.string ⟨(fmtPL a b).toArray⟩, .int .i64 0]) ∧ Below w.heap.size w w' := by
  obtain ⟨h1, h2, h3, h4⟩ := vpZ_bd h
  have V := Lib.hid (vprefix_any a b · la ua lb ub)
  rw [h] at V
  have F := fun w E => Lib.hid (fmt_any a w h1 h2 E)
  have I := fun w E => Lib.hid (itoa_any b w (by omega) (by omega) E)
  obtain ⟨d, hd⟩ : ∃ d : ByteArray, ⟨(fmtL a).toArray⟩ = d := ⟨_, rfl⟩
  obtain ⟨c, hc⟩ : ∃ c : ByteArray, ⟨(Lib.itoa b).toArray⟩ = c := ⟨_, rfl⟩
  obtain ⟨r, hr⟩ : ∃ r : ByteArray, ⟨(fmtPL a b).toArray⟩ = r := ⟨_, rfl⟩
  have hds : d.size ≤ 15 := by rw [← hd, size_mk]; exact fmtL_len a h1 h2
  have hcs : c.size ≤ 3 := by rw [← hc, size_mk]; exact (itoa_len b h3 (by omega)).2
  have hs1 : (d ++ ⟨#[47]⟩).size = d.size + 1 := by rw [ByteArray.size_append]; rfl
  have hre : d ++ ⟨#[47]⟩ ++ c = r := by
    apply str_inj
    rw [← hr, ← hd, ← hc]
    simp [fmtPL, ByteArray.data_append]
  have HR := Lib.hid hre
  rw [hd] at F
  rw [hc] at I
  rw [hr]
  clear hd hc hr hre h1 h2 h3 h4 h
  go_enter Tryd.func21, Tryd.ntmps21
  go_wp2_with fail
  refine (V.out _).mono ?_
  rintro e w' ⟨rfl, hb⟩
  have hk := keep2 (keep2n w _ _ _) hb
  obtain ⟨hk1, hk2, hk3⟩ := hk
  go_wp2_with fail
  refine (F _ (E.stay hk1)).out.mono ?_
  rintro e w2 ⟨rfl, hb2⟩
  obtain ⟨hj1, hj2, hj3⟩ := keep2 ⟨hk1, hk2, hk3⟩ hb2
  clear hk2 hk3 hb hb2
  go_wp2_with fail
  refine (I _ (E.stay hj1)).out.mono ?_
  rintro e w3 ⟨rfl, hb3⟩
  go_wp2_with fail
  go_ret2
  exact ⟨by rw [HR.out]; rfl, hj1.trans (hb3.mono hj1.size)⟩

theorem joinL_bd : ∀ (fs : List (List UInt8)) (acc v : Int), 0 ≤ acc → joinL fs acc = some v → 0 ≤ v ∧ v < (acc + 1) * 256 ^ fs.length
  | [], acc, v, h0, h => by simp [joinL] at h; subst h; simp; omega
  | f :: r, acc, v, h0, h => by
    cases hn : numZ f 255 with
    | none => rw [joinL_none hn] at h; cases h
    | some n =>
      rw [joinL_some hn] at h
      have hb := numZ_bd hn
      obtain ⟨h1, h2⟩ := joinL_bd r _ v (by omega) h
      refine ⟨h1, Int.lt_of_lt_of_le h2 ?_⟩
      rw [List.length_cons, Int.pow_succ, Int.mul_comm (256 ^ r.length) 256, ← Int.mul_assoc]
      exact Int.mul_le_mul_of_nonneg_right (by omega) (Int.pow_nonneg (by decide))
theorem parseL_bd {s : ByteArray} {v : Int} (h : parseL s = some v) : 0 ≤ v ∧ v ≤ 4294967295 := by
  unfold parseL at h
  split at h
  · next h4 =>
    have := joinL_bd _ 0 v (by decide) h
    rw [List.length_map, h4] at this
    have e : (0 + 1 : Int) * 256 ^ 4 = 4294967296 := by decide
    omega
  · cases h
theorem parse_some {s : ByteArray} {v : Int} (w : World) (hs : s.size ≤ 4294967280) (E : Env w) (h : parseL s = some v) :
    Calls Tryd.prog 16 #[.string s] w fun e w' => e = .returned (.tuple #[.int .i64 v, .int .i64 0]) ∧ Below w.heap.size w w' := by
  have := parse_any s w hs E
  rw [h] at this
  exact this
theorem parse_none {s : ByteArray} (w : World) (hs : s.size ≤ 4294967280) (E : Env w) (h : parseL s = none) :
    Calls Tryd.prog 16 #[.string s] w fun e w' => e = .returned (.tuple #[.int .i64 0, .int .i64 30]) ∧ Below w.heap.size w w' := by
  have := parse_any s w hs E
  rw [h] at this
  exact this

/-- what stands before the first slash, and behind it -/
def cutA (s : ByteArray) : ByteArray := ⟨(Lib.cut s.data.toList [47]).1.toArray⟩
def cutB (s : ByteArray) : ByteArray := ⟨(Lib.cut s.data.toList [47]).2.1.toArray⟩
/-- what ParsePrefix reads -/
def ppL (s : ByteArray) : Option (Int × Int) :=
  match parseL (cutA s), numZ (cutB s).data.toList 32 with
  | some a, some b => if vpZ a b then some (a, b) else none
  | _, _ => none
theorem cut_le (s : ByteArray) : (cutA s).size ≤ s.size ∧ (cutB s).size ≤ s.size := by
  unfold cutA cutB Lib.cut
  have := Lib.toList_data s
  have : s.size = s.data.toList.length := by rw [Array.length_toList]; rfl
  split
  · simp only [size_mk, List.length_take, List.length_drop]; omega
  · simp only [size_mk, List.length_nil]; omega
theorem two_sets {W : World} {B : Nat} {u v : Value} (h0 : W.cell? ⟨B, 0, none⟩ = some u) (h1 : W.cell? ⟨B, 1, none⟩ = some v) (p q : Value) :
    ((W.setCell ⟨B, 0, none⟩ p).setCell ⟨B, 1, none⟩ q).cell? ⟨B, 0, none⟩ = some p ∧ ((W.setCell ⟨B, 0, none⟩ p).setCell ⟨B, 1, none⟩ q).cell? ⟨B, 1, none⟩ = some q :=
  ⟨(set_other (by simp) _).trans (set_same h0 _), set_same ((set_other (by simp) _).trans h1) _⟩
theorem two_sets_alloc {W : World} {B : Nat} {u v : Value} (h0 : W.cell? ⟨B, 0, none⟩ = some u) (h1 : W.cell? ⟨B, 1, none⟩ = some v) (p q : Value) (o : Obj) :
    (((W.setCell ⟨B, 0, none⟩ p).setCell ⟨B, 1, none⟩ q).alloc o).cell? ⟨B, 0, none⟩ = some p ∧ (((W.setCell ⟨B, 0, none⟩ p).setCell ⟨B, 1, none⟩ q).alloc o).cell? ⟨B, 1, none⟩ = some q := by
  obtain ⟨g0, g1⟩ := two_sets h0 h1 p q
  exact ⟨(World.cell?_alloc_some _ _ _ (by rw [g0]; rfl)).trans g0, (World.cell?_alloc_some _ _ _ (by rw [g1]; rfl)).trans g1⟩

theorem cut_any (s : ByteArray) (w : World) (hs : s.size ≤ 4294967280) (E : Env w) :
    Calls Tryd.prog 36 #[.string s, .string ⟨#[47]⟩] w fun e w' => ∃ b, e = .returned (.tuple #[.string (cutA s), .string (cutB s), .bool b]) ∧ ∃ n, w' = w.drewN n := by
  obtain ⟨m, hm⟩ := E.lim
  exact (Tryd.strings_Cut s ⟨#[47]⟩ m _ (by omega) hm).mono fun e w' ⟨he, hw⟩ => ⟨_, he, hw⟩

set_option maxRecDepth 20000 in
set_option maxHeartbeats 2000000 in
theorem pp_a (s : ByteArray) (w : World) (hs : s.size ≤ 4294967280) (E : Env w) (nv : Int) (nb : Bool)
    (P : ∀ w, Env w → Hid (Calls Tryd.prog 16 #[.string (cutA s)] w fun e w' => e = .returned (.tuple #[.int .i64 0, .int .i64 30]) ∧ Below w.heap.size w w'))
    (N : ∀ w, Env w → Hid (Calls Tryd.prog 37 #[.string (cutB s), .int .i64 32] w fun e w' => e = .returned (.tuple #[.int .i64 nv, .bool nb]) ∧ Below w.heap.size w w')) :
    Calls Tryd.prog 18 #[.string s] w fun e w' => e = .returned (.tuple #[.agg #[.int .i64 0, .int .i64 0], .int .i64 30]) ∧ Below w.heap.size w w' := by
  have hb0 := (Below.refl w.heap.size w).alloc (Nat.le_refl _) (.cells #[.int .i64 0, .int .i64 0] 23)
  have C := Lib.hid (cut_any s _ hs (E.stay hb0))
  obtain ⟨x, hx⟩ : ∃ x, cutA s = x := ⟨_, rfl⟩
  obtain ⟨y, hy⟩ : ∃ y, cutB s = y := ⟨_, rfl⟩
  rw [hx] at P
  rw [hy] at N
  rw [hx, hy] at C
  have HE := Lib.hid E
  clear hx hy E hs
  go_enter Tryd.func18, Tryd.ntmps18
  go_wp2_with fail
  refine C.out.mono ?_
  rintro e w' ⟨b0, rfl, k, rfl⟩
  have hb1 := below_drewN (k := k) hb0
  go_wp2_with fail
  refine (P _ (HE.out.stay hb1)).out.mono ?_
  rintro e w2 ⟨rfl, hb2⟩
  have c0 : ((w.alloc (.cells #[.int .i64 0, .int .i64 0] 23)).drewN k).cell? ⟨w.heap.size, 0, none⟩ = some (.int .i64 0) := by simp
  have c1 : ((w.alloc (.cells #[.int .i64 0, .int .i64 0] 23)).drewN k).cell? ⟨w.heap.size, 1, none⟩ = some (.int .i64 0) := by simp
  have z0 : ((w.alloc (.cells #[.int .i64 0, .int .i64 0] 23)).drewN k).frozen? ⟨w.heap.size, 0, none⟩ = false := by simp
  have z1 : ((w.alloc (.cells #[.int .i64 0, .int .i64 0] 23)).drewN k).frozen? ⟨w.heap.size, 1, none⟩ = false := by simp
  have hl0 := World.block_lt_of_cell? _ _ c0
  obtain ⟨hj1, hj2, hj3⟩ := keep2 ⟨hb1, c0, c1⟩ hb2
  have hfz := (hb2.frozen (p := ⟨w.heap.size, 0, none⟩) hl0).trans z0
  have hfz1 := (hb2.frozen (p := ⟨w.heap.size, 1, none⟩) hl0).trans z1
  go_wp2_with fail
  refine (N _ (HE.out.stay hj1)).out.mono ?_
  rintro e w3 ⟨rfl, hb3⟩
  obtain ⟨hi1, hi2, hi3⟩ := keep2 ⟨hj1, hj2, hj3⟩ hb3
  have hlt := World.block_lt_of_cell? _ _ hj2
  have hfy := (hb3.frozen (p := ⟨w.heap.size, 0, none⟩) hlt).trans hfz
  have hfy1 := (hb3.frozen (p := ⟨w.heap.size, 1, none⟩) hlt).trans hfz1
  have hlt3 := World.block_lt_of_cell? _ _ hi2
  clear hj2 hj3 hfz hfz1 c0 c1 z0 z1 hl0 hb0 hb1 hb2 hb3 hj1 P N C HE hlt
  obtain ⟨g0, g1⟩ := two_sets_alloc hi2 hi3 (.int .i64 0) (.int .i64 0) (.cells #[.int .i64 0, .int .i64 nv] 23)
  go_wp2_with fail
  try simp only [Exit.inBlock, Exit.then]
  refine bodyPost_ret (by simp [results, Tryd.results18, go_sem, g0, g1]; try rfl) rfl ?_
  exact ⟨rfl, ((hi1.setCell (Nat.le_refl _) _).setCell (Nat.le_refl _) _).alloc (by simp only [World.size_setCell]; omega) _⟩

set_option maxRecDepth 20000 in
set_option maxHeartbeats 2000000 in
theorem pp_b (s : ByteArray) (w : World) (hs : s.size ≤ 4294967280) (E : Env w) (nv v : Int)
    (P : ∀ w, Env w → Hid (Calls Tryd.prog 16 #[.string (cutA s)] w fun e w' => e = .returned (.tuple #[.int .i64 v, .int .i64 0]) ∧ Below w.heap.size w w'))
    (N : ∀ w, Env w → Hid (Calls Tryd.prog 37 #[.string (cutB s), .int .i64 32] w fun e w' => e = .returned (.tuple #[.int .i64 nv, .bool false]) ∧ Below w.heap.size w w')) :
    Calls Tryd.prog 18 #[.string s] w fun e w' => e = .returned (.tuple #[.agg #[.int .i64 0, .int .i64 0], .int .i64 30]) ∧ Below w.heap.size w w' := by
  have hb0 := (Below.refl w.heap.size w).alloc (Nat.le_refl _) (.cells #[.int .i64 0, .int .i64 0] 23)
  have C := Lib.hid (cut_any s _ hs (E.stay hb0))
  obtain ⟨x, hx⟩ : ∃ x, cutA s = x := ⟨_, rfl⟩
  obtain ⟨y, hy⟩ : ∃ y, cutB s = y := ⟨_, rfl⟩
  rw [hx] at P
  rw [hy] at N
  rw [hx, hy] at C
  have HE := Lib.hid E
  clear hx hy E hs
  go_enter Tryd.func18, Tryd.ntmps18
  go_wp2_with fail
  refine C.out.mono ?_
  rintro e w' ⟨b0, rfl, k, rfl⟩
  have hb1 := below_drewN (k := k) hb0
  go_wp2_with fail
  refine (P _ (HE.out.stay hb1)).out.mono ?_
  rintro e w2 ⟨rfl, hb2⟩
  have c0 : ((w.alloc (.cells #[.int .i64 0, .int .i64 0] 23)).drewN k).cell? ⟨w.heap.size, 0, none⟩ = some (.int .i64 0) := by simp
  have c1 : ((w.alloc (.cells #[.int .i64 0, .int .i64 0] 23)).drewN k).cell? ⟨w.heap.size, 1, none⟩ = some (.int .i64 0) := by simp
  have z0 : ((w.alloc (.cells #[.int .i64 0, .int .i64 0] 23)).drewN k).frozen? ⟨w.heap.size, 0, none⟩ = false := by simp
  have z1 : ((w.alloc (.cells #[.int .i64 0, .int .i64 0] 23)).drewN k).frozen? ⟨w.heap.size, 1, none⟩ = false := by simp
  have hl0 := World.block_lt_of_cell? _ _ c0
  obtain ⟨hj1, hj2, hj3⟩ := keep2 ⟨hb1, c0, c1⟩ hb2
  have hfz := (hb2.frozen (p := ⟨w.heap.size, 0, none⟩) hl0).trans z0
  have hfz1 := (hb2.frozen (p := ⟨w.heap.size, 1, none⟩) hl0).trans z1
  go_wp2_with fail
  refine (N _ (HE.out.stay hj1)).out.mono ?_
  rintro e w3 ⟨rfl, hb3⟩
  obtain ⟨hi1, hi2, hi3⟩ := keep2 ⟨hj1, hj2, hj3⟩ hb3
  have hlt := World.block_lt_of_cell? _ _ hj2
  have hfy := (hb3.frozen (p := ⟨w.heap.size, 0, none⟩) hlt).trans hfz
  have hfy1 := (hb3.frozen (p := ⟨w.heap.size, 1, none⟩) hlt).trans hfz1
  have hlt3 := World.block_lt_of_cell? _ _ hi2
  clear hj2 hj3 hfz hfz1 c0 c1 z0 z1 hl0 hb0 hb1 hb2 hb3 hj1 P N C HE hlt
  obtain ⟨g0, g1⟩ := two_sets_alloc hi2 hi3 (.int .i64 0) (.int .i64 0) (.cells #[.int .i64 v, .int .i64 nv] 23)
  go_wp2_with fail
  try simp only [Exit.inBlock, Exit.then]
  refine bodyPost_ret (by simp [results, Tryd.results18, go_sem, g0, g1]; try rfl) rfl ?_
  exact ⟨rfl, ((hi1.setCell (Nat.le_refl _) _).setCell (Nat.le_refl _) _).alloc (by simp only [World.size_setCell]; omega) _⟩

set_option maxRecDepth 20000 in
set_option maxHeartbeats 2000000 in
theorem pp_c (s : ByteArray) (w : World) (hs : s.size ≤ 4294967280) (E : Env w) (nv v : Int) (V : Hid (∀ w, Calls Tryd.prog 23 #[.agg #[.int .i64 v, .int .i64 nv]] w fun e w' => e = .returned (.bool true) ∧ Below w.heap.size w w'))
    (P : ∀ w, Env w → Hid (Calls Tryd.prog 16 #[.string (cutA s)] w fun e w' => e = .returned (.tuple #[.int .i64 v, .int .i64 0]) ∧ Below w.heap.size w w'))
    (N : ∀ w, Env w → Hid (Calls Tryd.prog 37 #[.string (cutB s), .int .i64 32] w fun e w' => e = .returned (.tuple #[.int .i64 nv, .bool true]) ∧ Below w.heap.size w w')) :
    Calls Tryd.prog 18 #[.string s] w fun e w' => e = .returned (.tuple #[.agg #[.int .i64 v, .int .i64 nv], .int .i64 0]) ∧ Below w.heap.size w w' := by
  have hb0 := (Below.refl w.heap.size w).alloc (Nat.le_refl _) (.cells #[.int .i64 0, .int .i64 0] 23)
  have C := Lib.hid (cut_any s _ hs (E.stay hb0))
  obtain ⟨x, hx⟩ : ∃ x, cutA s = x := ⟨_, rfl⟩
  obtain ⟨y, hy⟩ : ∃ y, cutB s = y := ⟨_, rfl⟩
  rw [hx] at P
  rw [hy] at N
  rw [hx, hy] at C
  have HE := Lib.hid E
  clear hx hy E hs
  go_enter Tryd.func18, Tryd.ntmps18
  go_wp2_with fail
  refine C.out.mono ?_
  rintro e w' ⟨b0, rfl, k, rfl⟩
  have hb1 := below_drewN (k := k) hb0
  go_wp2_with fail
  refine (P _ (HE.out.stay hb1)).out.mono ?_
  rintro e w2 ⟨rfl, hb2⟩
  have c0 : ((w.alloc (.cells #[.int .i64 0, .int .i64 0] 23)).drewN k).cell? ⟨w.heap.size, 0, none⟩ = some (.int .i64 0) := by simp
  have c1 : ((w.alloc (.cells #[.int .i64 0, .int .i64 0] 23)).drewN k).cell? ⟨w.heap.size, 1, none⟩ = some (.int .i64 0) := by simp
  have z0 : ((w.alloc (.cells #[.int .i64 0, .int .i64 0] 23)).drewN k).frozen? ⟨w.heap.size, 0, none⟩ = false := by simp
  have z1 : ((w.alloc (.cells #[.int .i64 0, .int .i64 0] 23)).drewN k).frozen? ⟨w.heap.size, 1, none⟩ = false := by simp
  have hl0 := World.block_lt_of_cell? _ _ c0
  obtain ⟨hj1, hj2, hj3⟩ := keep2 ⟨hb1, c0, c1⟩ hb2
  have hfz := (hb2.frozen (p := ⟨w.heap.size, 0, none⟩) hl0).trans z0
  have hfz1 := (hb2.frozen (p := ⟨w.heap.size, 1, none⟩) hl0).trans z1
  go_wp2_with fail
  refine (N _ (HE.out.stay hj1)).out.mono ?_
  rintro e w3 ⟨rfl, hb3⟩
  obtain ⟨hi1, hi2, hi3⟩ := keep2 ⟨hj1, hj2, hj3⟩ hb3
  have hlt := World.block_lt_of_cell? _ _ hj2
  have hfy := (hb3.frozen (p := ⟨w.heap.size, 0, none⟩) hlt).trans hfz
  have hfy1 := (hb3.frozen (p := ⟨w.heap.size, 1, none⟩) hlt).trans hfz1
  have hlt3 := World.block_lt_of_cell? _ _ hi2
  clear hj2 hj3 hfz hfz1 c0 c1 z0 z1 hl0 hb0 hb1 hb2 hb3 hj1 P N C HE hlt
  go_wp2_with fail
  refine (V.out _).mono ?_
  rintro e w4 ⟨rfl, hb4⟩
  have e0 : (w3.alloc (.cells #[.int .i64 v, .int .i64 nv] 23)).cell? ⟨w3.heap.size, 0, none⟩ = some (.int .i64 v) := by simp
  have e1 : (w3.alloc (.cells #[.int .i64 v, .int .i64 nv] 23)).cell? ⟨w3.heap.size, 1, none⟩ = some (.int .i64 nv) := by simp
  have hsz : (w3.alloc (.cells #[.int .i64 v, .int .i64 nv] 23)).heap.size = w3.heap.size + 1 := by simp
  have k0 := (hb4.cell (World.block_lt_of_cell? _ _ e0)).trans e0
  have k1 := (hb4.cell (World.block_lt_of_cell? _ _ e1)).trans e1
  have a0 := (World.cell?_alloc_some w3 ⟨w.heap.size, 0, none⟩ (.cells #[.int .i64 v, .int .i64 nv] 23) (by rw [hi2]; rfl)).trans hi2
  have a1 := (World.cell?_alloc_some w3 ⟨w.heap.size, 1, none⟩ (.cells #[.int .i64 v, .int .i64 nv] 23) (by rw [hi3]; rfl)).trans hi3
  have f0 := (World.frozen?_alloc_old (w := w3) (a := ⟨w.heap.size, 0, none⟩) (o := .cells #[.int .i64 v, .int .i64 nv] 23) (by simp; omega)).trans hfy
  have f1 := (World.frozen?_alloc_old (w := w3) (a := ⟨w.heap.size, 1, none⟩) (o := .cells #[.int .i64 v, .int .i64 nv] 23) (by simp; omega)).trans hfy1
  have m0 := (hb4.cell (p := ⟨w.heap.size, 0, none⟩) (by rw [hsz]; simp; omega)).trans a0
  have m1 := (hb4.cell (p := ⟨w.heap.size, 1, none⟩) (by rw [hsz]; simp; omega)).trans a1
  have n0 := (hb4.frozen (p := ⟨w.heap.size, 0, none⟩) (by rw [hsz]; simp; omega)).trans f0
  have n1 := (hb4.frozen (p := ⟨w.heap.size, 1, none⟩) (by rw [hsz]; simp; omega)).trans f1
  have hB4 : Below w.heap.size w w4 := (hi1.alloc (by omega) (.cells #[.int .i64 v, .int .i64 nv] 23)).trans (hb4.mono (by rw [hsz]; omega))
  have g0 := set_same m0 (.int .i64 v)
  have g1 := (two_sets m0 m1 (.int .i64 v) (.int .i64 nv)).2
  clear e0 e1 a0 a1 f0 f1 hsz hb4 hi1 hi2 hi3 hfy hfy1
  go_wp2_with fail
  try simp only [Exit.inBlock, Exit.then]
  refine bodyPost_ret (by simp [results, Tryd.results18, go_sem, g0, g1]; try rfl) rfl ?_
  exact ⟨rfl, (hB4.setCell (Nat.le_refl _) _).setCell (Nat.le_refl _) _⟩
end Go.Proofs.YtobcecnmeepjpaaDoor
