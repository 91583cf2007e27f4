/- The law's parts: the fragments of a text. -/
import Derived.Test.YtecboengeheapaaRtZ
import Derived.OwnWalk
import Derived.Laws.AppendOwn
import Derived.Laws.OwnMore
namespace Go.Proofs.Ytecboengeheapaa
open Go.RowKit Go.Maps
set_option linter.unusedVariables false
attribute [local go_sem] Oper.semAt_some

def frp (s : ByteArray) (n i : Nat) : Pk := ⟨1, 2, 6, 9, 77, false, decide (i * n + n < s.size), ((i * n : Nat) : Int), s.extract (i * n) (min (i * n + n) s.size)⟩
def prM (s : ByteArray) (n : Nat) : Nat := max 1 ((s.size + n - 1) / n)
def prL (s : ByteArray) (n : Nat) : List Pk := (List.range (prM s n)).map (frp s n)

set_option maxRecDepth 20000 in
set_option maxHeartbeats 800000 in
theorem parts_any (s : ByteArray) (hs : s.size ≤ 500) (e : Int) (he1 : 0 ≤ e) (he2 : e ≤ 255) (n : Nat) (hn : (n : Int) = 8 * (1 + e % 9)) (w : World) :
    Calls Try.prog 37 #[.string s, .int .u8 e] w fun r w' => (∃ q c, r = .returned (.slice q (prL s n).length c) ∧ w'.ownsRow w.heap.size 26 9 (.slice q (prL s n).length c) (prL s n).length (flatP (prL s n))) ∧ Below w.heap.size w w' := by
  have hn72 : n ≤ 72 := by omega
  have hn8 : 8 ≤ n := by omega
  obtain ⟨N, hN⟩ : ∃ N : Int, 8 * (1 + e % 9) = N := ⟨_, rfl⟩
  obtain ⟨SZ, hSZ⟩ : ∃ z : Int, (s.size : Int) = z := ⟨_, rfl⟩
  have hNn : Hid (N = (n : Int)) := Lib.hid (by omega)
  have hSs : Hid (SZ = (s.size : Int)) := Lib.hid hSZ.symm
  have b1 : 8 ≤ N ∧ N ≤ 72 := by omega
  have b2 : 0 ≤ SZ ∧ SZ ≤ 500 := by omega
  have k1 : IntKind.i64.wrap e = e := IntWalk.i64_in _ (by omega)
  have k2 : wrap64 (1 + e % 9) = 1 + e % 9 := IntWalk.wrap64_in _ ⟨by omega, by omega⟩
  have k3 : wrap64 (8 * (1 + e % 9)) = N := by rw [hN]; exact IntWalk.wrap64_in _ ⟨by omega, by omega⟩
  clear hn hn72 hn8 hs
  go_enter Try.func37, Try.ntmps37
  go_upto_region 3 with fail
  have hP1 := blk_new w (.cells #[.int .i64 1, .int .i64 2, .int .i64 6, .int .i64 9, .int .i64 77, .bool false, .bool false, .int .i64 0, .string ⟨#[]⟩] 26)
  have hB1 : Below w.heap.size w (w.alloc (.cells #[.int .i64 1, .int .i64 2, .int .i64 6, .int .i64 9, .int .i64 77, .bool false, .bool false, .int .i64 0, .string ⟨#[]⟩] 26)) := (Below.refl _ w).alloc (Nat.le_refl _) _
  have hl1 : w.heap.size + 1 ≤ (w.alloc (.cells #[.int .i64 1, .int .i64 2, .int .i64 6, .int .i64 9, .int .i64 77, .bool false, .bool false, .int .i64 0, .string ⟨#[]⟩] 26)).heap.size := by simp
  generalize w.alloc (.cells #[.int .i64 1, .int .i64 2, .int .i64 6, .int .i64 9, .int .i64 77, .bool false, .bool false, .int .i64 0, .string ⟨#[]⟩] 26) = w1 at hP1 hB1 hl1 ⊢
  have HB1 := Lib.hid hB1
  have HP1 := Lib.hid hP1
  have HL1 := Lib.hid hl1
  clear hB1 hP1 k1 k2 k3 hl1 hN
  obtain ⟨i0, hi, hz0, hz1, hz2⟩ := info_parts infoP
  rcases Int.lt_or_le N SZ with hlt | hge
  · go_wp2_with fail
    go_loopw [7, 8] (fun l i wr => ∃ (k : Nat) (J : Int), Hid (((k * n : Nat) : Int) = J) ∧ (0 ≤ J ∧ J < SZ + N) ∧ i = .int .i64 J ∧ (∃ mf off st, wr.heap[w.heap.size]? = some (po ⟨1, 2, 6, 9, 77, false, mf, off, st⟩)) ∧ Hid (wr.ownsRow (w.heap.size + 1) 26 9 l k (flatP ((List.range k).map (frp s n)))) ∧ Hid (Below w.heap.size w wr ∧ w.heap.size + 1 ≤ wr.heap.size)) (fun _ i _ => (SZ + N - intOf i).toNat)
    case atStart => exact ⟨0, 0, Lib.hid (by simp), by omega, rfl, ⟨_, _, _, HP1.out⟩, Lib.hid (World.ownsRow_nil _ _ _ _), Lib.hid ⟨HB1.out, HL1.out⟩⟩
    case round =>
      obtain ⟨k, J, HJ, hj, rfl, ⟨mf, off, st, hP⟩, HR, HB⟩ := hrel
      by_cases hjs : J < SZ
      · obtain ⟨M, hM⟩ : ∃ M : Int, (if SZ < J + N then SZ else J + N) = M := ⟨_, rfl⟩
        have hM2 := Lib.hid (show M = min (J + N) SZ from by rw [← hM]; split <;> omega)
        have hMj : J ≤ M ∧ M ≤ SZ := by have := hM2.out; omega
        have q2 : wrap64 (J + N) = J + N := IntWalk.wrap64_in _ ⟨by omega, by omega⟩
        have hsl : ∀ wx, (Instr.slice 9 (.string s) (some (.int .i64 J)) (some (.int .i64 M)) none).run Try.prog wx = .ok (.string (s.extract J.toNat M.toNat)) wx := fun wx => run_slice_string (P := Try.prog) wx 9 s .i64 .i64 J M Try.underlying9 (by omega) (by omega) (by have := hSs.out; omega)
        obtain ⟨c7, d7⟩ := blk_cell (k := 7) hP rfl
        obtain ⟨c6, d6⟩ := blk_cell (k := 6) hP rfl
        obtain ⟨c8, d8⟩ := blk_cell (k := 8) hP rfl
        dsimp only at c7 c6 c8
        go_upto_region 13 with fail
        obtain ⟨x, hx⟩ : ∃ x : Pk, (⟨1, 2, 6, 9, 77, false, decide (J + N < SZ), J, s.extract J.toNat M.toNat⟩ : Pk) = x := ⟨_, rfl⟩
        have hP9 : (((wr.setCell ⟨w.heap.size, 7, none⟩ (.int .i64 J)).setCell ⟨w.heap.size, 6, none⟩ (.bool (decide (J + N < SZ)))).setCell ⟨w.heap.size, 8, none⟩ (.string (s.extract J.toNat M.toNat))).heap[w.heap.size]? = some (po x) := by
          rw [← hx]
          exact blk_setc (blk_setc (blk_setc hP _) _) _
        have hsame : ∀ k, k ≠ w.heap.size → (((wr.setCell ⟨w.heap.size, 7, none⟩ (.int .i64 J)).setCell ⟨w.heap.size, 6, none⟩ (.bool (decide (J + N < SZ)))).setCell ⟨w.heap.size, 8, none⟩ (.string (s.extract J.toNat M.toNat))).heap[k]? = wr.heap[k]? := fun k hk => by
          rw [Below.heap_setCell _ _ _ _ (by exact hk), Below.heap_setCell _ _ _ _ (by exact hk), Below.heap_setCell _ _ _ _ (by exact hk)]
        have hB9 : Below w.heap.size w (((wr.setCell ⟨w.heap.size, 7, none⟩ (.int .i64 J)).setCell ⟨w.heap.size, 6, none⟩ (.bool (decide (J + N < SZ)))).setCell ⟨w.heap.size, 8, none⟩ (.string (s.extract J.toNat M.toNat))) := ((HB.out.1.setCell (Nat.le_refl _) _).setCell (Nat.le_refl _) _).setCell (Nat.le_refl _) _
        have hl9 : w.heap.size + 1 ≤ (((wr.setCell ⟨w.heap.size, 7, none⟩ (.int .i64 J)).setCell ⟨w.heap.size, 6, none⟩ (.bool (decide (J + N < SZ)))).setCell ⟨w.heap.size, 8, none⟩ (.string (s.extract J.toNat M.toNat))).heap.size := by simpa using HB.out.2
        have hr9 : (((wr.setCell ⟨w.heap.size, 7, none⟩ (.int .i64 J)).setCell ⟨w.heap.size, 6, none⟩ (.bool (decide (J + N < SZ)))).setCell ⟨w.heap.size, 8, none⟩ (.string (s.extract J.toNat M.toNat))).ownsRow (w.heap.size + 1) 26 9 u7 k (flatP ((List.range k).map (frp s n))) := row_of_block HR.out fun q hq => hsame q (by have := (HR.out.lt q hq).1; omega)
        clear c7 d7 c6 d6 c8 d8 hsame
        generalize ((wr.setCell ⟨w.heap.size, 7, none⟩ (.int .i64 J)).setCell ⟨w.heap.size, 6, none⟩ (.bool (decide (J + N < SZ)))).setCell ⟨w.heap.size, 8, none⟩ (.string (s.extract J.toNat M.toNat)) = w9 at hP9 hB9 hl9 hr9 ⊢
        have hfr : x = frp s n k := by
          have e1 := HJ.out
          have e2 := hNn.out
          have e3 := hSs.out
          have e4 := hM2.out
          rw [← hx]
          unfold frp
          have a1 : J.toNat = k * n := by omega
          have a2 : M.toNat = min (k * n + n) s.size := by omega
          have a3 : decide (J + N < SZ) = decide (k * n + n < s.size) := decide_eq_decide.2 (by omega)
          rw [a1, a2, a3, e1]
        have hfl : flatP ((List.range (k + 1)).map (frp s n)) = flatP ((List.range k).map (frp s n)) ++ pcl x := by
          rw [List.range_succ, List.map_append, hfr]
          exact flatP_snoc _ _
        have hk500 : k ≤ 500 := by
          have e1 := HJ.out
          have e2 := hNn.out
          have : k * 8 ≤ k * n := Nat.mul_le_mul_left _ (by omega)
          omega
        have hJ' : (((k + 1) * n : Nat) : Int) = J + N := by
          have e1 := HJ.out
          have e2 := hNn.out
          rw [Nat.succ_mul]
          omega
        have HXE := Lib.hid hx
        have HJ' := Lib.hid hJ'
        have HFL := Lib.hid hfl
        have HB9 := Lib.hid (And.intro hB9 hl9)
        clear hx hfr hJ' hfl hB9 HJ HR HB hsl
        have hp9 := pk_cells hP9
        obtain ⟨f0, f1, f2, f3, f4, f5, f6, f7, f8⟩ := hp9
        go_wp2_with (at_builtin; refine wpList_append_own _ rfl (.tmp 49) (.tmp 51) 29 rfl (w.heap.size + 1) 26 i0 (pv pz) 9 72 Try.underlying29 hi hz0 hz1 hz2 rfl (by decide) u7 k _ rfl (hr9.alloc _) ⟨w9.heap.size, 0, none⟩ 1 1 (pcl x) rfl rfl ?c1 ?c2 (by unfold maxLen; omega) (by omega) ?c5 ?_)
        case c1 =>
          intro j u hj
          exact World.news_of_block (blk_new w9 _) j u hj
        case c2 => intro u hu; simp at hu; rcases hu with rfl | rfl | rfl | rfl | rfl | rfl | rfl | rfl | rfl <;> rfl
        case c5 => simp; omega
        · intro v' w10 hown' hgrow _
          have hs9 := hgrow.size
          have hB10 : Below w.heap.size w w10 := (HB9.out.1.alloc (by omega) (po x)).grown hgrow (by simp; omega) (fun j e => by have := (hr9.lt j e).1; omega)
          have hN : w10.ownsRow (w.heap.size + 1) 26 9 v' (k + 1) (flatP ((List.range (k + 1)).map (frp s n))) := by
            rw [HFL.out]
            exact hown'
          have hP10 : w10.heap[w.heap.size]? = some (po x) := (hgrow.block _ (by simp; omega) (fun e => by have := (hr9.lt _ e.symm).1; omega)).trans (blk_alloc hP9 _)
          clear hown' hgrow
          go_wp2
          refine ⟨⟨k + 1, J + N, HJ', by omega, rfl, ⟨decide (J + N < SZ), J, s.extract J.toNat M.toNat, by rw [HXE.out]; exact hP10⟩, Lib.hid hN, Lib.hid ⟨hB10, ?_⟩⟩, ?_⟩
          · have := HB9.out.2
            simp at hs9
            omega
          · show (SZ + N - (J + N)).toNat < (SZ + N - J).toNat
            omega
      · have hrow := HR.out
        obtain ⟨q, c, rfl, -⟩ := row_shp hrow
        have hM : prM s n = k := by
          have e1 := HJ.out
          have e2 := hNn.out
          have e3 := hSs.out
          have h1 : (s.size + n - 1) / n = k := by
            refine Nat.div_eq_of_lt_le (by omega) ?_
            rw [Nat.succ_mul]
            omega
          unfold prM
          rw [h1]
          rcases Nat.eq_zero_or_pos k with h0 | h0
          · subst h0
            simp at e1
            omega
          · omega
        have hL : prL s n = (List.range k).map (frp s n) := by unfold prL; rw [hM]
        have hl : (prL s n).length = k := by rw [hL]; simp
        go_wp2
        go_ret
        exact ⟨⟨q, c, rfl, hrow.mono (by omega)⟩, HB.out.1⟩
  · obtain ⟨c8, d8⟩ := blk_cell (k := 8) HP1.out rfl
    try dsimp only at c8
    go_upto_region 5 with fail
    have hP9 : (w1.setCell ⟨w.heap.size, 8, none⟩ (.string s)).heap[w.heap.size]? = some (po ⟨1, 2, 6, 9, 77, false, false, 0, s⟩) := blk_setc HP1.out _
    have hB9 : Below w.heap.size w (w1.setCell ⟨w.heap.size, 8, none⟩ (.string s)) := HB1.out.setCell (Nat.le_refl _) _
    have hl9 : w.heap.size + 1 ≤ (w1.setCell ⟨w.heap.size, 8, none⟩ (.string s)).heap.size := by simpa using HL1.out
    clear c8 d8
    generalize w1.setCell ⟨w.heap.size, 8, none⟩ (.string s) = w9 at hP9 hB9 hl9 ⊢
    have HB9 := Lib.hid (And.intro hB9 hl9)
    clear hB9 hl9
    obtain ⟨f0, f1, f2, f3, f4, f5, f6, f7, f8⟩ := pk_cells hP9
    dsimp only at f0 f1 f2 f3 f4 f5 f6 f7 f8
    have hL : prL s n = [⟨1, 2, 6, 9, 77, false, false, 0, s⟩] := by
      have e2 := hNn.out
      have e3 := hSs.out
      have h1 : prM s n = 1 := by
        unfold prM
        have : (s.size + n - 1) / n ≤ 1 := by
          rw [Nat.div_le_iff_le_mul (by omega)]
          omega
        omega
      unfold prL
      rw [h1]
      have h2 : min (0 * n + n) s.size = s.size := by omega
      have h3 : decide (0 * n + n < s.size) = false := decide_eq_false (by omega)
      have h4 : s.extract (0 * n) s.size = s := by simp
      show [frp s n 0] = _
      unfold frp
      rw [h2, h3, h4]
      simp
    have HL := Lib.hid hL
    clear hL
    go_wp2
    go_ret
    refine ⟨⟨some ⟨w9.heap.size, 0, none⟩, 1, by rw [HL.out]; rfl, ?_⟩, HB9.out.1.alloc (by have := HB9.out.2; omega) _⟩
    rw [HL.out]
    exact (row_lit w9 _).mono (by have := HB9.out.2; omega)
end Go.Proofs.Ytecboengeheapaa

/- The state of one datagram's reassembly as a relation to the set of fragments that came. No program here. -/
namespace Go.Proofs.Ytecboengeheapaa
open Go.RowKit Go.Maps
set_option linter.unusedVariables false
set_option linter.unusedSectionVars false

abbrev sb (s : ByteArray) (j : Nat) : UInt8 := s.data.toList.getD j 0
theorem sb_extract (s : ByteArray) {a b t : Nat} (h : a + t < b) (hb : b ≤ s.size) : sb (s.extract a b) t = sb s (a + t) := by
  unfold sb
  rw [ByteArray.data_extract, Array.toList_extract, List.extract_eq_take_drop]
  rw [List.getD_eq_getElem?_getD, List.getD_eq_getElem?_getD, List.getElem?_take_of_lt (by omega), List.getElem?_drop]
theorem getD_ext {α : Type} (d : α) {l m : List α} (hl : l.length = m.length) (h : ∀ j, j < l.length → l.getD j d = m.getD j d) : l = m := by
  refine List.ext_getElem hl fun j h1 h2 => ?_
  have := h j h1
  rwa [List.getD_eq_getElem?_getD, List.getD_eq_getElem?_getD, List.getElem?_eq_getElem h1, List.getElem?_eq_getElem h2] at this
theorem getD_range_map {α : Type} (d : α) (f : Nat → α) (m j : Nat) : ((List.range m).map f).getD j d = if j < m then f j else d := by
  rw [List.getD_eq_getElem?_getD, List.getElem?_map]
  by_cases h : j < m
  · rw [List.getElem?_range h, if_pos h]; rfl
  · rw [if_neg h, List.getElem?_eq_none (by simpa using h)]; rfl
theorem putT_len (t : List UInt8) (o : Nat) (x : List UInt8) : (putT t o x).length = max t.length (o + x.length) := by simp [putT]
theorem putR_len (r : List Bool) (o n : Nat) : (putR r o n).length = max r.length (o + n) := by simp [putR]
theorem putT_get (t : List UInt8) (o : Nat) (x : List UInt8) (j : Nat) : (putT t o x).getD j 0 = if j < max t.length (o + x.length) then (if o ≤ j ∧ j < o + x.length then x.getD (j - o) 0 else t.getD j 0) else 0 := by
  unfold putT; exact getD_range_map 0 _ _ _
theorem putR_get (r : List Bool) (o n j : Nat) : (putR r o n).getD j false = if j < max r.length (o + n) then (if o ≤ j ∧ j < o + n then true else r.getD j false) else false := by
  unfold putR; exact getD_range_map false _ _ _

/-- several fragments of a text -/
structure Fr (s : ByteArray) (n M : Nat) : Prop where
  n8 : 8 ≤ n
  two : n < s.size
  hi : s.size ≤ M * n
  lo : (M - 1) * n < s.size
  m2 : 2 ≤ M
theorem fr_of (s : ByteArray) {n : Nat} (h8 : 8 ≤ n) (h : n < s.size) : Fr s n (prM s n) := by
  have h1 : 2 ≤ (s.size + n - 1) / n := by
    rw [Nat.le_div_iff_mul_le (by omega)]
    omega
  have h2 : prM s n = (s.size + n - 1) / n := by unfold prM; omega
  have h3 : (s.size + n - 1) / n * n ≤ s.size + n - 1 := Nat.div_mul_le_self _ _
  have h4 : s.size + n - 1 < ((s.size + n - 1) / n + 1) * n := by
    exact Nat.lt_mul_of_div_lt (Nat.lt_succ_self _) (by omega)
  rw [h2]
  rw [Nat.add_mul] at h4
  refine ⟨h8, h, by omega, ?_, h1⟩
  rw [Nat.sub_mul]
  omega
section
variable {s : ByteArray} {n M : Nat} (F : Fr s n M)
include F
theorem Fr.low {i : Nat} (hi : i < M) : i * n < s.size := by
  have : i * n ≤ (M - 1) * n := Nat.mul_le_mul_right _ (by omega)
  have := F.lo
  omega
theorem Fr.div {i j : Nat} (hj : j < s.size) : j / n = i ↔ i * n ≤ j ∧ j < i * n + n := by
  have := F.n8
  constructor
  · rintro rfl
    have := Nat.div_add_mod j n
    have := Nat.mod_lt j (show 0 < n by omega)
    have e : j / n * n = n * (j / n) := Nat.mul_comm _ _
    omega
  · rintro ⟨h1, h2⟩
    exact Nat.div_eq_of_lt_le h1 (by rw [Nat.succ_mul]; exact h2)
theorem Fr.divlt {j : Nat} (hj : j < s.size) : j / n < M := by
  have := F.n8
  rw [Nat.div_lt_iff_lt_mul (by omega)]
  have := F.hi
  omega
theorem Fr.size {i : Nat} (hi : i < M) : (frp s n i).s.size = min (i * n + n) s.size - i * n := by
  show (s.extract _ _).size = _
  rw [ByteArray.size_extract]
  omega
theorem Fr.off {i : Nat} : (frp s n i).off.toNat = i * n := by show ((i * n : Nat) : Int).toNat = _; omega
theorem Fr.endN {i : Nat} (hi : i < M) : endN (frp s n i) = min (i * n + n) s.size := by
  unfold Go.Proofs.Ytecboengeheapaa.endN
  rw [F.size hi, F.off]
  have := F.low hi
  omega
theorem Fr.mf {i : Nat} (hi : i < M) : (frp s n i).mf = decide (i ≠ M - 1) := by
  show decide (i * n + n < s.size) = _
  rw [decide_eq_decide]
  have h1 := F.lo
  have h2 := F.hi
  have h3 := F.m2
  constructor
  · rintro h rfl
    rw [Nat.sub_mul] at h
    have : n ≤ M * n := Nat.le_mul_of_pos_left _ (by omega)
    omega
  · intro h
    have : (i + 1) * n ≤ (M - 1) * n := Nat.mul_le_mul_right _ (by omega)
    rw [Nat.add_mul] at this
    omega
theorem Fr.fr {i : Nat} (hi : i < M) : isFr (frp s n i) := by
  by_cases h : i = M - 1
  · right
    show ((i * n : Nat) : Int) ≠ 0
    have h2 := F.m2
    have : 0 < i * n := Nat.mul_pos (by omega) (by have := F.n8; omega)
    omega
  · left
    rw [F.mf hi]
    exact decide_eq_true h
theorem Fr.ok {i : Nat} (hi : i < M) (h8 : n % 8 = 0) (hs : s.size ≤ 500) : okW (frp s n i) (frp s n i).s.size := by
  have h1 := F.size hi
  have h2 := F.low hi
  have h3 : i * n % 8 = 0 := by rw [Nat.mul_mod, h8]; simp
  refine ⟨⟨by simp [frp], by simp [frp]⟩, .inl ⟨by simp [frp], by simp [frp]⟩, ⟨by simp [frp], by simp [frp], by simp [frp], by simp [frp], by simp [frp], by simp [frp]⟩, ?_, ?_⟩
  · show 0 ≤ ((i * n : Nat) : Int) ∧ ((i * n : Nat) : Int) ≤ 4000 - _ ∧ ((i * n : Nat) : Int) % 8 = 0
    omega
  · right
    refine ⟨rfl, by rw [h1]; have := F.n8; omega, ?_⟩
    by_cases h : i * n + n < s.size
    · left
      rw [h1]
      have : min (i * n + n) s.size - i * n = n := by omega
      rw [this]
      omega
    · right
      exact decide_eq_false h
end
end Go.Proofs.Ytecboengeheapaa

/- The state of one datagram as a relation to the set of fragments that came: what Put makes of it. No program here. -/
namespace Go.Proofs.Ytecboengeheapaa
open Go.RowKit Go.Maps
set_option linter.unusedVariables false
set_option linter.unusedSectionVars false

abbrev kPa : Ky := ⟨1, 2, 6, 77⟩
structure Rt (s : ByteArray) (n M : Nat) (C : Nat → Bool) (x : Dg) : Prop where
  rej : x.rej = false
  fst : x.fst = if C 0 then frp s n 0 else pz
  len : x.txt.length = x.rcv.length
  le : x.rcv.length ≤ s.size
  rcv : ∀ j, j < s.size → x.rcv.getD j false = C (j / n)
  txt : ∀ j, x.rcv.getD j false = true → x.txt.getD j 0 = sb s j
  fin : x.fin = C (M - 1)
  top : C (M - 1) = true → x.rcv.length = s.size
  key : x.k = kPa
theorem rt_new (s : ByteArray) (n M : Nat) (cr now : Int) : Rt s n M (fun _ => false) (newD kPa cr now) :=
  ⟨rfl, rfl, rfl, Nat.zero_le _, fun j _ => rfl, fun j h => (by cases h), rfl, fun h => (by cases h), rfl⟩
theorem getD_lt {α : Type} {l : List α} {d : α} {j : Nat} (h : l.getD j d ≠ d) : j < l.length := by
  rcases Nat.lt_or_ge j l.length with h1 | h1
  · exact h1
  · rw [List.getD_eq_getElem?_getD, List.getElem?_eq_none h1] at h
    exact absurd rfl h
abbrev came (C : Nat → Bool) (i : Nat) : Nat → Bool := fun j => C j || decide (j = i)
section
variable {s : ByteArray} {n M : Nat} (F : Fr s n M)
include F
theorem Rt.begun {C : Nat → Bool} {x : Dg} (h : Rt s n M C x) : begun x = C 0 := by
  cases hc : C 0 with
  | true => exact begun_fr (by rw [h.fst, hc]; show (1 : Int) ≠ 0; decide)
  | false => exact begun_pz (by rw [h.fst, hc]; rfl)
theorem Rt.noclash {C : Nat → Bool} {x : Dg} (h : Rt s n M C x) {i : Nat} (hi : i < M) : clash x (frp s n i) = false := by
  have e1 := F.endN hi
  have e2 := h.len
  have e3 := h.le
  have e4 := F.low hi
  unfold clash
  rw [e1, F.off, h.fin]
  have a1 : (C (M - 1) && decide (x.txt.length < min (i * n + n) s.size)) = false := by
    cases hc : C (M - 1) with
    | false => rfl
    | true =>
      have := h.top hc
      rw [Bool.true_and]
      exact decide_eq_false (by omega)
  have a2 : (!(frp s n i).mf && decide (min (i * n + n) s.size < x.txt.length)) = false := by
    rw [F.mf hi]
    by_cases hm : i = M - 1
    · have h2 := F.hi
      have h3 := F.m2
      have : M * n = i * n + n := by rw [hm, Nat.sub_mul]; have : n ≤ M * n := Nat.le_mul_of_pos_left _ (by omega); omega
      rw [decide_eq_false (show ¬ min (i * n + n) s.size < x.txt.length by omega)]
      simp
    · rw [decide_eq_true hm]; rfl
  rw [a1, a2, Bool.false_or, Bool.false_or, List.any_eq_false]
  intro d hd
  have hd' := List.mem_range.1 hd
  unfold differ
  rw [F.off]
  cases hr : x.rcv.getD (i * n + d) false with
  | false => simp
  | true =>
    have h1 := h.txt _ hr
    have h2 : (frp s n i).s.data.toList.getD (i * n + d - i * n) 0 = sb s (i * n + d) := by
      have : i * n + d - i * n = d := by omega
      rw [this]
      exact sb_extract s (a := i * n) (b := min (i * n + n) s.size) (by omega) (by omega)
    rw [h1, h2]
    simp
theorem Rt.step {C : Nat → Bool} {x : Dg} (h : Rt s n M C x) {i : Nat} (hi : i < M) : Rt s n M (came C i) (storeD x (frp s n i)) := by
  have e1 := F.endN hi
  have e2 := h.len
  have e3 := h.le
  have e4 := F.low hi
  have e5 := F.size hi
  have e6 : (frp s n i).s.data.toList.length = (frp s n i).s.size := by rw [Array.length_toList]; rfl
  have e7 : i * n + (frp s n i).s.size = min (i * n + n) s.size := by rw [e5]; omega
  have hm := F.mf hi
  unfold storeD
  rw [F.off]
  refine ⟨h.rej, ?_, ?_, ?_, ?_, ?_, ?_, ?_, h.key⟩
  · show (if (frp s n i).off = 0 ∧ Go.Proofs.Ytecboengeheapaa.begun x = false then frp s n i else x.fst) = _
    rw [h.begun F]
    by_cases h0 : i = 0
    · subst h0
      have o0 : (frp s n 0).off = 0 := by show ((0 * n : Nat) : Int) = 0; simp
      cases hc : C 0 with
      | false => rw [if_pos ⟨o0, rfl⟩]; simp [came, hc]
      | true => rw [if_neg (by simp), h.fst, hc]; simp [came, hc]
    · have o0 : (frp s n i).off ≠ 0 := by
        show ((i * n : Nat) : Int) ≠ 0
        have : 0 < i * n := Nat.mul_pos (by omega) (by have := F.n8; omega)
        omega
      rw [if_neg (fun a => o0 a.1), h.fst]
      have : (decide ((0 : Nat) = i)) = false := decide_eq_false (by omega)
      simp [came, this]
  · rw [putT_len, putR_len, e6, e2]
  · show (putR _ _ _).length ≤ _
    rw [putR_len, e7]; omega
  · intro j hj
    show (putR _ _ _).getD j false = _
    rw [putR_get, e7]
    have hd := F.div hj (i := i)
    by_cases hji : j / n = i
    · have := hd.1 hji
      rw [if_pos (by omega), if_pos (by omega)]
      simp [came, hji]
    · have hn : ¬ (i * n ≤ j ∧ j < min (i * n + n) s.size) := fun a => hji (hd.2 (by omega))
      rw [if_neg hn]
      have h1 := h.rcv j hj
      have : came C i (j / n) = C (j / n) := by simp [came, hji]
      rw [this, ← h1]
      split
      · rfl
      · rw [List.getD_eq_getElem?_getD, List.getElem?_eq_none (by omega)]; rfl
  · intro j hj
    change (putR _ _ _).getD j false = true at hj
    show (putT _ _ _).getD j 0 = _
    rw [putR_get, e7] at hj
    rw [putT_get, e6, e7, e2]
    by_cases hmx : j < max x.rcv.length (min (i * n + n) s.size)
    · rw [if_pos hmx] at hj ⊢
      by_cases hin : i * n ≤ j ∧ j < min (i * n + n) s.size
      · rw [if_pos hin]
        have h2 := sb_extract s (a := i * n) (b := min (i * n + n) s.size) (t := j - i * n) (by omega) (by omega)
        have h3 : i * n + (j - i * n) = j := by omega
        rw [h3] at h2
        exact h2
      · rw [if_neg hin] at hj ⊢
        exact h.txt j hj
    · rw [if_neg hmx] at hj
      cases hj
  · show (x.fin || !(frp s n i).mf) = _
    rw [h.fin, hm]
    show _ = (C (M - 1) || decide (M - 1 = i))
    congr 1
    by_cases hh : i = M - 1
    · simp [hh]
    · have : ¬ M - 1 = i := fun a => hh a.symm
      simp [hh, this]
  · intro hc
    show (putR _ _ _).length = _
    rw [putR_len, e7]
    rcases Bool.or_eq_true _ _ ▸ hc with h1 | h1
    · have := h.top h1; omega
    · have hh : M - 1 = i := of_decide_eq_true h1
      have h2 := F.hi
      have h3 := F.m2
      have : M * n = i * n + n := by rw [← hh, Nat.sub_mul]; have : n ≤ M * n := Nat.le_mul_of_pos_left _ (by omega); omega
      omega
theorem Rt.all {C : Nat → Bool} {x : Dg} (h : Rt s n M C x) (ha : ∀ i, i < M → C i = true) : compD x = true ∧ wholeD x = ⟨1, 2, 6, 9, 77, false, false, 0, s⟩ := by
  have h3 := F.m2
  have hf := ha (M - 1) (by omega)
  have hl := h.top hf
  have hr : ∀ j, j < s.size → x.rcv.getD j false = true := fun j hj => (h.rcv j hj).trans (ha _ (F.divlt hj))
  have hx : x.txt = s.data.toList := by
    refine getD_ext 0 (by rw [h.len, hl, Array.length_toList]; rfl) fun j hj => h.txt j (hr j (by have := h.len; omega))
  constructor
  · unfold compD
    rw [h.fin, hf, Bool.true_and]
    have : x.rcv.contains false = false := by
      rw [Bool.eq_false_iff]
      intro hc
      have hm := List.contains_iff_mem.1 hc
      obtain ⟨j, hj, he⟩ := List.mem_iff_getElem.1 hm
      have := hr j (by omega)
      rw [List.getD_eq_getElem?_getD, List.getElem?_eq_getElem hj, he] at this
      cases this
    rw [this]; rfl
  · unfold wholeD
    rw [h.fst, ha 0 (by omega), hx]
    simp [frp]
theorem Rt.some {C : Nat → Bool} {x : Dg} (h : Rt s n M C x) {i : Nat} (hi : i < M) (hc : C i = false) : compD x = false := by
  unfold compD
  cases hf : x.fin with
  | false => rfl
  | true =>
    rw [h.fin] at hf
    have hl := h.top hf
    have hj := F.low hi
    have h1 := h.rcv _ hj
    have h2 : i * n / n = i := Nat.mul_div_cancel _ (by have := F.n8; omega)
    rw [h2, hc, List.getD_eq_getElem?_getD, List.getElem?_eq_getElem (by omega)] at h1
    have : x.rcv.contains false = true := List.contains_iff_mem.2 (by
      have := List.getElem_mem (l := x.rcv) (n := i * n) (by omega)
      rw [show x.rcv[i * n]'(by omega) = false from h1] at this
      exact this)
    rw [this]; rfl
/-- what Put makes of the datagram: not all have come yet -/
theorem Rt.put_some {C : Nat → Bool} {x : Dg} (h : Rt s n M C x) {i : Nat} (hi : i < M) {j : Nat} (hj : j < M) (hc : came C i j = false) : pfE x (frp s n i) = 0 ∧ pfW x (frp s n i) = false ∧ pfV x (frp s n i) = pz ∧ ∃ y, pfX x (frp s n i) = .some y ∧ Rt s n M (came C i) y ∧ y.st = x.st := by
  have h1 := h.noclash F hi
  have h2 := (h.step F hi).some F hj hc
  simp only [pfE, pfW, pfV, pfX, h.rej, h1, h2, Bool.or_false, Bool.false_eq_true, if_false, Bool.not_false, Bool.and_false]
  exact ⟨trivial, trivial, trivial, _, rfl, h.step F hi, rfl⟩
theorem Rt.put_all {C : Nat → Bool} {x : Dg} (h : Rt s n M C x) {i : Nat} (hi : i < M) (hc : ∀ j, j < M → came C i j = true) : pfE x (frp s n i) = 0 ∧ pfW x (frp s n i) = true ∧ pfV x (frp s n i) = ⟨1, 2, 6, 9, 77, false, false, 0, s⟩ ∧ pfX x (frp s n i) = none := by
  have h1 := h.noclash F hi
  have h2 := (h.step F hi).all F hc
  simp only [pfE, pfW, pfV, pfX, h.rej, h1, h2.1, h2.2, Bool.or_false, Bool.false_eq_true, if_false, if_true, Bool.not_false, Bool.true_and]
  exact ⟨trivial, trivial, trivial, trivial⟩
end
end Go.Proofs.Ytecboengeheapaa

/- Put for the fragments of a text: the table as a relation to the set of fragments that came. -/
namespace Go.Proofs.Ytecboengeheapaa
open Go.RowKit Go.Maps
set_option linter.unusedVariables false

abbrev pAll (s : ByteArray) : Pk := ⟨1, 2, 6, 9, 77, false, false, 0, s⟩
def allC (M : Nat) (C : Nat → Bool) : Bool := (List.range M).all C
theorem allC_yes {M : Nat} {C : Nat → Bool} : allC M C = true ↔ ∀ j, j < M → C j = true := by simp [allC]
theorem allC_no {M : Nat} {C : Nat → Bool} (h : allC M C = false) : ∃ j, j < M ∧ C j = false := by
  have : ¬ allC M C = true := by rw [h]; simp
  rw [allC_yes] at this
  have h2 : ∃ j, ¬ (j < M → C j = true) := Classical.not_forall.1 this
  obtain ⟨j, hj⟩ := h2
  have h3 : j < M := Classical.byContradiction fun a => hj fun b => absurd b a
  exact ⟨j, h3, by cases hc : C j with
    | false => rfl
    | true => exact absurd (fun _ => hc) hj⟩
/-- the parts: several fragments, or the datagram itself -/
def Pt (s : ByteArray) (n M : Nat) : Prop := Fr s n M ∨ (M = 1 ∧ frp s n 0 = pAll s)
theorem pt_of (s : ByteArray) {n : Nat} (h8 : 8 ≤ n) : Pt s n (prM s n) := by
  rcases Nat.lt_or_ge n s.size with h | h
  · exact .inl (fr_of s h8 h)
  · right
    have h1 : prM s n = 1 := by
      unfold prM
      have : (s.size + n - 1) / n ≤ 1 := by
        rw [Nat.div_le_iff_le_mul (by omega)]
        omega
      omega
    refine ⟨h1, ?_⟩
    have h2 : min (0 * n + n) s.size = s.size := by omega
    have h3 : decide (0 * n + n < s.size) = false := decide_eq_false (by omega)
    have h4 : s.extract (0 * n) s.size = s := by simp
    unfold frp
    rw [h2, h3, h4]
    simp
/-- the table's list and count -/
def TbR (s : ByteArray) (n M : Nat) (C : Nat → Bool) (cr : Int) (L : List Dg) : Prop :=
  ((∀ j, j < M → C j = false) ∧ L = [] ∧ cr = 0) ∨ (allC M C = false ∧ (∃ j, j < M ∧ C j = true) ∧ cr = 1 ∧ ∃ x, L = [x] ∧ Rt s n M C x ∧ x.st = 0) ∨ (allC M C = true ∧ L = [] ∧ 0 ≤ cr ∧ cr ≤ 1)
theorem rt_congr {s : ByteArray} {n M : Nat} (F : Fr s n M) {C D : Nat → Bool} {x : Dg} (h : Rt s n M C x) (he : ∀ j, j < M → C j = D j) : Rt s n M D x :=
  ⟨h.rej, by rw [h.fst, he 0 (by have := F.m2; omega)], h.len, h.le, fun j hj => by rw [h.rcv j hj, he _ (F.divlt hj)], h.txt, by rw [h.fin, he _ (by have := F.m2; omega)], fun a => h.top (by rw [he _ (by have := F.m2; omega)]; exact a), h.key⟩
theorem setL_one {x y : Dg} {k : Ky} (h : x.k = k) : setL [x] k y = [y] := by simp [setL, h]
theorem dropL_one {x : Dg} {k : Ky} (h : x.k = k) : dropL [x] k = [] := by simp [dropL, h]
theorem lookL_one {x : Dg} {k : Ky} (h : x.k = k) : lookL [x] k = .some x := by simp [lookL, h]

theorem tab_put {w : World} {base T : Nat} {cr : Int} {L : List Dg} {S : Nat → Prop} (h : TabS w base T cr L S) (hbase : base ≤ w.heap.size) {s : ByteArray} {n M : Nat} (P : Pt s n M) (hn8 : 8 ≤ n) (hn : n % 8 = 0) (hs : s.size ≤ 500) {C : Nat → Bool} (ht : TbR s n M C cr L) (hnot : allC M C = false) {i : Nat} (hi : i < M) :
    Calls Try.prog 31 #[.pointer (some ⟨T, 0, none⟩), .int .i64 0, pv (frp s n i)] w fun e w' => ∃ V, e = .returned (resV V (allC M (came C i)) 0) ∧ (allC M (came C i) = true → V = pAll s) ∧ ∃ cr' L', TabO w w' base T cr' L' S ∧ TbR s n M (came C i) cr' L' := by
  rcases P with F | ⟨rfl, hp⟩
  · have hk : kyOf (frp s n i) = kPa := rfl
    have hok := F.ok hi hn hs
    rcases ht with ⟨h0, rfl, rfl⟩ | ⟨-, -, rfl, x, rfl, hx, hst⟩ | ⟨h2, -⟩
    · refine (put_s h hbase 0 _ hok (F.fr hi) (fun _ => by simp) (by decide) (by decide)).mono ?_
      rintro e w' ⟨rfl, hO⟩
      have hx0 : openX [] kPa 0 0 = newD kPa 0 0 := rfl
      have hr0 : Rt s n M C (newD kPa 0 0) := rt_congr F (rt_new s n M 0 0) (fun j hj => (h0 j hj).symm)
      have hM := F.m2
      obtain ⟨j, hj, hji⟩ : ∃ j, j < M ∧ j ≠ i := by
        by_cases a : i = 0
        · exact ⟨1, by omega, by omega⟩
        · exact ⟨0, by omega, by omega⟩
      have hcj : came C i j = false := by simp [came, h0 j hj, hji]
      obtain ⟨p1, p2, p3, y, p4, p5, p6⟩ := hr0.put_some F hi hj hcj
      have hall : allC M (came C i) = false := by
        rw [Bool.eq_false_iff]
        intro a
        have := allC_yes.1 a j hj
        rw [hcj] at this; cases this
      refine ⟨pz, ?_, fun a => (by rw [hall] at a; cases a), _, _, hO, .inr (.inl ⟨hall, ⟨i, hi, by simp [came]⟩, ?_, y, ?_, p5, ?_⟩)⟩
      · unfold putV2
        rw [hk, hx0, p1, p2, p3, hall]
      · rfl
      · unfold putL2
        rw [hk, hx0, p4]
        exact setL_one rfl
      · rw [p6]
    · have hl1 := lookL_one (x := x) hx.key
      refine (put_s h hbase 0 _ hok (F.fr hi) (fun _ => by simp) (by decide) (by decide)).mono ?_
      rintro e w' ⟨rfl, hO⟩
      have hx0 : openX [x] kPa 1 0 = x := by unfold openX; rw [hl1]; rfl
      have hL0 : openL [x] kPa 1 0 = [x] := by unfold openL; rw [hl1]; rfl
      have hC0 : openC [x] kPa 1 = 1 := by unfold openC; rw [hl1]; rfl
      cases hall : allC M (came C i) with
      | false =>
        obtain ⟨j, hj, hcj⟩ := allC_no hall
        obtain ⟨p1, p2, p3, y, p4, p5, p6⟩ := hx.put_some F hi hj hcj
        refine ⟨pz, ?_, fun a => (by cases a), _, _, hO, .inr (.inl ⟨hall, ⟨i, hi, by simp [came]⟩, ?_, y, ?_, p5, ?_⟩)⟩
        · unfold putV2
          rw [hk, hx0, p1, p2, p3]
        · rw [hk, hC0]
        · unfold putL2
          rw [hk, hx0, hL0, p4]
          exact setL_one hx.key
        · rw [p6, hst]
      | true =>
        obtain ⟨p1, p2, p3, p4⟩ := hx.put_all F hi (allC_yes.1 hall)
        refine ⟨pAll s, ?_, fun _ => rfl, _, _, hO, .inr (.inr ⟨hall, ?_, ?_⟩)⟩
        · unfold putV2
          rw [hk, hx0, p1, p2, p3]
        · unfold putL2
          rw [hk, hx0, hL0, p4]
          exact dropL_one hx.key
        · rw [hk, hC0]; exact ⟨by decide, by decide⟩
    · rw [hnot] at h2; cases h2
  · obtain rfl : i = 0 := by omega
    rcases ht with ⟨h0, rfl, rfl⟩ | ⟨h1, ⟨j, hj, hcj⟩, -⟩ | ⟨h2, -⟩
    · have hall : allC 1 (came C 0) = true := allC_yes.2 fun j hj => by
        obtain rfl : j = 0 := by omega
        simp [came]
      rw [hp, hall]
      refine (put_whole T 0 (pAll s) (by show s.size ≤ maxLen; unfold maxLen; omega) ?_ rfl rfl _).mono ?_
      · refine ⟨⟨by simp, by simp⟩, .inl ⟨by simp, by simp⟩, ⟨by simp, by simp, by simp, by simp, by simp, by simp⟩, ?_, .inl ⟨rfl, rfl⟩⟩
        show (0 : Int) ≤ 0 ∧ (0 : Int) ≤ 4000 - (s.size : Int) ∧ (0 : Int) % 8 = 0
        omega
      · rintro e w' ⟨rfl, hb⟩
        exact ⟨_, rfl, fun _ => rfl, 0, [], ⟨S, h.below hb, Touch.of hb, fun k hk => .inl hk⟩, .inr (.inr ⟨hall, rfl, by decide, by decide⟩)⟩
    · exfalso
      obtain rfl : j = 0 := by omega
      have : allC 1 C = true := allC_yes.2 fun j hj => by
        obtain rfl : j = 0 := by omega
        exact hcj
      rw [hnot] at this; cases this
    · rw [hnot] at h2; cases h2
end Go.Proofs.Ytecboengeheapaa
