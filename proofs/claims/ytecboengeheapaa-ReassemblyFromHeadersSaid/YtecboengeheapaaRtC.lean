/- Contract of conflicts and of its closure. -/
import Derived.Test.YtecboengeheapaaRtB
import Derived.StillTailTactics
import Derived.Deep.DeepCutAuto
import Derived.BigRegion
namespace Go.Proofs.Ytecboengeheapaa
open Go.RowKit
set_option linter.unusedVariables false
attribute [local go_sem] Oper.semAt_some

theorem getB_at {r : List Bool} {i : Nat} (h : i < r.length) : r.getD i false = r[i] := by simp [List.getD_eq_getElem?_getD, h]
theorem getT_at {r : List UInt8} {i : Nat} (h : i < r.length) : r.getD i 0 = r[i] := by simp [List.getD_eq_getElem?_getD, h]
theorem u8_ne (a b : UInt8) : (!decide ((a.toNat : Int) = (b.toNat : Int))) = (a != b) := by
  rw [Bool.eq_iff_iff]
  simp only [Bool.not_eq_true', decide_eq_false_iff_not, bne_iff_ne, ne_eq]
  constructor
  · intro h e; exact h (by rw [e])
  · intro h e; exact h (UInt8.toNat_inj.1 (by omega))

set_option maxRecDepth 20000 in
set_option maxHeartbeats 400000 in
theorem differ_any {w : World} {base : Nat} {p : PE} (h : EntAt w base p) (pk : Pk) {Bd Bp : Nat} (hBd : w.heap[Bd]? = some (.cells #[ptr p.b] 91)) (hBp : w.heap[Bp]? = some (po pk))
    (ho : 0 ≤ pk.off) (ho2 : pk.off ≤ 4000) (i : Nat) (h1 : pk.off.toNat ≤ i) (h2 : i < endN pk) (h3 : i < p.x.txt.length) :
    Calls Try.prog 79 #[.int .i64 (i : Int), .pointer (some ⟨Bd, 0, none⟩), .pointer (some ⟨Bp, 0, none⟩)] w fun e w' => e = .returned (.bool (differ p.x pk i)) ∧ Below w.heap.size w w' := by
  obtain ⟨-, -, -, c12, c13, -⟩ := dg_cells h.blk
  have cd := (blk_cell (k := 0) hBd rfl).1
  have cp7 := (blk_cell (k := 7) hBp rfl).1
  have cp8 := (blk_cell (k := 8) hBp rfl).1
  simp only [List.getElem_toArray, List.getElem_cons_zero, List.getElem_cons_succ] at cd cp7 cp8
  have hr := h.rcv
  have ht := h.txt
  have hl := h.len
  obtain ⟨off, hoff⟩ : ∃ off : Nat, pk.off = (off : Int) := ⟨pk.off.toNat, by omega⟩
  rw [hoff] at cp7 h1
  unfold endN at h2
  rw [hoff] at h2
  simp only [Int.toNat_natCast] at h1 h2
  have h3' : i < p.x.rcv.length := by omega
  have hd : differ p.x pk i = (p.x.rcv[i] && (p.x.txt[i] != pk.s.data.toList.getD (i - off) 0)) := by
    unfold differ
    rw [getB_at h3', getT_at h3, hoff]; rfl
  rw [hd]
  obtain ⟨n, hn⟩ : ∃ n, p.x.rcv.length = n := ⟨_, rfl⟩
  obtain ⟨m, hm⟩ : ∃ m, p.x.txt.length = m := ⟨_, rfl⟩
  rw [hn] at hr
  rw [hm] at ht
  obtain ⟨q, c, hq, -⟩ := row_shp hr
  rw [hq] at hr c13
  obtain ⟨q2, c2, hq2, -⟩ := row_shp ht
  rw [hq2] at ht c12
  obtain ⟨g, rfl, hcb⟩ := bool_at hr hn h3'
  obtain ⟨g2, rfl, hct⟩ := byte_at ht hm h3
  have hi1 : i < n := by omega
  have hi2 : i < m := by omega
  have hnn : n ≤ 4000 := by omega
  have hmm : m ≤ 4000 := by omega
  have hw : IntKind.i64.wrap ((i : Int) - (off : Int)) = ((i - off : Nat) : Int) := by rw [IntWalk.i64_in _ (by omega)]; omega
  have hss : i - off < pk.s.size := by omega
  clear hl hr ht h hBd hBp ho ho2 hoff
  unfold ptr at cd
  obtain ⟨tb, htb⟩ : ∃ tb, p.x.txt[i] = tb := ⟨_, rfl⟩
  rw [htb] at hct ⊢
  have hsd : pk.s.data.toList.getD (i - off) 0 = pk.s.get (i - off) hss := by
    rw [getT_at (by simpa using hss)]; rfl
  obtain ⟨sb, hsb⟩ : ∃ sb, pk.s.get (i - off) hss = sb := ⟨_, rfl⟩
  rw [hsd, hsb]
  cases hb : p.x.rcv[i] with
  | true =>
    rw [hb] at hcb
    clear hb hd hn hm h3' h3 hq hq2 htb hsd
    go_enter Try.func79, Try.ntmps79
    go_upto_region 1 with fail
    go_still_tail 24, (by kernel_rfl)
    change wpList _ _ _ _ _ w.drew
    go_wp2
    go_ret
    refine ⟨ret_bool ?_, Below.drew (Below.refl _ w)⟩
    rw [← hsb]
    exact u8_ne tb _
  | false =>
    rw [hb] at hcb
    clear hb hd hn hm h3' h3 hq hq2 htb hsd
    go_enter Try.func79, Try.ntmps79
    go_upto_region 1 with fail
    refine wp_region_noPanic ?_
    refine wp_region_held_drew (S := fun w' => w' = w.drew) (by kernel_rfl) (rfl) (fun hHeld => ?_)
    first
      | (refine wpAnyH_take (i := 0) (oi := ⟨some 5, _, _, _, _, _⟩) (v := ?v0) rfl (by kernel_rfl) (by kernel_rfl) (by kernel_rfl) (fun _ _ _ h => h) (Or.inl ⟨by rfl, ?hy0⟩) hHeld ?rr0
         case hy0 => (intro w hSw; (try dsimp only at hSw); go_simp; try with_reducible rfl))
      | (refine wpAnyH_take (i := 0) (oi := ⟨some 5, _, _, _, _, _⟩) (v := undef) rfl (by kernel_rfl) (by kernel_rfl) (by kernel_rfl) (fun _ _ _ h => h) (Or.inr ⟨by rfl, rfl⟩) hHeld ?rr0)
    try simp only [Act.put, List.setIfInBounds_toArray, List.set_cons_zero, List.set_cons_succ]
    first
      | (refine wpAnyH_take (i := 1) (oi := ⟨some 6, _, _, _, _, _⟩) (v := ?v1) rfl (by kernel_rfl) (by kernel_rfl) (by kernel_rfl) (fun _ _ _ h => h) (Or.inl ⟨by rfl, ?hy1⟩) hHeld ?rr1
         case hy1 => (intro w hSw; (try dsimp only at hSw); go_simp; try with_reducible rfl))
      | (refine wpAnyH_take (i := 1) (oi := ⟨some 6, _, _, _, _, _⟩) (v := undef) rfl (by kernel_rfl) (by kernel_rfl) (by kernel_rfl) (fun _ _ _ h => h) (Or.inr ⟨by rfl, rfl⟩) hHeld ?rr1)
    try simp only [Act.put, List.setIfInBounds_toArray, List.set_cons_zero, List.set_cons_succ]
    first
      | (refine wpAnyH_take (i := 2) (oi := ⟨some 7, _, _, _, _, _⟩) (v := ?v2) rfl (by kernel_rfl) (by kernel_rfl) (by kernel_rfl) (fun _ _ _ h => h) (Or.inl ⟨by rfl, ?hy2⟩) hHeld ?rr2
         case hy2 => (intro w hSw; (try dsimp only at hSw); go_simp; try with_reducible rfl))
      | (refine wpAnyH_take (i := 2) (oi := ⟨some 7, _, _, _, _, _⟩) (v := undef) rfl (by kernel_rfl) (by kernel_rfl) (by kernel_rfl) (fun _ _ _ h => h) (Or.inr ⟨by rfl, rfl⟩) hHeld ?rr2)
    try simp only [Act.put, List.setIfInBounds_toArray, List.set_cons_zero, List.set_cons_succ]
    first
      | (refine wpAnyH_take (i := 3) (oi := ⟨some 8, _, _, _, _, _⟩) (v := ?v3) rfl (by kernel_rfl) (by kernel_rfl) (by kernel_rfl) (fun _ _ _ h => h) (Or.inl ⟨by rfl, ?hy3⟩) hHeld ?rr3
         case hy3 => (intro w hSw; (try dsimp only at hSw); go_simp; try with_reducible rfl))
      | (refine wpAnyH_take (i := 3) (oi := ⟨some 8, _, _, _, _, _⟩) (v := undef) rfl (by kernel_rfl) (by kernel_rfl) (by kernel_rfl) (fun _ _ _ h => h) (Or.inr ⟨by rfl, rfl⟩) hHeld ?rr3)
    try simp only [Act.put, List.setIfInBounds_toArray, List.set_cons_zero, List.set_cons_succ]
    first
      | (refine wpAnyH_take (i := 4) (oi := ⟨some 9, _, _, _, _, _⟩) (v := ?v4) rfl (by kernel_rfl) (by kernel_rfl) (by kernel_rfl) (fun _ _ _ h => h) (Or.inl ⟨by rfl, ?hy4⟩) hHeld ?rr4
         case hy4 => (intro w hSw; (try dsimp only at hSw); go_simp; try with_reducible rfl))
      | (refine wpAnyH_take (i := 4) (oi := ⟨some 9, _, _, _, _, _⟩) (v := undef) rfl (by kernel_rfl) (by kernel_rfl) (by kernel_rfl) (fun _ _ _ h => h) (Or.inr ⟨by rfl, rfl⟩) hHeld ?rr4)
    try simp only [Act.put, List.setIfInBounds_toArray, List.set_cons_zero, List.set_cons_succ]
    first
      | (refine wpAnyH_take (i := 5) (oi := ⟨some 10, _, _, _, _, _⟩) (v := ?v5) rfl (by kernel_rfl) (by kernel_rfl) (by kernel_rfl) (fun _ _ _ h => h) (Or.inl ⟨by rfl, ?hy5⟩) hHeld ?rr5
         case hy5 => (intro w hSw; (try dsimp only at hSw); go_simp; try with_reducible rfl))
      | (refine wpAnyH_take (i := 5) (oi := ⟨some 10, _, _, _, _, _⟩) (v := undef) rfl (by kernel_rfl) (by kernel_rfl) (by kernel_rfl) (fun _ _ _ h => h) (Or.inr ⟨by rfl, rfl⟩) hHeld ?rr5)
    try simp only [Act.put, List.setIfInBounds_toArray, List.set_cons_zero, List.set_cons_succ]
    first
      | (refine wpAnyH_take (i := 6) (oi := ⟨some 11, _, _, _, _, _⟩) (v := ?v6) rfl (by kernel_rfl) (by kernel_rfl) (by kernel_rfl) (fun _ _ _ h => h) (Or.inl ⟨by rfl, ?hy6⟩) hHeld ?rr6
         case hy6 => (intro w hSw; (try dsimp only at hSw); go_simp; try with_reducible rfl))
      | (refine wpAnyH_take (i := 6) (oi := ⟨some 11, _, _, _, _, _⟩) (v := undef) rfl (by kernel_rfl) (by kernel_rfl) (by kernel_rfl) (fun _ _ _ h => h) (Or.inr ⟨by rfl, rfl⟩) hHeld ?rr6)
    try simp only [Act.put, List.setIfInBounds_toArray, List.set_cons_zero, List.set_cons_succ]
    first
      | (refine wpAnyH_take (i := 7) (oi := ⟨some 12, _, _, _, _, _⟩) (v := ?v7) rfl (by kernel_rfl) (by kernel_rfl) (by kernel_rfl) (fun _ _ _ h => h) (Or.inl ⟨by rfl, ?hy7⟩) hHeld ?rr7
         case hy7 => (intro w hSw; (try dsimp only at hSw); go_simp; try with_reducible rfl))
      | (refine wpAnyH_take (i := 7) (oi := ⟨some 12, _, _, _, _, _⟩) (v := undef) rfl (by kernel_rfl) (by kernel_rfl) (by kernel_rfl) (fun _ _ _ h => h) (Or.inr ⟨by rfl, rfl⟩) hHeld ?rr7)
    try simp only [Act.put, List.setIfInBounds_toArray, List.set_cons_zero, List.set_cons_succ]
    first
      | (refine wpAnyH_take (i := 8) (oi := ⟨some 13, _, _, _, _, _⟩) (v := ?v8) rfl (by kernel_rfl) (by kernel_rfl) (by kernel_rfl) (fun _ _ _ h => h) (Or.inl ⟨by rfl, ?hy8⟩) hHeld ?rr8
         case hy8 => (intro w hSw; (try dsimp only at hSw); go_simp; try with_reducible rfl))
      | (refine wpAnyH_take (i := 8) (oi := ⟨some 13, _, _, _, _, _⟩) (v := undef) rfl (by kernel_rfl) (by kernel_rfl) (by kernel_rfl) (fun _ _ _ h => h) (Or.inr ⟨by rfl, rfl⟩) hHeld ?rr8)
    try simp only [Act.put, List.setIfInBounds_toArray, List.set_cons_zero, List.set_cons_succ]
    first
      | (refine wpAnyH_take (i := 9) (oi := ⟨some 14, _, _, _, _, _⟩) (v := ?v9) rfl (by kernel_rfl) (by kernel_rfl) (by kernel_rfl) (fun _ _ _ h => h) (Or.inl ⟨by rfl, ?hy9⟩) hHeld ?rr9
         case hy9 => (intro w hSw; (try dsimp only at hSw); go_simp; try with_reducible rfl))
      | (refine wpAnyH_take (i := 9) (oi := ⟨some 14, _, _, _, _, _⟩) (v := undef) rfl (by kernel_rfl) (by kernel_rfl) (by kernel_rfl) (fun _ _ _ h => h) (Or.inr ⟨by rfl, rfl⟩) hHeld ?rr9)
    try simp only [Act.put, List.setIfInBounds_toArray, List.set_cons_zero, List.set_cons_succ]
    first
      | (refine wpAnyH_take (i := 10) (oi := ⟨some 15, _, _, _, _, _⟩) (v := ?v10) rfl (by kernel_rfl) (by kernel_rfl) (by kernel_rfl) (fun _ _ _ h => h) (Or.inl ⟨by rfl, ?hy10⟩) hHeld ?rr10
         case hy10 => (intro w hSw; (try dsimp only at hSw); go_simp; try with_reducible rfl))
      | (refine wpAnyH_take (i := 10) (oi := ⟨some 15, _, _, _, _, _⟩) (v := undef) rfl (by kernel_rfl) (by kernel_rfl) (by kernel_rfl) (fun _ _ _ h => h) (Or.inr ⟨by rfl, rfl⟩) hHeld ?rr10)
    try simp only [Act.put, List.setIfInBounds_toArray, List.set_cons_zero, List.set_cons_succ]
    first
      | (refine wpAnyH_take (i := 11) (oi := ⟨some 16, _, _, _, _, _⟩) (v := ?v11) rfl (by kernel_rfl) (by kernel_rfl) (by kernel_rfl) (fun _ _ _ h => h) (Or.inl ⟨by rfl, ?hy11⟩) hHeld ?rr11
         case hy11 => (intro w hSw; (try dsimp only at hSw); go_simp; try with_reducible rfl))
      | (refine wpAnyH_take (i := 11) (oi := ⟨some 16, _, _, _, _, _⟩) (v := undef) rfl (by kernel_rfl) (by kernel_rfl) (by kernel_rfl) (fun _ _ _ h => h) (Or.inr ⟨by rfl, rfl⟩) hHeld ?rr11)
    try simp only [Act.put, List.setIfInBounds_toArray, List.set_cons_zero, List.set_cons_succ]
    first
      | (refine wpAnyH_take (i := 12) (oi := ⟨some 17, _, _, _, _, _⟩) (v := ?v12) rfl (by kernel_rfl) (by kernel_rfl) (by kernel_rfl) (fun _ _ _ h => h) (Or.inl ⟨by rfl, ?hy12⟩) hHeld ?rr12
         case hy12 => (intro w hSw; (try dsimp only at hSw); go_simp; try with_reducible rfl))
      | (refine wpAnyH_take (i := 12) (oi := ⟨some 17, _, _, _, _, _⟩) (v := undef) rfl (by kernel_rfl) (by kernel_rfl) (by kernel_rfl) (fun _ _ _ h => h) (Or.inr ⟨by rfl, rfl⟩) hHeld ?rr12)
    try simp only [Act.put, List.setIfInBounds_toArray, List.set_cons_zero, List.set_cons_succ]
    first
      | (refine wpAnyH_take (i := 13) (oi := ⟨some 18, _, _, _, _, _⟩) (v := ?v13) rfl (by kernel_rfl) (by kernel_rfl) (by kernel_rfl) (fun _ _ _ h => h) (Or.inl ⟨by rfl, ?hy13⟩) hHeld ?rr13
         case hy13 => (intro w hSw; (try dsimp only at hSw); go_simp; try with_reducible rfl))
      | (refine wpAnyH_take (i := 13) (oi := ⟨some 18, _, _, _, _, _⟩) (v := undef) rfl (by kernel_rfl) (by kernel_rfl) (by kernel_rfl) (fun _ _ _ h => h) (Or.inr ⟨by rfl, rfl⟩) hHeld ?rr13)
    try simp only [Act.put, List.setIfInBounds_toArray, List.set_cons_zero, List.set_cons_succ]
    first
      | (refine wpAnyH_take (i := 14) (oi := ⟨some 19, _, _, _, _, _⟩) (v := ?v14) rfl (by kernel_rfl) (by kernel_rfl) (by kernel_rfl) (fun _ _ _ h => h) (Or.inl ⟨by rfl, ?hy14⟩) hHeld ?rr14
         case hy14 => (intro w hSw; (try dsimp only at hSw); go_simp; try with_reducible rfl))
      | (refine wpAnyH_take (i := 14) (oi := ⟨some 19, _, _, _, _, _⟩) (v := undef) rfl (by kernel_rfl) (by kernel_rfl) (by kernel_rfl) (fun _ _ _ h => h) (Or.inr ⟨by rfl, rfl⟩) hHeld ?rr14)
    try simp only [Act.put, List.setIfInBounds_toArray, List.set_cons_zero, List.set_cons_succ]
    first
      | (refine wpAnyH_take (i := 15) (oi := ⟨some 20, _, _, _, _, _⟩) (v := ?v15) rfl (by kernel_rfl) (by kernel_rfl) (by kernel_rfl) (fun _ _ _ h => h) (Or.inl ⟨by rfl, ?hy15⟩) hHeld ?rr15
         case hy15 => (intro w hSw; (try dsimp only at hSw); go_simp; try with_reducible rfl))
      | (refine wpAnyH_take (i := 15) (oi := ⟨some 20, _, _, _, _, _⟩) (v := undef) rfl (by kernel_rfl) (by kernel_rfl) (by kernel_rfl) (fun _ _ _ h => h) (Or.inr ⟨by rfl, rfl⟩) hHeld ?rr15)
    try simp only [Act.put, List.setIfInBounds_toArray, List.set_cons_zero, List.set_cons_succ]
    first
      | (refine wpAnyH_take (i := 16) (oi := ⟨some 21, _, _, _, _, _⟩) (v := ?v16) rfl (by kernel_rfl) (by kernel_rfl) (by kernel_rfl) (fun _ _ _ h => h) (Or.inl ⟨by rfl, ?hy16⟩) hHeld ?rr16
         case hy16 => (intro w hSw; (try dsimp only at hSw); go_simp; try with_reducible rfl))
      | (refine wpAnyH_take (i := 16) (oi := ⟨some 21, _, _, _, _, _⟩) (v := undef) rfl (by kernel_rfl) (by kernel_rfl) (by kernel_rfl) (fun _ _ _ h => h) (Or.inr ⟨by rfl, rfl⟩) hHeld ?rr16)
    try simp only [Act.put, List.setIfInBounds_toArray, List.set_cons_zero, List.set_cons_succ]
    first
      | (refine wpAnyH_take (i := 17) (oi := ⟨some 22, _, _, _, _, _⟩) (v := ?v17) rfl (by kernel_rfl) (by kernel_rfl) (by kernel_rfl) (fun _ _ _ h => h) (Or.inl ⟨by rfl, ?hy17⟩) hHeld ?rr17
         case hy17 => (intro w hSw; (try dsimp only at hSw); go_simp; try with_reducible rfl))
      | (refine wpAnyH_take (i := 17) (oi := ⟨some 22, _, _, _, _, _⟩) (v := undef) rfl (by kernel_rfl) (by kernel_rfl) (by kernel_rfl) (fun _ _ _ h => h) (Or.inr ⟨by rfl, rfl⟩) hHeld ?rr17)
    try simp only [Act.put, List.setIfInBounds_toArray, List.set_cons_zero, List.set_cons_succ]
    first
      | (refine wpAnyH_take (i := 18) (oi := ⟨some 23, _, _, _, _, _⟩) (v := ?v18) rfl (by kernel_rfl) (by kernel_rfl) (by kernel_rfl) (fun _ _ _ h => h) (Or.inl ⟨by rfl, ?hy18⟩) hHeld ?rr18
         case hy18 => (intro w hSw; (try dsimp only at hSw); go_simp; try with_reducible rfl))
      | (refine wpAnyH_take (i := 18) (oi := ⟨some 23, _, _, _, _, _⟩) (v := undef) rfl (by kernel_rfl) (by kernel_rfl) (by kernel_rfl) (fun _ _ _ h => h) (Or.inr ⟨by rfl, rfl⟩) hHeld ?rr18)
    try simp only [Act.put, List.setIfInBounds_toArray, List.set_cons_zero, List.set_cons_succ]
    first
      | (refine wpAnyH_take (i := 19) (oi := ⟨some 24, _, _, _, _, _⟩) (v := ?v19) rfl (by kernel_rfl) (by kernel_rfl) (by kernel_rfl) (fun _ _ _ h => h) (Or.inl ⟨by rfl, ?hy19⟩) hHeld ?rr19
         case hy19 => (intro w hSw; (try dsimp only at hSw); go_simp; try with_reducible rfl))
      | (refine wpAnyH_take (i := 19) (oi := ⟨some 24, _, _, _, _, _⟩) (v := undef) rfl (by kernel_rfl) (by kernel_rfl) (by kernel_rfl) (fun _ _ _ h => h) (Or.inr ⟨by rfl, rfl⟩) hHeld ?rr19)
    try simp only [Act.put, List.setIfInBounds_toArray, List.set_cons_zero, List.set_cons_succ]
    first
      | (refine wpAnyH_take (i := 20) (oi := ⟨some 25, _, _, _, _, _⟩) (v := ?v20) rfl (by kernel_rfl) (by kernel_rfl) (by kernel_rfl) (fun _ _ _ h => h) (Or.inl ⟨by rfl, ?hy20⟩) hHeld ?rr20
         case hy20 => (intro w hSw; (try dsimp only at hSw); go_simp; try with_reducible rfl))
      | (refine wpAnyH_take (i := 20) (oi := ⟨some 25, _, _, _, _, _⟩) (v := undef) rfl (by kernel_rfl) (by kernel_rfl) (by kernel_rfl) (fun _ _ _ h => h) (Or.inr ⟨by rfl, rfl⟩) hHeld ?rr20)
    try simp only [Act.put, List.setIfInBounds_toArray, List.set_cons_zero, List.set_cons_succ]
    first
      | (refine wpAnyH_take (i := 21) (oi := ⟨some 26, _, _, _, _, _⟩) (v := ?v21) rfl (by kernel_rfl) (by kernel_rfl) (by kernel_rfl) (fun _ _ _ h => h) (Or.inl ⟨by rfl, ?hy21⟩) hHeld ?rr21
         case hy21 => (intro w hSw; (try dsimp only at hSw); go_simp; try with_reducible rfl))
      | (refine wpAnyH_take (i := 21) (oi := ⟨some 26, _, _, _, _, _⟩) (v := undef) rfl (by kernel_rfl) (by kernel_rfl) (by kernel_rfl) (fun _ _ _ h => h) (Or.inr ⟨by rfl, rfl⟩) hHeld ?rr21)
    try simp only [Act.put, List.setIfInBounds_toArray, List.set_cons_zero, List.set_cons_succ]
    first
      | (refine wpAnyH_take (i := 22) (oi := ⟨some 27, _, _, _, _, _⟩) (v := ?v22) rfl (by kernel_rfl) (by kernel_rfl) (by kernel_rfl) (fun _ _ _ h => h) (Or.inl ⟨by rfl, ?hy22⟩) hHeld ?rr22
         case hy22 => (intro w hSw; (try dsimp only at hSw); go_simp; try with_reducible rfl))
      | (refine wpAnyH_take (i := 22) (oi := ⟨some 27, _, _, _, _, _⟩) (v := undef) rfl (by kernel_rfl) (by kernel_rfl) (by kernel_rfl) (fun _ _ _ h => h) (Or.inr ⟨by rfl, rfl⟩) hHeld ?rr22)
    try simp only [Act.put, List.setIfInBounds_toArray, List.set_cons_zero, List.set_cons_succ]
    first
      | (refine wpAnyH_take (i := 23) (oi := ⟨some 28, _, _, _, _, _⟩) (v := ?v23) rfl (by kernel_rfl) (by kernel_rfl) (by kernel_rfl) (fun _ _ _ h => h) (Or.inl ⟨by rfl, ?hy23⟩) hHeld ?rr23
         case hy23 => (intro w hSw; (try dsimp only at hSw); go_simp; try with_reducible rfl))
      | (refine wpAnyH_take (i := 23) (oi := ⟨some 28, _, _, _, _, _⟩) (v := undef) rfl (by kernel_rfl) (by kernel_rfl) (by kernel_rfl) (fun _ _ _ h => h) (Or.inr ⟨by rfl, rfl⟩) hHeld ?rr23)
    try simp only [Act.put, List.setIfInBounds_toArray, List.set_cons_zero, List.set_cons_succ]
    first
      | (refine wpAnyH_take (i := 24) (oi := ⟨some 4, _, _, _, _, _⟩) (v := ?v24) rfl (by kernel_rfl) (by kernel_rfl) (by kernel_rfl) (fun _ _ _ h => h) (Or.inl ⟨by rfl, ?hy24⟩) hHeld ?rr24
         case hy24 => (intro w hSw; (try dsimp only at hSw); go_simp; try with_reducible rfl))
      | (refine wpAnyH_take (i := 24) (oi := ⟨some 4, _, _, _, _, _⟩) (v := undef) rfl (by kernel_rfl) (by kernel_rfl) (by kernel_rfl) (fun _ _ _ h => h) (Or.inr ⟨by rfl, rfl⟩) hHeld ?rr24)
    try simp only [Act.put, List.setIfInBounds_toArray, List.set_cons_zero, List.set_cons_succ]
    refine wpAnyH_done (by kernel_rfl) ?_ _
    refine NoPanic.normal ?_
    go_wp2
    go_ret
    exact ⟨rfl, Below.drew (Below.refl _ w)⟩

theorem EntAt.below {w w' : World} {base : Nat} {p : PE} (h : EntAt w base p) (hb : Below w.heap.size w w') : EntAt w' base p := h.kept fun k hk => hb.block k (h.lt k hk).2

set_option maxRecDepth 20000 in
set_option maxHeartbeats 1600000 in
theorem conflicts_any {w : World} {base : Nat} {p : PE} (h : EntAt w base p) (pk : Pk) (ho : 0 ≤ pk.off) (ho2 : pk.off ≤ 4000) (hs : pk.s.size ≤ 4000) :
    Calls Try.prog 52 #[ptr p.b, pv pk] w fun e w' => e = .returned (.bool (clash p.x pk)) ∧ Below w.heap.size w w' := by
  obtain ⟨off, hoff⟩ : ∃ off : Nat, pk.off = (off : Int) := ⟨pk.off.toNat, by omega⟩
  obtain ⟨n, hn⟩ : ∃ n, endN pk = n := ⟨_, rfl⟩
  obtain ⟨m, hm⟩ : ∃ m, p.x.txt.length = m := ⟨_, rfl⟩
  have hen : pk.off + (pk.s.size : Int) = (n : Int) := by rw [← hn]; unfold endN; omega
  have hon : off ≤ n := by rw [← hn]; unfold endN; omega
  have hn8 : n ≤ 8000 := by rw [← hn]; unfold endN; omega
  have hm4 : m ≤ 4000 := by rw [← hm]; exact h.len.2
  have hE := end_any pk ho (by omega) (by omega)
  rw [hen] at hE
  have HE := Lib.hid hE
  have ht := h.txt
  rw [hm] at ht
  obtain ⟨q2, c2, hq2, -⟩ := row_shp ht
  have hcl : clash p.x pk = (((p.x.fin && decide (m < n)) || (!pk.mf && decide (n < m))) || (List.range (min n m - off)).any fun i => differ p.x pk (off + i)) := by
    unfold clash
    rw [hn, hm, hoff]; rfl
  obtain ⟨B, hB⟩ : ∃ B, ((p.x.fin && decide (m < n)) || (!pk.mf && decide (n < m))) = B := ⟨_, rfl⟩
  rw [hB] at hcl
  have H := Lib.hid h
  have HCL := Lib.hid hcl
  have hoff' := Lib.hid hoff
  have hn' := Lib.hid hn
  have hm' := Lib.hid hm
  have hB' := Lib.hid hB
  clear hE hen ht hcl hoff hn hm hB
  have hbd0 : ∀ W : World, Below w.heap.size w W → EntAt W base p := fun W hW => H.out.below hW
  unfold ptr
  go_enter Try.func52, Try.ntmps52
  go_wp2_with fail
  refine (HE.out _).mono ?_
  rintro e w2 ⟨rfl, hb1⟩
  have hBd := blk_below (blk_alloc (blk_new w (.cells #[.pointer (some ⟨p.b, 0, none⟩)] 91)) (po pk)) hb1 (by simp; omega)
  have hBp := blk_below (blk_new (w.alloc (.cells #[.pointer (some ⟨p.b, 0, none⟩)] 91)) (po pk)) hb1 (by simp)
  rw [World.size_alloc] at hBp
  have hb : Below w.heap.size w w2 := (((Below.refl _ w).alloc (Nat.le_refl _) _).alloc (by simp) _).trans (hb1.mono (by simp; omega))
  clear hb1
  have he2 := hbd0 w2 hb
  obtain ⟨-, -, -, c12, -, c14⟩ := dg_cells he2.blk
  obtain ⟨cd, -⟩ := blk_cell (k := 0) hBd rfl
  obtain ⟨cp6, -⟩ := blk_cell (k := 6) hBp rfl
  obtain ⟨cp7, -⟩ := blk_cell (k := 7) hBp rfl
  simp only [List.getElem_toArray, List.getElem_cons_zero, List.getElem_cons_succ] at cd cp6 cp7
  rw [hq2] at c12
  rw [hoff'.out] at cp7
  clear HE
  have HB2 := Lib.hid hb
  have HBD := Lib.hid hBd
  have HBP := Lib.hid hBp
  have HE2 := Lib.hid he2
  have HO := Lib.hid hbd0
  clear hb hBd hBp he2 hbd0 h
  go_upto_region 2 with fail
  go_cut [36] (fun v wx => v = .bool B ∧ w2 = wx)
  case first =>
    have hb := hB'.out
    clear hB'
    obtain ⟨fin, hfin⟩ : ∃ fin, p.x.fin = fin := ⟨_, rfl⟩
    obtain ⟨mf, hmf⟩ : ∃ mf, pk.mf = mf := ⟨_, rfl⟩
    rw [hfin] at hb c14
    rw [hmf] at hb cp6
    subst hb
    cases fin <;> cases mf <;> rcases Nat.lt_trichotomy m n with h1 | h1 | h1
    all_goals go_wp2
    all_goals go_meet
    all_goals refine ⟨?_, rfl⟩
    all_goals first | rfl | (congr 1; simp; try omega)
  case rest =>
    obtain ⟨rfl, rfl⟩ := hcut
    have hcl := HCL.out
    clear HCL
    cases B with
    | true =>
      clear hB'
      have hcl2 : clash p.x pk = true := by rw [hcl]; rfl
      clear hcl
      go_wp2
      go_ret
      exact ⟨ret_bool hcl2.symm, HB2.out⟩
    | false =>
      have hcl2 : clash p.x pk = (List.range (min n m - off)).any fun i => differ p.x pk (off + i) := by rw [hcl]; rfl
      have HCL := Lib.hid hcl2
      clear hcl hcl2 hB'
      obtain ⟨L, hL⟩ : ∃ L, min n m = L := ⟨_, rfl⟩
      have hLn : L ≤ n := by omega
      have hLm : L ≤ m := by omega
      rw [hL] at HCL
      have hmin : (if (m : Int) < (n : Int) then (m : Int) else (n : Int)) = (L : Int) := by split <;> omega
      have hmin2 : (if (n : Int) < (m : Int) then (n : Int) else (m : Int)) = (L : Int) := by split <;> omega
      have hmin3 : min (n : Int) (m : Int) = (L : Int) := by omega
      go_wp2_with fail
      clear hmin hmin2 hmin3 c12 c14 cd cp6 cp7
      have hLs := Lib.hid hL
      clear hL
      go_loopw [7] (fun i wr => ∃ k : Nat, off ≤ k ∧ (k ≤ L ∨ k = off) ∧ i = .int .i64 (k : Int) ∧ Hid (∀ j, off ≤ j → j < k → differ p.x pk j = false) ∧ Below w2.heap.size w2 wr) (fun i _ => L - (intOf i).toNat)
      case atStart => exact ⟨off, Nat.le_refl _, .inr rfl, rfl, Lib.hid (fun j h1 h2 => by omega), Below.refl _ _⟩
      case round =>
        obtain ⟨k, hk1, hk2, rfl, hno, hbr⟩ := hrel
        have hbw := HB2.out.trans (hbr.mono HB2.out.size)
        have hE := HO.out wr hbw
        obtain ⟨-, -, -, c12, -, -⟩ := dg_cells hE.blk
        rw [hq2] at c12
        have hBd := blk_below HBD.out hbr (blk_lt HBD.out)
        have hBp := blk_below HBP.out hbr (blk_lt HBP.out)
        obtain ⟨cd, -⟩ := blk_cell (k := 0) hBd rfl
        simp only [List.getElem_toArray, List.getElem_cons_zero] at cd
        rcases Nat.lt_or_ge k L with hkL | hkL
        · have hmin : (if m < n then (m : Int) else (n : Int)) = (L : Int) := by have := hLs.out; split <;> omega
          have hki : (k : Int) < (L : Int) := by omega
          have H := differ_any hE pk hBd hBp ho ho2 k (by rw [hoff'.out]; simpa using hk1) (by rw [hn'.out]; omega) (by rw [hm'.out]; omega)
          have HH := Lib.hid H
          have HBR := Lib.hid hbr
          have HBW := Lib.hid hbw
          clear H hE hBd hBp hbr hbw
          go_wp2_with fail
          refine HH.out.mono ?_
          rintro e w3 ⟨rfl, hb3⟩
          have hb3' := HBR.out.trans (hb3.mono HBR.out.size)
          have hb3w := HB2.out.trans (hb3'.mono HB2.out.size)
          have H3 := Lib.hid hb3'
          have H3w := Lib.hid hb3w
          clear hb3 hb3' hb3w HH
          obtain ⟨df, hdf⟩ : ∃ df, differ p.x pk k = df := ⟨_, rfl⟩
          rw [hdf]
          have HDF := Lib.hid hdf
          clear hdf
          cases df with
          | true =>
            go_wp2
            go_ret
            refine ⟨ret_bool ?_, H3w.out⟩
            rw [HCL.out]
            symm
            rw [List.any_eq_true]
            exact ⟨k - off, List.mem_range.2 (by omega), by rw [show off + (k - off) = k by omega]; exact HDF.out⟩
          | false =>
            go_wp2
            refine ⟨⟨k + 1, by omega, .inl (by omega), by simp, Lib.hid (fun j h1 h2 => ?_), H3.out⟩, ?_⟩
            · rcases Nat.lt_or_ge j k with h3 | h3
              · exact hno.out j h1 h3
              · obtain rfl : j = k := by omega
                exact HDF.out
            · show L - ((k : Int) + 1).toNat < L - (k : Int).toNat
              omega
        · have hmin : (if m < n then (m : Int) else (n : Int)) = (L : Int) := by have := hLs.out; split <;> omega
          have hki : ¬ (k : Int) < (L : Int) := by omega
          clear hE hBd hBp
          have HBW := Lib.hid hbw
          clear hbw hbr
          go_wp2
          go_ret
          refine ⟨ret_bool ?_, HBW.out⟩
          rw [HCL.out]
          symm
          rw [List.any_eq_false]
          intro i hi
          have := List.mem_range.1 hi
          rw [hno.out (off + i) (by omega) (by omega)]
          simp
end Go.Proofs.Ytecboengeheapaa
