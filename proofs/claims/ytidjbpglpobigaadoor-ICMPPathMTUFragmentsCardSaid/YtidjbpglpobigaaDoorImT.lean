/- The table of path MTUs in memory; IndexFunc, DeleteFunc where nothing goes. Contracts of the table of path MTUs where no entry goes: expire, remove, Len, Size, New, Lower. Contract of (*icmp.Paths).Lower where no entry goes. -/
import Derived.Test.YtidjbpglpobigaaDoorImM
import Derived.Test.YtidjbpglpobigaaDoorIpFg
import Derived.BigRegion
import Derived.Test.YtidjbpglpobigaaDoorImO
import Derived.Test.YtidjbpglpobigaaDoorIpC
import Derived.Laws.AppendOwn
namespace Go.Proofs.YtidjbpglpobigaaDoor
section
attribute [local go_sem] Oper.semAt_some
open Go.RowKit
set_option linter.unusedVariables false

structure Pe where
  pt : Int
  sz : Int
  tm : Int
abbrev pav (x : Pe) : Value := .agg #[.int .i64 x.pt, .int .i64 x.sz, .int .i64 x.tm]
abbrev pao (x : Pe) : Obj := .cells #[.int .i64 x.pt, .int .i64 x.sz, .int .i64 x.tm] 104
abbrev pcl3 (x : Pe) : List Value := [.int .i64 x.pt, .int .i64 x.sz, .int .i64 x.tm]
def flat3 (L : List Pe) : List Value := L.flatMap fun x => pcl3 x
theorem flat3_snoc (L : List Pe) (x : Pe) : flat3 (L ++ [x]) = flat3 L ++ pcl3 x := by simp [flat3]
theorem flat3_at : ∀ (L : List Pe) (i : Nat) (x : Pe), L[i]? = some x → ∀ c, c < 3 → (flat3 L)[i * 3 + c]? = (pcl3 x)[c]?
  | [], i, x, h, c, hc => by simp at h
  | p :: L, 0, x, h, c, hc => by
    simp at h; subst h
    rw [show flat3 (p :: L) = pcl3 p ++ flat3 L from by simp [flat3], Nat.zero_mul, Nat.zero_add, List.getElem?_append_left (by simpa using hc)]
  | p :: L, i + 1, x, h, c, hc => by
    have ih := flat3_at L i x (by simpa using h) c hc
    rw [show flat3 (p :: L) = pcl3 p ++ flat3 L from by simp [flat3], List.getElem?_append_right (by simp; omega), ← ih]
    congr 1
    simp; omega
theorem infoPe : (Tryd.prog.info? 104).map (fun i => (i.zero, i.size, i.bytes)) = some (some (.agg #[.int .i64 0, .int .i64 0, .int .i64 0]), 3, 24) := by kernel_rfl

/-- the table -/
def TabM (base : Nat) (w : World) (P : Nat) (v : Value) (L : List Pe) : Prop :=
  w.heap[P]? = some (.cells #[v] 101) ∧ w.ownsRow base 104 3 v L.length (flat3 L)
theorem row_lt {w : World} {base : Nat} {e : TypeId} {size : Nat} {v : Value} {n : Nat} {xs : List Value} (h : w.ownsRow base e size v n xs) : ∀ k, v.ownBlock = some k → k < w.heap.size := fun k hk => by
  obtain ⟨-, cur, hc⟩ := row_cells h hk
  exact blk_lt hc
theorem TabM.below {base : Nat} {w w' : World} {P : Nat} {v : Value} {L : List Pe} (h : TabM base w P v L) (hb : Below w.heap.size w w') : TabM base w' P v L :=
  ⟨blk_below h.1 hb (blk_lt h.1), row_of_block h.2 (fun k hk => hb.block k (row_lt h.2 k hk))⟩

theorem fresh_any (x : Pe) (now : Int) (h1 : -9000000000000000000 ≤ x.tm) (h2 : x.tm ≤ 9000000000000000000) (w : World) :
    Calls Tryd.prog 63 #[pav x, .int .i64 now] w fun e w' => e = .returned (.bool (decide (now < x.tm + 600))) ∧ Below w.heap.size w w' := by
  have hw : IntKind.i64.wrap (x.tm + 600) = x.tm + 600 := IntWalk.i64_in _ (by omega)
  go_enter Tryd.func63, Tryd.ntmps63
  go_wp2
  go_ret
  exact ⟨rfl, (Below.refl _ w).alloc (Nat.le_refl _) _⟩

/-- expire's own function -/
theorem expire1_any (x : Pe) (now : Int) (B : Nat) (h1 : -9000000000000000000 ≤ x.tm) (h2 : x.tm ≤ 9000000000000000000) (w : World) (hB : w.heap[B]? = some (.cells #[.int .i64 now] 3)) :
    Calls Tryd.prog 85 #[pav x, .pointer (some ⟨B, 0, none⟩)] w fun e w' => e = .returned (.bool (!decide (now < x.tm + 600))) ∧ Below w.heap.size w w' := by
  have b0 := (blk_cell (k := 0) (blk_alloc hB (pao x)) rfl).1
  simp only [List.getElem_toArray, List.getElem_cons_zero] at b0
  go_enter Tryd.func85, Tryd.ntmps85
  go_wp2_with fail
  refine (fresh_any x now h1 h2 _).mono ?_
  rintro e w2 ⟨rfl, hb2⟩
  go_wp2
  go_ret
  exact ⟨rfl, ((Below.refl _ w).alloc (Nat.le_refl _) _).trans (hb2.mono (by simp))⟩

def peq (x y : Pe) : Bool := x.pt == y.pt && x.sz == y.sz && x.tm == y.tm
theorem remove1_any (x y : Pe) (B : Nat) (w : World) (hB : w.heap[B]? = some (pao y)) :
    Calls Tryd.prog 86 #[pav x, .pointer (some ⟨B, 0, none⟩)] w fun e w' => e = .returned (.bool (peq x y)) ∧ Below w.heap.size w w' := by
  obtain ⟨b0, -⟩ := blk_cell (k := 0) (blk_alloc hB (pao x)) rfl
  obtain ⟨b1, -⟩ := blk_cell (k := 1) (blk_alloc hB (pao x)) rfl
  obtain ⟨b2, -⟩ := blk_cell (k := 2) (blk_alloc hB (pao x)) rfl
  simp only [List.getElem_toArray, List.getElem_cons_zero, List.getElem_cons_succ] at b0 b1 b2
  go_enter Tryd.func86, Tryd.ntmps86
  go_wp2
  all_goals go_ret
  all_goals exact ⟨ret_bool (by simp [peq, *]), (Below.refl _ w).alloc (Nat.le_refl _) _⟩

/-- the first place at which p holds -/
def idxP (p : Pe → Bool) : List Pe → Nat → Int
  | [], _ => -1
  | x :: L, k => if p x then (k : Int) else idxP p L (k + 1)
set_option maxRecDepth 100000 in
set_option maxHeartbeats 3200000 in
theorem index_none (f : Nat) (lb : Array Value) (hf : ∀ args w, (callFunc f args).run Tryd.prog w = .ok (.enter f args) w) (base : Nat) (v : Value) (L : List Pe) (w : World) (hr : w.ownsRow base 104 3 v L.length (flat3 L)) (hL : L.length ≤ 100)
    (hp : ∀ W x, Below w.heap.size w W → x ∈ L → Calls Tryd.prog f (#[pav x] ++ lb) W fun e W' => e = .returned (.bool false) ∧ Below W.heap.size W W') :
    Calls Tryd.prog 100 #[v, .func (.func f) #[] lb] w fun e w' => e = .returned (.int .i64 (-1)) ∧ Below w.heap.size w w' := by
  obtain ⟨n, hn⟩ : ∃ n, L.length = n := ⟨_, rfl⟩
  have hlen : (flat3 L).length = n * 3 := by have := hr.1; rw [hn] at this; exact this
  rw [hn] at hr hL
  have HP := Lib.hid hp
  clear hp
  rcases hr.2 with ⟨rfl, hn0⟩ | ⟨g, cc, cur, rfl, -, hg, hcc, -⟩
  · subst hn0
    go_enter Tryd.func100, Tryd.ntmps100
    go_wp2_with fail
    refine wp_loop_rounds 1 ?_
    rw [rounds_succ]
    go_wp2
    go_ret
    exact ⟨rfl, Below.refl _ _⟩
  have hgl := blk_lt hg
  have HR := Lib.hid hr
  clear hr hg
  go_enter Tryd.func100, Tryd.ntmps100
  go_wp2_with fail
  go_loopw [8] (fun i wr => ∃ k : Nat, k ≤ n ∧ i = .int .i64 (k : Int) ∧ Hid (Below w.heap.size w wr)) (fun i _ => n - (intOf i).toNat)
  case atStart => exact ⟨0, Nat.zero_le _, rfl, Below.refl _ _⟩
  case round =>
    obtain ⟨k, hk, rfl, HBK⟩ := hrel
    by_cases hkn : k < n
    · have hki : (k : Int) < (n : Int) := by omega
      obtain ⟨x, hx⟩ : ∃ x, L[k]? = some x := ⟨L[k]'(by omega), List.getElem?_eq_getElem (by omega)⟩
      have hxm : x ∈ L := List.mem_of_getElem? hx
      have hcl : ∀ c, c < 3 → wr.cell? ⟨g, k * 3 + c, none⟩ = (pcl3 x)[c]? := fun c hc => by
        rw [HBK.out.cell (p := ⟨g, k * 3 + c, none⟩) hgl, HR.out.cellAt (k * 3 + c) (by omega)]
        exact flat3_at L k x hx c hc
      have c0 : wr.cell? ⟨g, k * 3, none⟩ = some (.int .i64 x.pt) := hcl 0 (by decide)
      have c1 : wr.cell? ⟨g, k * 3 + 1, none⟩ = some (.int .i64 x.sz) := hcl 1 (by decide)
      have c2 : wr.cell? ⟨g, k * 3 + 2, none⟩ = some (.int .i64 x.tm) := hcl 2 (by decide)
      clear hcl hx
      go_wp2_with (refine (HP.out _ x HBK.out hxm).mono ?_; rintro e w2 ⟨rfl, hb2⟩)
      refine ⟨⟨k + 1, by omega, ?_, Lib.hid (HBK.out.trans (hb2.mono HBK.out.size))⟩, ?_⟩
      · rw [Int.natCast_add]; rfl
      · simp [intOf]; omega
    · obtain rfl : k = n := by omega
      go_wp2
      go_ret
      exact ⟨rfl, HBK.out⟩

/-- slices.DeleteFunc, nothing goes -/
theorem delete_none (f : Nat) (lb : Array Value) (hf : ∀ args w, (callFunc f args).run Tryd.prog w = .ok (.enter f args) w) (base : Nat) (v : Value) (L : List Pe) (w : World) (hr : w.ownsRow base 104 3 v L.length (flat3 L)) (hL : L.length ≤ 100)
    (hp : ∀ W x, Below w.heap.size w W → x ∈ L → Calls Tryd.prog f (#[pav x] ++ lb) W fun e W' => e = .returned (.bool false) ∧ Below W.heap.size W W') :
    Calls Tryd.prog 84 #[v, .func (.func f) #[] lb] w fun e w' => e = .returned v ∧ Below w.heap.size w w' := by
  have HI := Lib.hid (index_none f lb hf base v L w hr hL hp)
  obtain ⟨pp, cc, rfl, hpn⟩ := row_shape hr
  clear hp hr
  go_enter Tryd.func84, Tryd.ntmps84
  go_wp2_with fail
  refine HI.out.mono ?_
  rintro e w2 ⟨rfl, hb2⟩
  go_wp2
  go_ret
  exact ⟨rfl, hb2⟩

/-- the entry for an address -/
def lookT : List Pe → Int → Pe
  | [], _ => ⟨0, 0, 0⟩
  | x :: L, ad => if x.pt = ad then x else lookT L ad
theorem lookT_drop : ∀ (L : List Pe) (ad : Int) (k : Nat), (∀ j (h : j < L.length), j < k → (L[j]).pt ≠ ad) → lookT L ad = lookT (L.drop k) ad
  | L, ad, 0, _ => by rw [List.drop_zero]
  | [], ad, k + 1, _ => by rw [List.drop_nil]
  | x :: L, ad, k + 1, h => by
    have h0 := h 0 (by simp) (by omega)
    rw [List.drop_succ_cons]
    rw [show lookT (x :: L) ad = lookT L ad from if_neg (by simpa using h0)]
    exact lookT_drop L ad k (fun j hj hk => by have := h (j + 1) (by simpa using hj) (by omega); simpa using this)
theorem set3_res {W : World} {N : Nat} {q : Pe} (h : W.heap[N]? = some (pao q)) (p : Pe) :
    (((W.setCell ⟨N, 0, none⟩ (.int .i64 p.pt)).setCell ⟨N, 1, none⟩ (.int .i64 p.sz)).setCell ⟨N, 2, none⟩ (.int .i64 p.tm)).heap[N]? = some (pao p) :=
  blk_setc (k := 2) (blk_setc (k := 1) (blk_setc (k := 0) h (.int .i64 p.pt)) (.int .i64 p.sz)) (.int .i64 p.tm)
set_option maxRecDepth 100000 in
set_option maxHeartbeats 3200000 in
theorem pathTo_any (base : Nat) (P : Nat) (v : Value) (L : List Pe) (ad : Int) (w : World) (hT : TabM base w P v L) (hL : L.length ≤ 100) :
    Calls Tryd.prog 60 #[.pointer (some ⟨P, 0, none⟩), .int .i64 ad] w fun e w' => e = .returned (pav (lookT L ad)) ∧ Below w.heap.size w w' := by
  obtain ⟨n, hn⟩ : ∃ n, L.length = n := ⟨_, rfl⟩
  have hz := blk_new w (pao ⟨0, 0, 0⟩)
  have hB0 : Below w.heap.size w (w.alloc (pao ⟨0, 0, 0⟩)) := (Below.refl _ w).alloc (Nat.le_refl _) _
  obtain ⟨hP, hr⟩ := hT.below ((Below.refl _ w).alloc (Nat.le_refl _) (pao ⟨0, 0, 0⟩))
  obtain ⟨p0, -⟩ := blk_cell (k := 0) hP rfl
  simp only [List.getElem_toArray, List.getElem_cons_zero] at p0
  rw [hn] at hr hL
  have hg : ∀ (k : Nat) (x : Pe), L[k]? = some x → ∃ g cc, v = .slice (some ⟨g, 0, none⟩) n cc ∧ g < (w.alloc (pao ⟨0, 0, 0⟩)).heap.size := fun k x hk => by
    rcases hr.2 with ⟨-, hn0⟩ | ⟨g, cc, cur, rfl, -, hg, -⟩
    · have e := List.length_eq_zero_iff.1 (hn.trans hn0)
      simp [e] at hk
    · exact ⟨g, cc, rfl, blk_lt hg⟩
  obtain ⟨pp, cc, rfl, hpn⟩ := row_shape hr
  have HR := Lib.hid hr
  have HG := Lib.hid hg
  have HZ := Lib.hid hz
  have HB0 := Lib.hid hB0
  have HN := Lib.hid hn
  clear hr hg hz hB0 hn hP hpn hT
  go_enter Tryd.func60, Tryd.ntmps60
  go_wp2_with fail
  generalize hw0 : w.alloc (pao ⟨0, 0, 0⟩) = w0 at *
  go_loopw [12] (fun i wr => ∃ k : Nat, k ≤ n ∧ i = .int .i64 (k : Int) ∧ Hid (Below w0.heap.size w0 wr) ∧ Hid (∀ j (h : j < L.length), j < k → (L[j]).pt ≠ ad)) (fun i _ => n - (intOf i).toNat)
  case atStart => exact ⟨0, Nat.zero_le _, rfl, Below.refl _ _, fun _ _ h => absurd h (Nat.not_lt_zero _)⟩
  case round =>
    obtain ⟨k, hk, rfl, HBK, HJ⟩ := hrel
    have hBK := HB0.out.trans (HBK.out.mono HB0.out.size)
    have hZK := blk_below HZ.out HBK.out (blk_lt HZ.out)
    have hzl := blk_lt hZK
    by_cases hkn : k < n
    · have hki : (k : Int) < (n : Int) := by omega
      have hkL : k < L.length := by rw [HN.out]; exact hkn
      have hx : L[k]? = some L[k] := List.getElem?_eq_getElem hkL
      have hlk := lookT_drop L ad k HJ.out
      rw [← List.getElem_cons_drop hkL] at hlk
      obtain ⟨x, hxx⟩ : ∃ x, L[k] = x := ⟨_, rfl⟩
      rw [hxx] at hx hlk
      obtain ⟨g, cc', he, hgl⟩ := HG.out k x hx
      obtain ⟨rfl, rfl⟩ : pp = some ⟨g, 0, none⟩ ∧ cc = cc' := by simpa using he
      have hcl : ∀ c, c < 3 → wr.cell? ⟨g, k * 3 + c, none⟩ = (pcl3 x)[c]? := fun c hc => by
        rw [HBK.out.cell (p := ⟨g, k * 3 + c, none⟩) hgl, HR.out.cellAt (k * 3 + c) (by omega)]
        exact flat3_at L k x hx c hc
      have c0 : wr.cell? ⟨g, k * 3, none⟩ = some (.int .i64 x.pt) := hcl 0 (by decide)
      have c1 : wr.cell? ⟨g, k * 3 + 1, none⟩ = some (.int .i64 x.sz) := hcl 1 (by decide)
      have c2 : wr.cell? ⟨g, k * 3 + 2, none⟩ = some (.int .i64 x.tm) := hcl 2 (by decide)
      have hZA := blk_alloc hZK (pao x)
      have hBA := hBK.alloc hBK.size (pao x)
      have hKA : Below w0.heap.size w0 (wr.alloc (pao x)) := HBK.out.alloc HBK.out.size _
      have z0 := blk_cell (k := 0) hZK rfl
      have z1 := blk_cell (k := 1) hZK rfl
      have z2 := blk_cell (k := 2) hZK rfl
      simp only [List.getElem_toArray, List.getElem_cons_zero, List.getElem_cons_succ] at z0 z1 z2
      have HZA := Lib.hid hZK
      have HBA := Lib.hid hBK
      have HKA := Lib.hid hKA
      have HLK := Lib.hid hlk
      have HXX := Lib.hid hxx
      have hnw : wr.heap.size ≠ w.heap.size := by omega
      clear hcl hZA hBA hKA hlk hxx hx hBK hZK he
      by_cases hxa : x.pt = ad
      · have HXA := Lib.hid hxa
        have hxb : (x.pt == ad) = true := by simpa using hxa
        clear hxa
        go_wp2
        have q1 := blk_alloc (set3_res HZA.out x) (pao x)
        have g0 := (blk_cell (k := 0) q1 rfl).1
        have g1 := (blk_cell (k := 1) q1 rfl).1
        have g2 := (blk_cell (k := 2) q1 rfl).1
        simp only [List.getElem_toArray, List.getElem_cons_zero, List.getElem_cons_succ] at g0 g1 g2
        have q2 := (((HBA.out.setCell (p := ⟨w.heap.size, 0, none⟩) (Nat.le_refl _) (.int .i64 x.pt)).setCell (p := ⟨w.heap.size, 1, none⟩) (Nat.le_refl _) (.int .i64 x.sz)).setCell (p := ⟨w.heap.size, 2, none⟩) (Nat.le_refl _) (.int .i64 x.tm)).alloc (by simp only [World.size_setCell]; omega) (pao x)
        refine bodyPost_ret (v := pav x) (by simp [results, Tryd.results60, go_sem, g0, g1, g2]; try rfl) rfl ?_
        exact ⟨by rw [HLK.out, show lookT (x :: L.drop (k + 1)) ad = x from if_pos HXA.out], q2⟩
      · have hxb : (x.pt == ad) = false := by simpa using hxa
        have HXA := Lib.hid hxa
        clear hxa
        go_wp2
        refine ⟨⟨k + 1, by omega, ?_, HKA, ?_⟩, ?_⟩
        · rw [Int.natCast_add]; rfl
        · refine Lib.hid (fun j hj hjk => ?_)
          by_cases hjk2 : j = k
          · subst hjk2; rw [HXX.out]; exact HXA.out
          · exact HJ.out j hj (by omega)
        · simp [intOf]; omega
    · obtain rfl : k = n := by omega
      have z0 := blk_cell (k := 0) hZK rfl
      have z1 := blk_cell (k := 1) hZK rfl
      have z2 := blk_cell (k := 2) hZK rfl
      simp only [List.getElem_toArray, List.getElem_cons_zero, List.getElem_cons_succ] at z0 z1 z2
      have hlk := lookT_drop L ad k HJ.out
      rw [List.drop_eq_nil_of_le (by rw [HN.out]; exact Nat.le_refl _)] at hlk
      have HLK := Lib.hid hlk
      have HZK := Lib.hid hZK
      have HBB := Lib.hid hBK
      clear hlk hZK hBK
      go_wp2
      have q1 := set3_res HZK.out ⟨0, 0, 0⟩
      have g0 := (blk_cell (k := 0) q1 rfl).1
      have g1 := (blk_cell (k := 1) q1 rfl).1
      have g2 := (blk_cell (k := 2) q1 rfl).1
      simp only [List.getElem_toArray, List.getElem_cons_zero, List.getElem_cons_succ] at g0 g1 g2
      have q2 := (((HBB.out.setCell (p := ⟨w.heap.size, 0, none⟩) (Nat.le_refl _) (.int .i64 0)).setCell (p := ⟨w.heap.size, 1, none⟩) (Nat.le_refl _) (.int .i64 0)).setCell (p := ⟨w.heap.size, 2, none⟩) (Nat.le_refl _) (.int .i64 0))
      refine bodyPost_ret (v := pav ⟨0, 0, 0⟩) (by simp [results, Tryd.results60, go_sem, g0, g1, g2]; try rfl) rfl ?_
      exact ⟨by rw [HLK.out]; rfl, q2⟩
end
section
attribute [local go_sem] Oper.semAt_some
open Go.RowKit
set_option linter.unusedVariables false

theorem TabM.touch {base : Nat} {w w' : World} {P : Nat} {v : Value} {L : List Pe} (h : TabM base w P v L) (hP : w'.heap[P]? = w.heap[P]?) (hr : ∀ k, v.ownBlock = some k → w'.heap[k]? = w.heap[k]?) : TabM base w' P v L :=
  ⟨hP.trans h.1, row_of_block h.2 hr⟩
theorem TabM.ne {base : Nat} {w : World} {P : Nat} {v : Value} {L : List Pe} (h : TabM base w P v L) : v.ownBlock ≠ some P := fun e => by
  obtain ⟨-, cur, hc⟩ := row_cells h.2 e
  have h1 := h.1
  rw [hc] at h1
  cases h1
theorem setP_same {base : Nat} {w : World} {P : Nat} {v : Value} {L : List Pe} (h : TabM base w P v L) : TabM base (w.setCell ⟨P, 0, none⟩ v) P v L :=
  ⟨blk_setc (k := 0) h.1 v, row_of_block h.2 (fun k hk => Below.heap_setCell _ _ _ _ (fun e => h.ne (by rw [hk]; exact congrArg some e)))⟩

set_option maxRecDepth 100000 in
set_option maxHeartbeats 1600000 in
theorem expire_none (base P : Nat) (v : Value) (L : List Pe) (now : Int) (w : World) (hT : TabM base w P v L) (hL : L.length ≤ 100)
    (hf : ∀ x ∈ L, -9000000000000000000 ≤ x.tm ∧ x.tm ≤ 9000000000000000000 ∧ now < x.tm + 600) :
    Calls Tryd.prog 59 #[.pointer (some ⟨P, 0, none⟩), .int .i64 now] w fun e w' => e = .returned (.tuple #[]) ∧ TabM base w' P v L ∧ Touch (fun k => k = P) w w' := by
  have hT1 := hT.below ((Below.refl _ w).alloc (Nat.le_refl _) (.cells #[.int .i64 now] 3))
  have hB1 := blk_new w (.cells #[.int .i64 now] 3)
  have hb1 : Below w.heap.size w (w.alloc (.cells #[.int .i64 now] 3)) := (Below.refl _ w).alloc (Nat.le_refl _) _
  obtain ⟨p0, f0⟩ := blk_cell (k := 0) hT1.1 rfl
  simp only [List.getElem_toArray, List.getElem_cons_zero] at p0
  have hD := delete_none 85 #[.pointer (some ⟨w.heap.size, 0, none⟩)] (enters_of Tryd.func85 (by kernel_rfl) rfl) base v L _ hT1.2 hL (fun W x hb hx => by
    obtain ⟨h1, h2, h3⟩ := hf x hx
    have := expire1_any x now w.heap.size h1 h2 W (blk_below hB1 hb (by simp))
    rw [decide_eq_true h3] at this
    exact this)
  have HD := Lib.hid hD
  have hPl := blk_lt hT.1
  have hPw : P ≠ w.heap.size := by omega
  obtain ⟨pp, cc, hv, -⟩ := row_shape hT.2
  subst hv
  have HT1 := Lib.hid hT1
  have HB1 := Lib.hid hb1
  clear hD hT1 hb1
  go_enter Tryd.func59, Tryd.ntmps59
  go_wp2_with fail
  refine HD.out.mono ?_
  rintro e w2 ⟨rfl, hb2⟩
  have hT2 := HT1.out.below hb2
  obtain ⟨q0, g0⟩ := blk_cell (k := 0) hT2.1 rfl
  simp only [List.getElem_toArray, List.getElem_cons_zero] at q0
  have HT2 := Lib.hid hT2
  have HB2 := Lib.hid (HB1.out.trans (hb2.mono HB1.out.size))
  clear hT2 hb2
  go_wp2
  refine bodyPost_end (v := .tuple #[]) (by simp [results, Tryd.results59, go_sem]; try rfl) rfl ⟨rfl, setP_same HT2.out, (Touch.of HB2.out).setc _ rfl⟩

set_option maxRecDepth 100000 in
set_option maxHeartbeats 1600000 in
theorem remove_none (base P : Nat) (v : Value) (L : List Pe) (y : Pe) (w : World) (hT : TabM base w P v L) (hL : L.length ≤ 100)
    (hf : ∀ x ∈ L, peq x y = false) :
    Calls Tryd.prog 61 #[.pointer (some ⟨P, 0, none⟩), pav y] w fun e w' => e = .returned (.tuple #[]) ∧ TabM base w' P v L ∧ Touch (fun k => k = P) w w' := by
  have hT1 := hT.below ((Below.refl _ w).alloc (Nat.le_refl _) (pao y))
  have hB1 := blk_new w (pao y)
  have hb1 : Below w.heap.size w (w.alloc (pao y)) := (Below.refl _ w).alloc (Nat.le_refl _) _
  obtain ⟨p0, f0⟩ := blk_cell (k := 0) hT1.1 rfl
  simp only [List.getElem_toArray, List.getElem_cons_zero] at p0
  have hD := delete_none 86 #[.pointer (some ⟨w.heap.size, 0, none⟩)] (enters_of Tryd.func86 (by kernel_rfl) rfl) base v L _ hT1.2 hL (fun W x hb hx => by
    have := remove1_any x y w.heap.size W (blk_below hB1 hb (by simp))
    rw [hf x hx] at this
    exact this)
  have HD := Lib.hid hD
  have hPl := blk_lt hT.1
  have hPw : P ≠ w.heap.size := by omega
  obtain ⟨pp, cc, hv, -⟩ := row_shape hT.2
  subst hv
  have HT1 := Lib.hid hT1
  have HB1 := Lib.hid hb1
  clear hD hT1 hb1
  go_enter Tryd.func61, Tryd.ntmps61
  go_wp2_with fail
  refine HD.out.mono ?_
  rintro e w2 ⟨rfl, hb2⟩
  have hT2 := HT1.out.below hb2
  obtain ⟨q0, g0⟩ := blk_cell (k := 0) hT2.1 rfl
  simp only [List.getElem_toArray, List.getElem_cons_zero] at q0
  have HT2 := Lib.hid hT2
  have HB2 := Lib.hid (HB1.out.trans (hb2.mono HB1.out.size))
  clear hT2 hb2
  go_wp2
  refine bodyPost_end (v := .tuple #[]) (by simp [results, Tryd.results61, go_sem]; try rfl) rfl ⟨rfl, setP_same HT2.out, (Touch.of HB2.out).setc _ rfl⟩

theorem plen_any (base P : Nat) (v : Value) (L : List Pe) (w : World) (hT : TabM base w P v L) :
    Calls Tryd.prog 32 #[.pointer (some ⟨P, 0, none⟩)] w fun e w' => e = .returned (.int .i64 (L.length : Int)) ∧ w = w' := by
  obtain ⟨p0, f0⟩ := blk_cell (k := 0) hT.1 rfl
  simp only [List.getElem_toArray, List.getElem_cons_zero] at p0
  obtain ⟨pp, cc, hv, -⟩ := row_shape hT.2
  subst hv
  go_enter Tryd.func32, Tryd.ntmps32
  go_wp2
  go_ret
  exact ⟨rfl, rfl⟩

theorem pnew_any (w : World) :
    Calls Tryd.prog 28 #[] w fun e w' => ∃ P, e = .returned (.pointer (some ⟨P, 0, none⟩)) ∧ w.heap.size ≤ P ∧ TabM w.heap.size w' P (.slice none 0 0) [] ∧ Below w.heap.size w w' := by
  go_enter Tryd.func28, Tryd.ntmps28
  go_wp2
  go_ret
  exact ⟨_, rfl, Nat.le_refl _, ⟨blk_new w _, World.ownsRow_nil _ _ _ _⟩, (Below.refl _ w).alloc (Nat.le_refl _) _⟩

/-- the size for an address -/
def sizeT (L : List Pe) (now ad mtu : Int) : Int := if peq (lookT L ad) ⟨0, 0, 0⟩ = false ∧ now < (lookT L ad).tm + 600 then min mtu (lookT L ad).sz else mtu
set_option maxRecDepth 100000 in
set_option maxHeartbeats 1600000 in
theorem psize_go (base P : Nat) (v : Value) (L : List Pe) (now ad mtu : Int) (w : World) (hT : TabM base w P v L) (hL : L.length ≤ 100) (p z t : Int) (hx : lookT L ad = ⟨p, z, t⟩) (hz : (p = 0 ∧ z = 0 ∧ t = 0) ∨ z ≠ 0) (h1 : -9000000000000000000 ≤ t) (h2 : t ≤ 9000000000000000000) :
    Calls Tryd.prog 33 #[.pointer (some ⟨P, 0, none⟩), .int .i64 now, .int .i64 ad, .int .i64 mtu] w fun e w' => e = .returned (.int .i64 (if z ≠ 0 ∧ now < t + 600 then min mtu z else mtu)) ∧ Below w.heap.size w w' := by
  have HP := Lib.hid (fun W (hb : Below w.heap.size w W) => pathTo_any base P v L ad W (hT.below hb) hL)
  have HX := Lib.hid hx
  clear hx
  have hfr := fun W => fresh_any ⟨p, z, t⟩ now h1 h2 W
  have HF := Lib.hid hfr
  have hb0 : Below w.heap.size w (w.alloc (pao ⟨0, 0, 0⟩)) := (Below.refl _ w).alloc (Nat.le_refl _) _
  clear hfr
  obtain ⟨RR, hRR⟩ : ∃ RR : Int, (if z ≠ 0 ∧ now < t + 600 then min mtu z else mtu) = RR := ⟨_, rfl⟩
  rw [hRR]
  have HRR := Lib.hid hRR
  clear hRR
  obtain ⟨B, hB⟩ : ∃ B : Bool, decide (now < t + 600) = B := ⟨_, rfl⟩
  have HBB := Lib.hid hB
  clear hB
  rcases hz with ⟨rfl, rfl, rfl⟩ | hz
  · rw [HRR.out.symm.trans (if_neg (fun h => h.1 rfl))]
    go_enter Tryd.func33, Tryd.ntmps33
    go_wp2_with (first
      | (go_at_call 60; refine (HP.out _ (by first | exact Below.refl _ _ | exact hb0)).mono ?_; rintro e w2 ⟨rfl, hb2⟩; rw [HX.out])
      | (go_at_call 63; refine (HF.out _).mono ?_; rintro e w3 ⟨rfl, hb3⟩; rw [HBB.out]))
    go_ret
    exact ⟨rfl, hb2.alloc hb2.size _⟩
  · have hzb : (z == 0) = false := by simpa using hz
    have HZ := Lib.hid hz
    clear hz
    cases B
    · have HN : ¬ (now < t + 600) := of_decide_eq_false HBB.out
      rw [HRR.out.symm.trans (if_neg (fun h => HN h.2))]
      clear HN
      go_enter Tryd.func33, Tryd.ntmps33
      go_wp2_with (first
        | (go_at_call 60; refine (HP.out _ (Below.refl _ _)).mono ?_; rintro e w2 ⟨rfl, hb2⟩; rw [HX.out])
        | (go_at_call 63; refine (HF.out _).mono ?_; rintro e w3 ⟨rfl, hb3⟩; rw [HBB.out]))
      all_goals go_ret
      all_goals exact ⟨rfl, hb2.trans ((((Below.refl _ w2).alloc (Nat.le_refl _) (pao ⟨p, z, t⟩)).trans (hb3.mono (by simp))).mono hb2.size)⟩
    · have HN : now < t + 600 := of_decide_eq_true HBB.out
      rw [HRR.out.symm.trans (if_pos ⟨HZ.out, HN⟩)]
      clear HN
      rcases Int.lt_or_le z mtu with hzm | hzm
      · rw [show min mtu z = z by omega]
        go_enter Tryd.func33, Tryd.ntmps33
        go_wp2_with (first
          | (go_at_call 60; refine (HP.out _ (Below.refl _ _)).mono ?_; rintro e w2 ⟨rfl, hb2⟩; rw [HX.out])
          | (go_at_call 63; refine (HF.out _).mono ?_; rintro e w3 ⟨rfl, hb3⟩; rw [HBB.out]; have hc1 := keep_cell hb3 (blk_cell (k := 1) (blk_new w2 (pao ⟨p, z, t⟩)) rfl).1; simp only [List.getElem_toArray, List.getElem_cons_zero, List.getElem_cons_succ] at hc1))
        all_goals go_ret
        all_goals exact ⟨rfl, hb2.trans ((((Below.refl _ w2).alloc (Nat.le_refl _) (pao ⟨p, z, t⟩)).trans (hb3.mono (by simp))).mono hb2.size)⟩
      · rw [show min mtu z = mtu by omega]
        go_enter Tryd.func33, Tryd.ntmps33
        go_wp2_with (first
          | (go_at_call 60; refine (HP.out _ (Below.refl _ _)).mono ?_; rintro e w2 ⟨rfl, hb2⟩; rw [HX.out])
          | (go_at_call 63; refine (HF.out _).mono ?_; rintro e w3 ⟨rfl, hb3⟩; rw [HBB.out]; have hc1 := keep_cell hb3 (blk_cell (k := 1) (blk_new w2 (pao ⟨p, z, t⟩)) rfl).1; simp only [List.getElem_toArray, List.getElem_cons_zero, List.getElem_cons_succ] at hc1))
        all_goals go_ret
        all_goals exact ⟨rfl, hb2.trans ((((Below.refl _ w2).alloc (Nat.le_refl _) (pao ⟨p, z, t⟩)).trans (hb3.mono (by simp))).mono hb2.size)⟩
end
section
attribute [local go_sem] Oper.semAt_some
open Go.RowKit
set_option linter.unusedVariables false

theorem avalid_any (a : Int) (w : World) :
    Calls Tryd.prog 58 #[.int .i64 a] w fun e w' => e = .returned (.bool (decide (0 ≤ a ∧ a ≤ 4294967295))) ∧ w = w' := by
  go_enter Tryd.func58, Tryd.ntmps58
  go_wp2
  all_goals go_ret
  all_goals refine ⟨ret_bool ?_, rfl⟩
  all_goals first
    | (rw [Bool.eq_iff_iff, decide_eq_true_iff]; simp <;> omega)
    | (rw [Bool.eq_iff_iff, Bool.and_eq_true, decide_eq_true_iff, decide_eq_true_iff]; simp <;> omega)
theorem avalid_yes (a : Int) (h : 0 ≤ a ∧ a ≤ 4294967295) (w : World) : Calls Tryd.prog 58 #[.int .i64 a] w fun e w' => e = .returned (.bool true) ∧ w = w' := by
  have := avalid_any a w
  rw [decide_eq_true h] at this
  exact this
theorem within_yes (n a b : Int) (h : a ≤ n ∧ n ≤ b) (w : World) : Calls Tryd.prog 57 #[.int .i64 n, .int .i64 a, .int .i64 b] w fun e w' => e = .returned (.bool true) ∧ w = w' := by
  have := within_any n a b w
  rw [decide_eq_true h] at this
  exact this

/-- what Lower asks of its table where nothing goes -/
def OkT (L : List Pe) (now : Int) : Prop := ∀ x ∈ L, 0 ≤ x.tm ∧ x.tm ≤ 1000000000 ∧ now < x.tm + 600 ∧ x.sz ≠ 0
theorem OkT.fr {L : List Pe} {now : Int} (h : OkT L now) : ∀ x ∈ L, -9000000000000000000 ≤ x.tm ∧ x.tm ≤ 9000000000000000000 ∧ now < x.tm + 600 := fun x hx => by
  obtain ⟨h1, h2, h3, -⟩ := h x hx
  omega
theorem OkT.ne {L : List Pe} {now : Int} (h : OkT L now) : ∀ x ∈ L, peq x ⟨0, 0, 0⟩ = false := fun x hx => by
  have := (h x hx).2.2.2
  simp [peq, this]

set_option maxRecDepth 100000 in
set_option maxHeartbeats 3200000 in
theorem lower_add (base P : Nat) (v : Value) (L : List Pe) (now ad sz : Int) (w : World) (hT : TabM base w P v L) (hb0 : base ≤ w.heap.size) (hL : L.length < 16) (hO : OkT L now) (hk : lookT L ad = ⟨0, 0, 0⟩)
    (hn1 : 0 ≤ now) (hn2 : now ≤ 1000000000) (ha1 : 0 ≤ ad) (ha2 : ad ≤ 4294967295) (hs1 : 68 ≤ sz) (hs2 : sz ≤ 1024) :
    Calls Tryd.prog 30 #[.pointer (some ⟨P, 0, none⟩), .int .i64 now, .int .i64 ad, .int .i64 sz] w fun e w' => e = .returned (.bool true) ∧ (∃ v', TabM base w' P v' (L ++ [⟨ad, sz, now⟩])) ∧ Touch (fun k => k = P ∨ v.ownBlock = some k) w w' := by
  have HW1 := Lib.hid (decide_eq_true (show 0 ≤ now ∧ now ≤ 1000000000 from ⟨hn1, hn2⟩))
  have HW2 := Lib.hid (decide_eq_true (show 68 ≤ sz ∧ sz ≤ 1024 from ⟨hs1, hs2⟩))
  have HA := Lib.hid (avalid_yes ad ⟨ha1, ha2⟩)
  have HK := Lib.hid hk
  have HO := Lib.hid hO
  have HT := Lib.hid hT
  clear hk hO hT hn1 hn2 ha1 ha2 hs1 hs2
  go_enter Tryd.func30, Tryd.ntmps30
  go_wp2_with (first
    | (go_at_call 57; refine (within_any _ _ _ _).mono ?_; rintro e w2 ⟨rfl, rfl⟩; first | rw [HW1.out] | rw [HW2.out])
    | (go_at_call 58; refine (HA.out _).mono ?_; rintro e w2 ⟨rfl, rfl⟩))
  refine (expire_none base P v L now _ HT.out (by omega) HO.out.fr).mono ?_
  rintro e w2 ⟨rfl, hT2, ht2⟩
  have HT2 := Lib.hid hT2
  have Ht2 := Lib.hid ht2
  clear hT2 ht2
  go_wp2_with fail
  refine (pathTo_any base P v L ad _ HT2.out (by omega)).mono ?_
  rintro e w3 ⟨rfl, hb3⟩
  rw [HK.out]
  have HT3 := Lib.hid (HT2.out.below hb3)
  have Ht3 := Lib.hid (Ht2.out.trans (Touch.of (S := fun k => k = P) hb3) (fun k hk => .inl hk))
  clear hb3
  go_wp2_with fail
  have hb4 := (Below.refl _ w3).alloc (Nat.le_refl _) (pao ⟨0, 0, 0⟩)
  refine (remove_none base P v L ⟨0, 0, 0⟩ _ (HT3.out.below hb4) (by omega) HO.out.ne).mono ?_
  rintro e w5 ⟨rfl, hT5, ht5⟩
  have Ht5 := Lib.hid ((Ht3.out.trans (Touch.of (S := fun k => k = P) hb4) (fun k hk => .inl hk)).trans ht5 (fun k hk => .inl hk))
  clear ht5 hb4
  obtain ⟨p0, f0⟩ := blk_cell (k := 0) hT5.1 rfl
  simp only [List.getElem_toArray, List.getElem_cons_zero] at p0
  have hPl := blk_lt hT5.1
  have hne := hT5.ne
  obtain ⟨pp, cc, hv, -⟩ := row_shape hT5.2
  subst hv
  obtain ⟨n, hn⟩ : ∃ n, L.length = n := ⟨_, rfl⟩
  have hrow := hT5.2
  rw [hn] at hL p0 hrow hne
  have h16 : ((n : Int) == 16) = false := by simp; omega
  obtain ⟨i0, hi, hz0, hz1, hz2⟩ := info_parts infoPe
  have hbw : base ≤ w5.heap.size := Nat.le_trans hb0 Ht5.out.size
  have HT5 := Lib.hid hT5
  have HN := Lib.hid hn
  clear hT5 hn
  go_wp2_with (at_builtin; refine wpList_append_own _ rfl (.tmp 63) (.tmp 68) 99 rfl base 104 i0 (.agg #[.int .i64 0, .int .i64 0, .int .i64 0]) 3 24 Tryd.underlying99 hi hz0 hz1 hz2 rfl (by decide) (.slice pp n cc) n _ rfl (by exact hrow.alloc _) ⟨w5.heap.size, 0, none⟩ 1 1 [.int .i64 ad, .int .i64 sz, .int .i64 now] rfl rfl ?c1 ?c2 (by unfold maxLen; omega) (by omega) ?c5 ?_)
  case c1 =>
    intro j u hj
    exact World.news_of_block (blk_new w5 _) j u hj
  case c2 => intro u hu; simp at hu; rcases hu with rfl | rfl | rfl <;> rfl
  case c5 => simp; omega
  intro v' w6 hown' hgrow _
  obtain ⟨vp, vc, hvs, -⟩ := row_shape hown'
  subst hvs
  have hP6 : w6.heap[P]? = some (.cells #[.slice pp n cc] 101) := by
    refine (hgrow.block P (by simp; omega) (fun e => hne e.symm)).trans (blk_alloc ?_ _)
    have := HT5.out.1
    rw [HN.out] at this
    exact this
  obtain ⟨q0, g0⟩ := blk_cell (k := 0) hP6 rfl
  simp only [List.getElem_toArray, List.getElem_cons_zero] at q0
  have HG := Lib.hid hgrow
  have HW6 := Lib.hid hown'
  have HP6 := Lib.hid hP6
  clear hgrow hown' hP6 hrow p0 f0
  go_wp2
  go_ret
  have hgr := HG.out
  have hnv : (Value.slice vp (n + 1) vc).ownBlock ≠ some P := fun e => by
    obtain ⟨-, cur, hc⟩ := row_cells HW6.out e
    have h1 := HP6.out
    rw [hc] at h1
    cases h1
  refine ⟨rfl, ⟨.slice vp (n + 1) vc, blk_setc (k := 0) HP6.out _, ?_⟩, ?_⟩
  · rw [List.length_append, HN.out, flat3_snoc]
    exact row_of_block HW6.out (fun k hk => Below.heap_setCell _ _ _ _ (fun e => hnv (by rw [hk]; exact congrArg some e)))
  · rw [HN.out]
    have t5 : Touch (fun k => k = P ∨ (Value.slice pp n cc).ownBlock = some k) w w5 := ⟨Ht5.out.os, Ht5.out.tape, Ht5.out.output, Ht5.out.size, fun k h1 h2 => Ht5.out.block k h1 (fun e => h2 (.inl e))⟩
    have t6 : Touch (fun k => k = P ∨ (Value.slice pp n cc).ownBlock = some k) w5 w6 := ⟨hgr.os, hgr.tape, hgr.output, Nat.le_trans (by simp) hgr.size, fun k h1 h2 => (hgr.block k (by simp; omega) (fun e => h2 (.inr e.symm))).trans (Below.heap_alloc _ _ _ h1)⟩
    exact (t5.trans t6 (fun k hk => .inl hk)).setc _ (.inl rfl)

set_option maxRecDepth 100000 in
set_option maxHeartbeats 3200000 in
theorem lower_no (base P : Nat) (v : Value) (L : List Pe) (now ad sz p z t : Int) (w : World) (hT : TabM base w P v L) (hL : L.length < 16) (hO : OkT L now) (hk : lookT L ad = ⟨p, z, t⟩) (hz : z ≠ 0) (hzs : z ≤ sz)
    (hn1 : 0 ≤ now) (hn2 : now ≤ 1000000000) (ha1 : 0 ≤ ad) (ha2 : ad ≤ 4294967295) (hs1 : 68 ≤ sz) (hs2 : sz ≤ 1024) :
    Calls Tryd.prog 30 #[.pointer (some ⟨P, 0, none⟩), .int .i64 now, .int .i64 ad, .int .i64 sz] w fun e w' => e = .returned (.bool false) ∧ TabM base w' P v L ∧ Touch (fun k => k = P) w w' := by
  have HW1 := Lib.hid (decide_eq_true (show 0 ≤ now ∧ now ≤ 1000000000 from ⟨hn1, hn2⟩))
  have HW2 := Lib.hid (decide_eq_true (show 68 ≤ sz ∧ sz ≤ 1024 from ⟨hs1, hs2⟩))
  have HA := Lib.hid (avalid_yes ad ⟨ha1, ha2⟩)
  have HK := Lib.hid hk
  have HO := Lib.hid hO
  have HT := Lib.hid hT
  have hzb : (z == 0) = false := by simpa using hz
  clear hk hO hT hn1 hn2 ha1 ha2 hs1 hs2 hz
  go_enter Tryd.func30, Tryd.ntmps30
  go_wp2_with (first
    | (go_at_call 57; refine (within_any _ _ _ _).mono ?_; rintro e w2 ⟨rfl, rfl⟩; first | rw [HW1.out] | rw [HW2.out])
    | (go_at_call 58; refine (HA.out _).mono ?_; rintro e w2 ⟨rfl, rfl⟩))
  refine (expire_none base P v L now _ HT.out (by omega) HO.out.fr).mono ?_
  rintro e w2 ⟨rfl, hT2, ht2⟩
  have HT2 := Lib.hid hT2
  have Ht2 := Lib.hid ht2
  clear hT2 ht2
  go_wp2_with fail
  refine (pathTo_any base P v L ad _ HT2.out (by omega)).mono ?_
  rintro e w3 ⟨rfl, hb3⟩
  rw [HK.out]
  have HT3 := Lib.hid (HT2.out.below (hb3.trans (((Below.refl _ w3).alloc (Nat.le_refl _) (pao ⟨p, z, t⟩)).mono hb3.size)))
  have Ht3 := Lib.hid (Ht2.out.trans (Touch.of (S := fun k => k = P) (hb3.trans (((Below.refl _ w3).alloc (Nat.le_refl _) (pao ⟨p, z, t⟩)).mono hb3.size))) (fun k hk => .inl hk))
  clear hb3
  go_wp2
  all_goals go_ret
  all_goals exact ⟨rfl, HT3.out, Ht3.out⟩
end
end Go.Proofs.YtidjbpglpobigaaDoor
