/- Tick: the pure model, and the state of its loop. -/
import Derived.Test.YtpkfjlbjahghgaaAtRnd
import Derived.Test.YtpkfjlbjahghgaaAtReq
import Derived.Test.YtpkfjlbjahghgaaAtRall
namespace Go.Proofs.Ytpkfjlbjahghgaa
open Go.RowKit Go.Maps
set_option linter.unusedVariables false

def tickP (now : Int) (p : PE) : Option PE :=
  if p.x.known then (if 600 ≤ now - p.x.told then none else some p)
  else if 10 ≤ now - p.x.last then (if p.x.tries < 3 then some { p with x := { p.x with tries := p.x.tries + 1, last := now } } else none)
  else some p
def tickE (now : Int) (x : En) : Option En :=
  if x.known then (if 600 ≤ now - x.told then none else some x)
  else if 10 ≤ now - x.last then (if x.tries < 3 then some { x with tries := x.tries + 1, last := now } else none)
  else some x
def tickM (own mac now : Int) (x : En) : List Ms :=
  if x.known then [] else if 10 ≤ now - x.last then (if x.tries < 3 then [⟨1, own, mac, x.addr, 0⟩] else []) else []
def tickH (now : Int) (x : En) : List Hp :=
  if x.known then [] else if 10 ≤ now - x.last then (if x.tries < 3 then [] else x.held.map fun s => ⟨x.addr, 0, s⟩) else []
theorem tickP_x (now : Int) (p : PE) : (tickP now p).map (·.x) = tickE now p.x := by
  unfold tickP tickE
  repeat' split
  all_goals rfl
theorem tickP_keep {now : Int} {p q : PE} (h : tickP now p = some q) : q.blks = p.blks ∧ q.x.addr = p.x.addr ∧ q.b = p.b := by
  unfold tickP at h
  repeat' split at h
  all_goals first | (cases h; exact ⟨rfl, rfl, rfl⟩) | cases h
theorem tick_wait {own mac now : Int} {p : PE} (hk : p.x.known = false) (hq : ¬ 10 ≤ now - p.x.last) : tickP now p = some p ∧ tickM own mac now p.x = [] ∧ tickH now p.x = [] := by
  unfold tickP tickM tickH
  rw [if_neg (by simp [hk]), if_neg hq, if_neg (by simp [hk]), if_neg hq, if_neg (by simp [hk]), if_neg hq]
  exact ⟨rfl, rfl, rfl⟩
theorem tick_again {own mac now : Int} {p : PE} (hk : p.x.known = false) (hq : 10 ≤ now - p.x.last) (ht : p.x.tries < 3) : tickP now p = some { p with x := { p.x with tries := p.x.tries + 1, last := now } } ∧ tickM own mac now p.x = [⟨1, own, mac, p.x.addr, 0⟩] ∧ tickH now p.x = [] := by
  unfold tickP tickM tickH
  rw [if_neg (by simp [hk]), if_pos hq, if_pos ht, if_neg (by simp [hk]), if_pos hq, if_pos ht, if_neg (by simp [hk]), if_pos hq, if_pos ht]
  exact ⟨rfl, rfl, rfl⟩
theorem tick_lost {own mac now : Int} {p : PE} (hk : p.x.known = false) (hq : 10 ≤ now - p.x.last) (ht : ¬ p.x.tries < 3) : tickP now p = none ∧ tickM own mac now p.x = [] ∧ tickH now p.x = p.x.held.map fun s => ⟨p.x.addr, 0, s⟩ := by
  unfold tickP tickM tickH
  rw [if_neg (by simp [hk]), if_pos hq, if_neg ht, if_neg (by simp [hk]), if_pos hq, if_neg ht, if_neg (by simp [hk]), if_pos hq, if_neg ht]
  exact ⟨rfl, rfl, rfl⟩
def tickL (own mac now : Int) (L : List En) : List En := L.filterMap (tickE now)
theorem tick_map (now : Int) (R : List PE) : (R.filterMap (tickP now)).map (·.x) = (R.map (·.x)).filterMap (tickE now) := by
  induction R with
  | nil => rfl
  | cons p r ih =>
    have := tickP_x now p
    simp only [List.map_cons, List.filterMap_cons, ← this]
    cases tickP now p with
    | none => simpa using ih
    | some q => simpa using ih

/-- the table when i entries have been visited -/
def tickR (now : Int) (R : List PE) (i : Nat) : List PE := (R.take i).filterMap (tickP now) ++ R.drop i
theorem tickR_zero (now : Int) (R : List PE) : tickR now R 0 = R := by simp [tickR]
theorem tickR_all (now : Int) (R : List PE) : tickR now R R.length = R.filterMap (tickP now) := by simp [tickR]
theorem tickR_at (now : Int) (R : List PE) (i : Nat) (h : i < R.length) : tickR now R i = (R.take i).filterMap (tickP now) ++ R[i] :: R.drop (i + 1) := by
  unfold tickR; rw [List.drop_eq_getElem_cons h]
theorem tickR_next (now : Int) (R : List PE) (i : Nat) (h : i < R.length) : tickR now R (i + 1) = (R.take i).filterMap (tickP now) ++ ((tickP now R[i]).toList ++ R.drop (i + 1)) := by
  unfold tickR
  rw [List.take_succ_eq_append_getElem h, List.filterMap_append, List.append_assoc]
  congr 2
  first | done | (simp only [List.filterMap_cons, List.filterMap_nil]; cases tickP now R[i] <;> rfl)
theorem tick_blks (now : Int) (R : List PE) (i : Nat) : ∀ k ∈ allB (tickR now R i), k ∈ allB R := by
  intro k hk
  obtain ⟨p, hp, hk⟩ := List.mem_flatMap.1 hk
  rcases List.mem_append.1 hp with hp | hp
  · obtain ⟨q, hq, hqp⟩ := List.mem_filterMap.1 hp
    exact mem_allB (List.mem_of_mem_take hq) (by rw [← (tickP_keep hqp).1]; exact hk)
  · exact mem_allB (List.mem_of_mem_drop hp) hk
/-- in the sorted list each address finds its own entry -/
theorem look_mid {A C : List PE} {p : PE} (h : (A ++ p :: C).Pairwise (fun p q => p.x.addr < q.x.addr)) : lookP (A ++ p :: C) p.x.addr = some p := by
  rw [List.pairwise_append] at h
  obtain ⟨-, -, h3⟩ := h
  unfold lookP
  rw [List.find?_append, List.find?_eq_none.2 (fun q hq => by have := h3 q hq p (by simp); simp; omega)]
  simp
theorem drop_mid {A C : List PE} {p : PE} (h : (A ++ p :: C).Pairwise (fun p q => p.x.addr < q.x.addr)) : dropP (A ++ p :: C) p.x.addr = A ++ C := by
  rw [List.pairwise_append] at h
  obtain ⟨-, h2, h3⟩ := h
  obtain ⟨h4, -⟩ := List.pairwise_cons.1 h2
  have e1 : dropP A p.x.addr = A := dropP_none fun q hq => by have := h3 q hq p (by simp); omega
  have e2 : dropP C p.x.addr = C := dropP_none fun q hq => by have := h4 q hq; omega
  unfold dropP at e1 e2 ⊢
  simp [List.filter_append, e1, e2]

def flatM (l : List Ms) : List Value := l.flatMap fun x => [.int .i64 x.o, .int .i64 x.f, .int .i64 x.m, .int .i64 x.t, .int .i64 x.n]
def mapM2 (own mac now : Int) (R : List PE) : List Ms := R.flatMap fun p => tickM own mac now p.x
def mapH2 (now : Int) (R : List PE) : List Hp := R.flatMap fun p => tickH now p.x
theorem mapM2_next (own mac now : Int) (R : List PE) (i : Nat) (h : i < R.length) : mapM2 own mac now (R.take (i + 1)) = mapM2 own mac now (R.take i) ++ tickM own mac now (R[i]).x := by
  unfold mapM2; rw [List.take_succ_eq_append_getElem h, List.flatMap_append]; simp
theorem mapH2_next (now : Int) (R : List PE) (i : Nat) (h : i < R.length) : mapH2 now (R.take (i + 1)) = mapH2 now (R.take i) ++ tickH now (R[i]).x := by
  unfold mapH2; rw [List.take_succ_eq_append_getElem h, List.flatMap_append]; simp

theorem mapM2_len (own mac now : Int) (R : List PE) : (mapM2 own mac now R).length ≤ R.length := by
  induction R with
  | nil => simp [mapM2]
  | cons p r ih =>
    have h : (tickM own mac now p.x).length ≤ 1 := by unfold tickM; (repeat' split) <;> simp
    simp only [mapM2, List.flatMap_cons, List.length_append, List.length_cons] at ih ⊢
    omega
theorem mapH2_len (now : Int) (R : List PE) (hR : ∀ p ∈ R, p.x.held.length ≤ 1000) : (mapH2 now R).length ≤ 1000 * R.length := by
  induction R with
  | nil => simp [mapH2]
  | cons p r ih =>
    have ih := ih (fun q hq => hR q (by simp [hq]))
    have h0 := hR p (by simp)
    have h : (tickH now p.x).length ≤ 1000 := by unfold tickH; (repeat' split) <;> (try simp only [List.length_map, List.length_nil]) <;> omega
    simp only [mapH2, List.flatMap_cons, List.length_append, List.length_cons] at ih ⊢
    omega
theorem flatM_snoc (l : List Ms) (x : Ms) : flatM (l ++ [x]) = flatM l ++ [.int .i64 x.o, .int .i64 x.f, .int .i64 x.m, .int .i64 x.t, .int .i64 x.n] := by simp [flatM]
theorem flatH_append (l l' : List Hp) : flatH (l ++ l') = flatH l ++ flatH l' := by simp [flatH]
theorem flatH_one (l : List Hp) : ∀ u ∈ flatH l, u.oneCell' = true := by
  intro u hu
  simp only [flatH, List.mem_flatMap] at hu
  obtain ⟨x, -, hx⟩ := hu
  simp at hx
  rcases hx with rfl | rfl | rfl <;> rfl
theorem row_mono {w : World} {base base' : Nat} {e : TypeId} {size : Nat} {v : Value} {n : Nat} {xs : List Value} (h : w.ownsRow base e size v n xs) (hb : base' ≤ base) : w.ownsRow base' e size v n xs :=
  ⟨h.1, h.2.imp id (fun ⟨g, cap, cur, e1, e2, r⟩ => ⟨g, cap, cur, e1, Nat.le_trans hb e2, r⟩)⟩
/-- the cells of Tick's own variables -/
structure TkV (w0 W : World) (T : Nat) (now : Int) (v1 v2 : Value) : Prop where
  t : W.heap[w0.heap.size]? = some (.cells #[.pointer (some ⟨T, 0, none⟩)] 40)
  n : W.heap[w0.heap.size + 1]? = some (.cells #[.int .i64 now] 3)
  r : W.heap[w0.heap.size + 2]? = some (.cells #[v1] 28)
  d : W.heap[w0.heap.size + 3]? = some (.cells #[v2] 51)
  o : W.heap[w0.heap.size + 4]? = some (.cells #[.pointer (some ⟨T, 0, none⟩)] 40)
structure TkI (w0 W : World) (base T mb : Nat) (own mac : Int) (said : Bool) (when now : Int) (R : List PE) (B i : Nat) (v1 v2 : Value) : Prop where
  tab : TabP W base T mb own mac said when (tickR now R i)
  vars : TkV w0 W T now v1 v2
  ms : W.ownsRow B 23 5 v1 (mapM2 own mac now (R.take i)).length (flatM (mapM2 own mac now (R.take i)))
  hs : W.ownsRow B 65 3 v2 (mapH2 now (R.take i)).length (flatH (mapH2 now (R.take i)))
  ne : ∀ k, v1.ownBlock = some k → v2.ownBlock ≠ some k
  touch : Touch (fun k => k ∈ T :: mb :: allB R) w0 W
theorem TkI.bd {w0 W : World} {base T mb : Nat} {own mac when now : Int} {said : Bool} {R : List PE} {B i : Nat} {v1 v2 : Value} (h : TkI w0 W base T mb own mac said when now R B i v1 v2) (hR : ∀ k ∈ T :: mb :: allB R, k < w0.heap.size) : ∀ k ∈ T :: mb :: allB (tickR now R i), k < w0.heap.size := by
  intro k hk
  refine hR k ?_
  simp only [List.mem_cons] at hk ⊢
  exact hk.imp id (fun h => h.imp id (tick_blks now R i k))
/-- what turns no cells, and lies behind, is no matter to it -/
theorem TkI.keep {w0 W W' : World} {base T mb : Nat} {own mac when now : Int} {said : Bool} {R : List PE} {B L i : Nat} {v1 v2 : Value} (hR : ∀ k ∈ T :: mb :: allB R, k < w0.heap.size) (hL : w0.heap.size + 5 ≤ L) (hB : L ≤ B)
    (h : TkI w0 W base T mb own mac said when now R B i v1 v2) {row : Option Nat} (hg : W.grownBy W' row) (hr : ∀ r, row = some r → L ≤ r ∧ ∃ o : Obj, W.heap[r]? = some o ∧ o.isCells = false) : TkI w0 W' base T mb own mac said when now R B i v1 v2 := by
  have hblk : ∀ k (o : Obj), W.heap[k]? = some o → (k < L ∨ o.isCells = true) → W'.heap[k]? = W.heap[k]? := by
    intro k o ho hk
    refine hg.block k (blk_lt ho) (fun e => ?_)
    obtain ⟨h1, o2, h2, h3⟩ := hr k e.symm
    rw [ho] at h2
    cases h2
    rcases hk with hk | hk
    · omega
    · rw [hk] at h3; cases h3
  have hlow : ∀ k, k < w0.heap.size → W'.heap[k]? = W.heap[k]? := by
    intro k hk
    have hlt : k < W.heap.size := Nat.lt_of_lt_of_le hk h.touch.size
    exact hblk k _ (Array.getElem?_eq_getElem hlt) (.inl (by omega))
  have hrow : ∀ {e : TypeId} {size : Nat} {v : Value} {n : Nat} {xs : List Value}, W.ownsRow B e size v n xs → W'.ownsRow B e size v n xs := by
    intro e size v n xs hv
    refine row_of_block hv (fun g hg2 => ?_)
    rcases hv.2 with ⟨e1, -⟩ | ⟨g', cap, cur, e1, e2, e3, -⟩
    · rw [e1] at hg2; simp [Value.ownBlock] at hg2
    · rw [e1] at hg2
      simp only [Value.ownBlock, Option.some.injEq] at hg2
      subst hg2
      exact hblk _ _ e3 (.inr rfl)
  have hb := h.bd hR
  obtain ⟨t1, t2, t3, t4, t5⟩ := h.vars
  exact ⟨h.tab.kept (fun k hk => hlow k (hb k hk)), ⟨(hblk _ _ t1 (.inr rfl)).trans t1, (hblk _ _ t2 (.inr rfl)).trans t2, (hblk _ _ t3 (.inr rfl)).trans t3, (hblk _ _ t4 (.inr rfl)).trans t4, (hblk _ _ t5 (.inr rfl)).trans t5⟩,
    hrow h.ms, hrow h.hs, h.ne, h.touch.trans (T := fun k => row = some k) (Touch.grown hg (fun k e => e)) (fun k e => .inr (by have := (hr k e).1; omega))⟩
theorem TkI.own {w0 : World} {base T mb : Nat} {own mac when now : Int} {said : Bool} {R : List PE} {B L : Nat} (hR : ∀ k ∈ T :: mb :: allB R, k < w0.heap.size) (hL : w0.heap.size + 5 ≤ L) (hB : L ≤ B) :
    OwnFrom L (fun (pre : List (Fin R.length)) W => ∃ v1 v2, TkI w0 W base T mb own mac said when now R B pre.length v1 v2) := by
  rintro pre W W' row ⟨v1, v2, h⟩ hg hr
  exact ⟨v1, v2, TkI.keep hR hL hB h hg hr⟩
/-- what a round may turn -/
theorem keeps_touch {W W' : World} {S : Nat → Prop} {L B : Nat} (h : Touch S W W') (hS : ∀ k, S k → k < L ∨ (B ≤ k ∧ ∃ o : Obj, W.heap[k]? = some o ∧ o.isCells = true)) (hB : B ≤ W.heap.size) : KeepsFrom L W W' ∧ KeepsIn (L + 2) B W W' := by
  refine ⟨⟨h.size, fun k o hk ho hc => (h.block k (blk_lt ho) (fun hs => ?_)).trans ho⟩, ⟨h.size, fun k h1 h2 => h.block k (by omega) (fun hs => ?_)⟩⟩
  · rcases hS k hs with h1 | ⟨-, o2, h2, h3⟩
    · omega
    · rw [ho] at h2; cases h2; rw [hc] at h3; cases h3
  · rcases hS k hs with h3 | ⟨h3, -⟩ <;> omega

/-- a round is done -/
theorem TkI.next {w0 W W' : World} {base T mb : Nat} {own mac when now : Int} {said : Bool} {R : List PE} {B i : Nat} {v1 v2 v1' v2' : Value} (h : TkI w0 W base T mb own mac said when now R B i v1 v2) (hR : ∀ k ∈ T :: mb :: allB R, k < w0.heap.size) (hB : w0.heap.size + 5 ≤ B) (hBW : B ≤ W.heap.size)
    (htab : TabP W' base T mb own mac said when (tickR now R (i + 1))) (hv : TkV w0 W' T now v1' v2')
    (hms : W'.ownsRow B 23 5 v1' (mapM2 own mac now (R.take (i + 1))).length (flatM (mapM2 own mac now (R.take (i + 1))))) (hhs : W'.ownsRow B 65 3 v2' (mapH2 now (R.take (i + 1))).length (flatH (mapH2 now (R.take (i + 1)))))
    (hne : ∀ k, v1'.ownBlock = some k → v2'.ownBlock ≠ some k) {S : Nat → Prop} (ht : Touch S W W') (hS : ∀ k, S k → k ∈ T :: mb :: allB R ∨ k = w0.heap.size + 2 ∨ k = w0.heap.size + 3 ∨ v1.ownBlock = some k ∨ v2.ownBlock = some k) :
    KeepsFrom (w0.heap.size + 5) W W' ∧ KeepsIn (w0.heap.size + 5 + 2) B W W' ∧ w0.heap.size + 5 ≤ B ∧ B ≤ W'.heap.size ∧ ∃ v1 v2, TkI w0 W' base T mb own mac said when now R B (i + 1) v1 v2 := by
  have hrow : ∀ {e : TypeId} {size : Nat} {v : Value} {n : Nat} {xs : List Value}, W.ownsRow B e size v n xs → ∀ k, v.ownBlock = some k → B ≤ k ∧ ∃ o : Obj, W.heap[k]? = some o ∧ o.isCells = true := by
    intro e size v n xs hv k hk
    rcases hv.2 with ⟨e1, -⟩ | ⟨g, cap, cur, e1, e2, e3, -⟩
    · rw [e1] at hk; simp [Value.ownBlock] at hk
    · rw [e1] at hk
      simp only [Value.ownBlock, Option.some.injEq] at hk
      subst hk
      exact ⟨e2, _, e3, rfl⟩
  have hK := keeps_touch (L := w0.heap.size + 5) (B := B) ht (fun k hk => by
    rcases hS k hk with h1 | rfl | rfl | h1 | h1
    · left; have := hR k h1; omega
    · left; omega
    · left; omega
    · exact .inr (hrow h.ms k h1)
    · exact .inr (hrow h.hs k h1)) hBW
  refine ⟨hK.1, hK.2, hB, Nat.le_trans hBW ht.size, v1', v2', htab, hv, hms, hhs, hne, h.touch.trans ht (fun k hk => ?_)⟩
  rcases hS k hk with h1 | rfl | rfl | h1 | h1
  · exact .inl h1
  · right; omega
  · right; omega
  · right; have := (hrow h.ms k h1).1; omega
  · right; have := (hrow h.hs k h1).1; omega
theorem TkV.kept {w0 W W' : World} {T : Nat} {now : Int} {v1 v2 : Value} (h : TkV w0 W T now v1 v2) (hk : ∀ k, w0.heap.size ≤ k → k < w0.heap.size + 5 → W'.heap[k]? = W.heap[k]?) : TkV w0 W' T now v1 v2 :=
  ⟨(hk _ (by omega) (by omega)).trans h.t, (hk _ (by omega) (by omega)).trans h.n, (hk _ (by omega) (by omega)).trans h.r, (hk _ (by omega) (by omega)).trans h.d, (hk _ (by omega) (by omega)).trans h.o⟩
/-- a round that says nothing is done -/
theorem TkI.next_same {w0 W W' : World} {base T mb : Nat} {own mac when now : Int} {said : Bool} {R : List PE} {B i : Nat} {v1 v2 : Value} (h : TkI w0 W base T mb own mac said when now R B i v1 v2) (hR : ∀ k ∈ T :: mb :: allB R, k < w0.heap.size) (hB : w0.heap.size + 5 ≤ B) (hBW : B ≤ W.heap.size)
    (htab : TabP W' base T mb own mac said when (tickR now R (i + 1))) (hM : mapM2 own mac now (R.take (i + 1)) = mapM2 own mac now (R.take i)) (hH : mapH2 now (R.take (i + 1)) = mapH2 now (R.take i))
    (ht : Touch (fun k => k ∈ T :: mb :: allB R) W W') :
    KeepsFrom (w0.heap.size + 5) W W' ∧ KeepsIn (w0.heap.size + 5 + 2) B W W' ∧ w0.heap.size + 5 ≤ B ∧ B ≤ W'.heap.size ∧ ∃ v1 v2, TkI w0 W' base T mb own mac said when now R B (i + 1) v1 v2 := by
  have hlow : ∀ k, w0.heap.size ≤ k → k < W.heap.size → W'.heap[k]? = W.heap[k]? := fun k h1 h2 => ht.block k h2 (fun hm => by have := hR k hm; omega)
  refine h.next hR hB hBW htab (h.vars.kept (fun k h1 h2 => hlow k h1 (by omega))) ?_ ?_ h.ne ht (fun k hk => .inl hk)
  · rw [hM]; exact row_of_block h.ms (fun g hg => hlow g (by have := (h.ms.lt g hg).1; omega) (h.ms.lt g hg).2)
  · rw [hH]; exact row_of_block h.hs (fun g hg => hlow g (by have := (h.hs.lt g hg).1; omega) (h.hs.lt g hg).2)

/-- the world in which an entry has asked again -/
abbrev agW (W : World) (b : Nat) (n now : Int) : World := (W.drew.setCell ⟨b, 1, none⟩ (.int .i64 (n + 1))).setCell ⟨b, 3, none⟩ (.int .i64 now)
theorem TkI.again {w0 W : World} {base T mb : Nat} {own mac when now : Int} {said : Bool} {R : List PE} {B i : Nat} {v1 v2 : Value} (h : TkI w0 W base T mb own mac said when now R B i v1 v2) (hR : ∀ k ∈ T :: mb :: allB R, k < w0.heap.size) (hB : w0.heap.size + 5 ≤ B)
    (hi : i < R.length) {p : PE} (hp : R[i] = p) (hk : p.x.known = false) (hq : 10 ≤ now - p.x.last) (ht : p.x.tries < 3) :
    TabP (agW W p.b p.x.tries now) base T mb own mac said when (tickR now R (i + 1)) ∧ TkV w0 (agW W p.b p.x.tries now) T now v1 v2 ∧
      (agW W p.b p.x.tries now).ownsRow B 23 5 v1 (mapM2 own mac now (R.take i)).length (flatM (mapM2 own mac now (R.take i))) ∧ (agW W p.b p.x.tries now).ownsRow B 65 3 v2 (mapH2 now (R.take i)).length (flatH (mapH2 now (R.take i))) ∧
      Touch (fun k => k ∈ T :: mb :: allB R) W (agW W p.b p.x.tries now) := by
  have hT := h.tab
  rw [tickR_at now R i hi, hp] at hT
  have he := hT.ent p (by simp)
  have hpm : p ∈ R := hp ▸ List.getElem_mem _
  have hpb : p.b ∈ T :: mb :: allB R := by simp [mem_allB hpm (show p.b ∈ p.blks by simp [PE.blks])]
  have hpl := hR _ hpb
  have hE : W.drew.heap[p.b]? = some (inco p.x p.hv) := (he.inc hk).1
  have hE2 := blk_setc (k := 3) (blk_setc (k := 1) hE (.int .i64 (p.x.tries + 1))) (.int .i64 now)
  have ht1 : Touch (fun k => k = p.b) W (agW W p.b p.x.tries now) :=
    ((Touch.of (S := fun k => k = p.b) (Below.drew (Below.refl _ W))).trans (Touch.grown (S := fun k => k = p.b) (grown_set _ _ _) (fun k e => by cases e; rfl)) (fun k e => .inl e)).trans (Touch.grown (S := fun k => k = p.b) (grown_set _ _ _) (fun k e => by cases e; rfl)) (fun k e => .inl e)
  have hlow : ∀ k, k ≠ p.b → k < W.heap.size → (agW W p.b p.x.tries now).heap[k]? = W.heap[k]? := fun k h1 h2 => ht1.block k h2 h1
  have hsz := h.touch.size
  refine ⟨?_, h.vars.kept (fun k h1 h2 => ?_), row_of_block h.ms (fun g hg => hlow g (by have := (h.ms.lt g hg).1; omega) (h.ms.lt g hg).2), row_of_block h.hs (fun g hg => hlow g (by have := (h.hs.lt g hg).1; omega) (h.hs.lt g hg).2),
    ⟨ht1.os, ht1.tape, ht1.output, ht1.size, fun k h1 h2 => ht1.block k h1 (fun e => h2 (by rw [e]; exact hpb))⟩⟩
  · rw [tickR_next now R i hi, hp, (tick_again (own := own) (mac := mac) hk hq ht).1]
    have hnd := hT.nodup
    rw [allB_mid] at hnd
    have hbn : p.blks.Nodup := by
      have h2 := (List.nodup_cons.1 (List.nodup_cons.1 hnd).2).2
      rw [List.nodup_append] at h2
      have h3 := h2.2.1
      rw [List.nodup_append] at h3
      exact h3.1
    have hown : (agW W p.b p.x.tries now).ownsRow base 9 1 p.hv p.x.held.length (strs p.x.held) := by
      refine row_of_block (he.inc hk).2 (fun g hg => hlow g (fun e => ?_) ((he.inc hk).2.lt g hg).2)
      have : p.b ∉ p.hv.ownBlock.toList := (List.nodup_cons.1 (show (p.b :: p.hv.ownBlock.toList).Nodup from hbn)).1
      rw [hg, e] at this
      simp at this
    exact hT.one _ rfl rfl rfl ⟨he.low, fun hf => absurd (hf.symm.trans hk) (by simp), fun _ => ⟨hE2, hown⟩⟩ hbn (fun k hk => .inl hk)
      ⟨ht1.os, ht1.tape, ht1.output, ht1.size, fun k h1 h2 => ht1.block k h1 (fun e => h2 (by rw [e]; simp [PE.blks]))⟩
  · have hv : ∀ (o : Obj), W.heap[w0.heap.size + 4]? = some o → w0.heap.size + 4 < W.heap.size := fun o ho => blk_lt ho
    have := hv _ h.vars.o
    exact hlow k (by omega) (by omega)

theorem Touch.wide {S S' : Nat → Prop} {w w' : World} (h : Touch S w w') (hs : ∀ k, S k → S' k) : Touch S' w w' := ⟨h.os, h.tape, h.output, h.size, fun k h1 h2 => h.block k h1 (fun e => h2 (hs k e))⟩
/-- a round that says something is done -/
theorem TkI.said {w0 W Wx w3 w4 : World} {base T mb : Nat} {own mac when now : Int} {said : Bool} {R : List PE} {B i n g cap : Nat} {v1 v2 : Value} (h : TkI w0 W base T mb own mac said when now R B i v1 v2) (hR : ∀ k ∈ T :: mb :: allB R, k < w0.heap.size) (hB : w0.heap.size + 5 ≤ B) (hBW : B ≤ W.heap.size)
    (hX : TabP Wx base T mb own mac said when (tickR now R (i + 1))) (hV : TkV w0 Wx T now v1 v2)
    (hXm : Wx.ownsRow B 23 5 v1 (mapM2 own mac now (R.take i)).length (flatM (mapM2 own mac now (R.take i)))) (hXh : Wx.ownsRow B 65 3 v2 (mapH2 now (R.take i)).length (flatH (mapH2 now (R.take i))))
    (hXt : Touch (fun k => k ∈ T :: mb :: allB R) W Wx) (hb3 : Below Wx.heap.size Wx w3)
    (hown : w4.ownsRow B 23 5 (.slice (some ⟨g, 0, none⟩) n cap) n (flatM (mapM2 own mac now (R.take (i + 1))))) (hn : n = (mapM2 own mac now (R.take (i + 1))).length)
    (hg : w3.grownBy w4 v1.ownBlock) (hat : v1.ownBlock = some g ∨ g = w3.heap.size)
    (ho : mapH2 now (R.take (i + 1)) = mapH2 now (R.take i)) :
    KeepsFrom (w0.heap.size + 5) W (w4.setCell ⟨w0.heap.size + 2, 0, none⟩ (.slice (some ⟨g, 0, none⟩) n cap)) ∧ KeepsIn (w0.heap.size + 5 + 2) B W (w4.setCell ⟨w0.heap.size + 2, 0, none⟩ (.slice (some ⟨g, 0, none⟩) n cap)) ∧ w0.heap.size + 5 ≤ B ∧
      B ≤ (w4.setCell ⟨w0.heap.size + 2, 0, none⟩ (.slice (some ⟨g, 0, none⟩) n cap)).heap.size ∧ ∃ v1 v2, TkI w0 (w4.setCell ⟨w0.heap.size + 2, 0, none⟩ (.slice (some ⟨g, 0, none⟩) n cap)) base T mb own mac said when now R B (i + 1) v1 v2 := by
  have hszx := hXt.size
  have hsz3 := hb3.size
  have hXl := fun k hk => (hX.lt k hk).2
  have hbd : ∀ k ∈ T :: mb :: allB (tickR now R (i + 1)), k < w0.heap.size := by
    intro k hk
    refine hR k ?_
    simp only [List.mem_cons] at hk ⊢
    exact hk.imp id (fun h => h.imp id (tick_blks now R (i + 1) k))
  have hv1 : ∀ k, v1.ownBlock = some k → B ≤ k ∧ k < Wx.heap.size := fun k hk => hXm.lt k hk
  have hv2 : ∀ k, v2.ownBlock = some k → B ≤ k ∧ k < Wx.heap.size := fun k hk => hXh.lt k hk
  have h4 : ∀ k, k < Wx.heap.size → v1.ownBlock ≠ some k → w4.heap[k]? = Wx.heap[k]? := fun k h1 h2 => (hg.block k (by omega) (fun e => h2 e.symm)).trans (hb3.block k h1)
  have hlow : ∀ k, k < B → k < Wx.heap.size → w4.heap[k]? = Wx.heap[k]? := fun k h1 h2 => h4 k h2 (fun e => by have := (hv1 k e).1; omega)
  have hset : ∀ k, k ≠ w0.heap.size + 2 → (w4.setCell ⟨w0.heap.size + 2, 0, none⟩ (.slice (some ⟨g, 0, none⟩) n cap)).heap[k]? = w4.heap[k]? := fun k hk => Below.heap_setCell _ _ _ k hk
  have hrowk : ∀ {e : TypeId} {size : Nat} {v : Value} {n' : Nat} {xs : List Value}, w4.ownsRow B e size v n' xs → (w4.setCell ⟨w0.heap.size + 2, 0, none⟩ (.slice (some ⟨g, 0, none⟩) n cap)).ownsRow B e size v n' xs := fun hv => row_of_block hv (fun g hg => hset g (by have := (hv.lt g hg).1; omega))
  have hvar : ∀ {j : Nat} {o : Obj}, j < 5 → Wx.heap[w0.heap.size + j]? = some o → w4.heap[w0.heap.size + j]? = some o := fun hj ho => (hlow _ (by omega) (blk_lt ho)).trans ho
  have t1 := hvar (j := 0) (by omega) hV.t
  have t2 := hvar (j := 1) (by omega) hV.n
  have t3 := hvar (j := 2) (by omega) hV.r
  have t4 := hvar (j := 3) (by omega) hV.d
  have t5 := hvar (j := 4) (by omega) hV.o
  refine h.next hR hB hBW (S := fun k => k ∈ T :: mb :: allB R ∨ k = w0.heap.size + 2 ∨ v1.ownBlock = some k) (v1' := .slice (some ⟨g, 0, none⟩) n cap) (v2' := v2) ?_ ?_ ?_ ?_ ?_ ?_ ?_
  · exact hX.kept (fun k hk => (hset k (by have := hbd k hk; omega)).trans (hlow k (by have := hbd k hk; omega) (hXl k hk)))
  · exact ⟨(hset _ (by omega)).trans t1, (hset _ (by omega)).trans t2, blk_setc (k := 0) t3 _, (hset _ (by omega)).trans t4, (hset _ (by omega)).trans t5⟩
  · rw [← hn]; exact hrowk hown
  · rw [ho]; exact hrowk (row_of_block hXh (fun k hk => h4 k (hv2 k hk).2 (fun e => h.ne k e hk)))
  · intro k hk hk2
    simp only [Value.ownBlock, Option.some.injEq] at hk
    subst hk
    rcases hat with e | e
    · exact h.ne _ e hk2
    · have := (hv2 _ hk2).2; omega
  · have ht3 : Touch (fun k => k ∈ T :: mb :: allB R) W w3 := hXt.trans (Touch.of (S := fun _ => False) hb3) (fun k hk => hk.elim)
    have ht4 := (ht3.wide (S' := fun k => k ∈ T :: mb :: allB R ∨ k = w0.heap.size + 2 ∨ v1.ownBlock = some k) (fun k hk => .inl hk)).trans (Touch.grown (S := fun k => v1.ownBlock = some k) hg (fun k e => e)) (fun k hk => .inl (.inr (.inr hk)))
    exact ht4.trans (Touch.grown (S := fun k => k = w0.heap.size + 2) (grown_set _ _ _) (fun k e => by cases e; rfl)) (fun k hk => .inl (.inr (.inl hk)))
  · rintro k (hk | hk | hk)
    · exact .inl hk
    · exact .inr (.inl hk)
    · exact .inr (.inr (.inr (.inl hk)))

/-- a round that says something is done -/
theorem TkI.lost {w0 W Wx w3 w4 : World} {base T mb : Nat} {own mac when now : Int} {said : Bool} {R : List PE} {B i n g cap : Nat} {v1 v2 : Value} (h : TkI w0 W base T mb own mac said when now R B i v1 v2) (hR : ∀ k ∈ T :: mb :: allB R, k < w0.heap.size) (hB : w0.heap.size + 5 ≤ B) (hBW : B ≤ W.heap.size)
    (hX : TabP Wx base T mb own mac said when (tickR now R (i + 1))) (hV : TkV w0 Wx T now v1 v2)
    (hXm : Wx.ownsRow B 23 5 v1 (mapM2 own mac now (R.take i)).length (flatM (mapM2 own mac now (R.take i)))) (hXh : Wx.ownsRow B 65 3 v2 (mapH2 now (R.take i)).length (flatH (mapH2 now (R.take i))))
    (hXt : Touch (fun k => k ∈ T :: mb :: allB R) W Wx) (hb3 : Below Wx.heap.size Wx w3)
    (hown : w4.ownsRow B 65 3 (.slice (some ⟨g, 0, none⟩) n cap) n (flatH (mapH2 now (R.take (i + 1))))) (hn : n = (mapH2 now (R.take (i + 1))).length)
    (hg : w3.grownBy w4 v2.ownBlock) (hat : v2.ownBlock = some g ∨ g = w3.heap.size)
    (ho : mapM2 own mac now (R.take (i + 1)) = mapM2 own mac now (R.take i)) :
    KeepsFrom (w0.heap.size + 5) W (w4.setCell ⟨w0.heap.size + 3, 0, none⟩ (.slice (some ⟨g, 0, none⟩) n cap)) ∧ KeepsIn (w0.heap.size + 5 + 2) B W (w4.setCell ⟨w0.heap.size + 3, 0, none⟩ (.slice (some ⟨g, 0, none⟩) n cap)) ∧ w0.heap.size + 5 ≤ B ∧
      B ≤ (w4.setCell ⟨w0.heap.size + 3, 0, none⟩ (.slice (some ⟨g, 0, none⟩) n cap)).heap.size ∧ ∃ v1 v2, TkI w0 (w4.setCell ⟨w0.heap.size + 3, 0, none⟩ (.slice (some ⟨g, 0, none⟩) n cap)) base T mb own mac said when now R B (i + 1) v1 v2 := by
  have hszx := hXt.size
  have hsz3 := hb3.size
  have hXl := fun k hk => (hX.lt k hk).2
  have hbd : ∀ k ∈ T :: mb :: allB (tickR now R (i + 1)), k < w0.heap.size := by
    intro k hk
    refine hR k ?_
    simp only [List.mem_cons] at hk ⊢
    exact hk.imp id (fun h => h.imp id (tick_blks now R (i + 1) k))
  have hv1 : ∀ k, v2.ownBlock = some k → B ≤ k ∧ k < Wx.heap.size := fun k hk => hXh.lt k hk
  have hv2 : ∀ k, v1.ownBlock = some k → B ≤ k ∧ k < Wx.heap.size := fun k hk => hXm.lt k hk
  have h4 : ∀ k, k < Wx.heap.size → v2.ownBlock ≠ some k → w4.heap[k]? = Wx.heap[k]? := fun k h1 h2 => (hg.block k (by omega) (fun e => h2 e.symm)).trans (hb3.block k h1)
  have hlow : ∀ k, k < B → k < Wx.heap.size → w4.heap[k]? = Wx.heap[k]? := fun k h1 h2 => h4 k h2 (fun e => by have := (hv1 k e).1; omega)
  have hset : ∀ k, k ≠ w0.heap.size + 3 → (w4.setCell ⟨w0.heap.size + 3, 0, none⟩ (.slice (some ⟨g, 0, none⟩) n cap)).heap[k]? = w4.heap[k]? := fun k hk => Below.heap_setCell _ _ _ k hk
  have hrowk : ∀ {e : TypeId} {size : Nat} {v : Value} {n' : Nat} {xs : List Value}, w4.ownsRow B e size v n' xs → (w4.setCell ⟨w0.heap.size + 3, 0, none⟩ (.slice (some ⟨g, 0, none⟩) n cap)).ownsRow B e size v n' xs := fun hv => row_of_block hv (fun g hg => hset g (by have := (hv.lt g hg).1; omega))
  have hvar : ∀ {j : Nat} {o : Obj}, j < 5 → Wx.heap[w0.heap.size + j]? = some o → w4.heap[w0.heap.size + j]? = some o := fun hj ho => (hlow _ (by omega) (blk_lt ho)).trans ho
  have t1 := hvar (j := 0) (by omega) hV.t
  have t2 := hvar (j := 1) (by omega) hV.n
  have t3 := hvar (j := 2) (by omega) hV.r
  have t4 := hvar (j := 3) (by omega) hV.d
  have t5 := hvar (j := 4) (by omega) hV.o
  refine h.next hR hB hBW (S := fun k => k ∈ T :: mb :: allB R ∨ k = w0.heap.size + 3 ∨ v2.ownBlock = some k) (v1' := v1) (v2' := .slice (some ⟨g, 0, none⟩) n cap) ?_ ?_ ?_ ?_ ?_ ?_ ?_
  · exact hX.kept (fun k hk => (hset k (by have := hbd k hk; omega)).trans (hlow k (by have := hbd k hk; omega) (hXl k hk)))
  · exact ⟨(hset _ (by omega)).trans t1, (hset _ (by omega)).trans t2, (hset _ (by omega)).trans t3, blk_setc (k := 0) t4 _, (hset _ (by omega)).trans t5⟩
  · rw [ho]; exact hrowk (row_of_block hXm (fun k hk => h4 k (hv2 k hk).2 (fun e => h.ne k hk e)))
  · rw [← hn]; exact hrowk hown
  · intro k hk2 hk
    simp only [Value.ownBlock, Option.some.injEq] at hk
    subst hk
    rcases hat with e | e
    · exact h.ne _ hk2 e
    · have := (hv2 _ hk2).2; omega
  · have ht3 : Touch (fun k => k ∈ T :: mb :: allB R) W w3 := hXt.trans (Touch.of (S := fun _ => False) hb3) (fun k hk => hk.elim)
    have ht4 := (ht3.wide (S' := fun k => k ∈ T :: mb :: allB R ∨ k = w0.heap.size + 3 ∨ v2.ownBlock = some k) (fun k hk => .inl hk)).trans (Touch.grown (S := fun k => v2.ownBlock = some k) hg (fun k e => e)) (fun k hk => .inl (.inr (.inr hk)))
    exact ht4.trans (Touch.grown (S := fun k => k = w0.heap.size + 3) (grown_set _ _ _) (fun k e => by cases e; rfl)) (fun k hk => .inl (.inr (.inl hk)))
  · rintro k (hk | hk | hk)
    · exact .inl hk
    · exact .inr (.inr (.inl hk))
    · exact .inr (.inr (.inr (.inr hk)))
end Go.Proofs.Ytpkfjlbjahghgaa
