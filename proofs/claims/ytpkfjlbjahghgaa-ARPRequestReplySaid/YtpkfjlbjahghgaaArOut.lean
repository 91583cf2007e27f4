/- Contract of the reference's out. -/
import Derived.Test.YtpkfjlbjahghgaaArSamH
import Derived.OwnWalk
import Derived.RangeFuncBox
import Derived.Laws.AppendOwn
import Derived.Laws.OwnMore
import Derived.Deep.AppendLies
namespace Go.Proofs.Ytpkfjlbjahghgaa
open Go.RowKit
set_option linter.unusedVariables false
attribute [local go_sem] Oper.semAt_some

def flatH (l : List Hp) : List Value := l.flatMap fun x => [.int .i64 x.t, .int .i64 x.m, .string x.s]
theorem flatH_snoc (l : List Hp) (x : Hp) : flatH (l ++ [x]) = flatH l ++ [.int .i64 x.t, .int .i64 x.m, .string x.s] := by
  simp [flatH]
theorem flatH_length : ∀ (l : List Hp), (flatH l).length = l.length * 3
  | [] => rfl
  | x :: l => by
    have := flatH_length l
    simp only [flatH, List.flatMap_cons, List.length_append, List.length_cons, List.length_nil] at this ⊢
    omega
theorem flatH_at : ∀ (l : List Hp) (j : Nat) (h : j < l.length), (flatH l)[j * 3]? = some (.int .i64 l[j].t) ∧ (flatH l)[j * 3 + 1]? = some (.int .i64 l[j].m) ∧ (flatH l)[j * 3 + 2]? = some (.string l[j].s)
  | x :: l, 0, _ => ⟨rfl, rfl, rfl⟩
  | x :: l, j + 1, h => by
    have := flatH_at l j (by simpa using h)
    rw [show (j + 1) * 3 = j * 3 + 1 + 1 + 1 by omega, show j * 3 + 1 + 1 + 1 + 1 = (j * 3 + 1) + 1 + 1 + 1 by omega, show j * 3 + 1 + 1 + 1 + 2 = (j * 3 + 2) + 1 + 1 + 1 by omega]
    exact this
theorem infoHp : (Try.prog.info? 65).map (fun i => (i.zero, i.size, i.bytes)) = some (some (.agg #[.int .i64 0, .int .i64 0, .string ⟨#[]⟩]), 3, 32) := by kernel_rfl

theorem own_base {w : World} {base : Nat} {e : TypeId} {size : Nat} {v : Value} {n : Nat} {xs : List Value} (h : w.ownsRow base e size v n xs) {g : Nat} (hg : v.ownBlock = some g) : base ≤ g := by
  rcases h.2 with ⟨rfl, _⟩ | ⟨g', cap, cur, rfl, hb, _⟩
  · cases hg
  · simp only [Value.ownBlock, Option.some.injEq] at hg; omega

/-- an owned row of packets reads as its list -/
theorem hps_own {w : World} {base n : Nat} {e : TypeId} {v : Value} {l : List Hp} (h : w.ownsRow base e 3 v n (flatH l)) (hn : l.length = n) : HpsAt w v l := by
  cases n with
  | zero =>
    obtain rfl := List.eq_nil_of_length_eq_zero hn
    rcases h.2 with ⟨rfl, _⟩ | ⟨g, cap, cur, rfl, _⟩
    · exact .inl ⟨rfl, rfl⟩
    · exact .inr ⟨g, 0, cap, rfl, fun j hj => absurd hj (by simp)⟩
  | succ k =>
    obtain ⟨g, cap, rfl⟩ := ownsRow_succ h
    refine .inr ⟨g, 0, cap, by rw [hn], fun j hj => ?_⟩
    obtain ⟨e0, e1, e2⟩ := flatH_at l j hj
    have c0 := h.cellAt (j * 3) (by omega)
    have c1 := h.cellAt (j * 3 + 1) (by omega)
    have c2 := h.cellAt (j * 3 + 2) (by omega)
    rw [Nat.zero_add]
    exact ⟨c0.trans e0, c1.trans e1, c2.trans e2⟩

set_option maxHeartbeats 1600000 in
theorem rout_any (p : Option Addr) (c : Nat) (a m : Int) (hs : List ByteArray) (w : World) (h1 : HeldAt w p hs) (hn : hs.length ≤ 1000) :
    Calls Try.prog 55 #[.slice p hs.length c, .int .i64 a, .int .i64 m] w fun e w' => (∃ v, e = .returned v ∧ w'.ownsRow w.heap.size 65 3 v hs.length (flatH (hs.map fun s => ⟨a, m, s⟩))) ∧ Below w.heap.size w w' := by
  obtain ⟨i0, hi, hz0, hz1, hz2⟩ := info_parts infoHp
  obtain ⟨n, hnn⟩ : ∃ n, hs.length = n := ⟨_, rfl⟩
  rw [hnn] at hn
  rw [hnn]
  go_enter Try.func55, Try.ntmps55
  go_wp2_with fail
  go_loopw [7, 8] (fun v i wr => ∃ k : Nat, k ≤ n ∧ i = .int .i64 k ∧ wr.ownsRow w.heap.size 65 3 v k (flatH ((hs.take k).map fun s => ⟨a, m, s⟩)) ∧ Below w.heap.size w wr) (fun _ i _ => n - (intOf i).toNat)
  case atStart => exact ⟨0, by omega, rfl, World.ownsRow_nil _ _ _ _, Below.refl _ _⟩
  case round =>
    obtain ⟨k, hk, rfl, hown, hb⟩ := hrel
    by_cases h : k < n
    · obtain ⟨b, o, rfl, hc⟩ : ∃ b o : Nat, p = some ⟨b, o, none⟩ ∧ ∀ (j : Nat) (h : j < hs.length), w.cell? ⟨b, o + j, none⟩ = some (.string hs[j]) := by
        rcases h1 with rfl | h1
        · simp at hnn; omega
        · exact h1
      have hc0 := hc k (by omega)
      have hd : hs.take (k + 1) = hs.take k ++ [hs[k]'(by omega)] := List.take_succ_eq_append_getElem (by omega)
      obtain ⟨x, hx⟩ : ∃ x, hs[k]'(by omega) = x := ⟨_, rfl⟩
      rw [hx] at hc0 hd
      have hc1 := (hb.cell (cell_lt hc0)).trans hc0
      clear hc0 hc hx
      go_wp2_with (at_builtin; refine wpList_append_own _ rfl (.tmp 15) (.tmp 23) 51 rfl w.heap.size 65 i0 (.agg #[.int .i64 0, .int .i64 0, .string ⟨#[]⟩]) 3 32 Try.underlying51 hi hz0 hz1 hz2 rfl (by decide) u7 k _ rfl (by exact hown.alloc _) ⟨wr.heap.size, 0, none⟩ 1 1 [.int .i64 a, .int .i64 m, .string x] rfl rfl ?c1 ?c2 (by unfold maxLen; omega) (by omega) ?c5 ?_)
      case c1 =>
        intro j u hj
        exact World.news_of_block (blk_new wr _) j u hj
      case c2 => intro u hu; simp at hu; rcases hu with rfl | rfl | rfl <;> rfl
      case c5 => have := hb.size; simp; omega
      · intro v' w1 hown' hgrow _
        have hB' : Below w.heap.size w w1 := (hb.alloc hb.size (.cells #[.int .i64 a, .int .i64 m, .string x] 65)).grown hgrow (by have := hb.size; simp; omega) (fun j e => own_base hown e)
        have hN : w1.ownsRow w.heap.size 65 3 v' (k + 1) (flatH ((hs.take (k + 1)).map fun s => ⟨a, m, s⟩)) := by
          rw [hd, List.map_append, List.map_cons, List.map_nil, flatH_snoc]
          simpa using hown'
        clear hown' hgrow hown hb
        go_wp2
        exact ⟨⟨k + 1, by omega, by go_num, hN, hB'⟩, by simp [intOf]; omega⟩
    · obtain rfl : k = n := by omega
      rw [List.take_of_length_le (by omega)] at hown
      go_wp2
      go_ret
      exact ⟨⟨_, rfl, hown⟩, hb⟩
end Go.Proofs.Ytpkfjlbjahghgaa
