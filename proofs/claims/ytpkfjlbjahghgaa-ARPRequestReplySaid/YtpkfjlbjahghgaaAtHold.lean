/- Contract of an incomplete entry's hold: one more packet. -/
import Derived.Test.YtpkfjlbjahghgaaAtOps
import Derived.Maps.AppendAt
import Derived.Deep.AppendLies
namespace Go.Proofs.Ytpkfjlbjahghgaa
open Go.RowKit Go.Maps
set_option linter.unusedVariables false
attribute [local go_sem] Oper.semAt_some

theorem infoStr : (Try.prog.info? 9).map (fun i => (i.zero, i.size, i.bytes)) = some (some (.string ⟨#[]⟩), 1, 16) := by kernel_rfl
theorem infoHeld : (Try.prog.info? 65).map (fun i => (i.zero, i.size, i.bytes)) = some (some (.agg #[.int .i64 0, .int .i64 0, .string ⟨#[]⟩]), 3, 32) := by kernel_rfl
theorem infoArp : (Try.prog.info? 23).map (fun i => (i.zero, i.size, i.bytes)) = some (some (.agg #[.int .i64 0, .int .i64 0, .int .i64 0, .int .i64 0, .int .i64 0]), 5, 40) := by kernel_rfl
theorem row_shape {w : World} {base : Nat} {e : TypeId} {size : Nat} {v : Value} {n : Nat} {xs : List Value} (h : w.ownsRow base e size v n xs) : ∃ p c, v = .slice p n c ∧ (v.ownBlock = none ↔ p = none) := by
  rcases h.2 with ⟨rfl, rfl⟩ | ⟨g, cap, cur, rfl, _⟩
  · exact ⟨_, _, rfl, by simp [Value.ownBlock]⟩
  · exact ⟨_, _, rfl, by simp [Value.ownBlock]⟩
theorem strs_one (l : List ByteArray) : ∀ u ∈ strs l, u.oneCell' = true := by
  intro u hu
  obtain ⟨s, _, rfl⟩ := List.mem_map.1 hu
  rfl
theorem row_ne {w : World} {base b : Nat} {e t : TypeId} {size : Nat} {v : Value} {n : Nat} {xs : List Value} {cs : Array Value} (h : w.ownsRow base e size v n xs) (hb : w.heap[b]? = some (.cells cs t (0, 0))) (ht : t ≠ e) : v.ownBlock ≠ some b := by
  intro hv
  rcases h.2 with ⟨rfl, rfl⟩ | ⟨g, cap, cur, rfl, h2, h3, _⟩
  · simp [Value.ownBlock] at hv
  · obtain rfl : g = b := by simpa [Value.ownBlock] using hv
    rw [h3] at hb
    cases hb
    exact ht rfl

theorem ownsRow_succ {w : World} {base : Nat} {e : TypeId} {size : Nat} {v : Value} {k : Nat} {xs : List Value} (h : w.ownsRow base e size v (k + 1) xs) : ∃ g cap, v = .slice (some ⟨g, 0, none⟩) (k + 1) cap := by
  rcases h.2 with ⟨_, h⟩ | ⟨g, cap, cur, rfl, _⟩
  · cases h
  · exact ⟨g, cap, rfl⟩
theorem grown_set (w : World) (a : Addr) (u : Value) : w.grownBy (w.setCell a u) (some a.block) :=
  ⟨rfl, rfl, rfl, by simp, fun k _ hk => Below.heap_setCell w a u k (fun e => hk (by rw [e]))⟩
theorem row_setc {W : World} {base B k : Nat} {e t : TypeId} {size : Nat} {v : Value} {n : Nat} {xs : List Value} {cs : Array Value} {fz : Nat × Nat} (h : W.ownsRow base e size v n xs) (hB : W.heap[B]? = some (.cells cs t fz)) (ht : t ≠ e) (u : Value) : (W.setCell ⟨B, k, none⟩ u).ownsRow base e size v n xs := by
  refine ⟨h.1, ?_⟩
  rcases h.2 with h2 | ⟨g, cap, cur, e1, e2, e3, e4⟩
  · exact .inl h2
  · refine .inr ⟨g, cap, cur, e1, e2, blk_set e3 _ (fun e => ?_) _, e4⟩
    simp only at e
    subst e
    rw [hB] at e3
    cases e3
    exact ht rfl
set_option maxRecDepth 20000 in
set_option maxHeartbeats 1600000 in
theorem hold_few {w : World} {base b : Nat} {x : En} {hv : Value} (s : ByteArray) (hE : w.heap[b]? = some (inco x hv)) (hown : w.ownsRow base 9 1 hv x.held.length (strs x.held)) (hl : x.held.length < 4) (hbase : base ≤ w.heap.size) :
    Calls Try.prog 46 #[.pointer (some ⟨b, 0, none⟩), .string s] w fun e w' => e = .returned (.tuple #[]) ∧
      ∃ hv', w'.heap[b]? = some (inco x hv') ∧ w'.ownsRow base 9 1 hv' (x.held.length + 1) (strs (x.held ++ [s])) ∧ (hv'.ownBlock = hv.ownBlock ∨ ∃ g, hv'.ownBlock = some g ∧ w.heap.size ≤ g) ∧ Touch (fun k => k = b ∨ hv.ownBlock = some k) w w' := by
  obtain ⟨i0, hi, hz0, hz1, hz2⟩ := info_parts infoStr
  have hne := row_ne hown hE (by decide)
  have hbl := blk_lt hE
  obtain ⟨n, hn⟩ : ∃ n, x.held.length = n := ⟨_, rfl⟩
  rw [hn] at hown hl
  obtain ⟨p, c, hv0, -⟩ := row_shape hown
  have hc := blk_cell (k := 0) hE rfl
  simp only [List.getElem_toArray, List.getElem_cons_zero] at hc
  obtain ⟨hc1, hc2⟩ := hc
  have hc1' : w.cell? ⟨b, 0, none⟩ = some (.slice p n c) := by rw [← hv0]; exact hc1
  have hd : ((n : Int) == 4) = false := by simp; omega
  have hown' : (w.alloc (.cells #[.string s] 9)).ownsRow base 9 1 (.slice p n c) n (strs x.held) := by rw [← hv0]; exact hown.alloc _
  have hnews := World.news_of_block (blk_new w (.cells #[.string s] 9))
  have hcap : n + 1 ≤ maxLen := by unfold maxLen; omega
  have hc1a := cell_alloc hc1' (.cells #[.string s] 9)
  have HN := Lib.hid hn
  have HV := Lib.hid hv0
  clear hn hv0 hc1
  go_enter Try.func46, Try.ntmps46
  go_wp2_with (at_builtin; refine wpList_append_own_at _ rfl (.tmp 22) (.tmp 24) 35 rfl base 9 i0 (.string ⟨#[]⟩) 1 16 Try.underlying35 hi hz0 hz1 hz2 rfl (by decide) (.slice p n c) n (strs x.held) rfl hown' ⟨w.heap.size, 0, none⟩ 1 1 [.string s] rfl rfl hnews (by simp [Value.oneCell']) hcap (by omega) (by simp; omega) ?_)
  intro v' w1 hown1 hgrow1 hnil hloc
  have hE1 : w1.heap[b]? = some (inco x hv) := (hgrow1.block b (by simp; omega) (fun e => hne (by rw [HV.out]; exact e.symm))).trans (blk_alloc hE _)
  obtain ⟨d1, d2⟩ := blk_cell (k := 0) hE1 rfl
  obtain ⟨g, cap', rfl⟩ := ownsRow_succ (k := n) hown1
  go_wp2
  refine bodyPost_end (v := .tuple #[]) (by simp [results, Try.results46, go_sem]; try rfl) rfl ⟨rfl, ?_⟩
  have hx : x.held.length = n := HN.out
  have hgl := (hown1.lt g rfl)
  have hgb : g ≠ b := fun e => row_ne hown1 hE1 (by decide) (by rw [e]; rfl)
  have hr : (Value.slice p n c).ownBlock = hv.ownBlock := by rw [HV.out]
  refine ⟨_, blk_setc (k := 0) hE1 _, ?_, ?_, ?_⟩
  · rw [hx, strs, List.map_append]
    exact row_setc hown1 hE1 (by decide) _
  · rcases hloc with h | h
    · exact .inl (h.trans hr)
    · exact .inr ⟨_, h, by simp⟩
  · refine ((Touch.of ((Below.refl _ w).alloc (Nat.le_refl _) _)).trans (Touch.grown (S := fun k => k = b ∨ hv.ownBlock = some k) hgrow1 (fun k hk => .inr (hr.symm.trans hk))) (fun k hk => .inl hk)).trans (Touch.grown (S := fun k => k = b ∨ hv.ownBlock = some k) (grown_set w1 ⟨b, 0, none⟩ _) (fun k hk => .inl (by cases hk; rfl))) (fun k hk => .inl hk)
end Go.Proofs.Ytpkfjlbjahghgaa
