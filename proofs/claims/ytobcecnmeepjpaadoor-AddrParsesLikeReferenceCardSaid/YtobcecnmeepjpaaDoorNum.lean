/- The listed variables as a condition on the world; the contract of number. -/
import Derived.Test.YtobcecnmeepjpaaDoorShelf
import Derived.Test.YtobcecnmeepjpaaDoorLast
import Derived.Lib.SmallJoins
namespace Go.Proofs.YtobcecnmeepjpaaDoor
open Go.RowKit
set_option linter.unusedVariables false

theorem var_stays {w w' : World} {n : String} {g : Nat} {cs : Array Value} (hg : Tryd.prog.globalNamed n = some g) (h : w.var? Tryd.prog n = some cs) (hb : Below w.heap.size w w') : w'.var? Tryd.prog n = some cs := by
  unfold World.var? at h ⊢
  rw [hg] at h ⊢
  simp only [Option.bind_some] at h ⊢
  have hl : g < w.heap.size := by
    rcases Nat.lt_or_ge g w.heap.size with h1 | h1
    · exact h1
    · rw [Array.getElem?_eq_none h1] at h; simp at h
  rw [hb.block g hl]
  exact h

/-- what the walks ask of the library's variables -/
structure Env (w : World) : Prop where
  lim : ∃ m : Int, w.cell? ⟨0, 0, none⟩ = some (.int .i64 m)
  tab : Lib.TabIs Tryd.prog w "internal/strconv.uint64pow10" .u64 Lib.pow10Tab
  syn : ∃ tp p, w.var? Tryd.prog "strconv.ErrSyntax" = some #[.iface tp p]
  rng : ∃ tp p, w.var? Tryd.prog "strconv.ErrRange" = some #[.iface tp p]
theorem gTab : Tryd.prog.globalNamed "internal/strconv.uint64pow10" = some 3 := by kernel_rfl
theorem gSyn : Tryd.prog.globalNamed "strconv.ErrSyntax" = some 1 := by kernel_rfl
theorem gRng : Tryd.prog.globalNamed "strconv.ErrRange" = some 2 := by kernel_rfl
theorem Env.stay {w w' : World} (E : Env w) (hb : Below w.heap.size w w') : Env w' where
  lim := by
    obtain ⟨m, hm⟩ := E.lim
    exact ⟨m, (hb.cell (World.block_lt_of_cell? _ _ hm)).trans hm⟩
  tab := var_stays gTab E.tab hb
  syn := by obtain ⟨tp, p, h⟩ := E.syn; exact ⟨tp, p, var_stays gSyn h hb⟩
  rng := by obtain ⟨tp, p, h⟩ := E.rng; exact ⟨tp, p, var_stays gRng h hb⟩

theorem below_grow {w : World} {k : Nat} {os : Array Obj} {w' : World} (h : w' = Sort.grow (w.drewN k) os) : Below w.heap.size w w' := by
  subst h
  exact ⟨rfl, rfl, rfl, by simp [Sort.grow, World.drewN], fun j hj => by
    show (w.heap ++ os)[j]? = _
    rw [Array.getElem?_append_left hj]⟩

theorem itoa_any (n : Int) (w : World) (h0 : -9223372036854775808 ≤ n) (h1 : n ≤ 9223372036854775807) (E : Env w) :
    Calls Tryd.prog 38 #[.int .i64 n] w fun e w' => e = .returned (.string ⟨(Lib.itoa n).toArray⟩) ∧ Below w.heap.size w w' :=
  (Tryd.strconv_Itoa n h0 h1 w E.tab).mono fun _ _ ⟨he, k, os, h⟩ => ⟨he, below_grow h⟩

theorem num_ends (e : Lib.NumEnd Int) : (∃ v, e = .ok v) ∨ e = Lib.NumEnd.syntax ∨ e = Lib.NumEnd.range := by cases e <;> simp
theorem atoi_any (s : ByteArray) (w : World) (hs : s.size ≤ 281474976710656) (E : Env w) :
    Calls Tryd.prog 47 #[.string s] w fun e w' => Below w.heap.size w w' ∧
      ((∃ v, Lib.atoiAll s.data.toList = .ok v ∧ e = .returned (.tuple #[.int .i64 v, .nilIface])) ∨
       ((∀ v, Lib.atoiAll s.data.toList ≠ .ok v) ∧ ∃ v t q, e = .returned (.tuple #[.int .i64 v, .iface t (.pointer (some q))]))) := by
  rcases num_ends (Lib.atoiAll s.data.toList) with ⟨v, h⟩ | h | h
  · exact (Tryd.strconv_Atoi_ok s (by omega) v h w).mono fun e w' ⟨he, hw⟩ => ⟨by rcases hw with rfl | ⟨t, rfl⟩; exact Below.refl _ _; exact Lib.bytesWorld_below _ _ _, .inl ⟨v, h, he⟩⟩
  · obtain ⟨tp, p, hv⟩ := E.syn
    exact (Tryd.strconv_Atoi_syntax_var s hs h tp p w hv).mono fun e w' ⟨N, he, _, _, hb⟩ => ⟨hb, .inr ⟨fun v hv => (by rw [h] at hv; cases hv), _, _, _, he⟩⟩
  · obtain ⟨tp, p, hv⟩ := E.rng
    exact (Tryd.strconv_Atoi_range_var s hs h tp p w hv).mono fun e w' ⟨N, he, _, _, hb⟩ => ⟨hb, .inr ⟨fun v hv => (by rw [h] at hv; cases hv), _, _, _, he⟩⟩

/-- the number from 0 to m that the bytes are the numeral of -/
def numZ (l : List UInt8) (m : Int) : Option Int :=
  match Lib.atoiAll l with
  | .ok v => if 0 ≤ v ∧ v ≤ m ∧ Lib.itoa v = l then some v else none
  | _ => none
theorem numZ_ok {l : List UInt8} {m v : Int} (h : Lib.atoiAll l = .ok v) : numZ l m = if 0 ≤ v ∧ v ≤ m ∧ Lib.itoa v = l then some v else none := by unfold numZ; rw [h]
theorem numZ_no {l : List UInt8} {m : Int} (h : ∀ v, Lib.atoiAll l ≠ .ok v) : numZ l m = none := by
  unfold numZ
  split
  · next v hv => exact absurd hv (h v)
  · rfl
theorem numZ_bd {l : List UInt8} {m v : Int} (h : numZ l m = some v) : 0 ≤ v ∧ v ≤ m ∧ Lib.itoa v = l := by
  unfold numZ at h
  split at h
  · split at h
    · cases h; assumption
    · cases h
  · cases h

theorem str_inj {a b : ByteArray} (h : a.data.toList = b.data.toList) : a = b := by
  obtain ⟨⟨x⟩⟩ := a; obtain ⟨⟨y⟩⟩ := b; simp at h; rw [h]
theorem str_ne {a b : ByteArray} (h : ¬ a = b) : (a.toList == b.toList) = false := by
  rw [Lib.toList_data, Lib.toList_data]
  exact beq_eq_false_iff_ne.2 fun e => h (str_inj e)
theorem str_eq {a b : ByteArray} : (a.toList == b.toList) = decide (a = b) := by
  by_cases h : a = b
  · subst h; simp
  · rw [str_ne h, decide_eq_false h]

theorem num_any (s : ByteArray) (m : Int) (w : World) (hs : s.size ≤ 281474976710656) (E : Env w) (lm : -9223372036854775808 ≤ m) (um : m ≤ 9223372036854775807) :
    Calls Tryd.prog 37 #[.string s, .int .i64 m] w fun e w' => e = .returned (.tuple #[.int .i64 ((numZ s.data.toList m).getD 0), .bool (numZ s.data.toList m).isSome]) ∧ Below w.heap.size w w' := by
  have A := Lib.hid (atoi_any s w hs E)
  have I := fun v h0 h1 w E => Lib.hid (itoa_any v w h0 h1 E)
  go_enter Tryd.func37, Tryd.ntmps37
  go_wp2_with fail
  refine A.out.mono ?_
  rintro e w' ⟨hb, ⟨v, hv, rfl⟩ | ⟨hv, v, t, q, rfl⟩⟩
  · have hn := numZ_ok (m := m) hv
    have E' := E.stay hb
    by_cases h1 : v < 0
    · rw [if_neg (by omega)] at hn
      have Hn := Lib.hid hn
      clear hn
      go_wp2_with fail
      go_ret2
      exact ⟨by rw [Hn.out]; rfl, hb⟩
    · by_cases h2 : m < v
      · rw [if_neg (by omega)] at hn
        have Hn := Lib.hid hn
        clear hn
        go_wp2_with fail
        go_ret2
        exact ⟨by rw [Hn.out]; rfl, hb⟩
      · have J := I v (by omega) (by omega) w' E'
        clear I E'
        have hv0 : 0 ≤ v := by omega
        have hv1 : v ≤ m := by omega
        obtain ⟨z, hz⟩ : ∃ z : ByteArray, ⟨(Lib.itoa v).toArray⟩ = z := ⟨_, rfl⟩
        rw [hz] at J
        have hzl : z.data.toList = Lib.itoa v := by rw [← hz]
        by_cases h3 : z = s
        · subst h3
          rw [if_pos ⟨by omega, by omega, by rw [hzl]⟩] at hn
          have Hn := Lib.hid hn
          clear hn hzl hz
          go_wp2_with fail
          refine J.out.mono ?_
          rintro e w2 ⟨rfl, hb2⟩
          go_wp2_with fail
          go_ret2
          exact ⟨by rw [Hn.out]; rfl, hb.trans (hb2.mono hb.size)⟩
        · rw [if_neg (by rintro ⟨_, _, h4⟩; exact h3 (by rw [← hz, h4])) ] at hn
          have Hn := Lib.hid hn
          have h4 := str_ne h3
          clear hn hzl hz h3
          go_wp2_with fail
          refine J.out.mono ?_
          rintro e w2 ⟨rfl, hb2⟩
          go_wp2_with fail
          go_ret2
          exact ⟨by rw [Hn.out]; rfl, hb.trans (hb2.mono hb.size)⟩
  · have Hn := Lib.hid (numZ_no (m := m) hv)
    clear hv
    go_wp2_with fail
    go_ret2
    exact ⟨by rw [Hn.out]; rfl, hb⟩
end Go.Proofs.YtobcecnmeepjpaaDoor
