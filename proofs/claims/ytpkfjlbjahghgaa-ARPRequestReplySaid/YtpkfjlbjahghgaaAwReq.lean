/- The walk of ARPRequestReply. -/
import Derived.Test.YtpkfjlbjahghgaaAwShort
import Derived.Laws.AppendOwnNone
import Derived.Test.YtpkfjlbjahghgaaAlaidS
import Derived.Test.YtpkfjlbjahghgaaAtAsk
namespace Go.Proofs.Ytpkfjlbjahghgaa
open Go.RowKit Go.Maps
set_option linter.unusedVariables false
attribute [local go_sem] Oper.semAt_some

/-- the entry that asks, with its packets -/
def askE (two : Int) (hs : List ByteArray) (tr la : Int) : En := ⟨two, false, 0, 0, 0, hs, tr, 0, la⟩
/-- what holds at the head of the second loop -/
def ReqJ (w0 wr : World) (T mb : Nat) (one : Int) (T2 mb2 : Nat) (two m : Int) (T3 mb3 : Nat) (third m3 : Int) (H : List ByteArray) (pl : Int) (said i : Value) : Prop :=
  ∃ (j : Nat) (R : List PE), (j : Int) ≤ pl ∧ i = .int .i64 j ∧ Ws w0 wr T mb one T2 mb2 two m T3 mb3 third m3 R [askE two H (1 + j) (10 * j)] ∧
    wr.ownsRow w0.heap.size 23 5 said 1 (flatM [⟨1, one, 3, two, 0⟩]) ∧ Out wr T mb R said
/-- what holds at the head of the first loop -/
def ReqI (w0 wr : World) (T mb : Nat) (one : Int) (T2 mb2 : Nat) (two m : Int) (T3 mb3 : Nat) (third m3 : Int) (zs : List ByteArray) (n : Nat) (said nv i : Value) : Prop :=
  ∃ (k : Nat) (R : List PE), k ≤ 4 ∧ k ≤ n ∧ i = .int .i64 k ∧ nv = .int .i64 k ∧
    Ws w0 wr T mb one T2 mb2 two m T3 mb3 third m3 R (if k = 0 then [] else [askE two ((zs.take k).map sh) 1 0]) ∧
    (if k = 0 then said = .slice none 0 0 else wr.ownsRow w0.heap.size 23 5 said 1 (flatM [⟨1, one, 3, two, 0⟩])) ∧ Out wr T mb R said

set_option maxRecDepth 100000 in
set_option maxHeartbeats 16000000 in
theorem walk_ARPRequestReply (az bz mz oz : Int) (lv : Value) (zs : List ByteArray) (lz : Int) (W : World) (a1 : -9223372036854775808 ≤ az) (a2 : az ≤ 9223372036854775807) (b1 : -9223372036854775808 ≤ bz) (b2 : bz ≤ 9223372036854775807)
    (m1 : -9223372036854775808 ≤ mz) (m2 : mz ≤ 9223372036854775807) (o1 : -9223372036854775808 ≤ oz) (o2 : oz ≤ 9223372036854775807) (l1 : -9223372036854775808 ≤ lz) (l2 : lz ≤ 9223372036854775807)
    (hl : StrsIn W lv zs) (hz : ∀ z ∈ zs, z.size ≤ maxLen) (hn : zs.length ≤ maxLen) :
    Calls Try.prog 9 #[.int .i64 az, .int .i64 bz, .int .i64 mz, .int .i64 oz, lv, .int .i64 lz] W fun e W' => e = .returned (.bool true) ∧ Below W.heap.size W W' := by
  unfold maxLen at hn
  obtain ⟨n, hnn⟩ : ∃ n, zs.length = n := ⟨_, rfl⟩
  obtain ⟨p, cap, hlv⟩ : ∃ p cap, lv = .slice p n cap := by
    rcases hl with ⟨h1, h2⟩ | ⟨a, cap, h1, _⟩
    · exact ⟨none, 0, by rw [h1, ← hnn, h2]; rfl⟩
    · exact ⟨some a, cap, by rw [h1, hnn]⟩
  have hcell : ∀ (i : Nat) (h : i < zs.length), ∃ a, p = some a ∧ W.cell? (a.add i) = some (.string zs[i]) := by
    intro i h
    rcases hl with ⟨h1, h2⟩ | ⟨a, cap', h1, h3⟩
    · rw [h2] at h; simp at h
    · rw [h1] at hlv
      simp only [Value.slice.injEq] at hlv
      exact ⟨a, hlv.1.symm, h3 i h⟩
  rw [hlv]
  rw [hnn] at hn
  have HC := Lib.hid hcell
  have HZ := Lib.hid hz
  have HN := Lib.hid hnn
  clear hl hcell hz hlv hnn
  obtain ⟨p1, p2⟩ := pickZ_bd az 50 (by decide)
  obtain ⟨q1, q2⟩ := pickZ_bd bz 50 (by decide)
  obtain ⟨r1, r2⟩ := pickZ_bd mz 100 (by decide)
  obtain ⟨s1, s2⟩ := pickZ_bd oz 100 (by decide)
  obtain ⟨t1, t2⟩ := pickZ_bd lz 3 (by decide)
  go_enter Try.func9, Try.ntmps9
  go_wp2_with fail
  refine (sanity_any _).mono ?_
  rintro e w1 ⟨rfl, hb1⟩
  go_wp2_with fail
  refine (pick_any az 50 _ a1 a2 (by decide) (by decide)).mono ?_
  rintro e w2 ⟨rfl, rfl⟩
  generalize pickZ az 50 = pa at *
  go_wp2_with fail
  refine (pick_any bz 50 _ b1 b2 (by decide) (by decide)).mono ?_
  rintro e w2 ⟨rfl, rfl⟩
  go_wp2_with fail
  refine (pick_any bz 50 _ b1 b2 (by decide) (by decide)).mono ?_
  rintro e w2 ⟨rfl, rfl⟩
  generalize pickZ bz 50 = pb at *
  go_wp2_with fail
  refine (pick_any mz 100 _ m1 m2 (by decide) (by decide)).mono ?_
  rintro e w2 ⟨rfl, rfl⟩
  generalize pickZ mz 100 = pm at *
  go_wp2_with fail
  refine (new_ok (1 + pa) 3 _ (by unfold okOne; omega) (by decide)).mono ?_
  rintro e w2 ⟨rfl, hb2, ht2⟩
  go_wp2_with fail
  refine (new_ok (60 + pb) (100 + pm) _ (by unfold okOne; omega) (by unfold okMac; omega)).mono ?_
  rintro e w3 ⟨rfl, hb3, ht3⟩
  go_wp2_with fail
  refine (pick_any oz 100 _ o1 o2 (by decide) (by decide)).mono ?_
  rintro e w4 ⟨rfl, rfl⟩
  generalize pickZ oz 100 = po at *
  go_wp2_with fail
  refine (new_ok (200 + pb) (300 + po) _ (by unfold okOne; omega) (by unfold okMac; omega)).mono ?_
  rintro e w4 ⟨rfl, hb4, ht4⟩
  obtain ⟨z2, z3⟩ := tab0_lt ht2
  obtain ⟨z4, z5⟩ := tab0_lt ht3
  obtain ⟨z6, z7⟩ := tab0_lt ht4
  have z8 := hb3.size
  have z9 := hb4.size
  have z10 := hb2.size
  have hlow : ∀ {w : World} {B B' T mb : Nat} {own mac : Int}, B' ≤ B → TabP w B T mb own mac false 0 [] → TabP w B' T mb own mac false 0 [] := fun hB h => ⟨⟨Nat.le_trans hB h.low.1, Nat.le_trans hB h.low.2⟩, h.blk, h.map, fun p hp => absurd hp (by simp), h.nodup, h.sorted, h.ok⟩
  have S4 : Ws w1 w4 (w1.heap.size + 1) w1.heap.size (1 + pa) (w2.heap.size + 1) w2.heap.size (60 + pb) (100 + pm) (w3.heap.size + 1) w3.heap.size (200 + pb) (300 + po) [] [] :=
    ⟨⟨tab0_kept ht2 (fun k hk => by rw [hb4.block k (by omega), hb3.block k (by omega)]), rfl, (hb2.trans (hb3.mono hb2.size)).trans (hb4.mono (by omega))⟩,
      hlow hb2.size (tab0_kept ht3 (fun k hk => hb4.block k (by omega))), hlow (by omega) ht4, by
        intro k hk
        simp only [List.mem_cons, List.not_mem_nil, or_false] at hk
        simp only [allB, List.flatMap_nil, List.mem_cons, List.not_mem_nil, or_false]
        omega⟩
  have HB1 := Lib.hid hb1
  have S5 := Lib.hid S4
  clear S4 hlow ht2 ht3 ht4 hb2 hb3 hb4 hb1
  obtain ⟨T, hT⟩ : ∃ T, w1.heap.size + 1 = T := ⟨_, rfl⟩
  obtain ⟨mb, hM⟩ : ∃ T, w1.heap.size = T := ⟨_, rfl⟩
  obtain ⟨T2, hT2⟩ : ∃ T, w2.heap.size + 1 = T := ⟨_, rfl⟩
  obtain ⟨mb2, hM2⟩ : ∃ T, w2.heap.size = T := ⟨_, rfl⟩
  obtain ⟨T3, hT3⟩ : ∃ T, w3.heap.size + 1 = T := ⟨_, rfl⟩
  obtain ⟨mb3, hM3⟩ : ∃ T, w3.heap.size = T := ⟨_, rfl⟩
  have S6 := Lib.hid (show Ws w1 w4 T mb (1 + pa) T2 mb2 (60 + pb) (100 + pm) T3 mb3 (200 + pb) (300 + po) [] [] by rw [← hT, ← hM, ← hT2, ← hM2, ← hT3, ← hM3]; exact S5.out)
  rw [hT, hT2, hT3]
  clear S5 hT hM hT2 hM2 hT3 hM3 z2 z3 z4 z5 z6 z7 z8 z9 z10
  go_wp2_with fail
  go_loopw [24, 25, 26] (fun said nv i wr => ReqI w1 wr T mb (1 + pa) T2 mb2 (60 + pb) (100 + pm) T3 mb3 (200 + pb) (300 + po) zs n said nv i) (fun _ _ i _ => n - (intOf i).toNat)
  case atStart => exact ⟨0, [], by omega, by omega, rfl, rfl, S6.out, rfl, fun k hk => by cases hk⟩
  case round =>
    obtain ⟨k, R, hk4, hkn, rfl, rfl, hS, hA, hO⟩ := hrel
    clear S6
    by_cases h : k < n ∧ k < 4
    · obtain ⟨h1, h2⟩ := h
      obtain ⟨a, rfl, hc⟩ := HC.out k (by rw [HN.out]; exact h1)
      obtain ⟨z, hz⟩ : ∃ z, zs[k]'(by rw [HN.out]; exact h1) = z := ⟨_, rfl⟩
      have hzb := HZ.out z (by rw [← hz]; exact List.getElem_mem _)
      have htk : zs.take (k + 1) = zs.take k ++ [z] := by rw [← hz]; exact List.take_succ_eq_append_getElem _
      rw [hz] at hc
      have hcl := cell_lt hc
      have hcr : wr.cell? (a.add k) = some (.string z) := by
        have hB := hS.t.below
        have h5 := HB1.out.size
        rw [hB.cell (p := a.add k) (by omega), HB1.out.cell (p := a.add k) hcl]
        exact hc
      have HTK := Lib.hid htk
      clear hc hz hcl htk
      have HS := Lib.hid hS
      have HA := Lib.hid hA
      clear hS hA
      have hsz := sh_size z
      have hok : okS (1 + pa) (60 + pb) (sh z) := ⟨by unfold okOne; omega, by omega, by omega⟩
      go_wp2_with fail
      refine (short_any z _ hzb).mono ?_
      rintro e w5 ⟨rfl, rfl⟩
      generalize hzz : sh z = y at *
      go_wp2_with fail
      rcases Nat.eq_zero_or_pos k with rfl | hkp
      · have hR : R = [] := ents_nil (by have := HS.out.t.ents; simpa using this)
        subst hR
        refine (send_new HS.out.t.tab 0 (60 + pb) y hok rfl (by decide)).mono ?_
        rintro e w6 ⟨v, rfl, hav, htv⟩
        have hA0 : u24 = .slice none 0 0 := HA.out
        subst hA0
        have hL : setE (List.map (fun x : PE => x.x) []) (newE (60 + pb) 0 y) = [askE (60 + pb) [y] 1 0] := rfl
        rw [hL] at htv
        obtain ⟨R6, hS6, -, hO6⟩ := HS.out.step htv
        rcases hav with ⟨-, h0⟩ | ⟨b, o, c, rfl, hx⟩
        · cases h0
        have hx0 := hx 0 (by simp)
        simp only [List.getElem_cons_zero, Nat.zero_mul, Nat.add_zero] at hx0
        have S6 := Lib.hid hS6
        have hnews : ∀ (j : Nat) (u : Value), ([.int .i64 1, .int .i64 (1 + pa), .int .i64 3, .int .i64 (60 + pb), .int .i64 0] : List Value)[j]? = some u → w6.cell? ((⟨b, o, none⟩ : Addr).add j) = some u := by
          intro j u hj
          have e : ((⟨b, o, none⟩ : Addr).add j) = ⟨b, o + j, none⟩ := by unfold Addr.add; split <;> simp_all
          rw [e]
          match j with
          | 0 => simp at hj; subst hj; exact hx0.o
          | 1 => simp at hj; subst hj; exact hx0.f
          | 2 => simp at hj; subst hj; exact hx0.m
          | 3 => simp at hj; subst hj; exact hx0.t
          | 4 => simp at hj; subst hj; exact hx0.n
          | j + 5 => simp at hj
        obtain ⟨i0, hi, hz0, hz1, hz2⟩ := info_parts infoArp
        clear htv hO6 hx hx0 hS6 HS HA hcr hO
        go_wp2_with (at_builtin; refine wpList_append_own _ rfl (.tmp 109) (.tmp 110) 28 rfl w6.heap.size 23 i0 (.agg #[.int .i64 0, .int .i64 0, .int .i64 0, .int .i64 0, .int .i64 0]) 5 40 Try.underlying28 hi hz0 hz1 hz2 rfl (by decide) (.slice none 0 0) 0 [] rfl (World.ownsRow_nil _ _ _ _) ⟨b, o, none⟩ 1 c [.int .i64 1, .int .i64 (1 + pa), .int .i64 3, .int .i64 (60 + pb), .int .i64 0] rfl rfl hnews ?c2 (by unfold maxLen; omega) (by omega) (Nat.le_refl _) ?_)
        case c2 => intro u hu; simp at hu; rcases hu with rfl | rfl | rfl | rfl | rfl <;> rfl
        intro v' w7 hown7 hgrow7 _
        have hB7 : Below w6.heap.size w6 w7 := (Below.refl _ w6).grown hgrow7 (Nat.le_refl _) (fun k e => by cases e)
        have S7 := Lib.hid (S6.out.stay hB7).1
        have hA7 : w7.ownsRow w1.heap.size 23 5 v' 1 (flatM [⟨1, 1 + pa, 3, 60 + pb, 0⟩]) := row_mono (by simpa [flatM] using hown7) S6.out.t.below.size
        have hO7 : Out w7 T mb R6 v' := fun k hk => ⟨(hown7.lt k hk).2, fun hm => by have := (S6.out.t.tab.lt k hm).2; have := (hown7.lt k hk).1; omega⟩
        clear hnews hown7 hgrow7 hB7 S6
        have e1 : (zs.take 1).map sh = [y] := by rw [HTK.out]; simp [hzz]
        go_wp2
        refine ⟨⟨1, R6, by omega, by omega, rfl, rfl, by rw [if_neg (by decide), e1]; exact S7.out, by rw [if_neg (by decide)]; exact hA7, hO7⟩, ?_⟩
        simp [intOf]; omega
      · have hk0 : k ≠ 0 := by omega
        have HS1 := HS.out
        have HA1 := HA.out
        rw [if_neg hk0] at HS1 HA1
        obtain ⟨q, rfl, hq⟩ := ents_one HS1.t.ents
        have hlk : lookP [q] (60 + pb) = some q := by simp [lookP, hq, askE]
        have hlen : (zs.take k).length = k := by rw [List.length_take, HN.out]; omega
        refine (send_hold HS1.t.tab k (60 + pb) y hok hlk (by rw [hq]; rfl) (by rw [hq]; simp only [askE, List.length_map]; omega)).mono ?_
        rintro e w6 ⟨rfl, htq⟩
        have htv := htq.v [] (by simp)
        have hL : updE (List.map (fun x : PE => x.x) [q]) (60 + pb) (fun x => { x with held := x.held ++ [y] }) = [askE (60 + pb) ((zs.take (k + 1)).map sh) 1 0] := by
          rw [HTK.out]
          simp [updE, hq, askE, hzz]
        rw [hL] at htv
        obtain ⟨R6, hS6, hK6, -⟩ := HS1.step htv
        have hO6 := (hK6 _ hO).1
        have hA6 := row_of_block HA1 (hK6 _ hO).2
        have S6 := Lib.hid hS6
        have A6 := Lib.hid hA6
        obtain ⟨i0, hi, hz0, hz1, hz2⟩ := info_parts infoArp
        clear hS6 htv htq HS HA HS1 HA1 hcr hO hK6 hL
        go_wp2_with (at_builtin; refine wpList_append_own_none rfl (.tmp 109) (.tmp 110) 28 rfl w1.heap.size 23 i0 5 Try.underlying28 hi u24 1 _ rfl A6.out rfl ?_)
        refine ⟨⟨k + 1, R6, by omega, by omega, by go_num, by go_num, by rw [if_neg (by omega)]; exact S6.out, by rw [if_neg (by omega)]; exact A6.out, hO6⟩, ?_⟩
        simp [intOf]; omega
    · rcases Nat.eq_zero_or_pos k with rfl | hkp
      · have hn0 : n = 0 := by omega
        subst hn0
        have hA0 : u24 = .slice none 0 0 := hA
        subst hA0
        have hB8 := HB1.out.trans (hS.t.below.mono HB1.out.size)
        clear hS hA hO
        go_wp2
        go_ret
        exact ⟨rfl, hB8⟩
      rw [if_neg (by omega)] at hS hA
      rcases Nat.lt_or_ge k n with hkn' | hkn'
      · have hk44 : k = 4 := by omega
        have hc1 : ((k : Int) < 4) = False := by simp; omega
        have hc2 : (k : Int) < n := by omega
        have hc3 : ((k : Int) == 0) = false := by simp; omega
        obtain ⟨g, cs, rfl⟩ := ownsRow_succ (k := 0) hA
        have hH : 1 ≤ ((zs.take k).map sh).length ∧ ((zs.take k).map sh).length = k := by rw [List.length_map, List.length_take, HN.out]; omega
        obtain ⟨H, hHH⟩ : ∃ H, (zs.take k).map sh = H := ⟨_, rfl⟩
        rw [hHH] at hS hH
        have S6 := Lib.hid hS
        have A6 := Lib.hid hA
        clear hS hA
        go_wp2_with fail
        refine (pick_any lz 3 _ l1 l2 (by decide) (by decide)).mono ?_
        rintro e w5 ⟨rfl, rfl⟩
        generalize pickZ lz 3 = pl at *
        go_wp2_with fail
        go_loopw [31] (fun i wr => ReqJ w1 wr T mb (1 + pa) T2 mb2 (60 + pb) (100 + pm) T3 mb3 (200 + pb) (300 + po) H pl (.slice (some ⟨g, 0, none⟩) (0 + 1) cs) i) (fun i _ => pl.toNat - (intOf i).toNat)
        case atStart => exact ⟨0, R, by omega, rfl, S6.out, A6.out, hO⟩
        case round =>
          obtain ⟨j, R', hj, rfl, hS, hA, hO'⟩ := hrel
          clear S6 A6 hO
          by_cases hjp : (j : Int) < pl
          · have HS := Lib.hid hS
            have HA := Lib.hid hA
            obtain ⟨q, rfl, hq⟩ := ents_one hS.t.ents
            clear hS hA
            have hnow : Bd (10 * ((j : Int) + 1)) := by unfold Bd; omega
            have hen : ∀ x ∈ [q].map (·.x), EnOk x := by
              intro x hx
              simp only [List.map_cons, List.map_nil, List.mem_cons, List.not_mem_nil, or_false] at hx
              rw [hx, hq]
              refine ⟨by simp [askE, Bd], by simp only [askE, Bd]; omega, by simp only [askE]; omega, by simp only [askE, Bd]; omega, fun _ => by simp only [askE]; omega⟩
            have hM : tickMs (1 + pa) 3 (10 * ((j : Int) + 1)) ([q].map (·.x)) = [⟨1, 1 + pa, 3, 60 + pb, 0⟩] := by
              simp only [List.map_cons, List.map_nil, hq, tickMs, List.flatMap_cons, List.flatMap_nil, tickM, askE]
              rw [if_neg (by simp), if_pos (by omega), if_pos (by omega)]; rfl
            have hE : ([q].map (·.x)).filterMap (tickE (10 * ((j : Int) + 1))) = [askE (60 + pb) H (1 + ((j + 1 : Nat) : Int)) (10 * ((j + 1 : Nat) : Int))] := by
              simp only [List.map_cons, List.map_nil, hq, List.filterMap_cons, List.filterMap_nil, tickE, askE]
              rw [if_neg (by simp), if_pos (by omega), if_pos (by omega)]
              rw [show 1 + ((j + 1 : Nat) : Int) = 1 + (j : Int) + 1 by omega, show 10 * ((j + 1 : Nat) : Int) = 10 * ((j : Int) + 1) by omega]
            go_wp2_with fail
            refine (tick_any HS.out.t.tab (by simp) _ hnow hen).mono ?_
            rintro e w6 ⟨v1, v2, rfl, hv1, -, htv⟩
            rw [hM] at hv1
            rw [hE] at htv
            obtain ⟨R6, hS6, hK6, -⟩ := HS.out.step htv
            have hO6 := (hK6 _ hO').1
            have hA6 := row_of_block HA.out (hK6 _ hO').2
            have hsame := rsameA_any v1 _ _ _ w6 hv1 (arps_own hA6 rfl) (by simp)
            rw [show decide (([⟨1, 1 + pa, 3, 60 + pb, 0⟩] : List Ms) = [⟨1, 1 + pa, 3, 60 + pb, 0⟩]) = true from decide_eq_true rfl] at hsame
            have S7 := Lib.hid hS6
            have A7 := Lib.hid hA6
            clear hS6 hA6 htv hK6 HS HA hM hE hen hO' hv1
            go_wp2_with fail
            refine hsame.mono ?_
            rintro e w7 ⟨rfl, hb7⟩
            obtain ⟨hS8, hK8⟩ := S7.out.stay hb7
            have hO8 := (hK8 _ hO6).1
            have hA8 := row_of_block A7.out (hK8 _ hO6).2
            have S8 := Lib.hid hS8
            have A8 := Lib.hid hA8
            clear hS8 hK8 hA8 S7 A7 hb7 hsame hO6
            go_wp2
            refine ⟨⟨j + 1, R6, by omega, by go_num, S8.out, A8.out, hO8⟩, ?_⟩
            simp [intOf]; omega
          · obtain ⟨q, rfl, hq⟩ := ents_one hS.t.ents
            have hjf : ((j : Int) < pl) = False := by simp; omega
            have hA1 : wr.ownsRow w1.heap.size 23 5 (.slice (some ⟨g, 0, none⟩) 1 cs) 1 (flatM [⟨1, 1 + pa, 3, 60 + pb, 0⟩]) := hA
            have y0 : wr.cell? ⟨g, 0, none⟩ = some (.int .i64 1) := (hA1.cellAt 0 (by omega)).trans rfl
            have y1 : wr.cell? ⟨g, 1, none⟩ = some (.int .i64 (1 + pa)) := (hA1.cellAt 1 (by omega)).trans rfl
            have y2 : wr.cell? ⟨g, 2, none⟩ = some (.int .i64 3) := (hA1.cellAt 2 (by omega)).trans rfl
            have y3 : wr.cell? ⟨g, 3, none⟩ = some (.int .i64 (60 + pb)) := (hA1.cellAt 3 (by omega)).trans rfl
            have y4 : wr.cell? ⟨g, 4, none⟩ = some (.int .i64 0) := (hA1.cellAt 4 (by omega)).trans rfl
            have HS := Lib.hid hS
            have HA := Lib.hid hA1
            clear hS hA hA1
            have hok1 : okA 1 (1 + pa) 3 (60 + pb) 0 := by unfold okA okOne okMac; omega
            go_wp2_with fail
            refine (recv_other HS.out.v 5 1 (1 + pa) 3 (60 + pb) 0 hok1 (by omega) (by omega)).mono ?_
            rintro e w5 ⟨rfl, hb5⟩
            obtain ⟨hS8, hK8⟩ := HS.out.stay hb5
            have hA8 := row_of_block HA.out (hK8 _ hO').2
            have y0 : w5.cell? ⟨g, 0, none⟩ = some (.int .i64 1) := (hA8.cellAt 0 (by omega)).trans rfl
            have y1 : w5.cell? ⟨g, 1, none⟩ = some (.int .i64 (1 + pa)) := (hA8.cellAt 1 (by omega)).trans rfl
            have y2 : w5.cell? ⟨g, 2, none⟩ = some (.int .i64 3) := (hA8.cellAt 2 (by omega)).trans rfl
            have y3 : w5.cell? ⟨g, 3, none⟩ = some (.int .i64 (60 + pb)) := (hA8.cellAt 3 (by omega)).trans rfl
            have y4 : w5.cell? ⟨g, 4, none⟩ = some (.int .i64 0) := (hA8.cellAt 4 (by omega)).trans rfl
            have S8 := Lib.hid hS8
            clear hS8 hK8 hA8 HS HA hb5 hO'
            go_wp2_with fail
            refine (recv_ask S8.out.u 5 (1 + pa) 3 0 hok1 (by omega) (X := fun u v w' => v = .slice none 0 0 ∧ ArpsAt w' u [⟨2, 60 + pb, 100 + pm, 1 + pa, 3⟩] ∧ Below w5.heap.size w5 w')
              (fun w6 g6 c6 h6 hb6 _ _ ha6 => (resolve_no h6 5 (1 + pa) 3 (by unfold okOne; omega) rfl).mono fun e w' ⟨e1, e2⟩ => ⟨_, e1, rfl, by rw [← e2]; exact ha6, by rw [← e2]; exact hb6⟩)).mono ?_
            rintro e w6 ⟨u, _, rfl, rfl, hu, hb6⟩
            obtain ⟨hS9, hK9⟩ := S8.out.stay hb6
            have S9 := Lib.hid hS9
            rcases hu with ⟨-, h0⟩ | ⟨b, o, c, rfl, hx⟩
            · cases h0
            have hx0 := hx 0 (by simp)
            simp only [List.getElem_cons_zero, Nat.zero_mul, Nat.add_zero] at hx0
            obtain ⟨y0, y1, y2, y3, y4⟩ := hx0
            simp only [List.length_cons, List.length_nil, Nat.zero_add]
            clear hx hS9 hK9 hb6 S8
            have hok2 : okA 2 (60 + pb) (100 + pm) (1 + pa) 3 := by unfold okA okOne okMac; omega
            go_wp2_with fail
            refine (encode_yes 2 (60 + pb) (100 + pm) (1 + pa) 3 _ hok2).mono ?_
            rintro e w7 ⟨rfl, hb7⟩
            obtain ⟨hS10, -⟩ := S9.out.stay hb7
            have S10 := Lib.hid hS10
            have hezs := encA_size 2 (60 + pb) (100 + pm) (1 + pa) 3
            clear hS10 hb7 S9 y0 y1 y2 y3 y4
            go_wp2_with fail
            refine (decode_any _ _ (by unfold maxLen; omega)).mono ?_
            rintro e w8 ⟨rfl, hb8⟩
            obtain ⟨d1, d2⟩ := decV_enc 2 (60 + pb) (100 + pm) (1 + pa) 3 hok2
            rw [d1, d2]
            obtain ⟨hS11, -⟩ := S10.out.stay hb8
            have S11 := Lib.hid hS11
            clear hS11 hb8 S10 d1 d2
            go_wp2_with fail
            have hlk : lookP [q] (60 + pb) = some q := by simp [lookP, hq, askE]
            obtain ⟨hS12, -⟩ := S11.out.stay ((Below.refl _ w8).alloc (Nat.le_refl _) (ao 2 (60 + pb) (100 + pm) (1 + pa) 3))
            have S12 := Lib.hid hS12
            clear hS12 S11
            refine (recv_told_yes S12.out.t.tab 31 (60 + pb) (100 + pm) 3 hok2 (by omega) hlk (by rw [hq]; rfl) (by rw [hq]; simp only [askE]; omega) (by simp)).mono ?_
            rintro e w9 ⟨v9, rfl, hv9, ht9⟩
            have hL9 : setE ([q].map (·.x)) (resE (60 + pb) 31 (100 + pm)) = [resE (60 + pb) 31 (100 + pm)] := by simp [setE, insE, dropE, hq, askE, resE]
            rw [hL9] at ht9
            rw [hq] at hv9
            obtain ⟨R9, hS13, -, -⟩ := S12.out.step ht9
            obtain ⟨q9, rfl, hq9⟩ := ents_one hS13.t.ents
            have hkn1 := known_tab hS13.t.tab (a := 60 + pb) (by omega) (by omega)
            have hkn2 := known_tab hS13.u (a := 1 + pa) (by omega) (by omega)
            rw [show knL ([q9].map (·.x)) (60 + pb) = (100 + pm, true) by simp [knL, lookE, hq9, resE]] at hkn1
            rw [show knL (([] : List PE).map (·.x)) (1 + pa) = (0, false) by rfl] at hkn2
            have hB13 := HB1.out.trans (hS13.t.below.mono HB1.out.size)
            have hlen9 : (outL (60 + pb) (100 + pm) H).length = k := by simp [outL, hH.2]
            rcases hv9 with ⟨-, h0⟩ | ⟨b9, o9, c9, rfl, hx9⟩
            · have := congrArg List.length h0; simp [outL, askE] at this; rw [this] at hH; simp at hH
            have hx9' := hx9 (k - 1) (by simp only [askE]; omega)
            simp only [askE] at hx9' ⊢
            rw [hlen9]
            obtain ⟨a, rfl, hc⟩ := HC.out (k - 1) (by rw [HN.out]; omega)
            have hzz := HZ.out _ (List.getElem_mem (by rw [HN.out]; omega : k - 1 < zs.length))
            have hcr : w9.cell? (a.add (k - 1)) = some (.string (zs[k - 1]'(by rw [HN.out]; omega))) := (hB13.cell (cell_lt hc)).trans hc
            clear hS13 S12 ht9 hc hx9 hL9 hezs
            go_wp2_with fail
            refine hkn1.mono ?_
            rintro e w10 ⟨rfl, rfl⟩
            go_wp2_with fail
            refine hkn2.mono ?_
            rintro e w10 ⟨rfl, rfl⟩
            go_wp2_with fail
            obtain ⟨y, hys⟩ : ∃ y, sh (zs[k - 1]'(by rw [HN.out]; omega)) = y := ⟨_, rfl⟩
            obtain ⟨zz, hzz2⟩ : ∃ zz, zs[k - 1]'(by rw [HN.out]; omega) = zz := ⟨_, rfl⟩
            have hm9 := hx9'.m
            have hs9 := hx9'.s
            have hHk : H[k - 1]'(by omega) = y := by rw [← hys]; simp [← hHH]
            simp only [outL, List.getElem_map, hHk] at hm9 hs9
            rw [hzz2] at hcr hys hzz
            simp only [hk44] at hm9 hs9 hcr
            simp only [Nat.reduceSub, Nat.reduceMul, Nat.add_assoc, Nat.reduceAdd] at hm9 hs9 hcr
            have hm9' : w9.drew.cell? ⟨b9, o9 + 10, none⟩ = some (.int .i64 (100 + pm)) := hm9
            have hs9' : w9.drew.cell? ⟨b9, o9 + 11, none⟩ = some (.string y) := hs9
            have hcr' : w9.drew.cell? (a.add 3) = some (.string zz) := hcr
            have hw3 : IntKind.i64.wrap 3 = 3 := by decide
            have hm9'' : w9.drew.cell? ⟨b9, o9 + 9 + 1, none⟩ = some (.int .i64 (100 + pm)) := hm9
            have hs9'' : w9.drew.cell? ⟨b9, o9 + 9 + 2, none⟩ = some (.string y) := hs9
            have hn3 : (3 : Int) < (n : Int) := by omega
            have e3 : a.add 3 = ⟨a.block, a.off + 3, none⟩ := rfl
            rw [e3] at hcr hcr'
            clear hx9' HC HZ
            refine wp_region_noPanic ?_
            refine wp_region_held_drew (S := fun w' => w' = w9.drew) (by kernel_rfl) rfl (fun hHeld => ?_)
            refine wpAnyH_take (i := 0) (oi := ⟨some 203, _, _, _, _, _⟩) (v := ?vb0) rfl (by kernel_rfl) (by kernel_rfl) (by kernel_rfl) (fun _ _ _ h => h) (Or.inl ⟨by rfl, ?hyb0⟩) hHeld ?rrb0
            case hyb0 => (intro w hSw; (try dsimp only at hSw); (try subst hSw); go_simp; try with_reducible rfl)
            try simp only [Act.put, List.setIfInBounds_toArray, List.set_cons_zero, List.set_cons_succ]
            refine wpAnyH_take (i := 1) (oi := ⟨some 204, _, _, _, _, _⟩) (v := ?vb1) rfl (by kernel_rfl) (by kernel_rfl) (by kernel_rfl) (fun _ _ _ h => h) (Or.inl ⟨by rfl, ?hyb1⟩) hHeld ?rrb1
            case hyb1 => (intro w hSw; (try dsimp only at hSw); (try subst hSw); go_simp; try with_reducible rfl)
            try simp only [Act.put, List.setIfInBounds_toArray, List.set_cons_zero, List.set_cons_succ]
            refine wpAnyH_take (i := 2) (oi := ⟨some 205, _, _, _, _, _⟩) (v := ?vb2) rfl (by kernel_rfl) (by kernel_rfl) (by kernel_rfl) (fun _ _ _ h => h) (Or.inl ⟨by rfl, ?hyb2⟩) hHeld ?rrb2
            case hyb2 => (intro w hSw; (try dsimp only at hSw); (try subst hSw); go_simp; try with_reducible rfl)
            try simp only [Act.put, List.setIfInBounds_toArray, List.set_cons_zero, List.set_cons_succ]
            refine wpAnyH_take (i := 3) (oi := ⟨some 206, _, _, _, _, _⟩) (v := ?vb3) rfl (by kernel_rfl) (by kernel_rfl) (by kernel_rfl) (fun _ _ _ h => h) (Or.inl ⟨by rfl, ?hyb3⟩) hHeld ?rrb3
            case hyb3 => (intro w hSw; (try dsimp only at hSw); (try subst hSw); go_simp; try with_reducible rfl)
            try simp only [Act.put, List.setIfInBounds_toArray, List.set_cons_zero, List.set_cons_succ]
            refine wpAnyH_take (i := 4) (oi := ⟨some 207, _, _, _, _, _⟩) (v := ?vb4) rfl (by kernel_rfl) (by kernel_rfl) (by kernel_rfl) (fun _ _ _ h => h) (Or.inl ⟨by rfl, ?hyb4⟩) hHeld ?rrb4
            case hyb4 => (intro w hSw; (try dsimp only at hSw); (try subst hSw); go_simp; try with_reducible rfl)
            try simp only [Act.put, List.setIfInBounds_toArray, List.set_cons_zero, List.set_cons_succ]
            refine wpAnyH_take (i := 5) (oi := ⟨some 208, _, _, _, _, _⟩) (v := ?vb5) rfl (by kernel_rfl) (by kernel_rfl) (by kernel_rfl) (fun _ _ _ h => h) (Or.inl ⟨by rfl, ?hyb5⟩) hHeld ?rrb5
            case hyb5 => (intro w hSw; (try dsimp only at hSw); (try subst hSw); go_simp; try with_reducible rfl)
            try simp only [Act.put, List.setIfInBounds_toArray, List.set_cons_zero, List.set_cons_succ]
            refine wpAnyH_take (i := 6) (oi := ⟨some 209, _, _, _, _, _⟩) (v := ?vb6) rfl (by kernel_rfl) (by kernel_rfl) (by kernel_rfl) (fun _ _ _ h => h) (Or.inl ⟨by rfl, ?hyb6⟩) hHeld ?rrb6
            case hyb6 => (intro w hSw; (try dsimp only at hSw); (try subst hSw); go_simp; try with_reducible rfl)
            try simp only [Act.put, List.setIfInBounds_toArray, List.set_cons_zero, List.set_cons_succ]
            refine wpAnyH_take (i := 7) (oi := ⟨some 210, _, _, _, _, _⟩) (v := ?vb7) rfl (by kernel_rfl) (by kernel_rfl) (by kernel_rfl) (fun _ _ _ h => h) (Or.inl ⟨by rfl, ?hyb7⟩) hHeld ?rrb7
            case hyb7 => (intro w hSw; (try dsimp only at hSw); (try subst hSw); go_simp; try with_reducible rfl)
            try simp only [Act.put, List.setIfInBounds_toArray, List.set_cons_zero, List.set_cons_succ]
            refine wpAnyH_take (i := 8) (oi := ⟨some 211, _, _, _, _, _⟩) (v := ?vb8) rfl (by kernel_rfl) (by kernel_rfl) (by kernel_rfl) (fun _ _ _ h => h) (Or.inl ⟨by rfl, ?hyb8⟩) hHeld ?rrb8
            case hyb8 => (intro w hSw; (try dsimp only at hSw); (try subst hSw); go_simp; try with_reducible rfl)
            try simp only [Act.put, List.setIfInBounds_toArray, List.set_cons_zero, List.set_cons_succ]
            refine wpAnyH_take (i := 9) (oi := ⟨some 212, _, _, _, _, _⟩) (v := ?vb9) rfl (by kernel_rfl) (by kernel_rfl) (by kernel_rfl) (fun _ _ _ h => h) (Or.inl ⟨by rfl, ?hyb9⟩) hHeld ?rrb9
            case hyb9 => (intro w hSw; (try dsimp only at hSw); (try subst hSw); go_simp; try with_reducible rfl)
            try simp only [Act.put, List.setIfInBounds_toArray, List.set_cons_zero, List.set_cons_succ]
            refine wpAnyH_take (i := 10) (oi := ⟨some 213, _, _, _, _, _⟩) (v := ?vb10) rfl (by kernel_rfl) (by kernel_rfl) (by kernel_rfl) (fun _ _ _ h => h) (Or.inl ⟨by rfl, ?hyb10⟩) hHeld ?rrb10
            case hyb10 => (intro w hSw; (try dsimp only at hSw); (try subst hSw); go_simp; try with_reducible rfl)
            try simp only [Act.put, List.setIfInBounds_toArray, List.set_cons_zero, List.set_cons_succ]
            refine wpAnyH_take (i := 11) (oi := ⟨some 214, _, _, _, _, _⟩) (v := ?vb11) rfl (by kernel_rfl) (by kernel_rfl) (by kernel_rfl) (fun _ _ _ h => h) (Or.inl ⟨by rfl, ?hyb11⟩) hHeld ?rrb11
            case hyb11 => (intro w hSw; (try dsimp only at hSw); (try subst hSw); go_simp; try with_reducible rfl)
            try simp only [Act.put, List.setIfInBounds_toArray, List.set_cons_zero, List.set_cons_succ]
            refine wpAnyH_take (i := 12) (oi := ⟨some 215, _, _, _, _, _⟩) (v := ?vb12) rfl (by kernel_rfl) (by kernel_rfl) (by kernel_rfl) (fun _ _ _ h => h) (Or.inl ⟨by rfl, ?hyb12⟩) hHeld ?rrb12
            case hyb12 => (intro w hSw; (try dsimp only at hSw); (try subst hSw); go_simp; try with_reducible rfl)
            try simp only [Act.put, List.setIfInBounds_toArray, List.set_cons_zero, List.set_cons_succ]
            refine wpAnyH_take (i := 13) (oi := ⟨some 216, _, _, _, _, _⟩) (v := ?vb13) rfl (by kernel_rfl) (by kernel_rfl) (by kernel_rfl) (fun _ _ _ h => h) (Or.inl ⟨by rfl, ?hyb13⟩) hHeld ?rrb13
            case hyb13 => (intro w hSw; (try dsimp only at hSw); (try subst hSw); go_simp; try with_reducible rfl)
            try simp only [Act.put, List.setIfInBounds_toArray, List.set_cons_zero, List.set_cons_succ]
            refine wpAnyH_take (i := 14) (oi := ⟨some 217, _, _, _, _, _⟩) (v := ?vb14) rfl (by kernel_rfl) (by kernel_rfl) (by kernel_rfl) (fun _ _ _ h => h) (Or.inl ⟨by rfl, ?hyb14⟩) hHeld ?rrb14
            case hyb14 => (intro w hSw; (try dsimp only at hSw); (try subst hSw); go_simp; try with_reducible rfl)
            try simp only [Act.put, List.setIfInBounds_toArray, List.set_cons_zero, List.set_cons_succ]
            refine wpAnyH_take (i := 15) (oi := ⟨some 218, _, _, _, _, _⟩) (v := ?vb15) rfl (by kernel_rfl) (by kernel_rfl) (by kernel_rfl) (fun _ _ _ h => h) (Or.inl ⟨by rfl, ?hyb15⟩) hHeld ?rrb15
            case hyb15 => (intro w hSw; (try dsimp only at hSw); (try subst hSw); go_simp; try with_reducible rfl)
            try simp only [Act.put, List.setIfInBounds_toArray, List.set_cons_zero, List.set_cons_succ]
            refine wpAnyH_take (i := 16) (oi := ⟨some 219, _, _, _, _, _⟩) (v := ?vb16) rfl (by kernel_rfl) (by kernel_rfl) (by kernel_rfl) (fun _ _ _ h => h) (Or.inl ⟨by rfl, ?hyb16⟩) hHeld ?rrb16
            case hyb16 => (intro w hSw; (try dsimp only at hSw); (try subst hSw); go_simp; try with_reducible rfl)
            try simp only [Act.put, List.setIfInBounds_toArray, List.set_cons_zero, List.set_cons_succ]
            refine wpAnyH_take (i := 17) (oi := ⟨some 220, _, _, _, _, _⟩) (v := ?vb17) rfl (by kernel_rfl) (by kernel_rfl) (by kernel_rfl) (fun _ _ _ h => h) (Or.inl ⟨by rfl, ?hyb17⟩) hHeld ?rrb17
            case hyb17 => (intro w hSw; (try dsimp only at hSw); (try subst hSw); go_simp; try with_reducible rfl)
            try simp only [Act.put, List.setIfInBounds_toArray, List.set_cons_zero, List.set_cons_succ]
            refine wpAnyH_take (i := 18) (oi := ⟨some 221, _, _, _, _, _⟩) (v := ?vb18) rfl (by kernel_rfl) (by kernel_rfl) (by kernel_rfl) (fun _ _ _ h => h) (Or.inl ⟨by rfl, ?hyb18⟩) hHeld ?rrb18
            case hyb18 => (intro w hSw; (try dsimp only at hSw); (try subst hSw); go_simp; try with_reducible rfl)
            try simp only [Act.put, List.setIfInBounds_toArray, List.set_cons_zero, List.set_cons_succ]
            refine wpAnyH_take (i := 19) (oi := ⟨some 222, _, _, _, _, _⟩) (v := ?vb19) rfl (by kernel_rfl) (by kernel_rfl) (by kernel_rfl) (fun _ _ _ h => h) (Or.inl ⟨by rfl, ?hyb19⟩) hHeld ?rrb19
            case hyb19 => (intro w hSw; (try dsimp only at hSw); (try subst hSw); go_simp; try with_reducible rfl)
            try simp only [Act.put, List.setIfInBounds_toArray, List.set_cons_zero, List.set_cons_succ]
            refine wpAnyH_take (i := 20) (oi := ⟨some 223, _, _, _, _, _⟩) (v := ?vb20) rfl (by kernel_rfl) (by kernel_rfl) (by kernel_rfl) (fun _ _ _ h => h) (Or.inl ⟨by rfl, ?hyb20⟩) hHeld ?rrb20
            case hyb20 => (intro w hSw; (try dsimp only at hSw); (try subst hSw); go_simp; try with_reducible rfl)
            try simp only [Act.put, List.setIfInBounds_toArray, List.set_cons_zero, List.set_cons_succ]
            refine wpAnyH_take (i := 21) (oi := ⟨some 224, _, _, _, _, _⟩) (v := ?vb21) rfl (by kernel_rfl) (by kernel_rfl) (by kernel_rfl) (fun _ _ _ h => h) (Or.inl ⟨by rfl, ?hyb21⟩) hHeld ?rrb21
            case hyb21 => (intro w hSw; (try dsimp only at hSw); (try subst hSw); go_simp; try with_reducible rfl)
            try simp only [Act.put, List.setIfInBounds_toArray, List.set_cons_zero, List.set_cons_succ]
            refine wpAnyH_take (i := 22) (oi := ⟨some 225, _, _, _, _, _⟩) (v := ?vb22) rfl (by kernel_rfl) (by kernel_rfl) (by kernel_rfl) (fun _ _ _ h => h) (Or.inl ⟨by rfl, ?hyb22⟩) hHeld ?rrb22
            case hyb22 => (intro w hSw; (try dsimp only at hSw); (try subst hSw); go_simp; try with_reducible rfl)
            try simp only [Act.put, List.setIfInBounds_toArray, List.set_cons_zero, List.set_cons_succ]
            refine wpAnyH_take (i := 23) (oi := ⟨some 226, _, _, _, _, _⟩) (v := ?vb23) rfl (by kernel_rfl) (by kernel_rfl) (by kernel_rfl) (fun _ _ _ h => h) (Or.inl ⟨by rfl, ?hyb23⟩) hHeld ?rrb23
            case hyb23 => (intro w hSw; (try dsimp only at hSw); (try subst hSw); go_simp; try with_reducible rfl)
            try simp only [Act.put, List.setIfInBounds_toArray, List.set_cons_zero, List.set_cons_succ]
            refine wpAnyH_take (i := 24) (oi := ⟨some 227, _, _, _, _, _⟩) (v := ?vb24) rfl (by kernel_rfl) (by kernel_rfl) (by kernel_rfl) (fun _ _ _ h => h) (Or.inl ⟨by rfl, ?hyb24⟩) hHeld ?rrb24
            case hyb24 => (intro w hSw; (try dsimp only at hSw); (try subst hSw); go_simp; try with_reducible rfl)
            try simp only [Act.put, List.setIfInBounds_toArray, List.set_cons_zero, List.set_cons_succ]
            refine wpAnyH_take (i := 25) (oi := ⟨some 228, _, _, _, _, _⟩) (v := ?vb25) rfl (by kernel_rfl) (by kernel_rfl) (by kernel_rfl) (fun _ _ _ h => h) (Or.inl ⟨by rfl, ?hyb25⟩) hHeld ?rrb25
            case hyb25 => (intro w hSw; (try dsimp only at hSw); (try subst hSw); go_simp; try with_reducible rfl)
            try simp only [Act.put, List.setIfInBounds_toArray, List.set_cons_zero, List.set_cons_succ]
            refine wpAnyH_take (i := 26) (oi := ⟨some 229, _, _, _, _, _⟩) (v := ?vb26) rfl (by kernel_rfl) (by kernel_rfl) (by kernel_rfl) (fun _ _ _ h => h) (Or.inl ⟨by rfl, ?hyb26⟩) hHeld ?rrb26
            case hyb26 => (intro w hSw; (try dsimp only at hSw); (try subst hSw); go_simp; try with_reducible rfl)
            try simp only [Act.put, List.setIfInBounds_toArray, List.set_cons_zero, List.set_cons_succ]
            refine wpAnyH_take (i := 27) (oi := ⟨some 230, _, _, _, _, _⟩) (v := ?vb27) rfl (by kernel_rfl) (by kernel_rfl) (by kernel_rfl) (fun _ _ _ h => h) (Or.inl ⟨by rfl, ?hyb27⟩) hHeld ?rrb27
            case hyb27 => (intro w hSw; (try dsimp only at hSw); (try subst hSw); go_simp; try with_reducible rfl)
            try simp only [Act.put, List.setIfInBounds_toArray, List.set_cons_zero, List.set_cons_succ]
            refine wpAnyH_take (i := 28) (oi := ⟨some 231, _, _, _, _, _⟩) (v := ?vb28) rfl (by kernel_rfl) (by kernel_rfl) (by kernel_rfl) (fun _ _ _ h => h) (Or.inl ⟨by rfl, ?hyb28⟩) hHeld ?rrb28
            case hyb28 => (intro w hSw; (try dsimp only at hSw); (try subst hSw); go_simp; try with_reducible rfl)
            try simp only [Act.put, List.setIfInBounds_toArray, List.set_cons_zero, List.set_cons_succ]
            refine wpAnyH_take (i := 29) (oi := ⟨some 232, _, _, _, _, _⟩) (v := ?vb29) rfl (by kernel_rfl) (by kernel_rfl) (by kernel_rfl) (fun _ _ _ h => h) (Or.inl ⟨by rfl, ?hyb29⟩) hHeld ?rrb29
            case hyb29 => (intro w hSw; (try dsimp only at hSw); (try subst hSw); go_simp; try with_reducible rfl)
            try simp only [Act.put, List.setIfInBounds_toArray, List.set_cons_zero, List.set_cons_succ]
            refine wpAnyH_take (i := 30) (oi := ⟨some 233, _, _, _, _, _⟩) (v := ?vb30) rfl (by kernel_rfl) (by kernel_rfl) (by kernel_rfl) (fun _ _ _ h => h) (Or.inl ⟨by rfl, ?hyb30⟩) hHeld ?rrb30
            case hyb30 => (intro w hSw; (try dsimp only at hSw); (try subst hSw); go_simp; try with_reducible rfl)
            try simp only [Act.put, List.setIfInBounds_toArray, List.set_cons_zero, List.set_cons_succ]
            refine wpAnyH_take (i := 31) (oi := ⟨some 234, _, _, _, _, _⟩) (v := ?vb31) rfl (by kernel_rfl) (by kernel_rfl) (by kernel_rfl) (fun _ _ _ h => h) (Or.inl ⟨by rfl, ?hyb31⟩) hHeld ?rrb31
            case hyb31 => (intro w hSw; (try dsimp only at hSw); (try subst hSw); go_simp; try with_reducible rfl)
            try simp only [Act.put, List.setIfInBounds_toArray, List.set_cons_zero, List.set_cons_succ]
            refine wpAnyH_take (i := 32) (oi := ⟨some 235, _, _, _, _, _⟩) (v := ?vb32) rfl (by kernel_rfl) (by kernel_rfl) (by kernel_rfl) (fun _ _ _ h => h) (Or.inl ⟨by rfl, ?hyb32⟩) hHeld ?rrb32
            case hyb32 => (intro w hSw; (try dsimp only at hSw); (try subst hSw); go_simp; try with_reducible rfl)
            try simp only [Act.put, List.setIfInBounds_toArray, List.set_cons_zero, List.set_cons_succ]
            refine wpAnyH_take (i := 33) (oi := ⟨some 236, _, _, _, _, _⟩) (v := ?vb33) rfl (by kernel_rfl) (by kernel_rfl) (by kernel_rfl) (fun _ _ _ h => h) (Or.inl ⟨by rfl, ?hyb33⟩) hHeld ?rrb33
            case hyb33 => (intro w hSw; (try dsimp only at hSw); (try subst hSw); go_simp; try with_reducible rfl)
            try simp only [Act.put, List.setIfInBounds_toArray, List.set_cons_zero, List.set_cons_succ]
            refine wpAnyH_take (i := 34) (oi := ⟨some 237, _, _, _, _, _⟩) (v := ?vb34) rfl (by kernel_rfl) (by kernel_rfl) (by kernel_rfl) (fun _ _ _ h => h) (Or.inl ⟨by rfl, ?hyb34⟩) hHeld ?rrb34
            case hyb34 => (intro w hSw; (try dsimp only at hSw); (try subst hSw); go_simp; try with_reducible rfl)
            try simp only [Act.put, List.setIfInBounds_toArray, List.set_cons_zero, List.set_cons_succ]
            refine wpAnyH_take (i := 35) (oi := ⟨some 238, _, _, _, _, _⟩) (v := ?vb35) rfl (by kernel_rfl) (by kernel_rfl) (by kernel_rfl) (fun _ _ _ h => h) (Or.inl ⟨by rfl, ?hyb35⟩) hHeld ?rrb35
            case hyb35 => (intro w hSw; (try dsimp only at hSw); (try subst hSw); go_simp; try with_reducible rfl)
            try simp only [Act.put, List.setIfInBounds_toArray, List.set_cons_zero, List.set_cons_succ]
            refine wpAnyH_take (i := 36) (oi := ⟨some 239, _, _, _, _, _⟩) (v := ?vb36) rfl (by kernel_rfl) (by kernel_rfl) (by kernel_rfl) (fun _ _ _ h => h) (Or.inl ⟨by rfl, ?hyb36⟩) hHeld ?rrb36
            case hyb36 => (intro w hSw; (try dsimp only at hSw); (try subst hSw); go_simp; try with_reducible rfl)
            try simp only [Act.put, List.setIfInBounds_toArray, List.set_cons_zero, List.set_cons_succ]
            refine wpAnyH_take (i := 37) (oi := ⟨some 240, _, _, _, _, _⟩) (v := ?vb37) rfl (by kernel_rfl) (by kernel_rfl) (by kernel_rfl) (fun _ _ _ h => h) (Or.inl ⟨by rfl, ?hyb37⟩) hHeld ?rrb37
            case hyb37 => (intro w hSw; (try dsimp only at hSw); (try subst hSw); go_simp; try with_reducible rfl)
            try simp only [Act.put, List.setIfInBounds_toArray, List.set_cons_zero, List.set_cons_succ]
            refine wpAnyH_take (i := 38) (oi := ⟨some 241, _, _, _, _, _⟩) (v := ?vb38) rfl (by kernel_rfl) (by kernel_rfl) (by kernel_rfl) (fun _ _ _ h => h) (Or.inl ⟨by rfl, ?hyb38⟩) hHeld ?rrb38
            case hyb38 => (intro w hSw; (try dsimp only at hSw); (try subst hSw); go_simp; try with_reducible rfl)
            try simp only [Act.put, List.setIfInBounds_toArray, List.set_cons_zero, List.set_cons_succ]
            refine wpAnyH_take (i := 39) (oi := ⟨some 242, _, _, _, _, _⟩) (v := ?vb39) rfl (by kernel_rfl) (by kernel_rfl) (by kernel_rfl) (fun _ _ _ h => h) (Or.inl ⟨by rfl, ?hyb39⟩) hHeld ?rrb39
            case hyb39 => (intro w hSw; (try dsimp only at hSw); (try subst hSw); go_simp; try with_reducible rfl)
            try simp only [Act.put, List.setIfInBounds_toArray, List.set_cons_zero, List.set_cons_succ]
            refine wpAnyH_take (i := 40) (oi := ⟨some 243, _, _, _, _, _⟩) (v := ?vb40) rfl (by kernel_rfl) (by kernel_rfl) (by kernel_rfl) (fun _ _ _ h => h) (Or.inl ⟨by rfl, ?hyb40⟩) hHeld ?rrb40
            case hyb40 => (intro w hSw; (try dsimp only at hSw); (try subst hSw); go_simp; try with_reducible rfl)
            try simp only [Act.put, List.setIfInBounds_toArray, List.set_cons_zero, List.set_cons_succ]
            refine wpAnyH_take (i := 41) (oi := ⟨some 244, _, _, _, _, _⟩) (v := ?vb41) rfl (by kernel_rfl) (by kernel_rfl) (by kernel_rfl) (fun _ _ _ h => h) (Or.inl ⟨by rfl, ?hyb41⟩) hHeld ?rrb41
            case hyb41 => (intro w hSw; (try dsimp only at hSw); (try subst hSw); go_simp; try with_reducible rfl)
            try simp only [Act.put, List.setIfInBounds_toArray, List.set_cons_zero, List.set_cons_succ]
            refine wpAnyH_take (i := 42) (oi := ⟨some 245, _, _, _, _, _⟩) (v := ?vb42) rfl (by kernel_rfl) (by kernel_rfl) (by kernel_rfl) (fun _ _ _ h => h) (Or.inl ⟨by rfl, ?hyb42⟩) hHeld ?rrb42
            case hyb42 => (intro w hSw; (try dsimp only at hSw); (try subst hSw); go_simp; try with_reducible rfl)
            try simp only [Act.put, List.setIfInBounds_toArray, List.set_cons_zero, List.set_cons_succ]
            refine wpAnyH_take (i := 43) (oi := ⟨some 246, _, _, _, _, _⟩) (v := ?vb43) rfl (by kernel_rfl) (by kernel_rfl) (by kernel_rfl) (fun _ _ _ h => h) (Or.inl ⟨by rfl, ?hyb43⟩) hHeld ?rrb43
            case hyb43 => (intro w hSw; (try dsimp only at hSw); (try subst hSw); go_simp; try with_reducible rfl)
            try simp only [Act.put, List.setIfInBounds_toArray, List.set_cons_zero, List.set_cons_succ]
            refine wpAnyH_take (i := 44) (oi := ⟨some 247, _, _, _, _, _⟩) (v := ?vb44) rfl (by kernel_rfl) (by kernel_rfl) (by kernel_rfl) (fun _ _ _ h => h) (Or.inl ⟨by rfl, ?hyb44⟩) hHeld ?rrb44
            case hyb44 => (intro w hSw; (try dsimp only at hSw); (try subst hSw); go_simp; try with_reducible rfl)
            try simp only [Act.put, List.setIfInBounds_toArray, List.set_cons_zero, List.set_cons_succ]
            refine wpAnyH_take (i := 45) (oi := ⟨some 248, _, _, _, _, _⟩) (v := ?vb45) rfl (by kernel_rfl) (by kernel_rfl) (by kernel_rfl) (fun _ _ _ h => h) (Or.inl ⟨by rfl, ?hyb45⟩) hHeld ?rrb45
            case hyb45 => (intro w hSw; (try dsimp only at hSw); (try subst hSw); go_simp; try with_reducible rfl)
            try simp only [Act.put, List.setIfInBounds_toArray, List.set_cons_zero, List.set_cons_succ]
            refine wpAnyH_take (i := 46) (oi := ⟨some 249, _, _, _, _, _⟩) (v := ?vb46) rfl (by kernel_rfl) (by kernel_rfl) (by kernel_rfl) (fun _ _ _ h => h) (Or.inl ⟨by rfl, ?hyb46⟩) hHeld ?rrb46
            case hyb46 => (intro w hSw; (try dsimp only at hSw); (try subst hSw); go_simp; try with_reducible rfl)
            try simp only [Act.put, List.setIfInBounds_toArray, List.set_cons_zero, List.set_cons_succ]
            refine wpAnyH_take (i := 47) (oi := ⟨some 250, _, _, _, _, _⟩) (v := ?vb47) rfl (by kernel_rfl) (by kernel_rfl) (by kernel_rfl) (fun _ _ _ h => h) (Or.inl ⟨by rfl, ?hyb47⟩) hHeld ?rrb47
            case hyb47 => (intro w hSw; (try dsimp only at hSw); (try subst hSw); go_simp; try with_reducible rfl)
            try simp only [Act.put, List.setIfInBounds_toArray, List.set_cons_zero, List.set_cons_succ]
            refine wpAnyH_take (i := 48) (oi := ⟨some 251, _, _, _, _, _⟩) (v := ?vb48) rfl (by kernel_rfl) (by kernel_rfl) (by kernel_rfl) (fun _ _ _ h => h) (Or.inl ⟨by rfl, ?hyb48⟩) hHeld ?rrb48
            case hyb48 => (intro w hSw; (try dsimp only at hSw); (try subst hSw); go_simp; try with_reducible rfl)
            try simp only [Act.put, List.setIfInBounds_toArray, List.set_cons_zero, List.set_cons_succ]
            refine wpAnyH_take (i := 49) (oi := ⟨some 252, _, _, _, _, _⟩) (v := ?vb49) rfl (by kernel_rfl) (by kernel_rfl) (by kernel_rfl) (fun _ _ _ h => h) (Or.inl ⟨by rfl, ?hyb49⟩) hHeld ?rrb49
            case hyb49 => (intro w hSw; (try dsimp only at hSw); (try subst hSw); go_simp; try with_reducible rfl)
            try simp only [Act.put, List.setIfInBounds_toArray, List.set_cons_zero, List.set_cons_succ]
            refine wpAnyH_take (i := 50) (oi := ⟨some 253, _, _, _, _, _⟩) (v := ?vb50) rfl (by kernel_rfl) (by kernel_rfl) (by kernel_rfl) (fun _ _ _ h => h) (Or.inl ⟨by rfl, ?hyb50⟩) hHeld ?rrb50
            case hyb50 => (intro w hSw; (try dsimp only at hSw); (try subst hSw); go_simp; try with_reducible rfl)
            try simp only [Act.put, List.setIfInBounds_toArray, List.set_cons_zero, List.set_cons_succ]
            refine wpAnyH_take (i := 51) (oi := ⟨some 254, _, _, _, _, _⟩) (v := ?vb51) rfl (by kernel_rfl) (by kernel_rfl) (by kernel_rfl) (fun _ _ _ h => h) (Or.inl ⟨by rfl, ?hyb51⟩) hHeld ?rrb51
            case hyb51 => (intro w hSw; (try dsimp only at hSw); (try subst hSw); go_simp; try with_reducible rfl)
            try simp only [Act.put, List.setIfInBounds_toArray, List.set_cons_zero, List.set_cons_succ]
            refine wpAnyH_take (i := 52) (oi := ⟨some 255, _, _, _, _, _⟩) (v := ?vb52) rfl (by kernel_rfl) (by kernel_rfl) (by kernel_rfl) (fun _ _ _ h => h) (Or.inl ⟨by rfl, ?hyb52⟩) hHeld ?rrb52
            case hyb52 => (intro w hSw; (try dsimp only at hSw); (try subst hSw); go_simp; try with_reducible rfl)
            try simp only [Act.put, List.setIfInBounds_toArray, List.set_cons_zero, List.set_cons_succ]
            refine wpAnyH_take (i := 53) (oi := ⟨some 256, _, _, _, _, _⟩) (v := ?vb53) rfl (by kernel_rfl) (by kernel_rfl) (by kernel_rfl) (fun _ _ _ h => h) (Or.inl ⟨by rfl, ?hyb53⟩) hHeld ?rrb53
            case hyb53 => (intro w hSw; (try dsimp only at hSw); (try subst hSw); go_simp; try with_reducible rfl)
            try simp only [Act.put, List.setIfInBounds_toArray, List.set_cons_zero, List.set_cons_succ]
            refine wpAnyH_take (i := 54) (oi := ⟨some 257, _, _, _, _, _⟩) (v := ?vb54) rfl (by kernel_rfl) (by kernel_rfl) (by kernel_rfl) (fun _ _ _ h => h) (Or.inl ⟨by rfl, ?hyb54⟩) hHeld ?rrb54
            case hyb54 => (intro w hSw; (try dsimp only at hSw); (try subst hSw); go_simp; try with_reducible rfl)
            try simp only [Act.put, List.setIfInBounds_toArray, List.set_cons_zero, List.set_cons_succ]
            refine wpAnyH_take (i := 55) (oi := ⟨some 258, _, _, _, _, _⟩) (v := ?vb55) rfl (by kernel_rfl) (by kernel_rfl) (by kernel_rfl) (fun _ _ _ h => h) (Or.inl ⟨by rfl, ?hyb55⟩) hHeld ?rrb55
            case hyb55 => (intro w hSw; (try dsimp only at hSw); (try subst hSw); go_simp; try with_reducible rfl)
            try simp only [Act.put, List.setIfInBounds_toArray, List.set_cons_zero, List.set_cons_succ]
            refine wpAnyH_take (i := 56) (oi := ⟨some 259, _, _, _, _, _⟩) (v := ?vb56) rfl (by kernel_rfl) (by kernel_rfl) (by kernel_rfl) (fun _ _ _ h => h) (Or.inl ⟨by rfl, ?hyb56⟩) hHeld ?rrb56
            case hyb56 => (intro w hSw; (try dsimp only at hSw); (try subst hSw); go_simp; try with_reducible rfl)
            try simp only [Act.put, List.setIfInBounds_toArray, List.set_cons_zero, List.set_cons_succ]
            refine wpAnyH_take (i := 57) (oi := ⟨some 260, _, _, _, _, _⟩) (v := ?vb57) rfl (by kernel_rfl) (by kernel_rfl) (by kernel_rfl) (fun _ _ _ h => h) (Or.inl ⟨by rfl, ?hyb57⟩) hHeld ?rrb57
            case hyb57 => (intro w hSw; (try dsimp only at hSw); (try subst hSw); go_simp; try with_reducible rfl)
            try simp only [Act.put, List.setIfInBounds_toArray, List.set_cons_zero, List.set_cons_succ]
            refine wpAnyH_take (i := 58) (oi := ⟨some 261, _, _, _, _, _⟩) (v := ?vb58) rfl (by kernel_rfl) (by kernel_rfl) (by kernel_rfl) (fun _ _ _ h => h) (Or.inl ⟨by rfl, ?hyb58⟩) hHeld ?rrb58
            case hyb58 => (intro w hSw; (try dsimp only at hSw); (try subst hSw); go_simp; try with_reducible rfl)
            try simp only [Act.put, List.setIfInBounds_toArray, List.set_cons_zero, List.set_cons_succ]
            refine wpAnyH_take (i := 59) (oi := ⟨some 262, _, _, _, _, _⟩) (v := ?vb59) rfl (by kernel_rfl) (by kernel_rfl) (by kernel_rfl) (fun _ _ _ h => h) (Or.inl ⟨by rfl, ?hyb59⟩) hHeld ?rrb59
            case hyb59 => (intro w hSw; (try dsimp only at hSw); (try subst hSw); go_simp; try with_reducible rfl)
            try simp only [Act.put, List.setIfInBounds_toArray, List.set_cons_zero, List.set_cons_succ]
            refine wpAnyH_take (i := 60) (oi := ⟨some 263, _, _, _, _, _⟩) (v := ?vb60) rfl (by kernel_rfl) (by kernel_rfl) (by kernel_rfl) (fun _ _ _ h => h) (Or.inl ⟨by rfl, ?hyb60⟩) hHeld ?rrb60
            case hyb60 => (intro w hSw; (try dsimp only at hSw); (try subst hSw); go_simp; try with_reducible rfl)
            try simp only [Act.put, List.setIfInBounds_toArray, List.set_cons_zero, List.set_cons_succ]
            refine wpAnyH_ready (rs := [61]) (by kernel_rfl) (by simp) ?_
            refine AllReadyH.cons (o := ⟨some 264, _, _, _, _, _⟩) rfl (fun K hK => ?_) AllReadyH.nil
            go_simp
            refine (short_any _ _ hzz).mono ?_
            rintro e w11 ⟨rfl, rfl⟩
            try rw [hys]
            refine hK.out _ _ rfl (fun hHeld2 => ?_)
            clear hK K hHeld
            have hHeld := hHeld2
            clear hHeld2
            try simp only [Act.put, List.setIfInBounds_toArray, List.set_cons_zero, List.set_cons_succ]
            refine wpAnyH_take (i := 62) (oi := ⟨some 265, _, _, _, _, _⟩) (v := ?vb62) rfl (by kernel_rfl) (by kernel_rfl) (by kernel_rfl) (fun _ _ _ h => h) (Or.inl ⟨by rfl, ?hyb62⟩) hHeld ?rrb62
            case hyb62 => (intro w hSw; (try dsimp only at hSw); (try subst hSw); go_simp; try with_reducible rfl)
            try simp only [Act.put, List.setIfInBounds_toArray, List.set_cons_zero, List.set_cons_succ]
            refine wpAnyH_take (i := 63) (oi := ⟨some 266, _, _, _, _, _⟩) (v := ?vb63) rfl (by kernel_rfl) (by kernel_rfl) (by kernel_rfl) (fun _ _ _ h => h) (Or.inl ⟨by rfl, ?hyb63⟩) hHeld ?rrb63
            case hyb63 => (intro w hSw; (try dsimp only at hSw); (try subst hSw); go_simp; try with_reducible rfl)
            try simp only [Act.put, List.setIfInBounds_toArray, List.set_cons_zero, List.set_cons_succ]
            refine wpAnyH_take (i := 64) (oi := ⟨some 12, _, _, _, _, _⟩) (v := ?vb64) rfl (by kernel_rfl) (by kernel_rfl) (by kernel_rfl) (fun _ _ _ h => h) (Or.inl ⟨by rfl, ?hyb64⟩) hHeld ?rrb64
            case hyb64 => (intro w hSw; (try dsimp only at hSw); (try subst hSw); go_simp; try with_reducible rfl)
            try simp only [Act.put, List.setIfInBounds_toArray, List.set_cons_zero, List.set_cons_succ]
            refine wpAnyH_done (by kernel_rfl) ?_ _
            refine NoPanic.normal ?_
            go_wp2
            go_ret
            exact ⟨rfl, hB13.drew⟩
      · obtain ⟨i0, rfl⟩ : ∃ i0, k = i0 + 1 := ⟨k - 1, by omega⟩
        obtain rfl : n = i0 + 1 := by omega
        have hc3 : ((i0 : Int) + 1 == 0) = false := by simp; omega
        have hc4 : ((i0 : Int) + 1 = 0) = False := by simp; omega
        obtain ⟨g, cs, rfl⟩ := ownsRow_succ (k := 0) hA
        have hH : 1 ≤ ((zs.take (i0 + 1)).map sh).length ∧ ((zs.take (i0 + 1)).map sh).length = i0 + 1 := by rw [List.length_map, List.length_take, HN.out]; omega
        obtain ⟨H, hHH⟩ : ∃ H, (zs.take (i0 + 1)).map sh = H := ⟨_, rfl⟩
        rw [hHH] at hS hH
        have S6 := Lib.hid hS
        have A6 := Lib.hid hA
        clear hS hA
        go_wp2_with fail
        refine (pick_any lz 3 _ l1 l2 (by decide) (by decide)).mono ?_
        rintro e w5 ⟨rfl, rfl⟩
        generalize pickZ lz 3 = pl at *
        go_wp2_with fail
        go_loopw [31] (fun i wr => ReqJ w1 wr T mb (1 + pa) T2 mb2 (60 + pb) (100 + pm) T3 mb3 (200 + pb) (300 + po) H pl (.slice (some ⟨g, 0, none⟩) (0 + 1) cs) i) (fun i _ => pl.toNat - (intOf i).toNat)
        case atStart => exact ⟨0, R, by omega, rfl, S6.out, A6.out, hO⟩
        case round =>
          obtain ⟨j, R', hj, rfl, hS, hA, hO'⟩ := hrel
          clear S6 A6 hO
          by_cases hjp : (j : Int) < pl
          · have HS := Lib.hid hS
            have HA := Lib.hid hA
            obtain ⟨q, rfl, hq⟩ := ents_one hS.t.ents
            clear hS hA
            have hnow : Bd (10 * ((j : Int) + 1)) := by unfold Bd; omega
            have hen : ∀ x ∈ [q].map (·.x), EnOk x := by
              intro x hx
              simp only [List.map_cons, List.map_nil, List.mem_cons, List.not_mem_nil, or_false] at hx
              rw [hx, hq]
              refine ⟨by simp [askE, Bd], by simp only [askE, Bd]; omega, by simp only [askE]; omega, by simp only [askE, Bd]; omega, fun _ => by simp only [askE]; omega⟩
            have hM : tickMs (1 + pa) 3 (10 * ((j : Int) + 1)) ([q].map (·.x)) = [⟨1, 1 + pa, 3, 60 + pb, 0⟩] := by
              simp only [List.map_cons, List.map_nil, hq, tickMs, List.flatMap_cons, List.flatMap_nil, tickM, askE]
              rw [if_neg (by simp), if_pos (by omega), if_pos (by omega)]; rfl
            have hE : ([q].map (·.x)).filterMap (tickE (10 * ((j : Int) + 1))) = [askE (60 + pb) H (1 + ((j + 1 : Nat) : Int)) (10 * ((j + 1 : Nat) : Int))] := by
              simp only [List.map_cons, List.map_nil, hq, List.filterMap_cons, List.filterMap_nil, tickE, askE]
              rw [if_neg (by simp), if_pos (by omega), if_pos (by omega)]
              rw [show 1 + ((j + 1 : Nat) : Int) = 1 + (j : Int) + 1 by omega, show 10 * ((j + 1 : Nat) : Int) = 10 * ((j : Int) + 1) by omega]
            go_wp2_with fail
            refine (tick_any HS.out.t.tab (by simp) _ hnow hen).mono ?_
            rintro e w6 ⟨v1, v2, rfl, hv1, -, htv⟩
            rw [hM] at hv1
            rw [hE] at htv
            obtain ⟨R6, hS6, hK6, -⟩ := HS.out.step htv
            have hO6 := (hK6 _ hO').1
            have hA6 := row_of_block HA.out (hK6 _ hO').2
            have hsame := rsameA_any v1 _ _ _ w6 hv1 (arps_own hA6 rfl) (by simp)
            rw [show decide (([⟨1, 1 + pa, 3, 60 + pb, 0⟩] : List Ms) = [⟨1, 1 + pa, 3, 60 + pb, 0⟩]) = true from decide_eq_true rfl] at hsame
            have S7 := Lib.hid hS6
            have A7 := Lib.hid hA6
            clear hS6 hA6 htv hK6 HS HA hM hE hen hO' hv1
            go_wp2_with fail
            refine hsame.mono ?_
            rintro e w7 ⟨rfl, hb7⟩
            obtain ⟨hS8, hK8⟩ := S7.out.stay hb7
            have hO8 := (hK8 _ hO6).1
            have hA8 := row_of_block A7.out (hK8 _ hO6).2
            have S8 := Lib.hid hS8
            have A8 := Lib.hid hA8
            clear hS8 hK8 hA8 S7 A7 hb7 hsame hO6
            go_wp2
            refine ⟨⟨j + 1, R6, by omega, by go_num, S8.out, A8.out, hO8⟩, ?_⟩
            simp [intOf]; omega
          · obtain ⟨q, rfl, hq⟩ := ents_one hS.t.ents
            have hjf : ((j : Int) < pl) = False := by simp; omega
            have hA1 : wr.ownsRow w1.heap.size 23 5 (.slice (some ⟨g, 0, none⟩) 1 cs) 1 (flatM [⟨1, 1 + pa, 3, 60 + pb, 0⟩]) := hA
            have y0 : wr.cell? ⟨g, 0, none⟩ = some (.int .i64 1) := (hA1.cellAt 0 (by omega)).trans rfl
            have y1 : wr.cell? ⟨g, 1, none⟩ = some (.int .i64 (1 + pa)) := (hA1.cellAt 1 (by omega)).trans rfl
            have y2 : wr.cell? ⟨g, 2, none⟩ = some (.int .i64 3) := (hA1.cellAt 2 (by omega)).trans rfl
            have y3 : wr.cell? ⟨g, 3, none⟩ = some (.int .i64 (60 + pb)) := (hA1.cellAt 3 (by omega)).trans rfl
            have y4 : wr.cell? ⟨g, 4, none⟩ = some (.int .i64 0) := (hA1.cellAt 4 (by omega)).trans rfl
            have HS := Lib.hid hS
            have HA := Lib.hid hA1
            clear hS hA hA1
            have hok1 : okA 1 (1 + pa) 3 (60 + pb) 0 := by unfold okA okOne okMac; omega
            go_wp2_with fail
            refine (recv_other HS.out.v 5 1 (1 + pa) 3 (60 + pb) 0 hok1 (by omega) (by omega)).mono ?_
            rintro e w5 ⟨rfl, hb5⟩
            obtain ⟨hS8, hK8⟩ := HS.out.stay hb5
            have hA8 := row_of_block HA.out (hK8 _ hO').2
            have y0 : w5.cell? ⟨g, 0, none⟩ = some (.int .i64 1) := (hA8.cellAt 0 (by omega)).trans rfl
            have y1 : w5.cell? ⟨g, 1, none⟩ = some (.int .i64 (1 + pa)) := (hA8.cellAt 1 (by omega)).trans rfl
            have y2 : w5.cell? ⟨g, 2, none⟩ = some (.int .i64 3) := (hA8.cellAt 2 (by omega)).trans rfl
            have y3 : w5.cell? ⟨g, 3, none⟩ = some (.int .i64 (60 + pb)) := (hA8.cellAt 3 (by omega)).trans rfl
            have y4 : w5.cell? ⟨g, 4, none⟩ = some (.int .i64 0) := (hA8.cellAt 4 (by omega)).trans rfl
            have S8 := Lib.hid hS8
            clear hS8 hK8 hA8 HS HA hb5 hO'
            go_wp2_with fail
            refine (recv_ask S8.out.u 5 (1 + pa) 3 0 hok1 (by omega) (X := fun u v w' => v = .slice none 0 0 ∧ ArpsAt w' u [⟨2, 60 + pb, 100 + pm, 1 + pa, 3⟩] ∧ Below w5.heap.size w5 w')
              (fun w6 g6 c6 h6 hb6 _ _ ha6 => (resolve_no h6 5 (1 + pa) 3 (by unfold okOne; omega) rfl).mono fun e w' ⟨e1, e2⟩ => ⟨_, e1, rfl, by rw [← e2]; exact ha6, by rw [← e2]; exact hb6⟩)).mono ?_
            rintro e w6 ⟨u, _, rfl, rfl, hu, hb6⟩
            obtain ⟨hS9, hK9⟩ := S8.out.stay hb6
            have S9 := Lib.hid hS9
            rcases hu with ⟨-, h0⟩ | ⟨b, o, c, rfl, hx⟩
            · cases h0
            have hx0 := hx 0 (by simp)
            simp only [List.getElem_cons_zero, Nat.zero_mul, Nat.add_zero] at hx0
            obtain ⟨y0, y1, y2, y3, y4⟩ := hx0
            simp only [List.length_cons, List.length_nil, Nat.zero_add]
            clear hx hS9 hK9 hb6 S8
            have hok2 : okA 2 (60 + pb) (100 + pm) (1 + pa) 3 := by unfold okA okOne okMac; omega
            go_wp2_with fail
            refine (encode_yes 2 (60 + pb) (100 + pm) (1 + pa) 3 _ hok2).mono ?_
            rintro e w7 ⟨rfl, hb7⟩
            obtain ⟨hS10, -⟩ := S9.out.stay hb7
            have S10 := Lib.hid hS10
            have hezs := encA_size 2 (60 + pb) (100 + pm) (1 + pa) 3
            clear hS10 hb7 S9 y0 y1 y2 y3 y4
            go_wp2_with fail
            refine (decode_any _ _ (by unfold maxLen; omega)).mono ?_
            rintro e w8 ⟨rfl, hb8⟩
            obtain ⟨d1, d2⟩ := decV_enc 2 (60 + pb) (100 + pm) (1 + pa) 3 hok2
            rw [d1, d2]
            obtain ⟨hS11, -⟩ := S10.out.stay hb8
            have S11 := Lib.hid hS11
            clear hS11 hb8 S10 d1 d2
            go_wp2_with fail
            have hlk : lookP [q] (60 + pb) = some q := by simp [lookP, hq, askE]
            obtain ⟨hS12, -⟩ := S11.out.stay ((Below.refl _ w8).alloc (Nat.le_refl _) (ao 2 (60 + pb) (100 + pm) (1 + pa) 3))
            have S12 := Lib.hid hS12
            clear hS12 S11
            refine (recv_told_yes S12.out.t.tab 31 (60 + pb) (100 + pm) 3 hok2 (by omega) hlk (by rw [hq]; rfl) (by rw [hq]; simp only [askE]; omega) (by simp)).mono ?_
            rintro e w9 ⟨v9, rfl, hv9, ht9⟩
            have hL9 : setE ([q].map (·.x)) (resE (60 + pb) 31 (100 + pm)) = [resE (60 + pb) 31 (100 + pm)] := by simp [setE, insE, dropE, hq, askE, resE]
            rw [hL9] at ht9
            rw [hq] at hv9
            obtain ⟨R9, hS13, -, -⟩ := S12.out.step ht9
            obtain ⟨q9, rfl, hq9⟩ := ents_one hS13.t.ents
            have hkn1 := known_tab hS13.t.tab (a := 60 + pb) (by omega) (by omega)
            have hkn2 := known_tab hS13.u (a := 1 + pa) (by omega) (by omega)
            rw [show knL ([q9].map (·.x)) (60 + pb) = (100 + pm, true) by simp [knL, lookE, hq9, resE]] at hkn1
            rw [show knL (([] : List PE).map (·.x)) (1 + pa) = (0, false) by rfl] at hkn2
            have hB13 := HB1.out.trans (hS13.t.below.mono HB1.out.size)
            have hlen9 : (outL (60 + pb) (100 + pm) H).length = i0 + 1 := by simp [outL, hH.2]
            rcases hv9 with ⟨-, h0⟩ | ⟨b9, o9, c9, rfl, hx9⟩
            · have := congrArg List.length h0; simp [outL, askE] at this; rw [this] at hH; simp at hH
            have hx9' := hx9 i0 (by simp only [askE]; omega)
            simp only [askE] at hx9' ⊢
            rw [hlen9]
            obtain ⟨a, rfl, hc⟩ := HC.out i0 (by rw [HN.out]; omega)
            have hzz := HZ.out _ (List.getElem_mem (by rw [HN.out]; omega : i0 < zs.length))
            have hcr : w9.cell? (a.add i0) = some (.string (zs[i0]'(by rw [HN.out]; omega))) := (hB13.cell (cell_lt hc)).trans hc
            clear hS13 S12 ht9 hc hx9 hL9 hezs
            go_wp2_with fail
            refine hkn1.mono ?_
            rintro e w10 ⟨rfl, rfl⟩
            go_wp2_with fail
            refine hkn2.mono ?_
            rintro e w10 ⟨rfl, rfl⟩
            go_wp2_with fail
            obtain ⟨y, hys⟩ : ∃ y, sh (zs[i0]'(by rw [HN.out]; omega)) = y := ⟨_, rfl⟩
            obtain ⟨zz, hzz2⟩ : ∃ zz, zs[i0]'(by rw [HN.out]; omega) = zz := ⟨_, rfl⟩
            have hm9 := hx9'.m
            have hs9 := hx9'.s
            have hHk : H[i0]'(by omega) = y := by rw [← hys]; simp [← hHH]
            simp only [outL, List.getElem_map, hHk] at hm9 hs9
            rw [hzz2] at hcr hys hzz
            have hw3 : IntKind.i64.wrap (i0 : Int) = (i0 : Int) := by
              have : i0 = 0 ∨ i0 = 1 ∨ i0 = 2 ∨ i0 = 3 := by omega
              rcases this with h | h | h | h <;> rw [h] <;> decide
            have hi1 : (i0 : Int) < (i0 : Int) + 1 := by omega
            have hi2 : (0 : Int) ≤ (i0 : Int) := by omega
            have hm9' : w9.drew.cell? ⟨b9, o9 + i0 * 3 + 1, none⟩ = some (.int .i64 (100 + pm)) := hm9
            have hs9' : w9.drew.cell? ⟨b9, o9 + i0 * 3 + 2, none⟩ = some (.string y) := hs9
            have hcr' : w9.drew.cell? (a.add i0) = some (.string zz) := hcr
            clear hx9' HC HZ
            refine wp_region_noPanic ?_
            refine wp_region_held_drew (S := fun w' => w' = w9.drew) (by kernel_rfl) rfl (fun hHeld => ?_)
            refine wpAnyH_take (i := 0) (oi := ⟨some 203, _, _, _, _, _⟩) (v := ?vc0) rfl (by kernel_rfl) (by kernel_rfl) (by kernel_rfl) (fun _ _ _ h => h) (Or.inl ⟨by rfl, ?hyc0⟩) hHeld ?rrc0
            case hyc0 => (intro w hSw; (try dsimp only at hSw); (try subst hSw); go_simp; try with_reducible rfl)
            try simp only [Act.put, List.setIfInBounds_toArray, List.set_cons_zero, List.set_cons_succ]
            refine wpAnyH_take (i := 1) (oi := ⟨some 204, _, _, _, _, _⟩) (v := ?vc1) rfl (by kernel_rfl) (by kernel_rfl) (by kernel_rfl) (fun _ _ _ h => h) (Or.inl ⟨by rfl, ?hyc1⟩) hHeld ?rrc1
            case hyc1 => (intro w hSw; (try dsimp only at hSw); (try subst hSw); go_simp; try with_reducible rfl)
            try simp only [Act.put, List.setIfInBounds_toArray, List.set_cons_zero, List.set_cons_succ]
            refine wpAnyH_take (i := 2) (oi := ⟨some 205, _, _, _, _, _⟩) (v := ?vc2) rfl (by kernel_rfl) (by kernel_rfl) (by kernel_rfl) (fun _ _ _ h => h) (Or.inl ⟨by rfl, ?hyc2⟩) hHeld ?rrc2
            case hyc2 => (intro w hSw; (try dsimp only at hSw); (try subst hSw); go_simp; try with_reducible rfl)
            try simp only [Act.put, List.setIfInBounds_toArray, List.set_cons_zero, List.set_cons_succ]
            refine wpAnyH_take (i := 3) (oi := ⟨some 206, _, _, _, _, _⟩) (v := ?vc3) rfl (by kernel_rfl) (by kernel_rfl) (by kernel_rfl) (fun _ _ _ h => h) (Or.inl ⟨by rfl, ?hyc3⟩) hHeld ?rrc3
            case hyc3 => (intro w hSw; (try dsimp only at hSw); (try subst hSw); go_simp; try with_reducible rfl)
            try simp only [Act.put, List.setIfInBounds_toArray, List.set_cons_zero, List.set_cons_succ]
            refine wpAnyH_take (i := 4) (oi := ⟨some 207, _, _, _, _, _⟩) (v := ?vc4) rfl (by kernel_rfl) (by kernel_rfl) (by kernel_rfl) (fun _ _ _ h => h) (Or.inl ⟨by rfl, ?hyc4⟩) hHeld ?rrc4
            case hyc4 => (intro w hSw; (try dsimp only at hSw); (try subst hSw); go_simp; try with_reducible rfl)
            try simp only [Act.put, List.setIfInBounds_toArray, List.set_cons_zero, List.set_cons_succ]
            refine wpAnyH_take (i := 5) (oi := ⟨some 208, _, _, _, _, _⟩) (v := ?vc5) rfl (by kernel_rfl) (by kernel_rfl) (by kernel_rfl) (fun _ _ _ h => h) (Or.inl ⟨by rfl, ?hyc5⟩) hHeld ?rrc5
            case hyc5 => (intro w hSw; (try dsimp only at hSw); (try subst hSw); go_simp; try with_reducible rfl)
            try simp only [Act.put, List.setIfInBounds_toArray, List.set_cons_zero, List.set_cons_succ]
            refine wpAnyH_take (i := 6) (oi := ⟨some 209, _, _, _, _, _⟩) (v := ?vc6) rfl (by kernel_rfl) (by kernel_rfl) (by kernel_rfl) (fun _ _ _ h => h) (Or.inl ⟨by rfl, ?hyc6⟩) hHeld ?rrc6
            case hyc6 => (intro w hSw; (try dsimp only at hSw); (try subst hSw); go_simp; try with_reducible rfl)
            try simp only [Act.put, List.setIfInBounds_toArray, List.set_cons_zero, List.set_cons_succ]
            refine wpAnyH_take (i := 7) (oi := ⟨some 210, _, _, _, _, _⟩) (v := ?vc7) rfl (by kernel_rfl) (by kernel_rfl) (by kernel_rfl) (fun _ _ _ h => h) (Or.inl ⟨by rfl, ?hyc7⟩) hHeld ?rrc7
            case hyc7 => (intro w hSw; (try dsimp only at hSw); (try subst hSw); go_simp; try with_reducible rfl)
            try simp only [Act.put, List.setIfInBounds_toArray, List.set_cons_zero, List.set_cons_succ]
            refine wpAnyH_take (i := 8) (oi := ⟨some 211, _, _, _, _, _⟩) (v := ?vc8) rfl (by kernel_rfl) (by kernel_rfl) (by kernel_rfl) (fun _ _ _ h => h) (Or.inl ⟨by rfl, ?hyc8⟩) hHeld ?rrc8
            case hyc8 => (intro w hSw; (try dsimp only at hSw); (try subst hSw); go_simp; try with_reducible rfl)
            try simp only [Act.put, List.setIfInBounds_toArray, List.set_cons_zero, List.set_cons_succ]
            refine wpAnyH_take (i := 9) (oi := ⟨some 212, _, _, _, _, _⟩) (v := ?vc9) rfl (by kernel_rfl) (by kernel_rfl) (by kernel_rfl) (fun _ _ _ h => h) (Or.inl ⟨by rfl, ?hyc9⟩) hHeld ?rrc9
            case hyc9 => (intro w hSw; (try dsimp only at hSw); (try subst hSw); go_simp; try with_reducible rfl)
            try simp only [Act.put, List.setIfInBounds_toArray, List.set_cons_zero, List.set_cons_succ]
            refine wpAnyH_take (i := 10) (oi := ⟨some 213, _, _, _, _, _⟩) (v := ?vc10) rfl (by kernel_rfl) (by kernel_rfl) (by kernel_rfl) (fun _ _ _ h => h) (Or.inl ⟨by rfl, ?hyc10⟩) hHeld ?rrc10
            case hyc10 => (intro w hSw; (try dsimp only at hSw); (try subst hSw); go_simp; try with_reducible rfl)
            try simp only [Act.put, List.setIfInBounds_toArray, List.set_cons_zero, List.set_cons_succ]
            refine wpAnyH_take (i := 11) (oi := ⟨some 214, _, _, _, _, _⟩) (v := ?vc11) rfl (by kernel_rfl) (by kernel_rfl) (by kernel_rfl) (fun _ _ _ h => h) (Or.inl ⟨by rfl, ?hyc11⟩) hHeld ?rrc11
            case hyc11 => (intro w hSw; (try dsimp only at hSw); (try subst hSw); go_simp; try with_reducible rfl)
            try simp only [Act.put, List.setIfInBounds_toArray, List.set_cons_zero, List.set_cons_succ]
            refine wpAnyH_take (i := 12) (oi := ⟨some 215, _, _, _, _, _⟩) (v := ?vc12) rfl (by kernel_rfl) (by kernel_rfl) (by kernel_rfl) (fun _ _ _ h => h) (Or.inl ⟨by rfl, ?hyc12⟩) hHeld ?rrc12
            case hyc12 => (intro w hSw; (try dsimp only at hSw); (try subst hSw); go_simp; try with_reducible rfl)
            try simp only [Act.put, List.setIfInBounds_toArray, List.set_cons_zero, List.set_cons_succ]
            refine wpAnyH_take (i := 13) (oi := ⟨some 216, _, _, _, _, _⟩) (v := ?vc13) rfl (by kernel_rfl) (by kernel_rfl) (by kernel_rfl) (fun _ _ _ h => h) (Or.inl ⟨by rfl, ?hyc13⟩) hHeld ?rrc13
            case hyc13 => (intro w hSw; (try dsimp only at hSw); (try subst hSw); go_simp; try with_reducible rfl)
            try simp only [Act.put, List.setIfInBounds_toArray, List.set_cons_zero, List.set_cons_succ]
            refine wpAnyH_take (i := 14) (oi := ⟨some 217, _, _, _, _, _⟩) (v := ?vc14) rfl (by kernel_rfl) (by kernel_rfl) (by kernel_rfl) (fun _ _ _ h => h) (Or.inl ⟨by rfl, ?hyc14⟩) hHeld ?rrc14
            case hyc14 => (intro w hSw; (try dsimp only at hSw); (try subst hSw); go_simp; try with_reducible rfl)
            try simp only [Act.put, List.setIfInBounds_toArray, List.set_cons_zero, List.set_cons_succ]
            refine wpAnyH_take (i := 15) (oi := ⟨some 218, _, _, _, _, _⟩) (v := ?vc15) rfl (by kernel_rfl) (by kernel_rfl) (by kernel_rfl) (fun _ _ _ h => h) (Or.inl ⟨by rfl, ?hyc15⟩) hHeld ?rrc15
            case hyc15 => (intro w hSw; (try dsimp only at hSw); (try subst hSw); go_simp; try with_reducible rfl)
            try simp only [Act.put, List.setIfInBounds_toArray, List.set_cons_zero, List.set_cons_succ]
            refine wpAnyH_take (i := 16) (oi := ⟨some 219, _, _, _, _, _⟩) (v := ?vc16) rfl (by kernel_rfl) (by kernel_rfl) (by kernel_rfl) (fun _ _ _ h => h) (Or.inl ⟨by rfl, ?hyc16⟩) hHeld ?rrc16
            case hyc16 => (intro w hSw; (try dsimp only at hSw); (try subst hSw); go_simp; try with_reducible rfl)
            try simp only [Act.put, List.setIfInBounds_toArray, List.set_cons_zero, List.set_cons_succ]
            refine wpAnyH_take (i := 17) (oi := ⟨some 220, _, _, _, _, _⟩) (v := ?vc17) rfl (by kernel_rfl) (by kernel_rfl) (by kernel_rfl) (fun _ _ _ h => h) (Or.inl ⟨by rfl, ?hyc17⟩) hHeld ?rrc17
            case hyc17 => (intro w hSw; (try dsimp only at hSw); (try subst hSw); go_simp; try with_reducible rfl)
            try simp only [Act.put, List.setIfInBounds_toArray, List.set_cons_zero, List.set_cons_succ]
            refine wpAnyH_take (i := 18) (oi := ⟨some 221, _, _, _, _, _⟩) (v := ?vc18) rfl (by kernel_rfl) (by kernel_rfl) (by kernel_rfl) (fun _ _ _ h => h) (Or.inl ⟨by rfl, ?hyc18⟩) hHeld ?rrc18
            case hyc18 => (intro w hSw; (try dsimp only at hSw); (try subst hSw); go_simp; try with_reducible rfl)
            try simp only [Act.put, List.setIfInBounds_toArray, List.set_cons_zero, List.set_cons_succ]
            refine wpAnyH_take (i := 19) (oi := ⟨some 222, _, _, _, _, _⟩) (v := ?vc19) rfl (by kernel_rfl) (by kernel_rfl) (by kernel_rfl) (fun _ _ _ h => h) (Or.inl ⟨by rfl, ?hyc19⟩) hHeld ?rrc19
            case hyc19 => (intro w hSw; (try dsimp only at hSw); (try subst hSw); go_simp; try with_reducible rfl)
            try simp only [Act.put, List.setIfInBounds_toArray, List.set_cons_zero, List.set_cons_succ]
            refine wpAnyH_take (i := 20) (oi := ⟨some 223, _, _, _, _, _⟩) (v := ?vc20) rfl (by kernel_rfl) (by kernel_rfl) (by kernel_rfl) (fun _ _ _ h => h) (Or.inl ⟨by rfl, ?hyc20⟩) hHeld ?rrc20
            case hyc20 => (intro w hSw; (try dsimp only at hSw); (try subst hSw); go_simp; try with_reducible rfl)
            try simp only [Act.put, List.setIfInBounds_toArray, List.set_cons_zero, List.set_cons_succ]
            refine wpAnyH_take (i := 21) (oi := ⟨some 224, _, _, _, _, _⟩) (v := ?vc21) rfl (by kernel_rfl) (by kernel_rfl) (by kernel_rfl) (fun _ _ _ h => h) (Or.inl ⟨by rfl, ?hyc21⟩) hHeld ?rrc21
            case hyc21 => (intro w hSw; (try dsimp only at hSw); (try subst hSw); go_simp; try with_reducible rfl)
            try simp only [Act.put, List.setIfInBounds_toArray, List.set_cons_zero, List.set_cons_succ]
            refine wpAnyH_take (i := 22) (oi := ⟨some 225, _, _, _, _, _⟩) (v := ?vc22) rfl (by kernel_rfl) (by kernel_rfl) (by kernel_rfl) (fun _ _ _ h => h) (Or.inl ⟨by rfl, ?hyc22⟩) hHeld ?rrc22
            case hyc22 => (intro w hSw; (try dsimp only at hSw); (try subst hSw); go_simp; try with_reducible rfl)
            try simp only [Act.put, List.setIfInBounds_toArray, List.set_cons_zero, List.set_cons_succ]
            refine wpAnyH_take (i := 23) (oi := ⟨some 226, _, _, _, _, _⟩) (v := ?vc23) rfl (by kernel_rfl) (by kernel_rfl) (by kernel_rfl) (fun _ _ _ h => h) (Or.inl ⟨by rfl, ?hyc23⟩) hHeld ?rrc23
            case hyc23 => (intro w hSw; (try dsimp only at hSw); (try subst hSw); go_simp; try with_reducible rfl)
            try simp only [Act.put, List.setIfInBounds_toArray, List.set_cons_zero, List.set_cons_succ]
            refine wpAnyH_take (i := 24) (oi := ⟨some 227, _, _, _, _, _⟩) (v := ?vc24) rfl (by kernel_rfl) (by kernel_rfl) (by kernel_rfl) (fun _ _ _ h => h) (Or.inl ⟨by rfl, ?hyc24⟩) hHeld ?rrc24
            case hyc24 => (intro w hSw; (try dsimp only at hSw); (try subst hSw); go_simp; try with_reducible rfl)
            try simp only [Act.put, List.setIfInBounds_toArray, List.set_cons_zero, List.set_cons_succ]
            refine wpAnyH_take (i := 25) (oi := ⟨some 228, _, _, _, _, _⟩) (v := ?vc25) rfl (by kernel_rfl) (by kernel_rfl) (by kernel_rfl) (fun _ _ _ h => h) (Or.inl ⟨by rfl, ?hyc25⟩) hHeld ?rrc25
            case hyc25 => (intro w hSw; (try dsimp only at hSw); (try subst hSw); go_simp; try with_reducible rfl)
            try simp only [Act.put, List.setIfInBounds_toArray, List.set_cons_zero, List.set_cons_succ]
            refine wpAnyH_take (i := 26) (oi := ⟨some 229, _, _, _, _, _⟩) (v := ?vc26) rfl (by kernel_rfl) (by kernel_rfl) (by kernel_rfl) (fun _ _ _ h => h) (Or.inl ⟨by rfl, ?hyc26⟩) hHeld ?rrc26
            case hyc26 => (intro w hSw; (try dsimp only at hSw); (try subst hSw); go_simp; try with_reducible rfl)
            try simp only [Act.put, List.setIfInBounds_toArray, List.set_cons_zero, List.set_cons_succ]
            refine wpAnyH_take (i := 27) (oi := ⟨some 230, _, _, _, _, _⟩) (v := ?vc27) rfl (by kernel_rfl) (by kernel_rfl) (by kernel_rfl) (fun _ _ _ h => h) (Or.inl ⟨by rfl, ?hyc27⟩) hHeld ?rrc27
            case hyc27 => (intro w hSw; (try dsimp only at hSw); (try subst hSw); go_simp; try with_reducible rfl)
            try simp only [Act.put, List.setIfInBounds_toArray, List.set_cons_zero, List.set_cons_succ]
            refine wpAnyH_take (i := 28) (oi := ⟨some 231, _, _, _, _, _⟩) (v := ?vc28) rfl (by kernel_rfl) (by kernel_rfl) (by kernel_rfl) (fun _ _ _ h => h) (Or.inl ⟨by rfl, ?hyc28⟩) hHeld ?rrc28
            case hyc28 => (intro w hSw; (try dsimp only at hSw); (try subst hSw); go_simp; try with_reducible rfl)
            try simp only [Act.put, List.setIfInBounds_toArray, List.set_cons_zero, List.set_cons_succ]
            refine wpAnyH_take (i := 29) (oi := ⟨some 232, _, _, _, _, _⟩) (v := ?vc29) rfl (by kernel_rfl) (by kernel_rfl) (by kernel_rfl) (fun _ _ _ h => h) (Or.inl ⟨by rfl, ?hyc29⟩) hHeld ?rrc29
            case hyc29 => (intro w hSw; (try dsimp only at hSw); (try subst hSw); go_simp; try with_reducible rfl)
            try simp only [Act.put, List.setIfInBounds_toArray, List.set_cons_zero, List.set_cons_succ]
            refine wpAnyH_take (i := 30) (oi := ⟨some 233, _, _, _, _, _⟩) (v := ?vc30) rfl (by kernel_rfl) (by kernel_rfl) (by kernel_rfl) (fun _ _ _ h => h) (Or.inl ⟨by rfl, ?hyc30⟩) hHeld ?rrc30
            case hyc30 => (intro w hSw; (try dsimp only at hSw); (try subst hSw); go_simp; try with_reducible rfl)
            try simp only [Act.put, List.setIfInBounds_toArray, List.set_cons_zero, List.set_cons_succ]
            refine wpAnyH_take (i := 31) (oi := ⟨some 234, _, _, _, _, _⟩) (v := ?vc31) rfl (by kernel_rfl) (by kernel_rfl) (by kernel_rfl) (fun _ _ _ h => h) (Or.inl ⟨by rfl, ?hyc31⟩) hHeld ?rrc31
            case hyc31 => (intro w hSw; (try dsimp only at hSw); (try subst hSw); go_simp; try with_reducible rfl)
            try simp only [Act.put, List.setIfInBounds_toArray, List.set_cons_zero, List.set_cons_succ]
            refine wpAnyH_take (i := 32) (oi := ⟨some 235, _, _, _, _, _⟩) (v := ?vc32) rfl (by kernel_rfl) (by kernel_rfl) (by kernel_rfl) (fun _ _ _ h => h) (Or.inl ⟨by rfl, ?hyc32⟩) hHeld ?rrc32
            case hyc32 => (intro w hSw; (try dsimp only at hSw); (try subst hSw); go_simp; try with_reducible rfl)
            try simp only [Act.put, List.setIfInBounds_toArray, List.set_cons_zero, List.set_cons_succ]
            refine wpAnyH_take (i := 33) (oi := ⟨some 236, _, _, _, _, _⟩) (v := ?vc33) rfl (by kernel_rfl) (by kernel_rfl) (by kernel_rfl) (fun _ _ _ h => h) (Or.inl ⟨by rfl, ?hyc33⟩) hHeld ?rrc33
            case hyc33 => (intro w hSw; (try dsimp only at hSw); (try subst hSw); go_simp; try with_reducible rfl)
            try simp only [Act.put, List.setIfInBounds_toArray, List.set_cons_zero, List.set_cons_succ]
            refine wpAnyH_take (i := 34) (oi := ⟨some 237, _, _, _, _, _⟩) (v := ?vc34) rfl (by kernel_rfl) (by kernel_rfl) (by kernel_rfl) (fun _ _ _ h => h) (Or.inl ⟨by rfl, ?hyc34⟩) hHeld ?rrc34
            case hyc34 => (intro w hSw; (try dsimp only at hSw); (try subst hSw); go_simp; try with_reducible rfl)
            try simp only [Act.put, List.setIfInBounds_toArray, List.set_cons_zero, List.set_cons_succ]
            refine wpAnyH_take (i := 35) (oi := ⟨some 238, _, _, _, _, _⟩) (v := ?vc35) rfl (by kernel_rfl) (by kernel_rfl) (by kernel_rfl) (fun _ _ _ h => h) (Or.inl ⟨by rfl, ?hyc35⟩) hHeld ?rrc35
            case hyc35 => (intro w hSw; (try dsimp only at hSw); (try subst hSw); go_simp; try with_reducible rfl)
            try simp only [Act.put, List.setIfInBounds_toArray, List.set_cons_zero, List.set_cons_succ]
            refine wpAnyH_take (i := 36) (oi := ⟨some 239, _, _, _, _, _⟩) (v := ?vc36) rfl (by kernel_rfl) (by kernel_rfl) (by kernel_rfl) (fun _ _ _ h => h) (Or.inl ⟨by rfl, ?hyc36⟩) hHeld ?rrc36
            case hyc36 => (intro w hSw; (try dsimp only at hSw); (try subst hSw); go_simp; try with_reducible rfl)
            try simp only [Act.put, List.setIfInBounds_toArray, List.set_cons_zero, List.set_cons_succ]
            refine wpAnyH_take (i := 37) (oi := ⟨some 240, _, _, _, _, _⟩) (v := ?vc37) rfl (by kernel_rfl) (by kernel_rfl) (by kernel_rfl) (fun _ _ _ h => h) (Or.inl ⟨by rfl, ?hyc37⟩) hHeld ?rrc37
            case hyc37 => (intro w hSw; (try dsimp only at hSw); (try subst hSw); go_simp; try with_reducible rfl)
            try simp only [Act.put, List.setIfInBounds_toArray, List.set_cons_zero, List.set_cons_succ]
            refine wpAnyH_take (i := 38) (oi := ⟨some 241, _, _, _, _, _⟩) (v := ?vc38) rfl (by kernel_rfl) (by kernel_rfl) (by kernel_rfl) (fun _ _ _ h => h) (Or.inl ⟨by rfl, ?hyc38⟩) hHeld ?rrc38
            case hyc38 => (intro w hSw; (try dsimp only at hSw); (try subst hSw); go_simp; try with_reducible rfl)
            try simp only [Act.put, List.setIfInBounds_toArray, List.set_cons_zero, List.set_cons_succ]
            refine wpAnyH_take (i := 39) (oi := ⟨some 242, _, _, _, _, _⟩) (v := ?vc39) rfl (by kernel_rfl) (by kernel_rfl) (by kernel_rfl) (fun _ _ _ h => h) (Or.inl ⟨by rfl, ?hyc39⟩) hHeld ?rrc39
            case hyc39 => (intro w hSw; (try dsimp only at hSw); (try subst hSw); go_simp; try with_reducible rfl)
            try simp only [Act.put, List.setIfInBounds_toArray, List.set_cons_zero, List.set_cons_succ]
            refine wpAnyH_take (i := 40) (oi := ⟨some 243, _, _, _, _, _⟩) (v := ?vc40) rfl (by kernel_rfl) (by kernel_rfl) (by kernel_rfl) (fun _ _ _ h => h) (Or.inl ⟨by rfl, ?hyc40⟩) hHeld ?rrc40
            case hyc40 => (intro w hSw; (try dsimp only at hSw); (try subst hSw); go_simp; try with_reducible rfl)
            try simp only [Act.put, List.setIfInBounds_toArray, List.set_cons_zero, List.set_cons_succ]
            refine wpAnyH_take (i := 41) (oi := ⟨some 244, _, _, _, _, _⟩) (v := ?vc41) rfl (by kernel_rfl) (by kernel_rfl) (by kernel_rfl) (fun _ _ _ h => h) (Or.inl ⟨by rfl, ?hyc41⟩) hHeld ?rrc41
            case hyc41 => (intro w hSw; (try dsimp only at hSw); (try subst hSw); go_simp; try with_reducible rfl)
            try simp only [Act.put, List.setIfInBounds_toArray, List.set_cons_zero, List.set_cons_succ]
            refine wpAnyH_take (i := 42) (oi := ⟨some 245, _, _, _, _, _⟩) (v := ?vc42) rfl (by kernel_rfl) (by kernel_rfl) (by kernel_rfl) (fun _ _ _ h => h) (Or.inl ⟨by rfl, ?hyc42⟩) hHeld ?rrc42
            case hyc42 => (intro w hSw; (try dsimp only at hSw); (try subst hSw); go_simp; try with_reducible rfl)
            try simp only [Act.put, List.setIfInBounds_toArray, List.set_cons_zero, List.set_cons_succ]
            refine wpAnyH_take (i := 43) (oi := ⟨some 246, _, _, _, _, _⟩) (v := ?vc43) rfl (by kernel_rfl) (by kernel_rfl) (by kernel_rfl) (fun _ _ _ h => h) (Or.inl ⟨by rfl, ?hyc43⟩) hHeld ?rrc43
            case hyc43 => (intro w hSw; (try dsimp only at hSw); (try subst hSw); go_simp; try with_reducible rfl)
            try simp only [Act.put, List.setIfInBounds_toArray, List.set_cons_zero, List.set_cons_succ]
            refine wpAnyH_take (i := 44) (oi := ⟨some 247, _, _, _, _, _⟩) (v := ?vc44) rfl (by kernel_rfl) (by kernel_rfl) (by kernel_rfl) (fun _ _ _ h => h) (Or.inl ⟨by rfl, ?hyc44⟩) hHeld ?rrc44
            case hyc44 => (intro w hSw; (try dsimp only at hSw); (try subst hSw); go_simp; try with_reducible rfl)
            try simp only [Act.put, List.setIfInBounds_toArray, List.set_cons_zero, List.set_cons_succ]
            refine wpAnyH_take (i := 45) (oi := ⟨some 248, _, _, _, _, _⟩) (v := ?vc45) rfl (by kernel_rfl) (by kernel_rfl) (by kernel_rfl) (fun _ _ _ h => h) (Or.inl ⟨by rfl, ?hyc45⟩) hHeld ?rrc45
            case hyc45 => (intro w hSw; (try dsimp only at hSw); (try subst hSw); go_simp; try with_reducible rfl)
            try simp only [Act.put, List.setIfInBounds_toArray, List.set_cons_zero, List.set_cons_succ]
            refine wpAnyH_take (i := 46) (oi := ⟨some 249, _, _, _, _, _⟩) (v := ?vc46) rfl (by kernel_rfl) (by kernel_rfl) (by kernel_rfl) (fun _ _ _ h => h) (Or.inl ⟨by rfl, ?hyc46⟩) hHeld ?rrc46
            case hyc46 => (intro w hSw; (try dsimp only at hSw); (try subst hSw); go_simp; try with_reducible rfl)
            try simp only [Act.put, List.setIfInBounds_toArray, List.set_cons_zero, List.set_cons_succ]
            refine wpAnyH_take (i := 47) (oi := ⟨some 250, _, _, _, _, _⟩) (v := ?vc47) rfl (by kernel_rfl) (by kernel_rfl) (by kernel_rfl) (fun _ _ _ h => h) (Or.inl ⟨by rfl, ?hyc47⟩) hHeld ?rrc47
            case hyc47 => (intro w hSw; (try dsimp only at hSw); (try subst hSw); go_simp; try with_reducible rfl)
            try simp only [Act.put, List.setIfInBounds_toArray, List.set_cons_zero, List.set_cons_succ]
            refine wpAnyH_take (i := 48) (oi := ⟨some 251, _, _, _, _, _⟩) (v := ?vc48) rfl (by kernel_rfl) (by kernel_rfl) (by kernel_rfl) (fun _ _ _ h => h) (Or.inl ⟨by rfl, ?hyc48⟩) hHeld ?rrc48
            case hyc48 => (intro w hSw; (try dsimp only at hSw); (try subst hSw); go_simp; try with_reducible rfl)
            try simp only [Act.put, List.setIfInBounds_toArray, List.set_cons_zero, List.set_cons_succ]
            refine wpAnyH_take (i := 49) (oi := ⟨some 252, _, _, _, _, _⟩) (v := ?vc49) rfl (by kernel_rfl) (by kernel_rfl) (by kernel_rfl) (fun _ _ _ h => h) (Or.inl ⟨by rfl, ?hyc49⟩) hHeld ?rrc49
            case hyc49 => (intro w hSw; (try dsimp only at hSw); (try subst hSw); go_simp; try with_reducible rfl)
            try simp only [Act.put, List.setIfInBounds_toArray, List.set_cons_zero, List.set_cons_succ]
            refine wpAnyH_take (i := 50) (oi := ⟨some 253, _, _, _, _, _⟩) (v := ?vc50) rfl (by kernel_rfl) (by kernel_rfl) (by kernel_rfl) (fun _ _ _ h => h) (Or.inl ⟨by rfl, ?hyc50⟩) hHeld ?rrc50
            case hyc50 => (intro w hSw; (try dsimp only at hSw); (try subst hSw); go_simp; try with_reducible rfl)
            try simp only [Act.put, List.setIfInBounds_toArray, List.set_cons_zero, List.set_cons_succ]
            refine wpAnyH_take (i := 51) (oi := ⟨some 254, _, _, _, _, _⟩) (v := ?vc51) rfl (by kernel_rfl) (by kernel_rfl) (by kernel_rfl) (fun _ _ _ h => h) (Or.inl ⟨by rfl, ?hyc51⟩) hHeld ?rrc51
            case hyc51 => (intro w hSw; (try dsimp only at hSw); (try subst hSw); go_simp; try with_reducible rfl)
            try simp only [Act.put, List.setIfInBounds_toArray, List.set_cons_zero, List.set_cons_succ]
            refine wpAnyH_take (i := 52) (oi := ⟨some 255, _, _, _, _, _⟩) (v := ?vc52) rfl (by kernel_rfl) (by kernel_rfl) (by kernel_rfl) (fun _ _ _ h => h) (Or.inl ⟨by rfl, ?hyc52⟩) hHeld ?rrc52
            case hyc52 => (intro w hSw; (try dsimp only at hSw); (try subst hSw); go_simp; try with_reducible rfl)
            try simp only [Act.put, List.setIfInBounds_toArray, List.set_cons_zero, List.set_cons_succ]
            refine wpAnyH_take (i := 53) (oi := ⟨some 256, _, _, _, _, _⟩) (v := ?vc53) rfl (by kernel_rfl) (by kernel_rfl) (by kernel_rfl) (fun _ _ _ h => h) (Or.inl ⟨by rfl, ?hyc53⟩) hHeld ?rrc53
            case hyc53 => (intro w hSw; (try dsimp only at hSw); (try subst hSw); go_simp; try with_reducible rfl)
            try simp only [Act.put, List.setIfInBounds_toArray, List.set_cons_zero, List.set_cons_succ]
            refine wpAnyH_take (i := 54) (oi := ⟨some 257, _, _, _, _, _⟩) (v := ?vc54) rfl (by kernel_rfl) (by kernel_rfl) (by kernel_rfl) (fun _ _ _ h => h) (Or.inl ⟨by rfl, ?hyc54⟩) hHeld ?rrc54
            case hyc54 => (intro w hSw; (try dsimp only at hSw); (try subst hSw); go_simp; try with_reducible rfl)
            try simp only [Act.put, List.setIfInBounds_toArray, List.set_cons_zero, List.set_cons_succ]
            refine wpAnyH_take (i := 55) (oi := ⟨some 258, _, _, _, _, _⟩) (v := ?vc55) rfl (by kernel_rfl) (by kernel_rfl) (by kernel_rfl) (fun _ _ _ h => h) (Or.inl ⟨by rfl, ?hyc55⟩) hHeld ?rrc55
            case hyc55 => (intro w hSw; (try dsimp only at hSw); (try subst hSw); go_simp; try with_reducible rfl)
            try simp only [Act.put, List.setIfInBounds_toArray, List.set_cons_zero, List.set_cons_succ]
            refine wpAnyH_take (i := 56) (oi := ⟨some 259, _, _, _, _, _⟩) (v := ?vc56) rfl (by kernel_rfl) (by kernel_rfl) (by kernel_rfl) (fun _ _ _ h => h) (Or.inl ⟨by rfl, ?hyc56⟩) hHeld ?rrc56
            case hyc56 => (intro w hSw; (try dsimp only at hSw); (try subst hSw); go_simp; try with_reducible rfl)
            try simp only [Act.put, List.setIfInBounds_toArray, List.set_cons_zero, List.set_cons_succ]
            refine wpAnyH_take (i := 57) (oi := ⟨some 260, _, _, _, _, _⟩) (v := ?vc57) rfl (by kernel_rfl) (by kernel_rfl) (by kernel_rfl) (fun _ _ _ h => h) (Or.inl ⟨by rfl, ?hyc57⟩) hHeld ?rrc57
            case hyc57 => (intro w hSw; (try dsimp only at hSw); (try subst hSw); go_simp; try with_reducible rfl)
            try simp only [Act.put, List.setIfInBounds_toArray, List.set_cons_zero, List.set_cons_succ]
            refine wpAnyH_take (i := 58) (oi := ⟨some 261, _, _, _, _, _⟩) (v := ?vc58) rfl (by kernel_rfl) (by kernel_rfl) (by kernel_rfl) (fun _ _ _ h => h) (Or.inl ⟨by rfl, ?hyc58⟩) hHeld ?rrc58
            case hyc58 => (intro w hSw; (try dsimp only at hSw); (try subst hSw); go_simp; try with_reducible rfl)
            try simp only [Act.put, List.setIfInBounds_toArray, List.set_cons_zero, List.set_cons_succ]
            refine wpAnyH_take (i := 59) (oi := ⟨some 262, _, _, _, _, _⟩) (v := ?vc59) rfl (by kernel_rfl) (by kernel_rfl) (by kernel_rfl) (fun _ _ _ h => h) (Or.inl ⟨by rfl, ?hyc59⟩) hHeld ?rrc59
            case hyc59 => (intro w hSw; (try dsimp only at hSw); (try subst hSw); go_simp; try with_reducible rfl)
            try simp only [Act.put, List.setIfInBounds_toArray, List.set_cons_zero, List.set_cons_succ]
            refine wpAnyH_take (i := 60) (oi := ⟨some 263, _, _, _, _, _⟩) (v := ?vc60) rfl (by kernel_rfl) (by kernel_rfl) (by kernel_rfl) (fun _ _ _ h => h) (Or.inl ⟨by rfl, ?hyc60⟩) hHeld ?rrc60
            case hyc60 => (intro w hSw; (try dsimp only at hSw); (try subst hSw); go_simp; try with_reducible rfl)
            try simp only [Act.put, List.setIfInBounds_toArray, List.set_cons_zero, List.set_cons_succ]
            refine wpAnyH_ready (rs := [61]) (by kernel_rfl) (by simp) ?_
            refine AllReadyH.cons (o := ⟨some 264, _, _, _, _, _⟩) rfl (fun K hK => ?_) AllReadyH.nil
            go_simp
            refine (short_any _ _ hzz).mono ?_
            rintro e w11 ⟨rfl, rfl⟩
            try rw [hys]
            refine hK.out _ _ rfl (fun hHeld2 => ?_)
            clear hK K hHeld
            have hHeld := hHeld2
            clear hHeld2
            try simp only [Act.put, List.setIfInBounds_toArray, List.set_cons_zero, List.set_cons_succ]
            refine wpAnyH_take (i := 62) (oi := ⟨some 265, _, _, _, _, _⟩) (v := ?vc62) rfl (by kernel_rfl) (by kernel_rfl) (by kernel_rfl) (fun _ _ _ h => h) (Or.inl ⟨by rfl, ?hyc62⟩) hHeld ?rrc62
            case hyc62 => (intro w hSw; (try dsimp only at hSw); (try subst hSw); go_simp; try with_reducible rfl)
            try simp only [Act.put, List.setIfInBounds_toArray, List.set_cons_zero, List.set_cons_succ]
            refine wpAnyH_take (i := 63) (oi := ⟨some 266, _, _, _, _, _⟩) (v := ?vc63) rfl (by kernel_rfl) (by kernel_rfl) (by kernel_rfl) (fun _ _ _ h => h) (Or.inl ⟨by rfl, ?hyc63⟩) hHeld ?rrc63
            case hyc63 => (intro w hSw; (try dsimp only at hSw); (try subst hSw); go_simp; try with_reducible rfl)
            try simp only [Act.put, List.setIfInBounds_toArray, List.set_cons_zero, List.set_cons_succ]
            refine wpAnyH_take (i := 64) (oi := ⟨some 12, _, _, _, _, _⟩) (v := ?vc64) rfl (by kernel_rfl) (by kernel_rfl) (by kernel_rfl) (fun _ _ _ h => h) (Or.inl ⟨by rfl, ?hyc64⟩) hHeld ?rrc64
            case hyc64 => (intro w hSw; (try dsimp only at hSw); (try subst hSw); go_simp; try with_reducible rfl)
            try simp only [Act.put, List.setIfInBounds_toArray, List.set_cons_zero, List.set_cons_succ]
            refine wpAnyH_done (by kernel_rfl) ?_ _
            refine NoPanic.normal ?_
            go_wp2
            go_ret
            exact ⟨rfl, hB13.drew⟩
end Go.Proofs.Ytpkfjlbjahghgaa
