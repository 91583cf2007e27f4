/- The walk of the statement WireCRCDetects. -/
import Derived.Test.YtolohjinjpegmaaCrcLaw
import Derived.Test.YtolohjinjpegmaaCrcExact
import Derived.Deep.DeepCutAuto
import Derived.Deep.RegionLaw
import Derived.BigRegion
import Derived.Deep.RegionHeld3
import Derived.Deep.AppendLies
import Derived.OwnWalk
import Derived.Laws.OwnMore
namespace Go.Proofs.Ytolohjinjpegmaa
open Go.RowKit

theorem infoU8 : (Try.prog.info? 5).map (fun i => (i.zero, i.size, i.bytes)) = some (some (.int .u8 0), 1, 1) := by kernel_rfl
def byteV (x : UInt8) : Value := .int .u8 (x.toNat : Int)

theorem own_base {w : World} {base : Nat} {e : TypeId} {size : Nat} {v : Value} {n : Nat} {xs : List Value} (h : w.ownsRow base e size v n xs) {g : Nat} (hg : v.ownBlock = some g) : base ≤ g := by
  rcases h.2 with ⟨rfl, _⟩ | ⟨g', cap, cur, rfl, hb, _⟩
  · cases hg
  · simp only [Value.ownBlock, Option.some.injEq] at hg; omega
theorem strOfNums_bytes (l : List UInt8) : strOfNums (l.map fun x => (x.toNat : Int)) = ⟨l.toArray⟩ := by
  apply ba_ext
  rw [strOfNums_data, List.map_map]
  exact (List.map_congr_left (g := id) fun x _ => by simp).trans (List.map_id l)
theorem cut_to (s : ByteArray) (k : Nat) (hk : k ≤ s.size) :
    ∃ t : ByteArray, (∀ wx, (Instr.slice 9 (.string s) none (some (.int .i64 (k : Int))) none).run Try.prog wx = .ok (.string t) wx) ∧ t.data.toList = s.data.toList.take k ∧ t.size ≤ k := by
  refine ⟨s.extract 0 k, fun wx => ?_, ?_, ?_⟩
  · have := run_slice_string_h (P := Try.prog) wx 9 s Try.underlying9 .i64 (k : Int) (by omega) (by omega)
    rwa [Int.toNat_natCast] at this
  · rw [ByteArray.data_extract, Array.toList_extract, List.extract_eq_take_drop]; simp
  · simp only [ByteArray.size_extract]; omega
theorem cut_from (s : ByteArray) (k : Nat) (hk : k ≤ s.size) :
    ∃ t : ByteArray, (∀ wx, (Instr.slice 9 (.string s) (some (.int .i64 (k : Int))) none none).run Try.prog wx = .ok (.string t) wx) ∧ t.data.toList = s.data.toList.drop k ∧ t.size ≤ s.size := by
  refine ⟨s.extract k s.size, fun wx => ?_, ?_, ?_⟩
  · have := run_slice_string_l (P := Try.prog) wx 9 s Try.underlying9 .i64 (k : Int) (by omega) (by omega)
    rwa [Int.toNat_natCast] at this
  · rw [ByteArray.data_extract, Array.toList_extract, List.extract_eq_take_drop]
    exact List.take_of_length_le (by rw [List.length_drop, size_toList]; omega)
  · simp only [ByteArray.size_extract]; omega
theorem conv_one (w' : World) (n : Nat) (x : Int) (bs : ByteArray) (hbs : strOfNums [x] = bs) (h : w'.cell? ⟨n, 0, none⟩ = some (.int .u8 x)) :
    (convert 34 9 (.slice (some ⟨n, 0, none⟩) 1 1)).run Try.prog w' = .ok (.string bs) w' := by
  rw [← hbs]
  exact run_convert_bytes_arg (P := Try.prog) _ 34 5 Try.underlying34 Try.underlying5 n 0 1 1 [x] rfl (fun i hi => by
    obtain rfl : i = 0 := by omega
    rw [h]; rfl) 9 Try.underlying9
/-- the bytes that the call has gathered, as a string, in whatever later world -/
theorem conv_row {w w' : World} {base n : Nat} {v : Value} {al : ByteArray} (h : w.ownsRow base 5 1 v n (al.data.toList.map byteV)) (hb : Below w.heap.size w w') :
    (convert 34 9 v).run Try.prog w' = .ok (.string al) w' := by
  have hl : al.data.toList.length = n := by have := h.1; rwa [List.length_map, Nat.mul_one] at this
  have hal : al = strOfNums (al.data.toList.map fun x => (x.toNat : Int)) := by rw [strOfNums_bytes]
  rcases h.2 with ⟨rfl, h0⟩ | ⟨g, cap, cur, rfl, _, hg, _⟩
  · have hnil : al.data.toList = [] := List.eq_nil_of_length_eq_zero (by omega)
    have he : al = ByteArray.empty := ba_ext (by rw [hnil]; rfl)
    rw [he]
    exact run_convert_bytes_nil (P := Try.prog) w' 34 5 Try.underlying34 Try.underlying5 0 0 9 Try.underlying9
  · have hlt : g < w.heap.size := (Array.getElem?_eq_some_iff.1 hg).1
    have := run_convert_bytes_arg (P := Try.prog) w' 34 5 Try.underlying34 Try.underlying5 g 0 n cap (al.data.toList.map fun x => (x.toNat : Int)) (by rw [List.length_map, hl]) (fun i hi => by
      rw [hb.cell (p := ⟨g, 0 + i, none⟩) hlt]
      have hc := h.cells (g := g) rfl i (byteV (al.data.toList[i]'(by omega))) (by rw [List.getElem?_map, List.getElem?_eq_getElem (by omega)]; rfl)
      rw [Nat.zero_add]
      have ha : (⟨g, 0, none⟩ : Addr).add i = ⟨g, i, none⟩ := by
        unfold Addr.add
        split
        · rename_i hz; rw [hz]
        · simp
      rw [ha] at hc
      rw [hc]
      have hgd : (al.data.toList.map fun x => (x.toNat : Int)).getD i 0 = ((al.data.toList[i]'(by omega)).toNat : Int) := by
        rw [List.getD_eq_getElem?_getD, List.getElem?_map, List.getElem?_eq_getElem (by omega)]; rfl
      rw [hgd]; rfl) 9 Try.underlying9
    rw [← hal] at this
    exact this

set_option maxRecDepth 100000 in
set_option maxHeartbeats 4000000 in
theorem crcDetects_walk (a0 : ByteArray) (a1 a2 : Int) (a3 a4 : ByteArray) (w0 : a0.size ≤ maxLen) (w1 : (Lit.int .i64 a1).wf = true) (w2 : (Lit.int .u8 a2).wf = true) (w3 : a3.size ≤ maxLen) (w4 : a4.size ≤ maxLen) (w : World) :
    Calls Try.prog 7 #[.string a0, .int .i64 a1, .int .u8 a2, .string a3, .string a4] w fun e w' => e = .returned (.bool true) ∧ Below w.heap.size w w' := by
  unfold maxLen at w0 w3 w4
  obtain ⟨l1, u1⟩ := i64_bd w1
  have l2 : 0 ≤ a2 ∧ a2 ≤ 255 := by simpa [Lit.wf, IntKind.min, IntKind.max, IntKind.signed, IntKind.bits] using w2
  obtain ⟨l2, u2⟩ := l2
  clear w1 w2
  go_enter Try.func7, Try.ntmps7
  go_wp2_with fail
  refine (sanity_any _).mono ?_
  rintro e w1 ⟨rfl, hb1⟩
  go_upto_region 2 with fail
  go_cut [0] (fun s0 wx => ∃ s : ByteArray, s0 = .string s ∧ s.size ≤ 300 ∧ w1 = wx)
  case first =>
    go_wp2_with fail
    all_goals go_meet
    all_goals refine ⟨_, rfl, ?_, rfl⟩
    all_goals first | (simp only [ByteArray.size_extract]; omega) | omega
  case rest =>
    obtain ⟨s, rfl, hs, rfl⟩ := hcut
    go_upto_region 3 with fail
    go_cut [12] (fun n wx => ∃ m : Nat, n = .int .i64 m ∧ m ≤ s.size ∧ m ≤ a3.size ∧ m ≤ a4.size ∧ w1 = wx)
    case first =>
      rcases Nat.lt_or_ge a3.size s.size with h1 | h1 <;> rcases Nat.lt_or_ge 300 a4.size with h2 | h2
      all_goals go_wp2_with fail
      all_goals go_meet
      all_goals first | exact ⟨s.size, rfl, by omega, by omega, by omega, rfl⟩ | exact ⟨a3.size, rfl, by omega, by omega, by omega, rfl⟩ | exact ⟨a4.size, rfl, by omega, by omega, by omega, rfl⟩ | exact ⟨300, rfl, by omega, by omega, by omega, rfl⟩
    case rest =>
      obtain ⟨m, rfl, hm1, hm2, hm3, rfl⟩ := hcut
      go_wp2_with fail
      obtain ⟨i0, hi, hz0, hz1, hz2⟩ := info_parts infoU8
      go_loopw [13, 14] (fun v i wr => ∃ k : Nat, k ≤ m ∧ i = .int .i64 k ∧ wr.ownsRow w.heap.size 5 1 v k ((xl (s.data.toList.take k) (a3.data.toList.take k) (a4.data.toList.take k)).map byteV) ∧ Below w.heap.size w wr) (fun _ i _ => m - (intOf i).toNat)
      case atStart => exact ⟨0, by omega, rfl, World.ownsRow_nil _ _ _ _, hb1⟩
      case round =>
        obtain ⟨k, hk, rfl, hown, hB⟩ := hrel
        by_cases hkm : k < m
        · have k1 : k < s.size := by omega
          have k2 : k < a3.size := by omega
          have k3 : k < a4.size := by omega
          have hx := u8_xor3 s[k] a3[k] a4[k]
          have hxl : xl (s.data.toList.take (k + 1)) (a3.data.toList.take (k + 1)) (a4.data.toList.take (k + 1)) = xl (s.data.toList.take k) (a3.data.toList.take k) (a4.data.toList.take k) ++ [s[k] ^^^ a3[k] ^^^ a4[k]] := by
            rw [take1_snoc s k k1, take1_snoc a3 k k2, take1_snoc a4 k k3]
            exact xl_snoc _ _ _ _ _ _ (by rw [List.length_take, List.length_take, size_toList, size_toList]; omega) (by rw [List.length_take, List.length_take, size_toList, size_toList]; omega)
          obtain ⟨x, hx'⟩ : ∃ x, s[k] ^^^ a3[k] ^^^ a4[k] = x := ⟨_, rfl⟩
          rw [hx'] at hx hxl
          have Hxl := Lib.hid hxl
          have c1 : (0 : Int) ≤ (k : Int) := by omega
          have c2 : (k : Int) < (s.size : Int) := by omega
          have c3 : (k : Int) < (a3.size : Int) := by omega
          have c4 : (k : Int) < (a4.size : Int) := by omega
          clear hx' hxl
          have hk300 : k ≤ 300 := by omega
          go_wp2_with fail
          go_region_held3 (fun w' => True) (trivial) ((refine step_append_lies _ rfl (.tmp 37) (.tmp 49) 34 rfl w.heap.size 5 i0 (.int .u8 0) 1 1 Try.underlying34 hi hz0 hz1 hz2 rfl (by decide) u13 k _ (by simp [Act.eval]) (by exact hown.alloc _) ⟨wr.heap.size, 0, none⟩ 1 1 [byteV x] (by simp [Act.eval]) rfl (by exact cell_one_new _ _ _) (by simp [byteV, Value.oneCell']) (by decide) (by unfold maxLen; omega) (by omega) (by have := hB.size; simp; omega) (wr.heap.size + 1) (by simp) ?_; intro g cap w3 hown3 hgrow hat hlt))
          all_goals
            have hB3 : Below w.heap.size w w3 := (hB.alloc hB.size (.cells #[.int .u8 (x.toNat : Int)] 5)).drew.grown hgrow (by have := hB.size; simp; omega) (fun j e => own_base hown e)
            have hown4 : w3.ownsRow w.heap.size 5 1 (.slice (some ⟨g, 0, none⟩) (k + 1) cap) (k + 1) ((xl (s.data.toList.take (k + 1)) (a3.data.toList.take (k + 1)) (a4.data.toList.take (k + 1))).map byteV) := by
              rw [Hxl.out, List.map_append]; exact hown3
            clear hown3 hgrow hat
            go_wp2_with fail
            go_roundw
            case rel => exact ⟨k + 1, by omega, by go_num, hown4, hB3⟩
            case measure => simp [intOf]; omega
        · obtain rfl : k = m := by omega
          clear hkm hk
          obtain ⟨al, hal⟩ : ∃ al : ByteArray, al.data.toList = xl (s.data.toList.take k) (a3.data.toList.take k) (a4.data.toList.take k) := ⟨⟨(xl (s.data.toList.take k) (a3.data.toList.take k) (a4.data.toList.take k)).toArray⟩, rfl⟩
          rw [← hal] at hown
          have hcv := fun w' (h : Below wr.heap.size wr w') => conv_row hown h
          obtain ⟨sA, hsA, hsl, hsz⟩ := cut_to s k hm1
          obtain ⟨tA, htA, htl, htz⟩ := cut_to a3 k hm2
          obtain ⟨uA, huA, hul, huz⟩ := cut_to a4 k hm3
          have ez1 : (s.data.toList.take k).length = (a3.data.toList.take k).length := by rw [List.length_take, List.length_take, size_toList, size_toList]; omega
          have ez2 : (a3.data.toList.take k).length = (a4.data.toList.take k).length := by rw [List.length_take, List.length_take, size_toList, size_toList]; omega
          have hcx := crcN_xl _ _ _ ez1 ez2
          have hasz : al.size ≤ 300 := by rw [← size_toList, hal, xl_length _ _ _ ez1 ez2, List.length_take, size_toList]; omega
          rw [← hal, ← hsl, ← htl, ← hul] at hcx
          have hc1 := fun w => crc_exact sA (by unfold maxLen; omega) w
          have hc2 := fun w => crc_exact tA (by unfold maxLen; omega) w
          have hc3 := fun w => crc_exact uA (by unfold maxLen; omega) w
          have hc4 := fun w => crc_exact al (by unfold maxLen; omega) w
          have b1 := crcN_lt sA.data.toList
          have b2 := crcN_lt tA.data.toList
          have b3 := crcN_lt uA.data.toList
          generalize crcN sA.data.toList = n1 at hc1 hcx b1
          generalize crcN tA.data.toList = n2 at hc2 hcx b2
          generalize crcN uA.data.toList = n3 at hc3 hcx b3
          generalize crcN al.data.toList = n4 at hc4 hcx
          have hx1 := xor_i64 n1 n2 b1 b2
          have hx2 := xor_i64 (n1 ^^^ n2) n3 (xor_lt32 b1 b2) b3
          rw [← hcx] at hx2
          obtain ⟨n12, hn12⟩ : ∃ n12, n1 ^^^ n2 = n12 := ⟨_, rfl⟩
          rw [hn12] at hx1 hx2
          generalize regN 4294967295 sA.data.toList = q1 at hc1
          generalize regN 4294967295 tA.data.toList = q2 at hc2
          generalize regN 4294967295 uA.data.toList = q3 at hc3
          generalize regN 4294967295 al.data.toList = q4 at hc4
          have H1 := Lib.hid hc1
          have H2 := Lib.hid hc2
          have H3 := Lib.hid hc3
          have H4 := Lib.hid hc4
          clear hc1 hc2 hc3 hc4 hal hsl htl hul hcx hn12 ez1 ez2 b1 b2 b3 hown
          go_upto_region 9 with fail
          go_cut [68] (fun t wx => t = .bool false ∧ Below w.heap.size w wx)
          case first =>
            go_wp2_with fail
            go_region_held3 (fun w' => Below wr.heap.size wr w') (first | exact Below.refl _ _ | exact (Below.refl _ _).drew | exact Below.alloc (by assumption) (Below.size (by assumption)) _ | exact (Below.alloc (by assumption) (Below.size (by assumption)) _).drew)
              (first
                | (go_at_call_of 16 (Value.string sA); refine (H1.out _).mono ?_; rintro e w' ⟨rfl, rfl⟩)
                | (go_at_call_of 16 (Value.string tA); refine (H2.out _).mono ?_; rintro e w' ⟨rfl, rfl⟩)
                | (go_at_call_of 16 (Value.string uA); refine (H3.out _).mono ?_; rintro e w' ⟨rfl, rfl⟩)
                | (go_at_call_of 16 (Value.string al); refine (H4.out _).mono ?_; rintro e w' ⟨rfl, rfl⟩))
            all_goals
              go_wp2_with fail
              go_meet
              exact ⟨rfl, by repeat (first | exact hB | refine Below.drew ?_ | refine Below.alloc ?_ (by have := hB.size; simp; omega) _)⟩
          case rest =>
            obtain ⟨rfl, hB9⟩ := hcut
            clear H1 H2 H3 H4 hx1 hx2 hcv hsA htA huA
            have hlen := size_toList s
            have hc5 := fun w => crc_exact s (by unfold maxLen; omega) w
            by_cases hz : s.size = 0
            · have t1 : ((s.size : Int) == 0) = true := by rw [beq_iff_eq]; omega
              have hnil : s.data.toList = [] := List.eq_nil_of_length_eq_zero (by omega)
              rw [hnil] at hc5
              have H5 := Lib.hid hc5
              clear hc5 hz hnil hlen
              go_wp2_with fail
              refine (H5.out _).mono ?_
              rintro e w5 ⟨rfl, rfl⟩
              go_wp2_with fail
              go_ret
              exact ⟨rfl, hB9.alloc hB9.size _⟩
            · have t1 : ((s.size : Int) == 0) = false := by rw [beq_eq_false_iff_ne]; omega
              obtain ⟨p1, p2⟩ := pickZ_bd a1 (s.size : Int) (by omega)
              obtain ⟨j, hj⟩ := Int.eq_ofNat_of_zero_le p1
              rw [hj] at p2
              have hjs : j < s.size := by omega
              obtain ⟨P, hP, hPl, hPz⟩ := cut_to s j (by omega)
              obtain ⟨Q, hQ0, hQl, hQz⟩ := cut_from s (j + 1) (by omega)
              have hQ : ∀ wx, (Instr.slice 9 (.string s) (some (.int .i64 ((j : Int) + 1))) none none).run Try.prog wx = .ok (.string Q) wx := hQ0
              clear hQ0
              obtain ⟨bs, hbs⟩ : ∃ bs, strOfNums [a2] = bs := ⟨_, rfl⟩
              have hbz : bs.size = 1 := by rw [← hbs]; rfl
              have hbl : bs.data.toList = [UInt8.ofNat a2.toNat] := by rw [← hbs]; rfl
              obtain ⟨vv, hvv⟩ : ∃ vv, P ++ bs ++ Q = vv := ⟨_, rfl⟩
              have hvl : vv.data.toList = s.data.toList.take j ++ UInt8.ofNat a2.toNat :: s.data.toList.drop (j + 1) := by
                rw [← hvv, toList_append, toList_append, hPl, hQl, hbl, List.append_assoc]; rfl
              have hsl2 : s.data.toList = s.data.toList.take j ++ s[j] :: s.data.toList.drop (j + 1) := by
                have hta := (List.take_append_drop j s.data.toList).symm
                rw [List.drop_eq_getElem_cons (by rw [size_toList]; exact hjs)] at hta
                exact hta
              have hone := crc_one (s.data.toList.take j) (s.data.toList.drop (j + 1)) s[j] (UInt8.ofNat a2.toNat)
              rw [← hsl2, ← hvl] at hone
              have hvz : vv.size ≤ 700 := by rw [← hvv, ByteArray.size_append, ByteArray.size_append]; omega
              have hc6 := fun w => crc_exact vv (by unfold maxLen; omega) w
              have hcase : vv = s ∨ (s ≠ vv ∧ crcN s.data.toList ≠ crcN vv.data.toList) := by
                by_cases he : s[j] = UInt8.ofNat a2.toNat
                · exact .inl (ba_ext (by rw [hvl, ← he, ← hsl2]))
                · refine .inr ⟨fun e => ?_, fun e => he (hone.1 e)⟩
                  rw [← e] at hone
                  exact he (hone.1 rfl)
              have r1 : IntKind.i64.wrap ((j : Int) + 1) = (j : Int) + 1 := IntWalk.i64_in _ (by omega)
              have Hj := Lib.hid hj
              have Hvv := Lib.hid hvv
              have hPz2 : P.size ≤ 300 := by omega
              have hbz2 : bs.size ≤ 1 := by omega
              have hQz2 : Q.size ≤ 300 := by omega
              generalize crcN s.data.toList = n5 at hc5 hcase
              generalize crcN vv.data.toList = n6 at hc6 hcase
              generalize regN 4294967295 s.data.toList = q5 at hc5
              generalize regN 4294967295 vv.data.toList = q6 at hc6
              have H5 := Lib.hid hc5
              have H6 := Lib.hid hc6
              clear hc5 hc6 hone hsl2 hvl hbl hPl hQl hlen hz hbz hvv hj hPz hQz
              go_wp2_with fail
              refine (pick_any _ _ _ l1 u1 (by omega) (by omega)).mono ?_
              rintro e w' ⟨rfl, rfl⟩
              rw [Hj.out]
              go_upto_region 14 with fail
              go_cut [16] (fun t wx => t = .string vv ∧ Below w.heap.size w wx)
              case first =>
                have hcv1 : (convert 34 9 (.slice (some ⟨wc.heap.size, 0, none⟩) 1 1)).run Try.prog (wc.alloc (.cells #[.int .u8 a2] 5)).drew = .ok (.string bs) (wc.alloc (.cells #[.int .u8 a2] 5)).drew := conv_one _ _ _ _ hbs (World.cell?_alloc_new _ _ _ _)
                clear hbs
                go_wp2_with fail
                go_region
                all_goals
                  go_wp2_with fail
                  go_meet
                  exact ⟨by rw [Hvv.out], by repeat (first | exact hB9 | refine Below.drew ?_ | refine Below.alloc ?_ (by have := hB9.size; simp; try omega) _)⟩
              case rest =>
                obtain ⟨rfl, hB14⟩ := hcut
                clear hP hQ hbs Hvv Hj r1
                rcases hcase with rfl | ⟨hne, hcn⟩
                · go_wp2_with fail
                  refine (H5.out _).mono ?_
                  rintro e w5 ⟨rfl, rfl⟩
                  go_wp2_with fail
                  refine (H5.out _).mono ?_
                  rintro e w6 ⟨rfl, rfl⟩
                  go_wp2_with fail
                  go_ret
                  exact ⟨rfl, (hB14.alloc hB14.size _).alloc (by have := hB14.size; simp; omega) _⟩
                · have t2 : ((n5 : Int) == (n6 : Int)) = false := by rw [beq_eq_false_iff_ne]; omega
                  have t3 : (s.toList == vv.toList) = false := by
                    rw [beq_eq_false_iff_ne, Lib.toList_data, Lib.toList_data]; exact fun e => hne (ba_ext e)
                  go_wp2_with fail
                  refine (H5.out _).mono ?_
                  rintro e w5 ⟨rfl, rfl⟩
                  go_wp2_with fail
                  refine (H6.out _).mono ?_
                  rintro e w6 ⟨rfl, rfl⟩
                  go_wp2_with fail
                  go_ret
                  exact ⟨rfl, (hB14.alloc hB14.size _).alloc (by have := hB14.size; simp; omega) _⟩
end Go.Proofs.Ytolohjinjpegmaa
