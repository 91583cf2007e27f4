/- The iterator over the candidates. -/
import Derived.Test.YtgfcpimklmgnbaaRoD
import Derived.Test.YtgfcpimklmgnbaaIpLaw
import Derived.RangeFuncNested
import Derived.RangeFuncBound
import Derived.RangeFuncCalls
import Derived.RangeFuncLeaves
import Derived.RangeFuncOwn
import Derived.Shelf.Abstract
import Derived.Shelf.RegionOpen
import Derived.OwnWalkIn
import Derived.TacticsInMore
import Derived.LoopNIn
import Derived.LoopIn
namespace Go.Proofs.Ytgfcpimklmgnbaa
open Go.RowKit Go.Shelf
set_option linter.unusedVariables false
attribute [local go_sem] Oper.semAt_some

theorem grown_none {W W' : World} (h : Below W.heap.size W W') : W.grownBy W' none := ⟨h.os, h.tape, h.output, h.size, fun k hk _ => h.block k hk⟩

set_option maxRecDepth 100000 in
set_option maxHeartbeats 3200000 in
theorem cand_stops (fs : List Fc) (rs : List Ro) (to : Int) (vf vr : Value) (Fb Tb Rb : Nat) (w : World) (hf : FsAt w vf fs) (hr : RsAt w vr rs) (hto : InI to)
    (hFb : w.cell? ⟨Fb, 0, none⟩ = some vf) (hTb : w.cell? ⟨Tb, 0, none⟩ = some (.int .i64 to)) (hRb : w.cell? ⟨Rb, 0, none⟩ = some vr) :
    SeqStopsH Fence.wide 7 Try.prog 39 #[.pointer (some ⟨Fb, 0, none⟩), .pointer (some ⟨Tb, 0, none⟩), .pointer (some ⟨Rb, 0, none⟩)] (fun x : Ro => #[rv x]) (fun _ W => Below w.heap.size w W) (fun _ _ => True) (fun xs => xs = candL fs rs to) (fun _ => True) w := by
  intro l J Jx W hW hJ hJx hH hJw hY h0
  have keep : ∀ (a : Addr) (v : Value) (W' : World), w.cell? a = some v → Below w.heap.size w W' → W'.cell? a = some v := fun _ _ _ h hb => (hb.cell (World.block_lt_of_cell? _ _ h)).trans h
  have hI0 := Lib.hid (h0 W (Below.refl _ W))
  have cF := keep _ _ _ hFb hW
  have hjk : ∀ (pre : List Ro) (X Y : World), J W.heap.size pre X → Below X.heap.size X Y → J W.heap.size pre Y := fun _ _ _ h hb => hJ _ _ _ _ none h (grown_none hb) (fun r e => by cases e)
  obtain ⟨p, c, rfl, hl⟩ := hf.form
  obtain ⟨p2, c2, rfl, hl2⟩ := hr.form
  obtain ⟨n, hn⟩ : ∃ n, fs.length = n := ⟨_, rfl⟩
  obtain ⟨m, hm⟩ : ∃ m, rs.length = m := ⟨_, rfl⟩
  have hcl : candL fs rs to = candF fs to n ++ candR rs to m := by unfold candL; rw [hn, hm]
  rw [hn] at hf hl hFb cF
  rw [hm] at hr hl2 hRb
  have HF := Lib.hid hf
  have HR := Lib.hid hr
  have HJK := Lib.hid hjk
  have HKP := Lib.hid keep
  have HH := Lib.hid hH
  have HY := Lib.hid hY
  have HT := Lib.hid hTb
  have HRb := Lib.hid hRb
  have HCL := Lib.hid hcl
  clear hf hr hjk keep hH hY hTb hRb hcl hn hm h0 hJw hJ hJx hFb
  refine callsIn_of_wp Try.func39 rfl trivial ?_ rfl
  simp only [Try.ntmps39, List.size_toArray, List.length_cons, List.length_nil, Nat.reduceAdd, Nat.reduceSub, Array.replicate_succ, Array.replicate_zero, List.push_toArray, List.append_toArray, List.nil_append, List.cons_append]
  gi_wp2
  clear cF
  gi_loopw [11] (fun i wr => ∃ k : Nat, k ≤ n ∧ i = .int .i64 (k : Int) ∧ Hid (J W.heap.size (candF fs to k) wr)) (fun i _ => n - (intOf i).toNat)
  case atStart => exact ⟨0, Nat.zero_le _, rfl, by simpa [candF] using hI0⟩
  case round =>
    obtain ⟨k, hk, rfl, HJ⟩ := hrel
    have hbr := HH.out _ _ _ HJ.out
    rcases Nat.lt_or_ge k n with hkn | hkn
    · obtain ⟨f, hfk, hin, g, hp, hg, c0, c1, c2, c3, c4⟩ := (HF.out.keep hbr).at k hkn
      subst hp
      have hb1 : Below wr.heap.size wr (wr.alloc (fo f)) := (Below.refl _ wr).alloc (Nat.le_refl _) _
      have hT1 := HKP.out _ _ _ HT.out (hbr.trans (hb1.mono hbr.size))
      obtain ⟨q0, q1, q2, q3, q4⟩ := blk5 wr f
      have HC := fun w => Lib.hid (cont_any f.na f.nb to w hin.2.2.1.1 hin.2.2.1.2 hin.2.2.2.1.1 hin.2.2.2.1.2 hto.1 hto.2)
      have HS := Lib.hid (candF_succ hfk to)
      have HB1 := Lib.hid hb1
      have hki : (k : Int) < (n : Int) := by omega
      clear hfk hin hbr hb1
      gi_wp2_with fail
      refine ⟨trivial, (callsIn_wide.2 (HC _).out).mono ?_⟩
      rintro e w2 ⟨rfl, hb2⟩
      have z2 := (hb2.cell (World.block_lt_of_cell? _ _ q2)).trans q2
      have z3 := (hb2.cell (World.block_lt_of_cell? _ _ q3)).trans q3
      have HJ2 := Lib.hid (HJK.out _ _ _ HJ.out (HB1.out.trans (hb2.mono HB1.out.size)))
      clear q0 q1 q2 q3 q4 c0 c1 c2 c3 c4 hb2 HB1 hT1
      cases hcz : contZ f.na f.nb to
      · rw [hcz] at HS
        gi_wp2_with fail
        refine And.intro (a := ∀ (f : FuncId), (none : Option FuncId) = some f → Fence.wide.fn f) (fun f h => by cases h) ?_
        gi_wp2
        go_roundw
        case rel => exact ⟨k + 1, by omega, by go_num, by rw [HS.out]; simpa using HJ2⟩
        case measure => simp [intOf]; omega
      · rw [hcz] at HS
        obtain ⟨fn, tmps, assign, body, hy, hR1⟩ := HY.out W.heap.size _ ⟨f.na, f.nb, 0, (k : Int)⟩ w2 (Nat.le_refl _) HJ2.out trivial
        gi_wp2
        refine hR1.mono ?_
        rintro e W3 (⟨rfl, hJ3, hk3⟩ | ⟨rfl, hJx3⟩)
        · clear hR1 hy
          gi_wp2
          go_roundw
          case rel => exact ⟨k + 1, by omega, by go_num, by rw [HS.out]; exact hJ3⟩
          case measure => simp [intOf]; omega
        · clear hR1 hy
          gi_wp2
          refine bodyPost_ret (results_none rfl _ _ _) rfl ?_
          exact ⟨⟨_, rfl⟩, .inr ⟨_, trivial, hJx3⟩⟩
    · obtain rfl : k = n := by omega
      have cR := HKP.out _ _ _ HRb.out hbr
      gi_wp2
      clear cR
      gi_loopw [32] (fun i wt => ∃ j : Nat, j ≤ m ∧ i = .int .i64 (j : Int) ∧ Hid (J W.heap.size (candF fs to k ++ candR rs to j) wt)) (fun i _ => m - (intOf i).toNat)
      case atStart => exact ⟨0, Nat.zero_le _, rfl, by simpa [candR] using HJ⟩
      case round =>
        obtain ⟨j, hj, rfl, HJt⟩ := hrel
        have hbt := HH.out _ _ _ HJt.out
        rcases Nat.lt_or_ge j m with hjm | hjm
        · obtain ⟨r, hrj, hin, g, hp, hg, c0, c1, c2, c3⟩ := (HR.out.keep hbt).at j hjm
          subst hp
          have hb1 : Below wr.heap.size wr (wr.alloc (ro r)) := (Below.refl _ wr).alloc (Nat.le_refl _) _
          have hT1 := HKP.out _ _ _ HT.out (hbt.trans (hb1.mono hbt.size))
          obtain ⟨q0, q1, q2, q3⟩ := blk4 wr r
          have HC := fun w => Lib.hid (cont_any r.na r.nb to w hin.1.1 hin.1.2 hin.2.1.1 hin.2.1.2 hto.1 hto.2)
          have HS := Lib.hid (candR_succ hrj to)
          have HB1 := Lib.hid hb1
          have hji : (j : Int) < (m : Int) := by omega
          clear hrj hin hbt hb1 hbr
          gi_wp2_with fail
          refine ⟨trivial, (callsIn_wide.2 (HC _).out).mono ?_⟩
          rintro e w2 ⟨rfl, hb2⟩
          have z0 := (hb2.cell (World.block_lt_of_cell? _ _ q0)).trans q0
          have z1 := (hb2.cell (World.block_lt_of_cell? _ _ q1)).trans q1
          have z2 := (hb2.cell (World.block_lt_of_cell? _ _ q2)).trans q2
          have z3 := (hb2.cell (World.block_lt_of_cell? _ _ q3)).trans q3
          have HJ2 := Lib.hid (HJK.out _ _ _ HJt.out (HB1.out.trans (hb2.mono HB1.out.size)))
          clear q0 q1 q2 q3 c0 c1 c2 c3 hb2 HB1 hT1
          cases hcz : contZ r.na r.nb to
          · rw [hcz] at HS
            gi_wp2_with fail
            refine And.intro (a := ∀ (f : FuncId), (none : Option FuncId) = some f → Fence.wide.fn f) (fun f h => by cases h) ?_
            gi_wp2
            go_roundw
            case rel => exact ⟨j + 1, by omega, by go_num, by rw [HS.out]; simpa using HJ2⟩
            case measure => simp [intOf]; omega
          · rw [hcz] at HS
            obtain ⟨fn, tmps, assign, body, hy, hR1⟩ := HY.out W.heap.size _ r w2 (Nat.le_refl _) HJ2.out trivial
            gi_wp2
            refine hR1.mono ?_
            rintro e W3 (⟨rfl, hJ3, hk3⟩ | ⟨rfl, hJx3⟩)
            · clear hR1 hy
              gi_wp2
              go_roundw
              case rel => exact ⟨j + 1, by omega, by go_num, by rw [HS.out, if_pos trivial, ← List.append_assoc]; exact hJ3⟩
              case measure => simp [intOf]; omega
            · clear hR1 hy
              gi_wp2
              refine bodyPost_ret (results_none rfl _ _ _) rfl ?_
              exact ⟨⟨_, rfl⟩, .inr ⟨_, trivial, hJx3⟩⟩
        · obtain rfl : j = m := by omega
          gi_wp2
          go_end0
          exact ⟨⟨_, rfl⟩, .inl ⟨_, _, HCL.out.symm, HJt.out⟩⟩
end Go.Proofs.Ytgfcpimklmgnbaa
