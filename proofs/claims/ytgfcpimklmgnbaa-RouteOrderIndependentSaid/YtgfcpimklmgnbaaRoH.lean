/- Contract of the document's Lookup. -/
import Derived.Test.YtgfcpimklmgnbaaRoG
namespace Go.Proofs.Ytgfcpimklmgnbaa
open Go.RowKit Go.Shelf
set_option linter.unusedVariables false

def stB : Option Ro → Int | none => -1 | some c => c.nb
def stF : Option Ro → Int | none => 0 | some c => c.face
def stN (to : Int) : Option Ro → Int | none => 0 | some c => if c.via = 0 then to else c.via
theorem step_yes {o : Option Ro} {x : Ro} (h : stB o < x.nb) : stepC o x = some x := by
  cases o with
  | none => rfl
  | some c => simp only [stB] at h; simp [stepC, h]
theorem step_no {o : Option Ro} {x : Ro} (h : ¬ stB o < x.nb) (hx : 0 ≤ x.nb) : stepC o x = o := by
  cases o with
  | none => simp only [stB] at h; omega
  | some c => simp only [stB] at h; simp [stepC, h]
theorem contZ_nb {a b x : Int} (h : contZ a b x = true) : 0 ≤ b ∧ b ≤ 32 := by
  unfold contZ at h
  simp only [Bool.and_eq_true] at h
  have := vpZ_bd h.1
  exact ⟨this.2.2.1, this.2.2.2⟩
theorem stB_bd {fs : List Fc} {rs : List Ro} {to : Int} {l : List Ro} (h : ∀ r, r ∈ l → 0 ≤ r.nb ∧ r.nb ≤ 32) : -1 ≤ stB (bestC l) ∧ stB (bestC l) ≤ 32 := by
  have : ∀ (l : List Ro) (o : Option Ro), (∀ r, r ∈ l → 0 ≤ r.nb ∧ r.nb ≤ 32) → (-1 ≤ stB o ∧ stB o ≤ 32) → -1 ≤ stB (l.foldl stepC o) ∧ stB (l.foldl stepC o) ≤ 32 := by
    intro l
    induction l with
    | nil => intro o _ h; exact h
    | cons a r ih =>
      intro o hl ho
      have ha := hl a (by simp)
      refine ih _ (fun x hx => hl x (by simp [hx])) ?_
      by_cases hlt : stB o < a.nb
      · rw [step_yes hlt]; simp only [stB]; omega
      · rw [step_no hlt ha.1]; exact ho
  exact this l none h (by simp [stB])
theorem res_o {to : Int} {o : Option Ro} (h : stB o < 0 ∧ (o = none ∨ 0 ≤ stB o)) : lookO to o = .tuple #[.int .i64 0, .int .i64 0, .int .i64 91] := by
  cases o with
  | none => rfl
  | some c =>
    rcases h.2 with h2 | h2
    · cases h2
    · omega
theorem best_some {l : List Ro} (h : ∀ r, r ∈ l → 0 ≤ r.nb) : bestC l = none ∨ 0 ≤ stB (bestC l) := by
  have : ∀ (l : List Ro) (o : Option Ro), (∀ r, r ∈ l → 0 ≤ r.nb) → (o = none ∨ 0 ≤ stB o) → (l.foldl stepC o = none ∨ 0 ≤ stB (l.foldl stepC o)) := by
    intro l
    induction l with
    | nil => intro o _ h; exact h
    | cons a r ih =>
      intro o hl ho
      have ha := hl a (by simp)
      refine ih _ (fun x hx => hl x (by simp [hx])) ?_
      by_cases hlt : stB o < a.nb
      · rw [step_yes hlt]; simp only [stB]; omega
      · rw [step_no hlt ha]; exact ho
  exact this l none h (.inl rfl)
theorem cand_nb {fs : List Fc} {rs : List Ro} {to : Int} : ∀ r, r ∈ candL fs rs to → 0 ≤ r.nb := by
  intro r hr
  unfold candL at hr
  rw [List.mem_append] at hr
  rcases hr with hr | hr
  · unfold candF at hr
    obtain ⟨x, hx, rfl⟩ := List.mem_map.1 hr
    have h2 : contZ x.1.na x.1.nb to = true := (List.mem_filter.1 hx).2
    exact (contZ_nb h2).1
  · unfold candR at hr
    have := (List.mem_filter.1 hr).2
    exact (contZ_nb (by simpa using this)).1

set_option maxRecDepth 100000 in
set_option maxHeartbeats 3200000 in
theorem rlookup_any (fs : List Fc) (rs : List Ro) (to : Int) (vf vr : Value) (w : World) (hf : FsAt w vf fs) (hr : RsAt w vr rs) (hto : InI to) :
    Calls Try.prog 16 #[vf, vr, .int .i64 to] w fun e w' => e = .returned (lookV fs rs to) ∧ Below w.heap.size w w' := by
  have HC := Lib.hid (rcheck_any fs rs vf vr w hf hr)
  have HU := Lib.hid (ones_any to)
  rcases @check_e fs rs with ⟨hck, hce⟩ | ⟨hck, hce⟩
  rotate_left
  · rw [look_no hck]
    rw [hce] at HC
    clear hf hr
    go_enter Try.func16, Try.ntmps16
    go_wp2_with fail
    refine HC.out.mono ?_
    rintro e w2 ⟨rfl, hb2⟩
    go_wp2_with fail
    go_ret3
    exact ⟨rfl, hb2⟩
  rw [hce] at HC
  cases hu : uni to
  · rw [look_nu hck hu]
    rw [hu] at HU
    clear hf hr
    go_enter Try.func16, Try.ntmps16
    go_wp2_with fail
    refine HC.out.mono ?_
    rintro e w2 ⟨rfl, hb2⟩
    go_wp2_with fail
    refine (HU.out _).mono ?_
    rintro e w2' ⟨rfl, rfl⟩
    go_wp2_with fail
    go_ret3
    exact ⟨rfl, hb2⟩
  rw [hu] at HU
  rw [look_o hck hu rfl]
  have hbs := Lib.hid (best_some (@cand_nb fs rs to))
  obtain ⟨p, c, rfl, hl⟩ := hf.form
  obtain ⟨p2, c2, rfl, hl2⟩ := hr.form
  have hcl : candL fs rs to = candF fs to fs.length ++ candR rs to rs.length := rfl
  obtain ⟨n, hn⟩ : ∃ n, fs.length = n := ⟨_, rfl⟩
  obtain ⟨m, hm⟩ : ∃ m, rs.length = m := ⟨_, rfl⟩
  rw [hn] at hf hl hcl HC ⊢
  rw [hm] at hr hl2 hcl HC ⊢
  have HCL := Lib.hid hcl
  have HF := Lib.hid hf
  have HR := Lib.hid hr
  clear hf hr hck hu hce hcl hn hm
  go_enter Try.func16, Try.ntmps16
  go_wp2_with fail
  refine HC.out.mono ?_
  rintro e w2 ⟨rfl, hb2⟩
  have HB2 := Lib.hid hb2
  clear hb2 HC
  go_wp2_with fail
  refine (HU.out _).mono ?_
  rintro e w2' ⟨rfl, rfl⟩
  go_wp2_with fail
  clear HU
  go_loopw [10, 11, 12, 13] (fun b f x i wr => ∃ (k : Nat) (o : Option Ro), k ≤ n ∧ i = .int .i64 (k : Int) ∧ b = .int .i64 (stB o) ∧ f = .int .i64 (stF o) ∧ x = .int .i64 (stN to o) ∧ Hid (Below w.heap.size w wr) ∧ Hid (bestC (candF fs to k) = o)) (fun _ _ _ i _ => n - (intOf i).toNat)
  case atStart => exact ⟨0, none, Nat.zero_le _, rfl, rfl, rfl, rfl, HB2, rfl⟩
  case round =>
    obtain ⟨k, o, hk, rfl, rfl, rfl, rfl, HB, HO⟩ := hrel
    rcases Nat.lt_or_ge k n with hkn | hkn
    · obtain ⟨f, hfk, hin, g, hp, hg, c0, c1, c2, c3, c4⟩ := (HF.out.keep HB.out).at k hkn
      subst hp
      have HCt := fun w => Lib.hid (rcont_any f.na f.nb to w hin.2.2.1.1 hin.2.2.1.2 hin.2.2.2.1.1 hin.2.2.2.1.2 hto.1 hto.2)
      have HS := Lib.hid (candF_succ hfk to)
      have hki : (k : Int) < (n : Int) := by omega
      clear hfk hin
      obtain ⟨B, hB⟩ : ∃ B, stB o = B := ⟨_, rfl⟩
      obtain ⟨F, hF⟩ : ∃ F, stF o = F := ⟨_, rfl⟩
      obtain ⟨X, hX⟩ : ∃ X, stN to o = X := ⟨_, rfl⟩
      rw [hB, hF, hX]
      have EB := Lib.hid hB
      have EF := Lib.hid hF
      have EX := Lib.hid hX
      clear hB hF hX
      go_wp2_with fail
      refine (HCt _).out.mono ?_
      rintro e w3 ⟨rfl, hb3⟩
      have z2 := (hb3.cell (World.block_lt_of_cell? _ _ c2)).trans c2
      have z3 := (hb3.cell (World.block_lt_of_cell? _ _ c3)).trans c3
      have HB3 := Lib.hid (HB.out.trans (hb3.mono HB.out.size))
      clear c0 c1 c2 c3 c4 hb3
      cases hcz : contZ f.na f.nb to
      · rw [hcz] at HS
        go_wp2_with fail
        go_roundw
        case rel => exact ⟨k + 1, o, by omega, by go_num, by rw [EB.out], by rw [EF.out], by rw [EX.out], HB3, Lib.hid (by rw [HS.out]; simpa using HO.out)⟩
        case measure => simp [intOf]; omega
      · rw [hcz] at HS
        have hnb := contZ_nb hcz
        by_cases hlt : B < f.nb
        · go_wp2_with fail
          go_roundw
          case rel => exact ⟨k + 1, some ⟨f.na, f.nb, 0, (k : Int)⟩, by omega, by go_num, rfl, rfl, rfl, HB3, by rw [HS.out, if_pos trivial, bestC_snoc, HO.out]; exact step_yes (by rw [EB.out]; exact hlt)⟩
          case measure => simp [intOf]; omega
        · go_wp2_with fail
          go_roundw
          case rel => exact ⟨k + 1, o, by omega, by go_num, by rw [EB.out], by rw [EF.out], by rw [EX.out], HB3, by rw [HS.out, if_pos trivial, bestC_snoc, HO.out]; exact step_no (by rw [EB.out]; exact Int.not_lt.2 hlt) hnb.1⟩
          case measure => simp [intOf]; omega
    · obtain rfl : k = n := by omega
      go_wp2_with fail
      go_loopw [10, 11, 12, 14] (fun b f x i wt => ∃ (j : Nat) (o : Option Ro), j ≤ m ∧ i = .int .i64 (j : Int) ∧ b = .int .i64 (stB o) ∧ f = .int .i64 (stF o) ∧ x = .int .i64 (stN to o) ∧ Hid (Below w.heap.size w wt) ∧ Hid (bestC (candF fs to k ++ candR rs to j) = o)) (fun _ _ _ i _ => m - (intOf i).toNat)
      case atStart => exact ⟨0, o, Nat.zero_le _, rfl, rfl, rfl, rfl, HB, Lib.hid (by rw [show candR rs to 0 = [] from rfl, List.append_nil]; exact HO.out)⟩
      case round =>
        obtain ⟨j, o, hj, rfl, rfl, rfl, rfl, HB, HO⟩ := hrel
        rcases Nat.lt_or_ge j m with hjm | hjm
        · obtain ⟨r, hrj, hin, g, hp, hg, c0, c1, c2, c3⟩ := (HR.out.keep HB.out).at j hjm
          subst hp
          have HCt := fun w => Lib.hid (rcont_any r.na r.nb to w hin.1.1 hin.1.2 hin.2.1.1 hin.2.1.2 hto.1 hto.2)
          have HS := Lib.hid (candR_succ hrj to)
          have hji : (j : Int) < (m : Int) := by omega
          clear hrj hin
          obtain ⟨B, hB⟩ : ∃ B, stB o = B := ⟨_, rfl⟩
          obtain ⟨F, hF⟩ : ∃ F, stF o = F := ⟨_, rfl⟩
          obtain ⟨X, hX⟩ : ∃ X, stN to o = X := ⟨_, rfl⟩
          rw [hB, hF, hX]
          have EB := Lib.hid hB
          have EF := Lib.hid hF
          have EX := Lib.hid hX
          clear hB hF hX
          go_wp2_with fail
          refine (HCt _).out.mono ?_
          rintro e w3 ⟨rfl, hb3⟩
          have z0 := (hb3.cell (World.block_lt_of_cell? _ _ c0)).trans c0
          have z1 := (hb3.cell (World.block_lt_of_cell? _ _ c1)).trans c1
          have z2 := (hb3.cell (World.block_lt_of_cell? _ _ c2)).trans c2
          have z3 := (hb3.cell (World.block_lt_of_cell? _ _ c3)).trans c3
          have HB3 := Lib.hid (HB.out.trans (hb3.mono HB.out.size))
          clear c0 c1 c2 c3 hb3
          cases hcz : contZ r.na r.nb to
          · rw [hcz] at HS
            go_wp2_with fail
            go_roundw
            case rel => exact ⟨j + 1, o, by omega, by go_num, by rw [EB.out], by rw [EF.out], by rw [EX.out], HB3, Lib.hid (by rw [HS.out]; simpa using HO.out)⟩
            case measure => simp [intOf]; omega
          · rw [hcz] at HS
            have hnb := contZ_nb hcz
            by_cases hlt : B < r.nb
            · have hst := Lib.hid (step_yes (x := r) (by rw [EB.out]; exact hlt))
              by_cases hv : r.via = 0
              · have hv2 : (r.via == 0) = true := by simpa using hv
                have HV := Lib.hid hv
                clear hv
                go_wp2_with fail
                go_roundw
                case rel => exact ⟨j + 1, some r, by omega, by go_num, rfl, rfl, by simp only [stN, HV.out]; rfl, HB3, by rw [HS.out, if_pos trivial, ← List.append_assoc, bestC_snoc, HO.out]; exact hst⟩
                case measure => simp [intOf]; omega
              · have hv2 : (r.via == 0) = false := by simpa using hv
                go_wp2_with fail
                go_roundw
                case rel => exact ⟨j + 1, some r, by omega, by go_num, rfl, rfl, by simp only [stN, if_neg hv], HB3, by rw [HS.out, if_pos trivial, ← List.append_assoc, bestC_snoc, HO.out]; exact hst⟩
                case measure => simp [intOf]; omega
            · go_wp2_with fail
              go_roundw
              case rel => exact ⟨j + 1, o, by omega, by go_num, by rw [EB.out], by rw [EF.out], by rw [EX.out], HB3, by rw [HS.out, if_pos trivial, ← List.append_assoc, bestC_snoc, HO.out]; exact step_no (by rw [EB.out]; exact Int.not_lt.2 hlt) hnb.1⟩
              case measure => simp [intOf]; omega
        · obtain rfl : j = m := by omega
          have hall : bestC (candL fs rs to) = o := by rw [HCL.out]; exact HO.out
          have hb0 := hbs.out
          rw [hall] at hb0
          have HALL := Lib.hid hall
          clear hall
          cases o with
          | none =>
            simp only [stB, stF, stN]
            go_wp2_with fail
            go_ret3
            exact ⟨by rw [HALL.out]; rfl, HB.out⟩
          | some cc =>
            have hnn : ¬ (cc.nb < 0) := hb0.elim (fun h => by cases h) (fun h => by simp only [stB] at h; omega)
            clear hb0
            obtain ⟨X, hX⟩ : ∃ X, stN to (some cc) = X := ⟨_, rfl⟩
            rw [hX]
            have EX := Lib.hid hX
            clear hX
            simp only [stB, stF]
            go_wp2_with fail
            go_ret3
            exact ⟨by rw [HALL.out, ← EX.out]; rfl, HB.out⟩
end Go.Proofs.Ytgfcpimklmgnbaa
