/- AddrMatchesWireBytes returns true at every address. -/
import Derived.Test.YtobcecnmeepjpaaDoorInv
import Derived.Test.YtobcecnmeepjpaaDoorWbW
import Derived.Test.YtobcecnmeepjpaaDoorWPut
namespace Go.Proofs.YtobcecnmeepjpaaDoor
open Go.RowKit
set_option linter.unusedVariables false

theorem u8z (m : Int) (h : 0 ≤ m) (h2 : m ≤ 255) : wr.beVal [UInt8.ofNat m.toNat] = m := by
  have h3 : (UInt8.ofNat m.toNat).toNat = m.toNat := by rw [UInt8.toNat_ofNat_of_lt' (by show m.toNat < 256; omega)]
  simp only [wr.beVal, List.foldl_cons, List.foldl_nil, h3]; omega

theorem ex4 (p q r s : UInt8) (k : Nat) (y : UInt8) (h : ([p, q, r, s] : List UInt8)[k]? = some y) : ((⟨#[p, q, r, s]⟩ : ByteArray).extract k (k + 1)).data.toList = [y] := by
  match k, h with
  | 0, h => cases h; rfl
  | 1, h => cases h; rfl
  | 2, h => cases h; rfl
  | 3, h => cases h; rfl
  | k + 4, h => simp at h

theorem get_at (sA : ByteArray) (m0 m1 m2 m3 n : Int) (k : Nat) (e : strOfNums [m0, m1, m2, m3] = sA) (hk : k < 4) (hn : ([m0, m1, m2, m3] : List Int)[k]? = some n) (h : 0 ≤ n) (h2 : n ≤ 255) (w : World) :
    Calls Tryd.prog 26 #[.string sA, .int .i64 k, .int .i64 1] w fun e w' => e = .returned (.tuple #[.int .i64 n, .int .i64 0]) ∧ Below w.heap.size w w' := by
  have hs : sA.size = 4 := by rw [← e, strOfNums_size]; rfl
  have := wr.get_1 sA k (UInt8.ofNat n.toNat) w (by omega) (by unfold maxLen; omega) (by
    rw [← e]
    exact ex4 _ _ _ _ k _ (by rw [show ([UInt8.ofNat m0.toNat, UInt8.ofNat m1.toNat, UInt8.ofNat m2.toNat, UInt8.ofNat m3.toNat] : List UInt8) = [m0, m1, m2, m3].map (fun z => UInt8.ofNat z.toNat) from rfl, List.getElem?_map, hn]; rfl))
  rwa [u8z n h h2] at this

theorem wb_walk (a : Int) (w : World) (h1 : -9223372036854775808 ≤ a) (h2 : a ≤ 9223372036854775807) (E : Env w) :
    Calls Tryd.prog 9 #[.int .i64 a] w fun e w' => e = .returned (.bool true) ∧ Below w.heap.size w w' := by
  obtain ⟨x, -, ⟨b1, b2⟩, PX⟩ := pick_dom a 4294967296 h1 h2 (by omega) (by omega)
  obtain ⟨sA, e⟩ : ∃ sA, strOfNums [x / 16777216, x / 65536 % 256, x / 256 % 256, x % 256] = sA := ⟨_, rfl⟩
  have PU := fun w => Lib.hid (wr.put_4 x w b1 (by omega))
  rw [e] at PU
  have hsz : (⟨(fmtL x).toArray⟩ : ByteArray).size ≤ 4294967280 := by rw [size_mk]; have := fmtL_len x b1 (by omega); omega
  have hp := parse_fmt x b1 (by omega)
  have g0 := fun w => Lib.hid (get_at sA _ _ _ _ (x / 16777216) 0 e (by omega) rfl (by omega) (by omega) w)
  have g1 := fun w => Lib.hid (get_at sA _ _ _ _ (x / 65536 % 256) 1 e (by omega) rfl (by omega) (by omega) w)
  have g2 := fun w => Lib.hid (get_at sA _ _ _ _ (x / 256 % 256) 2 e (by omega) rfl (by omega) (by omega) w)
  have g3 := fun w => Lib.hid (get_at sA _ _ _ _ (x % 256) 3 e (by omega) rfl (by omega) (by omega) w)
  exact wb_go a x (x / 16777216) (x / 65536 % 256) (x / 256 % 256) (x % 256) sA ⟨(fmtL x).toArray⟩ w E PX PU (fun w E => Lib.hid (fmt_any x w b1 (by omega) E))
    g0 (by omega) g1 (by omega) g2 (by omega) g3 (by omega)
    (by show fmtL x = _; unfold fmtL; rw [join4, show x / 16777216 % 256 = x / 16777216 by omega]; simp [preL])
    (fun w E => Lib.hid (parse_some w hsz E hp))
end Go.Proofs.YtobcecnmeepjpaaDoor
