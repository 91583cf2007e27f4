/- The decoder's state, and its reading as plain functions. No program. -/
import Derived.Test.YtidjbpglpobigaaDoorIpN
namespace Go.Proofs.YtidjbpglpobigaaDoor
open Go.RowKit Go.Shelf
set_option linter.unusedVariables false

def setV (V : Fin 10 → Int) (x : Fin 10) (n : Int) : Fin 10 → Int := fun i => if i = x then n else V i
/-- the decoder in memory -/
abbrev dcs (s : ByteArray) (pos : Nat) (V : Fin 10 → Int) : Array Value := #[.string s, .int .i64 (pos : Int), .int .i64 (V 1), .int .i64 (V 2), .int .i64 (V 3), .int .i64 (V 4), .int .i64 (V 5), .bool false, .bool false, .int .i64 0, .string ⟨#[]⟩, .int .i64 (V 0), .int .i64 (V 6), .int .i64 (V 7), .int .i64 (V 8), .int .i64 (V 9)]
structure DS where
  pos : Nat
  V : Fin 10 → Int
def DS.step (s : ByteArray) (h : DS) (x : Fin 10) : DS := ⟨h.pos + nSz x, setV h.V x (getV s (h.pos : Int) (nSz x : Int))⟩
def drun (s : ByteArray) (pre : List (Fin 10)) : DS := pre.foldl (DS.step s) ⟨0, fun _ => 0⟩
theorem drun_snoc (s : ByteArray) (pre : List (Fin 10)) (x : Fin 10) : drun s (pre ++ [x]) = ⟨(drun s pre).pos + nSz x, setV (drun s pre).V x (getV s ((drun s pre).pos : Int) (nSz x : Int))⟩ := by
  simp [drun, DS.step]
theorem nSz_bd (x : Fin 10) : 1 ≤ nSz x ∧ nSz x ≤ 4 ∧ fSz x = (nSz x : Int) := ⟨(nOff_bd x).2.1, (nOff_bd x).2.2.1, (nOff_bd x).2.2.2⟩
theorem run_pos (s : ByteArray) : ∀ (pre : List (Fin 10)) (h : DS), (pre.foldl (DS.step s) h).pos ≤ h.pos + 4 * pre.length
  | [], h => by simp
  | x :: t, h => by
    have h1 := run_pos s t (h.step s x)
    have h2 : (h.step s x).pos = h.pos + nSz x := rfl
    have h3 := (nSz_bd x).2.1
    simp only [List.foldl_cons, List.length_cons]
    omega
theorem drun_pos (s : ByteArray) (pre : List (Fin 10)) : (drun s pre).pos ≤ 4 * pre.length := by have := run_pos s pre ⟨0, fun _ => 0⟩; simpa [drun] using this
theorem drun_all (s : ByteArray) (h : 20 ≤ s.size) : drun s fAll = ⟨20, rdF s⟩ := by
  have hp : (drun s fAll).pos = 20 := rfl
  have hv : (drun s fAll).V = rdF s := by
    have g : ∀ i : Fin 10, getV s ((nOff i : Nat) : Int) ((nSz i : Nat) : Int) = rdF s i := fun i => by
      obtain ⟨b1, b2, b3, b4⟩ := nOff_bd i
      unfold getV rdF rdV
      rw [if_pos ⟨by omega, by omega, by omega, by omega⟩]
      simp
    funext i
    obtain rfl | rfl | rfl | rfl | rfl | rfl | rfl | rfl | rfl | rfl := fin10 i
    · exact g 0
    · exact g 1
    · exact g 2
    · exact g 3
    · exact g 4
    · exact g 5
    · exact g 6
    · exact g 7
    · exact g 8
    · exact g 9
  cases hd : drun s fAll with
  | mk a b => rw [hd] at hp hv; simp only at hp hv; rw [hp, hv]

/-- a number's place in the decoder -/
theorem cell_at {W : World} {D pos : Nat} {s : ByteArray} {V : Fin 10 → Int} (h : W.heap[D]? = some (.cells (dcs s pos V) 132 (0, 0))) (x : Fin 10) : W.cell? (fAt D 2 x) = some (.int .i64 (V x)) ∧ W.frozen? (fAt D 2 x) = false := by
  obtain rfl | rfl | rfl | rfl | rfl | rfl | rfl | rfl | rfl | rfl := fin10 x
  · exact blk_cell (k := 11) h rfl
  · exact blk_cell (k := 2) h rfl
  · exact blk_cell (k := 3) h rfl
  · exact blk_cell (k := 4) h rfl
  · exact blk_cell (k := 5) h rfl
  · exact blk_cell (k := 6) h rfl
  · exact blk_cell (k := 12) h rfl
  · exact blk_cell (k := 13) h rfl
  · exact blk_cell (k := 14) h rfl
  · exact blk_cell (k := 15) h rfl
/-- reading one number: the position, then the number -/
theorem store_at {W : World} {D pos : Nat} {s : ByteArray} {V : Fin 10 → Int} (h : W.heap[D]? = some (.cells (dcs s pos V) 132 (0, 0))) (x : Fin 10) (p : Nat) (n : Int) :
    ((W.setCell ⟨D, 1, none⟩ (.int .i64 (p : Int))).setCell (fAt D 2 x) (.int .i64 n)).heap[D]? = some (.cells (dcs s p (setV V x n)) 132 (0, 0)) := by
  have h1 := blk_setc (k := 1) h (.int .i64 (p : Int))
  obtain rfl | rfl | rfl | rfl | rfl | rfl | rfl | rfl | rfl | rfl := fin10 x
  · exact blk_setc (k := 11) h1 _
  · exact blk_setc (k := 2) h1 _
  · exact blk_setc (k := 3) h1 _
  · exact blk_setc (k := 4) h1 _
  · exact blk_setc (k := 5) h1 _
  · exact blk_setc (k := 6) h1 _
  · exact blk_setc (k := 12) h1 _
  · exact blk_setc (k := 13) h1 _
  · exact blk_setc (k := 14) h1 _
  · exact blk_setc (k := 15) h1 _

theorem grown_set (w : World) (a : Addr) (u : Value) : w.grownBy (w.setCell a u) (some a.block) :=
  ⟨rfl, rfl, rfl, by simp, fun k _ hk => Below.heap_setCell w a u k (fun e => hk (by rw [e]))⟩
theorem grown_below {w w' : World} (hb : Below w.heap.size w w') (row : Option Nat) : w.grownBy w' row := ⟨hb.os, hb.tape, hb.output, hb.size, fun k hk _ => hb.block k hk⟩
theorem ownFrom_grown {β : Type} {w0 : World} {R B : Nat} (hB : w0.heap.size ≤ B) : OwnFrom B (fun (_ : β) W => w0.grownBy W (some R)) := fun _ _ _ _ hs hg hr => hs.andThen hg (fun j e => .inl (Nat.le_trans hB (hr j e).1))
theorem grown_drew {w W : World} {row : Option Nat} (h : w.grownBy W row) : w.grownBy W.drew row := ⟨h.os, h.tape, h.output, h.size, h.block⟩

/-! what is read -/
def dfOf (f : Int) : Bool := bits .and .i64 f 1 != 0
def mfOf (f : Int) : Bool := bits .and .i64 f 2 != 0
/-- the datagram that a text begins with, if it does -/
def mkP (s : ByteArray) : Pk := ⟨rdF s 1, rdF s 2, rdF s 3, rdF s 4, rdF s 5, dfOf (rdF s 6), mfOf (rdF s 6), rdF s 7 * 8, s.extract 20 s.size⟩
def decK (s : ByteArray) : Prop := rdF s 0 = 4 ∧ rdF s 6 ≤ 3
def decS (s : ByteArray) : Prop := rdF s 9 = ((ckF (mkP s) (rdF s 0) (rdF s 6) (rdF s 7) (rdF s 8) : Nat) : Int)
def decOk (s : ByteArray) : Prop := 20 ≤ s.size ∧ decK s ∧ decS s ∧ okW (mkP s) (rdF s 8)
instance (s : ByteArray) : Decidable (decK s) := by unfold decK; infer_instance
instance (s : ByteArray) : Decidable (decS s) := by unfold decS; infer_instance
instance (s : ByteArray) : Decidable (decOk s) := by unfold decOk; infer_instance
/-- the decoder in memory behind the reading -/
abbrev dfin (s : ByteArray) : Obj := .cells #[.string s, .int .i64 20, .int .i64 (mkP s).fr, .int .i64 (mkP s).to, .int .i64 (mkP s).pr, .int .i64 (mkP s).tt, .int .i64 (mkP s).id, .bool (mkP s).df, .bool (mkP s).mf, .int .i64 (mkP s).off, .string (mkP s).s, .int .i64 (rdF s 0), .int .i64 (rdF s 6), .int .i64 (rdF s 7), .int .i64 (rdF s 8), .int .i64 (rdF s 9)] 132
/-- the decoder behind the flags -/
abbrev dmid (s : ByteArray) : Obj := .cells #[.string s, .int .i64 20, .int .i64 (rdF s 1), .int .i64 (rdF s 2), .int .i64 (rdF s 3), .int .i64 (rdF s 4), .int .i64 (rdF s 5), .bool (dfOf (rdF s 6)), .bool (mfOf (rdF s 6)), .int .i64 0, .string ⟨#[]⟩, .int .i64 (rdF s 0), .int .i64 (rdF s 6), .int .i64 (rdF s 7), .int .i64 (rdF s 8), .int .i64 (rdF s 9)] 132
abbrev dob (s : ByteArray) (P : Pk) (v f u l c : Int) : Obj := .cells #[.string s, .int .i64 20, .int .i64 P.fr, .int .i64 P.to, .int .i64 P.pr, .int .i64 P.tt, .int .i64 P.id, .bool P.df, .bool P.mf, .int .i64 P.off, .string P.s, .int .i64 v, .int .i64 f, .int .i64 u, .int .i64 l, .int .i64 c] 132
theorem validW_below (p : Pk) (n : Int) (hn : -4611686018427387904 ≤ n) (hn2 : n ≤ 9223372036854775807) (w : World) :
    Calls Tryd.prog 81 #[pv p, .int .i64 n] w fun e w' => e = .returned (.bool (decide (okW p n))) ∧ Below w.heap.size w w' :=
  (validW_any p n hn hn2 w).mono fun _ _ ⟨h1, h2⟩ => ⟨h1, by rw [h2]; exact (Below.refl _ w).alloc (Nat.le_refl _) _⟩
end Go.Proofs.YtidjbpglpobigaaDoor
