/- Interfaces and routes as plain values, rows of them in memory; what the functions of route answer. No walk here. -/
import Derived.Test.YtgfcpimklmgnbaaCont
namespace Go.Proofs.Ytgfcpimklmgnbaa
open Go.RowKit
set_option linter.unusedVariables false

/-- an interface -/
structure Fc where
  mac : Int
  addr : Int
  na : Int
  nb : Int
  mtu : Int
/-- a route -/
structure Ro where
  na : Int
  nb : Int
  via : Int
  face : Int
abbrev fcl (f : Fc) : List Value := [.int .i64 f.mac, .int .i64 f.addr, .int .i64 f.na, .int .i64 f.nb, .int .i64 f.mtu]
abbrev fv (f : Fc) : Value := .agg #[.int .i64 f.mac, .int .i64 f.addr, .int .i64 f.na, .int .i64 f.nb, .int .i64 f.mtu]
abbrev fo (f : Fc) : Obj := .cells #[.int .i64 f.mac, .int .i64 f.addr, .int .i64 f.na, .int .i64 f.nb, .int .i64 f.mtu] 27
abbrev rcl (r : Ro) : List Value := [.int .i64 r.na, .int .i64 r.nb, .int .i64 r.via, .int .i64 r.face]
abbrev rv (r : Ro) : Value := .agg #[.int .i64 r.na, .int .i64 r.nb, .int .i64 r.via, .int .i64 r.face]
abbrev ro (r : Ro) : Obj := .cells #[.int .i64 r.na, .int .i64 r.nb, .int .i64 r.via, .int .i64 r.face] 29
def InI (a : Int) : Prop := -9223372036854775808 ≤ a ∧ a ≤ 9223372036854775807
def InF (f : Fc) : Prop := InI f.mac ∧ InI f.addr ∧ InI f.na ∧ InI f.nb ∧ InI f.mtu
def InR (r : Ro) : Prop := InI r.na ∧ InI r.nb ∧ InI r.via ∧ InI r.face

/-- v is a slice over the interfaces fs -/
def FsAt (w : World) (v : Value) (fs : List Fc) : Prop :=
  fs.length ≤ 1000 ∧ ∃ p c, v = .slice p fs.length c ∧ ∀ k (h : k < fs.length), InF fs[k] ∧ ∃ g, p = some ⟨g, 0, none⟩ ∧ ∀ j, j < 5 → w.cell? ⟨g, k * 5 + j, none⟩ = (fcl fs[k])[j]?
def RsAt (w : World) (v : Value) (rs : List Ro) : Prop :=
  rs.length ≤ 1000 ∧ ∃ p c, v = .slice p rs.length c ∧ ∀ k (h : k < rs.length), InR rs[k] ∧ ∃ g, p = some ⟨g, 0, none⟩ ∧ ∀ j, j < 4 → w.cell? ⟨g, k * 4 + j, none⟩ = (rcl rs[k])[j]?
theorem FsAt.keep {w w' : World} {v : Value} {fs : List Fc} (h : FsAt w v fs) (hb : Below w.heap.size w w') : FsAt w' v fs := by
  obtain ⟨h0, p, c, rfl, h1⟩ := h
  refine ⟨h0, p, c, rfl, fun k hk => ?_⟩
  obtain ⟨h2, g, h3, h4⟩ := h1 k hk
  refine ⟨h2, g, h3, fun j hj => ?_⟩
  have h5 := h4 j hj
  rw [List.getElem?_eq_getElem (by simpa using hj)] at h5 ⊢
  exact (hb.cell (World.block_lt_of_cell? _ _ h5)).trans h5
theorem RsAt.keep {w w' : World} {v : Value} {rs : List Ro} (h : RsAt w v rs) (hb : Below w.heap.size w w') : RsAt w' v rs := by
  obtain ⟨h0, p, c, rfl, h1⟩ := h
  refine ⟨h0, p, c, rfl, fun k hk => ?_⟩
  obtain ⟨h2, g, h3, h4⟩ := h1 k hk
  refine ⟨h2, g, h3, fun j hj => ?_⟩
  have h5 := h4 j hj
  rw [List.getElem?_eq_getElem (by simpa using hj)] at h5 ⊢
  exact (hb.cell (World.block_lt_of_cell? _ _ h5)).trans h5
theorem FsAt.nil (w : World) (p : Option Addr) (c : Nat) : FsAt w (.slice p 0 c) [] := ⟨by simp, p, c, rfl, fun k hk => by simp at hk⟩
theorem RsAt.nil (w : World) (p : Option Addr) (c : Nat) : RsAt w (.slice p 0 c) [] := ⟨by simp, p, c, rfl, fun k hk => by simp at hk⟩
/-- what lies at one place of the row -/
theorem FsAt.at {w : World} {p : Option Addr} {n c : Nat} {fs : List Fc} (h : FsAt w (.slice p n c) fs) (k : Nat) (hk : k < n) :
    ∃ f, fs[k]? = some f ∧ InF f ∧ ∃ g, p = some ⟨g, 0, none⟩ ∧ g < w.heap.size ∧ w.cell? ⟨g, k * 5, none⟩ = some (.int .i64 f.mac) ∧ w.cell? ⟨g, k * 5 + 1, none⟩ = some (.int .i64 f.addr) ∧ w.cell? ⟨g, k * 5 + 2, none⟩ = some (.int .i64 f.na) ∧ w.cell? ⟨g, k * 5 + 3, none⟩ = some (.int .i64 f.nb) ∧ w.cell? ⟨g, k * 5 + 4, none⟩ = some (.int .i64 f.mtu) := by
  obtain ⟨h0, p', c', he, h1⟩ := h
  cases he
  obtain ⟨h2, g, h3, h4⟩ := h1 k hk
  exact ⟨fs[k], List.getElem?_eq_getElem hk, h2, g, h3, World.block_lt_of_cell? _ _ (h4 0 (by decide)), h4 0 (by decide), h4 1 (by decide), h4 2 (by decide), h4 3 (by decide), h4 4 (by decide)⟩
theorem RsAt.at {w : World} {p : Option Addr} {n c : Nat} {rs : List Ro} (h : RsAt w (.slice p n c) rs) (k : Nat) (hk : k < n) :
    ∃ r, rs[k]? = some r ∧ InR r ∧ ∃ g, p = some ⟨g, 0, none⟩ ∧ g < w.heap.size ∧ w.cell? ⟨g, k * 4, none⟩ = some (.int .i64 r.na) ∧ w.cell? ⟨g, k * 4 + 1, none⟩ = some (.int .i64 r.nb) ∧ w.cell? ⟨g, k * 4 + 2, none⟩ = some (.int .i64 r.via) ∧ w.cell? ⟨g, k * 4 + 3, none⟩ = some (.int .i64 r.face) := by
  obtain ⟨h0, p', c', he, h1⟩ := h
  cases he
  obtain ⟨h2, g, h3, h4⟩ := h1 k hk
  exact ⟨rs[k], List.getElem?_eq_getElem hk, h2, g, h3, World.block_lt_of_cell? _ _ (h4 0 (by decide)), h4 0 (by decide), h4 1 (by decide), h4 2 (by decide), h4 3 (by decide)⟩
theorem FsAt.form {w : World} {v : Value} {fs : List Fc} (h : FsAt w v fs) : ∃ p c, v = .slice p fs.length c ∧ fs.length ≤ 1000 := by
  obtain ⟨h0, p, c, e, -⟩ := h; exact ⟨p, c, e, h0⟩
theorem RsAt.form {w : World} {v : Value} {rs : List Ro} (h : RsAt w v rs) : ∃ p c, v = .slice p rs.length c ∧ rs.length ≤ 1000 := by
  obtain ⟨h0, p, c, e, -⟩ := h; exact ⟨p, c, e, h0⟩

/-- the first interface with that address -/
def locN (fs : List Fc) (a : Int) : Option Nat := fs.findIdx? (fun f => f.addr == a)
def locI (fs : List Fc) (a : Int) : Int := match locN fs a with | some i => (i : Int) | none => 0
def locB (fs : List Fc) (a : Int) : Bool := (locN fs a).isSome
theorem locN_none {fs : List Fc} {a : Int} (h : ∀ (i : Nat) (f : Fc), fs[i]? = some f → f.addr ≠ a) : locN fs a = none := by
  unfold locN
  rw [List.findIdx?_eq_none_iff]
  intro x hx
  obtain ⟨i, hi⟩ := List.getElem?_of_mem hx
  simpa using h i x hi
theorem locN_some {fs : List Fc} {a : Int} {k : Nat} {f : Fc} (hk : fs[k]? = some f) (hf : f.addr = a) (h : ∀ (i : Nat) (f : Fc), i < k → fs[i]? = some f → f.addr ≠ a) : locN fs a = some k := by
  unfold locN
  rw [List.findIdx?_eq_some_iff_getElem]
  obtain ⟨hl, he⟩ := List.getElem?_eq_some_iff.1 hk
  refine ⟨hl, by rw [he]; simpa using hf, fun j hj => ?_⟩
  have := h j fs[j] hj (List.getElem?_eq_getElem (by omega))
  simpa using this
theorem locN_le {fs : List Fc} {a : Int} {k : Nat} {f : Fc} (hk : fs[k]? = some f) (hf : f.addr = a) : ∃ i, locN fs a = some i ∧ i ≤ k := by
  unfold locN
  cases h : fs.findIdx? (fun f => f.addr == a) with
  | none =>
    rw [List.findIdx?_eq_none_iff] at h
    have := h f (List.mem_of_getElem? hk)
    simp [hf] at this
  | some i =>
    refine ⟨i, rfl, ?_⟩
    rw [List.findIdx?_eq_some_iff_getElem] at h
    obtain ⟨hl, he⟩ := List.getElem?_eq_some_iff.1 hk
    rcases Nat.lt_or_ge k i with hlt | hge
    · have := h.2.2 k hlt
      rw [he] at this
      simp [hf] at this
    · exact hge

def uni (a : Int) : Bool := decide (1 ≤ a) && decide (a ≤ 4294967294)
def okF (f : Fc) : Bool := (decide (1 ≤ f.mac) && decide (f.mac ≤ 65534)) && (uni f.addr && (contZ f.na f.nb f.addr && (decide (68 ≤ f.mtu) && decide (f.mtu ≤ 1024))))
/-- what the interface at that place has for a network -/
def netOf (fs : List Fc) (i : Int) : Int × Int := match fs[i.toNat]? with | some f => (f.na, f.nb) | none => (0, 0)
def okVia (fs : List Fc) (r : Ro) : Bool := (r.via == 0) || (uni r.via && (contZ (netOf fs r.face).1 (netOf fs r.face).2 r.via && !(locB fs r.via)))
def okR (fs : List Fc) (r : Ro) : Bool := (vpZ r.na r.nb && (decide (0 ≤ r.face) && decide (r.face < (fs.length : Int)))) && okVia fs r
def okFs (fs : List Fc) : Bool := fs.zipIdx.all fun x => okF x.1 && (locI fs x.1.addr == (x.2 : Int))
theorem okFs_iff {fs : List Fc} : okFs fs = true ↔ ∀ (i : Nat) (f : Fc), fs[i]? = some f → okF f = true ∧ locI fs f.addr = (i : Int) := by
  unfold okFs
  rw [List.all_eq_true]
  constructor
  · intro h i f hf
    have := h (f, i) (by rw [List.mem_zipIdx_iff_getElem?]; exact hf)
    simpa using this
  · rintro h ⟨f, i⟩ hx
    rw [List.mem_zipIdx_iff_getElem?] at hx
    simpa using h i f hx
theorem okRs_iff {fs : List Fc} {rs : List Ro} : rs.all (okR fs) = true ↔ ∀ (i : Nat) (r : Ro), rs[i]? = some r → okR fs r = true := by
  rw [List.all_eq_true]
  constructor
  · intro h i r hr; exact h r (List.mem_of_getElem? hr)
  · intro h r hr; obtain ⟨i, hi⟩ := List.getElem?_of_mem hr; exact h i r hi
def checkP (fs : List Fc) (rs : List Ro) : Bool := (decide (1 ≤ fs.length) && decide (fs.length ≤ 4)) && (decide (rs.length ≤ 16) && (okFs fs && rs.all (okR fs)))

/-- the candidates, in the order of the text -/
def faceC (x : Fc × Nat) : Ro := ⟨x.1.na, x.1.nb, 0, (x.2 : Int)⟩
def candF (fs : List Fc) (to : Int) (k : Nat) : List Ro := (((fs.zipIdx.take k).filter fun x => contZ x.1.na x.1.nb to).map faceC)
def candR (rs : List Ro) (to : Int) (k : Nat) : List Ro := (rs.take k).filter fun r => contZ r.na r.nb to
def candL (fs : List Fc) (rs : List Ro) (to : Int) : List Ro := candF fs to fs.length ++ candR rs to rs.length
def stepC (t : Option Ro) (v : Ro) : Option Ro := match t with | none => some v | some c => if c.nb < v.nb then some v else some c
def bestC (l : List Ro) : Option Ro := l.foldl stepC none
theorem bestC_snoc (l : List Ro) (v : Ro) : bestC (l ++ [v]) = stepC (bestC l) v := by simp [bestC]
theorem candF_succ {fs : List Fc} {k : Nat} {f : Fc} (h : fs[k]? = some f) (to : Int) : candF fs to (k + 1) = candF fs to k ++ (if contZ f.na f.nb to then [⟨f.na, f.nb, 0, (k : Int)⟩] else []) := by
  unfold candF
  have : (fs.zipIdx)[k]? = some (f, k) := by rw [List.getElem?_zipIdx, h]; simp
  rw [List.take_add_one, this, List.filter_append, List.map_append]
  simp only [Option.toList_some, List.filter_cons, List.filter_nil]
  split <;> simp [faceC]
theorem candR_succ {rs : List Ro} {k : Nat} {r : Ro} (h : rs[k]? = some r) (to : Int) : candR rs to (k + 1) = candR rs to k ++ (if contZ r.na r.nb to then [r] else []) := by
  unfold candR
  rw [List.take_add_one, h, List.filter_append]
  simp only [Option.toList_some, List.filter_cons, List.filter_nil]
/-- what Lookup answers -/
def lookP (fs : List Fc) (rs : List Ro) (to : Int) : Int × Int × Int :=
  if checkP fs rs then (if uni to then (match bestC (candL fs rs to) with | none => (0, 0, 91) | some c => (c.face, (if c.via = 0 then to else c.via), 0)) else (0, 0, 90)) else (0, 0, 90)
def lookV (fs : List Fc) (rs : List Ro) (to : Int) : Value := .tuple #[.int .i64 (lookP fs rs to).1, .int .i64 (lookP fs rs to).2.1, .int .i64 (lookP fs rs to).2.2]
end Go.Proofs.Ytgfcpimklmgnbaa
