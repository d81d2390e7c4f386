/- Layer 12 (linear): the ends of a domain, in memory. Layer 10 (trail): lists of domains, and of acts, that came -/
import Derived.Test.YtoegbgkgenjplaaSt
import Derived.Test.YtoegbgkgenjplaaSe
import Derived.Test.YtoegbgkgenjplaaEx
set_option linter.unusedVariables false
set_option linter.unusedSimpArgs false
section
namespace Go.Proofs.Ytoegbgkgenjplaa.Ev
open Go.RowKit
open Go.Proofs.Ytoegbgkgenjplaa.Dig Go.Proofs.Ytoegbgkgenjplaa.Lx Go.Proofs.Ytoegbgkgenjplaa.Tk Go.Proofs.Ytoegbgkgenjplaa.Ti Go.Proofs.Ytoegbgkgenjplaa.Zs Go.Proofs.Ytoegbgkgenjplaa.Tr Go.Proofs.Ytoegbgkgenjplaa.Sn Go.Proofs.Ytoegbgkgenjplaa.Ln
theorem dom_ends {W : World} {g n c : Nat} {E : Ln.Ds} (h : Sl 1 QD W (.slice (some ⟨g, 0, none⟩) n c) E) {x dl : Nat} (hx : x < E.length) (hdl : E[x].length = dl + 1) :
    ∃ gb ob cd, W.cell? ⟨g, x, none⟩ = some (.slice (some ⟨gb, ob, none⟩) (dl + 1) cd) ∧ W.cell? ⟨gb, ob, none⟩ = some (.int .i64 (lo E[x])) ∧ W.cell? ⟨gb, ob + dl * 2 + 1, none⟩ = some (.int .i64 (hi E[x])) := by
  obtain ⟨b, o, B, d, hO, hS, e0⟩ := elD h hx
  injection hO with hO
  injection hO with h1 h2 _
  subst h1 h2
  obtain ⟨gb, ob, rfl, e1, -⟩ := elR hS (i := 0) (by omega)
  obtain ⟨gb', ob', hB, -, e2⟩ := elR hS (i := dl) (by omega)
  injection hB with hB
  injection hB with h3 h4 _
  subst h3 h4
  rw [hdl, Nat.zero_add] at e0
  refine ⟨gb, ob, d, e0, ?_, ?_⟩
  · have e : lo E[x] = (E[x][0]'(by omega)).1 := by unfold lo; simp [List.getD, show 0 < E[x].length by omega]
    rw [e]; simpa using e1
  · have e : hi E[x] = (E[x][dl]'(by omega)).2 := by
      have e9 : E[x].length - 1 = dl := by omega
      unfold hi; rw [e9]; simp [List.getD, show dl < E[x].length by omega]
    rw [e]; exact e2
end Go.Proofs.Ytoegbgkgenjplaa.Ev
end
section
namespace Go.Proofs.Ytoegbgkgenjplaa.Tr
open Go.RowKit Go.ChangeShapes Go.WideShapes Go.Deep
open Go.Proofs.Ytoegbgkgenjplaa.Dig Go.Proofs.Ytoegbgkgenjplaa.Tk Go.Proofs.Ytoegbgkgenjplaa.Ti Go.Proofs.Ytoegbgkgenjplaa.Zs
section
variable {H : Type} {enc : TypeId × Value → H} {P : Program} {w : World} {base : Nat} {spare : Nat → Bool} {held : Bool}
/-- the slice came in and reads as domains -/
def DomsIn (w : World) (a : Option Addr) (len cap : Nat) (l : Ds) : Prop := l.length = len ∧ Sl 1 QD w (.slice a len cap) l ∧ (∀ d ∈ l, Bd d ∧ d.length ≤ maxLen) ∧ l.length ≤ maxLen
theorem doms_in {t e1 e2 : TypeId} {f0 f1 : Field} {fuel : Nat} {a : Option Addr} {len cap : Nat} {x : DataW H × List MemPlace} (ht : P.underlying t = some (.slice e1)) (hC1 : P.cellsOf e1 = 1) (h1 : P.underlying e1 = some (.slice e2)) (he : P.underlying e2 = some (.struct #[f0, f1])) (hC : P.cellsOf e2 = 2)
    (o0 : f0.offset = 0) (o1 : f1.offset = 1) (c0 : P.cellsOf f0.type = 1) (c1 : P.cellsOf f1.type = 1) (t0 : P.underlying f0.type = some (.int .i64)) (t1 : P.underlying f1.type = some (.int .i64))
    (h : DataW.trod enc P w base spare held fuel t [.slice a len cap] = some x) : ∃ l, DomsIn w a len cap l := by
  obtain ⟨l, q1, q2, q3, q4⟩ := slice_in ([] : List Rn) (by decide) QD (fun z => Bd z ∧ z.length ≤ maxLen) ht hC1 (fun n cs y hl hd => by
    match cs, hl with
    | [v], _ =>
      obtain ⟨a', len', cap', e⟩ := Go.Joins.slice_form h1 hd
      injection e with e
      subst e
      obtain ⟨l, r1, r2, r3, r4⟩ := ranges_in h1 he hC o0 o1 c0 c1 t0 t1 hd
      subst r1
      exact ⟨l, ⟨_, rfl, r2⟩, r3, r4⟩) h
  exact ⟨l, q1, q2, q3, q4⟩
end
end Go.Proofs.Ytoegbgkgenjplaa.Tr
end
section
namespace Go.Proofs.Ytoegbgkgenjplaa.Sn
open Go.RowKit Go.ChangeShapes Go.WideShapes Go.Deep
open Go.Proofs.Ytoegbgkgenjplaa.Dig Go.Proofs.Ytoegbgkgenjplaa.Tk Go.Proofs.Ytoegbgkgenjplaa.Ti Go.Proofs.Ytoegbgkgenjplaa.Zs Go.Proofs.Ytoegbgkgenjplaa.Tr
section
variable {H : Type} {enc : TypeId × Value → H} {P : Program} {w : World} {base : Nat} {spare : Nat → Bool} {held : Bool}
/-- the slice came in and reads as integers -/
def IntsIn (w : World) (a : Option Addr) (len cap : Nat) (l : List Int) : Prop := l.length = len ∧ Sl 1 QI w (.slice a len cap) l ∧ BdI l ∧ l.length ≤ maxLen
theorem ints_in {t e : TypeId} {fuel : Nat} {a : Option Addr} {len cap : Nat} {x : DataW H × List MemPlace} (ht : P.underlying t = some (.slice e)) (he : P.underlying e = some (.int .i64)) (hC : P.cellsOf e = 1)
    (h : DataW.trod enc P w base spare held fuel t [.slice a len cap] = some x) : ∃ l, IntsIn w a len cap l := by
  obtain ⟨l, h1, h2, h3, h4⟩ := slice_in (0 : Int) (by decide) QI (fun z => Lx.fits z) ht hC (fun n cs y hl hd => by
    match cs, hl with
    | [v], _ =>
      obtain ⟨z, e, -, q⟩ := DataW.trod_int he hd
      injection e with e
      subst e
      exact ⟨z, rfl, wf_fits q⟩) h
  exact ⟨l, h1, h2, h3, h4⟩
/-- the types of a constraint -/
structure CT (P : Program) (e : TypeId) (g0 g1 g2 g3 : Field) (tx ta : TypeId) : Prop where
  he : P.underlying e = some (.struct #[g0, g1, g2, g3])
  go : g0.offset = 0 ∧ g1.offset = 1 ∧ g2.offset = 2 ∧ g3.offset = 3
  gc : P.cellsOf g0.type = 1 ∧ P.cellsOf g1.type = 1 ∧ P.cellsOf g2.type = 1 ∧ P.cellsOf g3.type = 1
  t0 : P.underlying g0.type = some (.int .i64)
  t1 : P.underlying g1.type = some (.slice tx)
  t2 : P.underlying g2.type = some (.slice ta)
  t3 : P.underlying g3.type = some (.int .i64)
  hx : P.underlying tx = some (.int .i64)
  cx : P.cellsOf tx = 1
  ha : P.underlying ta = some (.int .i64)
  ca : P.cellsOf ta = 1
def BdC' (c : Cn) : Prop := BdC c ∧ c.x.length ≤ maxLen ∧ c.a.length ≤ maxLen
theorem con_cells {e : TypeId} {g0 g1 g2 g3 : Field} {tx ta : TypeId} (T : CT P e g0 g1 g2 g3 tx ta) (n : Nat) (cs : List Value) (y : DataW H × List MemPlace) (hl : cs.length = 4) (hd : DataW.trod enc P w base spare held n e cs = some y) : ∃ z, QC w z cs ∧ BdC' z := by
  obtain ⟨ys, n', -, -, -, hyl, hf⟩ := DataW.trod_struct T.he hd
  match cs, hl with
  | [v0, v1, v2, v3], _ =>
    have k0 := hf 0 g0 rfl
    have k1 := hf 1 g1 rfl
    have k2 := hf 2 g2 rfl
    have k3 := hf 3 g3 rfl
    rw [T.go.1, T.gc.1] at k0
    rw [T.go.2.1, T.gc.2.1] at k1
    rw [T.go.2.2.1, T.gc.2.2.1] at k2
    rw [T.go.2.2.2, T.gc.2.2.2] at k3
    simp only [List.drop_zero, List.drop_succ_cons, List.take_succ_cons, List.take_zero] at k0 k1 k2 k3
    have hys : ys.length = 4 := hyl
    match ys, hys with
    | [y0, y1, y2, y3], _ =>
      obtain ⟨n0, e0, -, q0⟩ := DataW.trod_int T.t0 (show _ = some y0 from k0)
      obtain ⟨n3, e3, -, q3⟩ := DataW.trod_int T.t3 (show _ = some y3 from k3)
      obtain ⟨a1, l1, c1, e1⟩ := Go.Joins.slice_form T.t1 (show _ = some y1 from k1)
      obtain ⟨a2, l2, c2, e2⟩ := Go.Joins.slice_form T.t2 (show _ = some y2 from k2)
      injection e0 with e0; injection e1 with e1; injection e2 with e2; injection e3 with e3
      subst e0 e1 e2 e3
      obtain ⟨xs, r1, r2, r3, r4⟩ := ints_in T.t1 T.hx T.cx (show _ = some y1 from k1)
      obtain ⟨es, s1, s2, s3, s4⟩ := ints_in T.t2 T.ha T.ca (show _ = some y2 from k2)
      exact ⟨⟨n0, xs, es, n3⟩, ⟨_, _, rfl, r2, s2⟩, ⟨wf_fits q0, r3, s3, wf_fits q3⟩, r4, s4⟩
/-- the constraint came in, by value -/
def ConIn (w : World) (k : Int) (X : Option Addr) (n xc : Nat) (Y : Option Addr) (m yc : Nat) (e : Int) (c : Cn) : Prop := ConAt w (.agg #[.int .i64 k, .slice X n xc, .slice Y m yc, .int .i64 e]) c ∧ BdC' c
theorem con_in {r : Reach} {b0 : Nat} {v : Value} {d : DataW H} {p : List MemPlace} {e : TypeId} {g0 g1 g2 g3 : Field} {tx ta : TypeId} (T : CT P e g0 g1 g2 g3 tx ta) (hC : P.cellsOf e = 4)
    (hv : Value.okWide P w r b0 e v) (h : DataW.Trod enc P w base spare held e v d p) : ∃ (k : Int) (X : Option Addr) (n xc : Nat) (Y : Option Addr) (m yc : Nat) (q : Int), v = .agg #[.int .i64 k, .slice X n xc, .slice Y m yc, .int .i64 q] ∧ ∃ c, ConIn w k X n xc Y m yc q c := by
  simp only [Value.okWide, T.he] at hv
  obtain ⟨cs, rfl, h2, -⟩ := hv
  obtain ⟨fuel, hf⟩ := h
  obtain ⟨l⟩ := cs
  have hl : l.length = 4 := by have := h2; rw [hC] at this; simpa using this
  obtain ⟨z, ⟨vx, va, e1, e2, e3⟩, e4⟩ := con_cells T fuel l _ hl hf
  obtain ⟨X, xc, rfl⟩ := e2.form
  obtain ⟨Y, yc, rfl⟩ := e3.form
  subst e1
  exact ⟨z.k, X, z.x.length, xc, Y, z.a.length, yc, z.c, rfl, z, ⟨_, _, rfl, e2, e3⟩, e4⟩
end
end Go.Proofs.Ytoegbgkgenjplaa.Sn
end
