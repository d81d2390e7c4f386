/- Layer 11 (sense): a constraint with its values beside it: the landed hasSum, last, flag, others, sum, someLite -/
import Derived.Test.YtoegbgkgenjplaaUc
import Derived.Test.YtoegbgkgenjplaaUm
set_option linter.unusedVariables false
set_option linter.unusedSimpArgs false
section
namespace Go.Proofs.Ytoegbgkgenjplaa.Sn
open Go.RowKit
open Go.Proofs.Ytoegbgkgenjplaa.Dig Go.Proofs.Ytoegbgkgenjplaa.Lx Go.Proofs.Ytoegbgkgenjplaa.Tk Go.Proofs.Ytoegbgkgenjplaa.Ti Go.Proofs.Ytoegbgkgenjplaa.Zs Go.Proofs.Ytoegbgkgenjplaa.Tr
/-- a constraint with its values, by value -/
def PlAt (w : World) (u : Value) (k : Int) (x a : List Int) (c : Int) (v : List Int) : Prop :=
  ∃ X xc Y yc V vc, u = .agg #[.int .i64 k, .slice X x.length xc, .slice Y a.length yc, .int .i64 c, .slice V v.length vc] ∧ Sl 1 QI w (.slice X x.length xc) x ∧ Sl 1 QI w (.slice Y a.length yc) a ∧ Sl 1 QI w (.slice V v.length vc) v
theorem PlAt.since {w w' : World} {u : Value} {k : Int} {x a : List Int} {c : Int} {v : List Int} (h : PlAt w u k x a c v) (s : Since w w') : PlAt w' u k x a c v := by
  obtain ⟨X, xc, Y, yc, V, vc, h1, h2, h3, h4⟩ := h
  exact ⟨X, xc, Y, yc, V, vc, h1, h2.since stI s, h3.since stI s, h4.since stI s⟩
theorem wrap_id' {x : Int} (h1 : -9223372036854775808 ≤ x) (h2 : x ≤ 9223372036854775807) : IntKind.i64.wrap x = x := by simp [IntKind.wrap, IntKind.bits, IntKind.signed]; omega
theorem zip_at {a v : List Int} {k : Nat} (ha : k < a.length) (hv : k < v.length) : (a.zip v).drop k = (a[k], v[k]) :: (a.zip v).drop (k + 1) := by
  have h : k < (a.zip v).length := by rw [List.length_zip]; omega
  rw [List.drop_eq_getElem_cons h, List.getElem_zip]
end Go.Proofs.Ytoegbgkgenjplaa.Sn
end
section
namespace Go.Proofs.Ytoegbgkgenjplaa.Sn
open Go.RowKit
open Go.Proofs.Ytoegbgkgenjplaa.Dig Go.Proofs.Ytoegbgkgenjplaa.Lx Go.Proofs.Ytoegbgkgenjplaa.Tk Go.Proofs.Ytoegbgkgenjplaa.Ti Go.Proofs.Ytoegbgkgenjplaa.Zs Go.Proofs.Ytoegbgkgenjplaa.Tr
theorem bx4' {W : World} {g : Nat} {z0 z1 z2 z3 : Value} {t : TypeId} (h : Bx W g #[z0, z1, z2, z3] t) : W.frozen? ⟨g, 0, none⟩ = false ∧ W.frozen? ⟨g, 1, none⟩ = false ∧ W.frozen? ⟨g, 2, none⟩ = false ∧ W.frozen? ⟨g, 3, none⟩ = false := ⟨h.no 0, h.no 1, h.no 2, h.no 3⟩
/-- one constraint in a new block -/
theorem con_lit (W : World) (c : Cn) (X Y : Value) (hx : Sl 1 QI W X c.x) (ha : Sl 1 QI W Y c.a) : Sl 4 QC (W.alloc (.cells #[.int .i64 c.k, X, Y, .int .i64 c.c] 25)) (.slice (some ⟨W.heap.size, 0, none⟩) 1 1) [c] := by
  have hb := Bx.fresh W #[.int .i64 c.k, X, Y, .int .i64 c.c] 25
  have ks := since_alloc W (.cells #[.int .i64 c.k, X, Y, .int .i64 c.c] 25)
  refine ⟨some ⟨W.heap.size, 0, none⟩, 1, rfl, Nat.le_refl _, fun _ => ⟨W.heap.size, 0, rfl, fun i x hi => ?_⟩⟩
  match i, hi with
  | 0, hi =>
    cases hi
    refine ⟨_, ⟨X, Y, rfl, hx.since stI ks, ha.since stI ks⟩, rfl, fun j y hy => ?_⟩
    match j, hy with
    | 0, hy => cases hy; exact hb.cell 0
    | 1, hy => cases hy; exact hb.cell 1
    | 2, hy => cases hy; exact hb.cell 2
    | 3, hy => cases hy; exact hb.cell 3
    | j + 4, hy => simp at hy
  | i + 1, hi => simp at hi
theorem two_new (W : World) (y : Int) {g : Nat} (hg : W.heap.size = g) : ((W.alloc (.cells #[.int .i64 y, .int .i64 y] 49)).alloc (.cells #[.slice (some ⟨g, 0, none⟩) 1 1] 50)).cell? ⟨g + 1, 0, none⟩ = some (.slice (some ⟨g, 0, none⟩) 1 1) ∧
    Bx ((W.alloc (.cells #[.int .i64 y, .int .i64 y] 49)).alloc (.cells #[.slice (some ⟨g, 0, none⟩) 1 1] 50)) g #[.int .i64 y, .int .i64 y] 49 := by
  have h1 := Bx.fresh (W.alloc (.cells #[.int .i64 y, .int .i64 y] 49)) #[.slice (some ⟨g, 0, none⟩) 1 1] 50
  have e : (W.alloc (.cells #[.int .i64 y, .int .i64 y] 49)).heap.size = g + 1 := by simp [hg]
  rw [e] at h1
  exact ⟨h1.cell 0, Bx.new (since_alloc _ _) hg⟩
theorem Two.farX {w1 w : World} {B : Nat → Prop} {X D : Value} {jx jd : Nat} {v : List Int} (h : Two w1 w B X D jx jd v) : X.ownBlock ≠ some w.heap.size := fun e => by have := (h.1.lt _ e).2; omega
theorem Two.farD {w1 w : World} {B : Nat → Prop} {X D : Value} {jx jd : Nat} {v : List Int} (h : Two w1 w B X D jx jd v) : D.ownBlock ≠ some w.heap.size := fun e => by have := (h.2.1.lt _ e).2; omega
theorem Two.farB {w1 w : World} {B : Nat → Prop} {X D : Value} {jx jd : Nat} {v : List Int} (h : Two w1 w B X D jx jd v) : ¬ B w.heap.size := fun e => by have := (h.2.2.2 _ e).1; omega
end Go.Proofs.Ytoegbgkgenjplaa.Sn
end
