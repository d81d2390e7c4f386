/- Layer 10 (trail): lists of domains, and of acts, that came in; an act by value. No code is spoken of. -/
import Derived.Test.YtakfabaocgbbmaaEx
import Derived.Test.YtakfabaocgbbmaaFa
namespace Go.Proofs.Ytakfabaocgbbmaa.Tr
open Go.RowKit Go.ChangeShapes Go.WideShapes Go.Deep
set_option linter.unusedVariables false
set_option linter.unusedSimpArgs false
open Go.Proofs.Ytakfabaocgbbmaa.Dig Go.Proofs.Ytakfabaocgbbmaa.Tk Go.Proofs.Ytakfabaocgbbmaa.Ti Go.Proofs.Ytakfabaocgbbmaa.Zs
/-- an act -/
structure Ac where
  k : Int
  x : Int
  d : List Rn
def QA (w : World) (a : Ac) (u : List Value) : Prop := ∃ v, u = [.int .u8 a.k, .int .i64 a.x, v] ∧ Sl 2 QR w v a.d
theorem stA : St QA := fun w w' x u ⟨v, h1, h2⟩ k => ⟨v, h1, h2.since stR k⟩
def BdA (a : Ac) : Prop := (0 ≤ a.k ∧ a.k ≤ 255) ∧ Lx.fits a.x ∧ Bd a.d ∧ a.d.length ≤ maxLen
section
variable {H : Type} {enc : TypeId × Value → H} {P : Program} {w : World} {base : Nat} {spare : Nat → Bool} {held : Bool}
/-- the slice came in and reads as domains -/
def DomsIn (w : World) (a : Option Addr) (len cap : Nat) (l : Ds) : Prop := l.length = len ∧ Sl 1 QD w (.slice a len cap) l ∧ (∀ d ∈ l, Bd d ∧ d.length ≤ maxLen) ∧ l.length ≤ maxLen
theorem doms_in {t e1 e2 : TypeId} {f0 f1 : Field} {fuel : Nat} {a : Option Addr} {len cap : Nat} {x : DataW H × List MemPlace} (ht : P.underlying t = some (.slice e1)) (hC1 : P.cellsOf e1 = 1) (h1 : P.underlying e1 = some (.slice e2)) (he : P.underlying e2 = some (.struct #[f0, f1])) (hC : P.cellsOf e2 = 2)
    (o0 : f0.offset = 0) (o1 : f1.offset = 1) (c0 : P.cellsOf f0.type = 1) (c1 : P.cellsOf f1.type = 1) (t0 : P.underlying f0.type = some (.int .i64)) (t1 : P.underlying f1.type = some (.int .i64))
    (h : DataW.trod enc P w base spare held fuel t [.slice a len cap] = some x) : ∃ l, DomsIn w a len cap l := by
  obtain ⟨l, q1, q2, q3, q4⟩ := slice_in ([] : List Rn) (by decide) QD (fun z => Bd z ∧ z.length ≤ maxLen) ht hC1 (fun n cs y hl hd => by
    match cs, hl with
    | [v], _ =>
      obtain ⟨a', len', cap', e⟩ := Go.Joins.slice_form h1 hd
      injection e with e
      subst e
      obtain ⟨l, r1, r2, r3, r4⟩ := ranges_in h1 he hC o0 o1 c0 c1 t0 t1 hd
      subst r1
      exact ⟨l, ⟨_, rfl, r2⟩, r3, r4⟩) h
  exact ⟨l, q1, q2, q3, q4⟩
theorem act_cells {e er : TypeId} {g0 g1 g2 f0 f1 : Field} (he : P.underlying e = some (.struct #[g0, g1, g2])) (go : g0.offset = 0 ∧ g1.offset = 1 ∧ g2.offset = 2) (gc : P.cellsOf g0.type = 1 ∧ P.cellsOf g1.type = 1 ∧ P.cellsOf g2.type = 1)
    (gt : P.underlying g0.type = some (.int .u8) ∧ P.underlying g1.type = some (.int .i64) ∧ P.underlying g2.type = some (.slice er)) (her : P.underlying er = some (.struct #[f0, f1])) (hCr : P.cellsOf er = 2)
    (o0 : f0.offset = 0) (o1 : f1.offset = 1) (c0 : P.cellsOf f0.type = 1) (c1 : P.cellsOf f1.type = 1) (t0 : P.underlying f0.type = some (.int .i64)) (t1 : P.underlying f1.type = some (.int .i64))
    (n : Nat) (cs : List Value) (y : DataW H × List MemPlace) (hl : cs.length = 3) (hd : DataW.trod enc P w base spare held n e cs = some y) : ∃ z, QA w z cs ∧ BdA z := by
  obtain ⟨ys, n', -, -, -, hyl, hf⟩ := DataW.trod_struct he hd
  match cs, hl with
  | [v0, v1, v2], _ =>
    have k0 := hf 0 g0 rfl
    have k1 := hf 1 g1 rfl
    have k2 := hf 2 g2 rfl
    rw [go.1, gc.1] at k0
    rw [go.2.1, gc.2.1] at k1
    rw [go.2.2, gc.2.2] at k2
    simp only [List.drop_zero, List.drop_succ_cons, List.take_succ_cons, List.take_zero] at k0 k1 k2
    have hys : ys.length = 3 := hyl
    match ys, hys with
    | [y0, y1, y2], _ =>
      obtain ⟨n0, e0, -, q0⟩ := DataW.trod_int gt.1 (show _ = some y0 from k0)
      obtain ⟨n1, e1, -, q1⟩ := DataW.trod_int gt.2.1 (show _ = some y1 from k1)
      obtain ⟨a, len, cap, e2⟩ := Go.Joins.slice_form gt.2.2 (show _ = some y2 from k2)
      injection e0 with e0; injection e1 with e1; injection e2 with e2
      subst e0 e1 e2
      obtain ⟨l, r1, r2, r3, r4⟩ := ranges_in gt.2.2 her hCr o0 o1 c0 c1 t0 t1 (show _ = some y2 from k2)
      subst r1
      refine ⟨⟨n0, n1, l⟩, ⟨_, rfl, r2⟩, ?_, wf_fits q1, r3, r4⟩
      simp only [Lit.wf, Bool.and_eq_true, decide_eq_true_iff] at q0
      have m1 : IntKind.u8.min = 0 := rfl
      have m2 : IntKind.u8.max = 255 := rfl
      rw [m1, m2] at q0
      exact ⟨q0.1, by show n0 ≤ 255; omega⟩
/-- the slice came in and reads as acts -/
def ActsIn (w : World) (a : Option Addr) (len cap : Nat) (l : List Ac) : Prop := l.length = len ∧ Sl 3 QA w (.slice a len cap) l ∧ (∀ z ∈ l, BdA z) ∧ l.length ≤ maxLen
theorem acts_in {t e er : TypeId} {g0 g1 g2 f0 f1 : Field} {fuel : Nat} {a : Option Addr} {len cap : Nat} {x : DataW H × List MemPlace} (ht : P.underlying t = some (.slice e)) (he : P.underlying e = some (.struct #[g0, g1, g2])) (hCe : P.cellsOf e = 3) (go : g0.offset = 0 ∧ g1.offset = 1 ∧ g2.offset = 2) (gc : P.cellsOf g0.type = 1 ∧ P.cellsOf g1.type = 1 ∧ P.cellsOf g2.type = 1)
    (gt : P.underlying g0.type = some (.int .u8) ∧ P.underlying g1.type = some (.int .i64) ∧ P.underlying g2.type = some (.slice er)) (her : P.underlying er = some (.struct #[f0, f1])) (hCr : P.cellsOf er = 2)
    (o0 : f0.offset = 0) (o1 : f1.offset = 1) (c0 : P.cellsOf f0.type = 1) (c1 : P.cellsOf f1.type = 1) (t0 : P.underlying f0.type = some (.int .i64)) (t1 : P.underlying f1.type = some (.int .i64))
    (h : DataW.trod enc P w base spare held fuel t [.slice a len cap] = some x) : ∃ l, ActsIn w a len cap l := by
  obtain ⟨l, q1, q2, q3, q4⟩ := slice_in (⟨0, 0, []⟩ : Ac) (by decide) QA BdA ht hCe (fun n cs y hl hd => act_cells he go gc gt her hCr o0 o1 c0 c1 t0 t1 n cs y hl hd) h
  exact ⟨l, q1, q2, q3, q4⟩
/-- the act came in, by value -/
def ActIn (w : World) (k x : Int) (A : Option Addr) (n c : Nat) (d : List Rn) : Prop := d.length = n ∧ Sl 2 QR w (.slice A n c) d ∧ BdA ⟨k, x, d⟩
theorem act_in {r : Reach} {b0 : Nat} {v : Value} {d : DataW H} {p : List MemPlace} {e er : TypeId} {g0 g1 g2 f0 f1 : Field} (he : P.underlying e = some (.struct #[g0, g1, g2])) (hCe : P.cellsOf e = 3) (go : g0.offset = 0 ∧ g1.offset = 1 ∧ g2.offset = 2) (gc : P.cellsOf g0.type = 1 ∧ P.cellsOf g1.type = 1 ∧ P.cellsOf g2.type = 1)
    (gt : P.underlying g0.type = some (.int .u8) ∧ P.underlying g1.type = some (.int .i64) ∧ P.underlying g2.type = some (.slice er)) (her : P.underlying er = some (.struct #[f0, f1])) (hCr : P.cellsOf er = 2)
    (o0 : f0.offset = 0) (o1 : f1.offset = 1) (c0 : P.cellsOf f0.type = 1) (c1 : P.cellsOf f1.type = 1) (t0 : P.underlying f0.type = some (.int .i64)) (t1 : P.underlying f1.type = some (.int .i64))
    (hv : Value.okWide P w r b0 e v) (h : DataW.Trod enc P w base spare held e v d p) : ∃ (k x : Int) (A : Option Addr) (n c : Nat), v = .agg #[.int .u8 k, .int .i64 x, .slice A n c] ∧ ∃ l, ActIn w k x A n c l := by
  simp only [Value.okWide, he] at hv
  obtain ⟨cs, rfl, h2, -⟩ := hv
  obtain ⟨fuel, hf⟩ := h
  obtain ⟨l⟩ := cs
  have hl : l.length = 3 := by have := h2; rw [hCe] at this; simpa using this
  obtain ⟨z, ⟨u, e1, e2⟩, e3⟩ := act_cells he go gc gt her hCr o0 o1 c0 c1 t0 t1 fuel l _ hl hf
  obtain ⟨A, c, rfl⟩ := e2.form
  subst e1
  exact ⟨z.k, z.x, A, z.d.length, c, rfl, z.d, rfl, e2, e3⟩
end
end Go.Proofs.Ytakfabaocgbbmaa.Tr
