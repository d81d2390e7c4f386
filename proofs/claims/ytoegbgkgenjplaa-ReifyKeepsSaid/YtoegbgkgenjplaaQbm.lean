/- Layer 11 (sense), pure: how many values there are within domains. Layer 10 (trail): lists of domains, and of a -/
import Derived.Test.YtoegbgkgenjplaaQbl
set_option linter.unusedVariables false
set_option linter.unusedSimpArgs false
section
namespace Go.Proofs.Ytoegbgkgenjplaa.Ev
open Go.Proofs.Ytoegbgkgenjplaa.Zs Go.Proofs.Ytoegbgkgenjplaa.Sn Go.Proofs.Ytoegbgkgenjplaa.Ln
theorem valsF_len {b : Int} {d : List Rn} (h : okF b d = true) : ∀ (n : Nat) (x : Int), cntF d (x + 1) ≤ n → ((valsF n d x).length : Int) = 1 + cntF d (x + 1)
  | 0, x, hc => by
    have := cntF_nonneg d (x + 1)
    simp only [valsF, List.length_singleton]
    omega
  | n + 1, x, hc => by
    rw [valsF]
    cases hn : nextF d (x + 1) with
    | none => have := next_none h hn; simp only [List.length_cons, List.length_nil]; omega
    | some y =>
      have h1 := (next_some h hn).2.2.2.2
      have := valsF_len h n y (by omega)
      simp only [List.length_cons]
      omega
theorem vals_len {d : List Rn} (h : right d = true) (hd : d ≠ []) : ((vals d).length : Int) = size d := by
  unfold vals
  cases d with
  | nil => exact absurd rfl hd
  | cons r l =>
    have h' := h
    rw [right, okF_cons] at h'
    have e2 := cntF_all h (Int.le_refl _)
    have e3 := cntF_all (v := r.1 + 1) h'.2.2.2 (by omega)
    have e4 := cntF_nonneg l (r.1 + 1)
    have e5 : cntF (r :: l) (r.1 + 1) + 1 = sizeF (r :: l) := by simp only [cntF, e3, sizeF]; omega
    have e6 := cntF_nonneg (r :: l) (-mx)
    rw [valsF_len h _ _ (by simp only [List.headD_cons]; omega), size, if_pos h]
    simp only [List.headD_cons]
    omega
def prodF : Ds → Int
  | [] => 1
  | d :: ds => size d * prodF ds
theorem prod_snoc : ∀ (l : Ds) (d : List Rn), prodF (l ++ [d]) = prodF l * size d
  | [], d => by simp [prodF]
  | e :: l, d => by simp only [List.cons_append, prodF, prod_snoc l d]; rw [Int.mul_assoc]
theorem all_len : ∀ {ds : Ds}, Gd ds → ((allB vals ds).length : Int) = prodF ds
  | [], _ => rfl
  | d :: ds, h => by
    have h1 := all_len (ds := ds) fun e he => h e (List.mem_cons_of_mem _ he)
    have h2 := vals_len (h d (by simp)).1 (h d (by simp)).2
    have h3 : ∀ (V : List Int), (V.flatMap fun x => (allB vals ds).map (x :: ·)).length = V.length * (allB vals ds).length := by
      intro V
      induction V with
      | nil => simp
      | cons x V ih => rw [List.flatMap_cons, List.length_append, ih, List.length_map, List.length_cons, Nat.add_mul, Nat.one_mul, Nat.add_comm]
    rw [allB, h3, prodF, ← h1, ← h2]
    simp
theorem all_wi {ds : Ds} (h : Gd ds) {a : List Int} (ha : a ∈ allB vals ds) : Wi ds a := by
  obtain ⟨h1, h2⟩ := (mem_allB vals).1 ha
  refine ⟨h1, fun y hy hl => ?_⟩
  have h3 := h2 y.toNat hl
  have h4 := h _ (List.getElem_mem hl)
  rw [domAt_lt hl]
  exact (mem_vals h4.1 h4.2 _).1 h3
/-- the least values -/
def lows (ds : Ds) : List Int := ds.map fun d => (d.headD (0, 0)).1
/-- the values behind others -/
def nextB (ds : Ds) (a : List Int) : Option (List Int) := afterB next (fun d => (d.headD (0, 0)).1) ds a
theorem all_run {ds : Ds} (h : Gd ds) : Run (nextB ds) (lows ds) (allB vals ds) := run_all next _ vals fun d hd => vals_run (h d hd).1 (h d hd).2
theorem size_pos {d : List Rn} (h : right d = true) (hd : d ≠ []) : 1 ≤ size d ∧ size d ≤ 2097154 := by
  rw [size, if_pos h]
  have := sizeF_le h (by simp only [mx]; omega)
  have h2 := this.2.2 hd
  have h3 := this.2.1
  simp only [mx] at h3
  omega
end Go.Proofs.Ytoegbgkgenjplaa.Ev
end
section
namespace Go.Proofs.Ytoegbgkgenjplaa.Tr
open Go.RowKit Go.ChangeShapes Go.WideShapes Go.Deep
open Go.Proofs.Ytoegbgkgenjplaa.Dig Go.Proofs.Ytoegbgkgenjplaa.Tk Go.Proofs.Ytoegbgkgenjplaa.Ti Go.Proofs.Ytoegbgkgenjplaa.Zs
section
variable {H : Type} {enc : TypeId × Value → H} {P : Program} {w : World} {base : Nat} {spare : Nat → Bool} {held : Bool}
/-- the slice came in and reads as domains -/
def DomsIn (w : World) (a : Option Addr) (len cap : Nat) (l : Ds) : Prop := l.length = len ∧ Sl 1 QD w (.slice a len cap) l ∧ (∀ d ∈ l, Bd d ∧ d.length ≤ maxLen) ∧ l.length ≤ maxLen
theorem doms_in {t e1 e2 : TypeId} {f0 f1 : Field} {fuel : Nat} {a : Option Addr} {len cap : Nat} {x : DataW H × List MemPlace} (ht : P.underlying t = some (.slice e1)) (hC1 : P.cellsOf e1 = 1) (h1 : P.underlying e1 = some (.slice e2)) (he : P.underlying e2 = some (.struct #[f0, f1])) (hC : P.cellsOf e2 = 2)
    (o0 : f0.offset = 0) (o1 : f1.offset = 1) (c0 : P.cellsOf f0.type = 1) (c1 : P.cellsOf f1.type = 1) (t0 : P.underlying f0.type = some (.int .i64)) (t1 : P.underlying f1.type = some (.int .i64))
    (h : DataW.trod enc P w base spare held fuel t [.slice a len cap] = some x) : ∃ l, DomsIn w a len cap l := by
  obtain ⟨l, q1, q2, q3, q4⟩ := slice_in ([] : List Rn) (by decide) QD (fun z => Bd z ∧ z.length ≤ maxLen) ht hC1 (fun n cs y hl hd => by
    match cs, hl with
    | [v], _ =>
      obtain ⟨a', len', cap', e⟩ := Go.Joins.slice_form h1 hd
      injection e with e
      subst e
      obtain ⟨l, r1, r2, r3, r4⟩ := ranges_in h1 he hC o0 o1 c0 c1 t0 t1 hd
      subst r1
      exact ⟨l, ⟨_, rfl, r2⟩, r3, r4⟩) h
  exact ⟨l, q1, q2, q3, q4⟩
end
end Go.Proofs.Ytoegbgkgenjplaa.Tr
end
section
namespace Go.Proofs.Ytoegbgkgenjplaa.Sn
open Go.RowKit Go.ChangeShapes Go.WideShapes Go.Deep
open Go.Proofs.Ytoegbgkgenjplaa.Dig Go.Proofs.Ytoegbgkgenjplaa.Tk Go.Proofs.Ytoegbgkgenjplaa.Ti Go.Proofs.Ytoegbgkgenjplaa.Zs Go.Proofs.Ytoegbgkgenjplaa.Tr
section
variable {H : Type} {enc : TypeId × Value → H} {P : Program} {w : World} {base : Nat} {spare : Nat → Bool} {held : Bool}
/-- the slice came in and reads as integers -/
def IntsIn (w : World) (a : Option Addr) (len cap : Nat) (l : List Int) : Prop := l.length = len ∧ Sl 1 QI w (.slice a len cap) l ∧ BdI l ∧ l.length ≤ maxLen
theorem ints_in {t e : TypeId} {fuel : Nat} {a : Option Addr} {len cap : Nat} {x : DataW H × List MemPlace} (ht : P.underlying t = some (.slice e)) (he : P.underlying e = some (.int .i64)) (hC : P.cellsOf e = 1)
    (h : DataW.trod enc P w base spare held fuel t [.slice a len cap] = some x) : ∃ l, IntsIn w a len cap l := by
  obtain ⟨l, h1, h2, h3, h4⟩ := slice_in (0 : Int) (by decide) QI (fun z => Lx.fits z) ht hC (fun n cs y hl hd => by
    match cs, hl with
    | [v], _ =>
      obtain ⟨z, e, -, q⟩ := DataW.trod_int he hd
      injection e with e
      subst e
      exact ⟨z, rfl, wf_fits q⟩) h
  exact ⟨l, h1, h2, h3, h4⟩
/-- the types of a constraint -/
structure CT (P : Program) (e : TypeId) (g0 g1 g2 g3 : Field) (tx ta : TypeId) : Prop where
  he : P.underlying e = some (.struct #[g0, g1, g2, g3])
  go : g0.offset = 0 ∧ g1.offset = 1 ∧ g2.offset = 2 ∧ g3.offset = 3
  gc : P.cellsOf g0.type = 1 ∧ P.cellsOf g1.type = 1 ∧ P.cellsOf g2.type = 1 ∧ P.cellsOf g3.type = 1
  t0 : P.underlying g0.type = some (.int .i64)
  t1 : P.underlying g1.type = some (.slice tx)
  t2 : P.underlying g2.type = some (.slice ta)
  t3 : P.underlying g3.type = some (.int .i64)
  hx : P.underlying tx = some (.int .i64)
  cx : P.cellsOf tx = 1
  ha : P.underlying ta = some (.int .i64)
  ca : P.cellsOf ta = 1
def BdC' (c : Cn) : Prop := BdC c ∧ c.x.length ≤ maxLen ∧ c.a.length ≤ maxLen
theorem con_cells {e : TypeId} {g0 g1 g2 g3 : Field} {tx ta : TypeId} (T : CT P e g0 g1 g2 g3 tx ta) (n : Nat) (cs : List Value) (y : DataW H × List MemPlace) (hl : cs.length = 4) (hd : DataW.trod enc P w base spare held n e cs = some y) : ∃ z, QC w z cs ∧ BdC' z := by
  obtain ⟨ys, n', -, -, -, hyl, hf⟩ := DataW.trod_struct T.he hd
  match cs, hl with
  | [v0, v1, v2, v3], _ =>
    have k0 := hf 0 g0 rfl
    have k1 := hf 1 g1 rfl
    have k2 := hf 2 g2 rfl
    have k3 := hf 3 g3 rfl
    rw [T.go.1, T.gc.1] at k0
    rw [T.go.2.1, T.gc.2.1] at k1
    rw [T.go.2.2.1, T.gc.2.2.1] at k2
    rw [T.go.2.2.2, T.gc.2.2.2] at k3
    simp only [List.drop_zero, List.drop_succ_cons, List.take_succ_cons, List.take_zero] at k0 k1 k2 k3
    have hys : ys.length = 4 := hyl
    match ys, hys with
    | [y0, y1, y2, y3], _ =>
      obtain ⟨n0, e0, -, q0⟩ := DataW.trod_int T.t0 (show _ = some y0 from k0)
      obtain ⟨n3, e3, -, q3⟩ := DataW.trod_int T.t3 (show _ = some y3 from k3)
      obtain ⟨a1, l1, c1, e1⟩ := Go.Joins.slice_form T.t1 (show _ = some y1 from k1)
      obtain ⟨a2, l2, c2, e2⟩ := Go.Joins.slice_form T.t2 (show _ = some y2 from k2)
      injection e0 with e0; injection e1 with e1; injection e2 with e2; injection e3 with e3
      subst e0 e1 e2 e3
      obtain ⟨xs, r1, r2, r3, r4⟩ := ints_in T.t1 T.hx T.cx (show _ = some y1 from k1)
      obtain ⟨es, s1, s2, s3, s4⟩ := ints_in T.t2 T.ha T.ca (show _ = some y2 from k2)
      exact ⟨⟨n0, xs, es, n3⟩, ⟨_, _, rfl, r2, s2⟩, ⟨wf_fits q0, r3, s3, wf_fits q3⟩, r4, s4⟩
/-- the constraint came in, by value -/
def ConIn (w : World) (k : Int) (X : Option Addr) (n xc : Nat) (Y : Option Addr) (m yc : Nat) (e : Int) (c : Cn) : Prop := ConAt w (.agg #[.int .i64 k, .slice X n xc, .slice Y m yc, .int .i64 e]) c ∧ BdC' c
theorem con_in {r : Reach} {b0 : Nat} {v : Value} {d : DataW H} {p : List MemPlace} {e : TypeId} {g0 g1 g2 g3 : Field} {tx ta : TypeId} (T : CT P e g0 g1 g2 g3 tx ta) (hC : P.cellsOf e = 4)
    (hv : Value.okWide P w r b0 e v) (h : DataW.Trod enc P w base spare held e v d p) : ∃ (k : Int) (X : Option Addr) (n xc : Nat) (Y : Option Addr) (m yc : Nat) (q : Int), v = .agg #[.int .i64 k, .slice X n xc, .slice Y m yc, .int .i64 q] ∧ ∃ c, ConIn w k X n xc Y m yc q c := by
  simp only [Value.okWide, T.he] at hv
  obtain ⟨cs, rfl, h2, -⟩ := hv
  obtain ⟨fuel, hf⟩ := h
  obtain ⟨l⟩ := cs
  have hl : l.length = 4 := by have := h2; rw [hC] at this; simpa using this
  obtain ⟨z, ⟨vx, va, e1, e2, e3⟩, e4⟩ := con_cells T fuel l _ hl hf
  obtain ⟨X, xc, rfl⟩ := e2.form
  obtain ⟨Y, yc, rfl⟩ := e3.form
  subst e1
  exact ⟨z.k, X, z.x.length, xc, Y, z.a.length, yc, z.c, rfl, z, ⟨_, _, rfl, e2, e3⟩, e4⟩
/-- the types of a model -/
structure MT (P : Program) (e : TypeId) (f0 f1 f2 f3 : Field) (td tr ec : TypeId) (l0 l1 : Field) : Prop where
  he : P.underlying e = some (.struct #[f0, f1, f2, f3])
  go : f0.offset = 0 ∧ f1.offset = 1 ∧ f2.offset = 2 ∧ f3.offset = 3
  gc : P.cellsOf f0.type = 1 ∧ P.cellsOf f1.type = 1 ∧ P.cellsOf f2.type = 1 ∧ P.cellsOf f3.type = 1
  t0 : P.underlying f0.type = some (.slice td)
  cd : P.cellsOf td = 1
  hd : P.underlying td = some (.slice tr)
  hr : P.underlying tr = some (.struct #[l0, l1])
  cr : P.cellsOf tr = 2
  lo : l0.offset = 0 ∧ l1.offset = 1
  lc : P.cellsOf l0.type = 1 ∧ P.cellsOf l1.type = 1
  lt : P.underlying l0.type = some (.int .i64) ∧ P.underlying l1.type = some (.int .i64)
  t1 : P.underlying f1.type = some (.slice ec)
  ce : P.cellsOf ec = 4
  t2 : P.underlying f2.type = some (.int .i64)
  t3 : P.underlying f3.type = some (.int .i64)
end
end Go.Proofs.Ytoegbgkgenjplaa.Sn
end
