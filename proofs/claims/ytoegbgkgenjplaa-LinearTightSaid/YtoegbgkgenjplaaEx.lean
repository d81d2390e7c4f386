/- Layer 9 (set): a slice of ranges that came in reads as a list of ranges. No code is spoken of. -/
import Derived.Lib.SmallJoins
import Derived.Test.YtoegbgkgenjplaaQbf
namespace Go.Proofs.Ytoegbgkgenjplaa.Zs
open Go.RowKit Go.ChangeShapes Go.WideShapes Go.Deep
set_option linter.unusedVariables false
set_option linter.unusedSimpArgs false
open Go.Proofs.Ytoegbgkgenjplaa.Dig Go.Proofs.Ytoegbgkgenjplaa.Tk Go.Proofs.Ytoegbgkgenjplaa.Ti
section
variable {H : Type} {enc : TypeId × Value → H} {P : Program} {w : World} {base : Nat} {spare : Nat → Bool} {held : Bool}
/-- a slice that came in, if each element's cells read as something -/
theorem slice_in {α : Type} (dflt : α) {size : Nat} (hs : 0 < size) (Q : World → α → List Value → Prop) (R : α → Prop) {t e : TypeId} {fuel : Nat} {a : Option Addr} {len cap : Nat} {x : DataW H × List MemPlace} (ht : P.underlying t = some (.slice e)) (hC : P.cellsOf e = size)
    (el : ∀ (n : Nat) (cs : List Value) (y : DataW H × List MemPlace), cs.length = size → DataW.trod enc P w base spare held n e cs = some y → ∃ z, Q w z cs ∧ R z)
    (h : DataW.trod enc P w base spare held fuel t [.slice a len cap] = some x) : ∃ l : List α, l.length = len ∧ Sl size Q w (.slice a len cap) l ∧ (∀ z ∈ l, R z) ∧ l.length ≤ maxLen := by
  rcases open_slice ht h with ⟨h0, _⟩ | ⟨ad, l, c, m, n, D, Pl, hcs, hb, hl, hm, hmm, hx, hi⟩
  · injection h0 with h0
    injection h0 with h1 h2 h3
    subst h1 h2 h3
    exact ⟨[], rfl, Sl.nil _ _ _, by simp, Nat.zero_le _⟩
  · injection hcs with hcs
    injection hcs with h1 h2 h3
    subst h1 h2 h3
    have hlm : len ≤ m := by rw [hmm]; split <;> omega
    have key : ∀ i, i < len → ∃ z : α, ∃ u, Q w z u ∧ R z ∧ u.length = size ∧ ∀ j v, u[j]? = some v → w.cell? (ad.add (i * size + j)) = some v := by
      intro i hlt
      obtain ⟨cs', hc, hd⟩ := hi i (by omega)
      rw [hC] at hc
      obtain ⟨_, hcl, hat⟩ := World.cells?_some hc
      obtain ⟨z, hz, hr⟩ := el n cs' _ hcl hd
      refine ⟨z, cs', hz, hr, hcl, fun j v hv => ?_⟩
      have hj : j < size := by
        apply Decidable.byContradiction; intro hn
        rw [List.getElem?_eq_none (by omega)] at hv; cases hv
      have := hat j hj
      rw [Go.Deep.add_add] at this
      rw [this]; exact hv
    obtain ⟨ts, hts, hp⟩ := list_of dflt len key
    subst hts
    have hget : ∀ i (hi : i < ts.length), ts.getD i dflt = ts[i] := fun i hi => by simp [List.getD, hi]
    refine ⟨ts, rfl, ⟨some ad, cap, rfl, hl, fun h0 => ?_⟩, fun z hz => ?_, by omega⟩
    · obtain ⟨b, o, spot⟩ := ad
      have hspot : spot = none := by
        obtain ⟨u, h1, h2, h3, h4⟩ := hp 0 h0
        obtain ⟨v, hv⟩ : ∃ v, u[0]? = some v := ⟨u[0]'(by omega), List.getElem?_eq_getElem (by omega)⟩
        have := World.cell?_spot (h4 0 v hv)
        simpa [Addr.add] using this
      subst hspot
      refine ⟨b, o, rfl, fun i x hx => ?_⟩
      have hi : i < ts.length := by
        apply Decidable.byContradiction; intro hn
        rw [List.getElem?_eq_none (by omega)] at hx; cases hx
      have ex : ts.getD i dflt = x := by
        rw [hget i hi]
        rw [List.getElem?_eq_getElem hi] at hx
        exact Option.some.inj hx
      obtain ⟨u, h1, h2, h3, h4⟩ := hp i hi
      rw [ex] at h1
      refine ⟨u, h1, h3, fun j v hv => ?_⟩
      have := h4 j v hv
      rw [add_at] at this
      rw [show o + i * size + j = o + (i * size + j) by omega]
      exact this
    · obtain ⟨i, hi, rfl⟩ := List.mem_iff_getElem.1 hz
      obtain ⟨u, h1, h2, -⟩ := hp i hi
      rw [hget i hi] at h2
      exact h2
theorem wf_fits {n : Int} (h : (Lit.int .i64 n).wf = true) : Lx.fits n := by
  simp only [Lit.wf, Bool.and_eq_true, decide_eq_true_iff] at h
  have e1 : IntKind.i64.min = -9223372036854775808 := rfl
  have e2 : IntKind.i64.max = 9223372036854775807 := rfl
  rw [e1, e2] at h
  exact ⟨h.1, by omega⟩
theorem range_in {e : TypeId} {f0 f1 : Field} (he : P.underlying e = some (.struct #[f0, f1])) (o0 : f0.offset = 0) (o1 : f1.offset = 1) (c0 : P.cellsOf f0.type = 1) (c1 : P.cellsOf f1.type = 1)
    (t0 : P.underlying f0.type = some (.int .i64)) (t1 : P.underlying f1.type = some (.int .i64)) (n : Nat) (cs : List Value) (y : DataW H × List MemPlace) (hl : cs.length = 2) (hd : DataW.trod enc P w base spare held n e cs = some y) : ∃ z, QR w z cs ∧ (Lx.fits z.1 ∧ Lx.fits z.2) := by
  obtain ⟨ys, n', -, -, -, hyl, hf⟩ := DataW.trod_struct he hd
  match cs, hl with
  | [v0, v1], _ =>
    have g0 := hf 0 f0 rfl
    have g1 := hf 1 f1 rfl
    rw [o0, c0] at g0
    rw [o1, c1] at g1
    simp only [List.drop_zero, List.drop_succ_cons, List.take_succ_cons, List.take_zero] at g0 g1
    have hys : ys.length = 2 := hyl
    match ys, hys with
    | [y0, y1], _ =>
      obtain ⟨n0, e0, -, q0⟩ := DataW.trod_int t0 (show _ = some y0 from g0)
      obtain ⟨n1, e1, -, q1⟩ := DataW.trod_int t1 (show _ = some y1 from g1)
      injection e0 with e0; injection e1 with e1
      subst e0 e1
      exact ⟨(n0, n1), rfl, wf_fits q0, wf_fits q1⟩
/-- the slice came in and reads as ranges -/
def RangesIn (w : World) (a : Option Addr) (len cap : Nat) (l : List Rn) : Prop := l.length = len ∧ Sl 2 QR w (.slice a len cap) l ∧ Bd l ∧ l.length ≤ maxLen
theorem ranges_in {t e : TypeId} {f0 f1 : Field} {fuel : Nat} {a : Option Addr} {len cap : Nat} {x : DataW H × List MemPlace} (ht : P.underlying t = some (.slice e)) (he : P.underlying e = some (.struct #[f0, f1])) (hC : P.cellsOf e = 2)
    (o0 : f0.offset = 0) (o1 : f1.offset = 1) (c0 : P.cellsOf f0.type = 1) (c1 : P.cellsOf f1.type = 1) (t0 : P.underlying f0.type = some (.int .i64)) (t1 : P.underlying f1.type = some (.int .i64))
    (h : DataW.trod enc P w base spare held fuel t [.slice a len cap] = some x) : ∃ l, RangesIn w a len cap l := by
  obtain ⟨l, h1, h2, h3, h4⟩ := slice_in ((0, 0) : Int × Int) (by decide) QR (fun z => Lx.fits z.1 ∧ Lx.fits z.2) ht hC (fun n cs y hl hd => range_in he o0 o1 c0 c1 t0 t1 n cs y hl hd) h
  exact ⟨l, h1, h2, h3, h4⟩
end
end Go.Proofs.Ytoegbgkgenjplaa.Zs
