/- Layer 9 (set): a slice of ranges that came in reads as a list of ranges. No code is spoken of. Layer 13 (reify -/
import Derived.Lib.SmallJoins
import Derived.Test.YtoegbgkgenjplaaQay
import Derived.Test.YtoegbgkgenjplaaQbj
set_option linter.unusedVariables false
set_option linter.unusedSimpArgs false
section
namespace Go.Proofs.Ytoegbgkgenjplaa.Zs
open Go.RowKit Go.ChangeShapes Go.WideShapes Go.Deep
open Go.Proofs.Ytoegbgkgenjplaa.Dig Go.Proofs.Ytoegbgkgenjplaa.Tk Go.Proofs.Ytoegbgkgenjplaa.Ti
section
variable {H : Type} {enc : TypeId × Value → H} {P : Program} {w : World} {base : Nat} {spare : Nat → Bool} {held : Bool}
/-- a slice that came in, if each element's cells read as something -/
theorem slice_in {α : Type} (dflt : α) {size : Nat} (hs : 0 < size) (Q : World → α → List Value → Prop) (R : α → Prop) {t e : TypeId} {fuel : Nat} {a : Option Addr} {len cap : Nat} {x : DataW H × List MemPlace} (ht : P.underlying t = some (.slice e)) (hC : P.cellsOf e = size)
    (el : ∀ (n : Nat) (cs : List Value) (y : DataW H × List MemPlace), cs.length = size → DataW.trod enc P w base spare held n e cs = some y → ∃ z, Q w z cs ∧ R z)
    (h : DataW.trod enc P w base spare held fuel t [.slice a len cap] = some x) : ∃ l : List α, l.length = len ∧ Sl size Q w (.slice a len cap) l ∧ (∀ z ∈ l, R z) ∧ l.length ≤ maxLen := by
  rcases open_slice ht h with ⟨h0, _⟩ | ⟨ad, l, c, m, n, D, Pl, hcs, hb, hl, hm, hmm, hx, hi⟩
  · injection h0 with h0
    injection h0 with h1 h2 h3
    subst h1 h2 h3
    exact ⟨[], rfl, Sl.nil _ _ _, by simp, Nat.zero_le _⟩
  · injection hcs with hcs
    injection hcs with h1 h2 h3
    subst h1 h2 h3
    have hlm : len ≤ m := by rw [hmm]; split <;> omega
    have key : ∀ i, i < len → ∃ z : α, ∃ u, Q w z u ∧ R z ∧ u.length = size ∧ ∀ j v, u[j]? = some v → w.cell? (ad.add (i * size + j)) = some v := by
      intro i hlt
      obtain ⟨cs', hc, hd⟩ := hi i (by omega)
      rw [hC] at hc
      obtain ⟨_, hcl, hat⟩ := World.cells?_some hc
      obtain ⟨z, hz, hr⟩ := el n cs' _ hcl hd
      refine ⟨z, cs', hz, hr, hcl, fun j v hv => ?_⟩
      have hj : j < size := by
        apply Decidable.byContradiction; intro hn
        rw [List.getElem?_eq_none (by omega)] at hv; cases hv
      have := hat j hj
      rw [Go.Deep.add_add] at this
      rw [this]; exact hv
    obtain ⟨ts, hts, hp⟩ := list_of dflt len key
    subst hts
    have hget : ∀ i (hi : i < ts.length), ts.getD i dflt = ts[i] := fun i hi => by simp [List.getD, hi]
    refine ⟨ts, rfl, ⟨some ad, cap, rfl, hl, fun h0 => ?_⟩, fun z hz => ?_, by omega⟩
    · obtain ⟨b, o, spot⟩ := ad
      have hspot : spot = none := by
        obtain ⟨u, h1, h2, h3, h4⟩ := hp 0 h0
        obtain ⟨v, hv⟩ : ∃ v, u[0]? = some v := ⟨u[0]'(by omega), List.getElem?_eq_getElem (by omega)⟩
        have := World.cell?_spot (h4 0 v hv)
        simpa [Addr.add] using this
      subst hspot
      refine ⟨b, o, rfl, fun i x hx => ?_⟩
      have hi : i < ts.length := by
        apply Decidable.byContradiction; intro hn
        rw [List.getElem?_eq_none (by omega)] at hx; cases hx
      have ex : ts.getD i dflt = x := by
        rw [hget i hi]
        rw [List.getElem?_eq_getElem hi] at hx
        exact Option.some.inj hx
      obtain ⟨u, h1, h2, h3, h4⟩ := hp i hi
      rw [ex] at h1
      refine ⟨u, h1, h3, fun j v hv => ?_⟩
      have := h4 j v hv
      rw [add_at] at this
      rw [show o + i * size + j = o + (i * size + j) by omega]
      exact this
    · obtain ⟨i, hi, rfl⟩ := List.mem_iff_getElem.1 hz
      obtain ⟨u, h1, h2, -⟩ := hp i hi
      rw [hget i hi] at h2
      exact h2
theorem wf_fits {n : Int} (h : (Lit.int .i64 n).wf = true) : Lx.fits n := by
  simp only [Lit.wf, Bool.and_eq_true, decide_eq_true_iff] at h
  have e1 : IntKind.i64.min = -9223372036854775808 := rfl
  have e2 : IntKind.i64.max = 9223372036854775807 := rfl
  rw [e1, e2] at h
  exact ⟨h.1, by omega⟩
theorem range_in {e : TypeId} {f0 f1 : Field} (he : P.underlying e = some (.struct #[f0, f1])) (o0 : f0.offset = 0) (o1 : f1.offset = 1) (c0 : P.cellsOf f0.type = 1) (c1 : P.cellsOf f1.type = 1)
    (t0 : P.underlying f0.type = some (.int .i64)) (t1 : P.underlying f1.type = some (.int .i64)) (n : Nat) (cs : List Value) (y : DataW H × List MemPlace) (hl : cs.length = 2) (hd : DataW.trod enc P w base spare held n e cs = some y) : ∃ z, QR w z cs ∧ (Lx.fits z.1 ∧ Lx.fits z.2) := by
  obtain ⟨ys, n', -, -, -, hyl, hf⟩ := DataW.trod_struct he hd
  match cs, hl with
  | [v0, v1], _ =>
    have g0 := hf 0 f0 rfl
    have g1 := hf 1 f1 rfl
    rw [o0, c0] at g0
    rw [o1, c1] at g1
    simp only [List.drop_zero, List.drop_succ_cons, List.take_succ_cons, List.take_zero] at g0 g1
    have hys : ys.length = 2 := hyl
    match ys, hys with
    | [y0, y1], _ =>
      obtain ⟨n0, e0, -, q0⟩ := DataW.trod_int t0 (show _ = some y0 from g0)
      obtain ⟨n1, e1, -, q1⟩ := DataW.trod_int t1 (show _ = some y1 from g1)
      injection e0 with e0; injection e1 with e1
      subst e0 e1
      exact ⟨(n0, n1), rfl, wf_fits q0, wf_fits q1⟩
/-- the slice came in and reads as ranges -/
def RangesIn (w : World) (a : Option Addr) (len cap : Nat) (l : List Rn) : Prop := l.length = len ∧ Sl 2 QR w (.slice a len cap) l ∧ Bd l ∧ l.length ≤ maxLen
theorem ranges_in {t e : TypeId} {f0 f1 : Field} {fuel : Nat} {a : Option Addr} {len cap : Nat} {x : DataW H × List MemPlace} (ht : P.underlying t = some (.slice e)) (he : P.underlying e = some (.struct #[f0, f1])) (hC : P.cellsOf e = 2)
    (o0 : f0.offset = 0) (o1 : f1.offset = 1) (c0 : P.cellsOf f0.type = 1) (c1 : P.cellsOf f1.type = 1) (t0 : P.underlying f0.type = some (.int .i64)) (t1 : P.underlying f1.type = some (.int .i64))
    (h : DataW.trod enc P w base spare held fuel t [.slice a len cap] = some x) : ∃ l, RangesIn w a len cap l := by
  obtain ⟨l, h1, h2, h3, h4⟩ := slice_in ((0, 0) : Int × Int) (by decide) QR (fun z => Lx.fits z.1 ∧ Lx.fits z.2) ht hC (fun n cs y hl hd => range_in he o0 o1 c0 c1 t0 t1 n cs y hl hd) h
  exact ⟨l, h1, h2, h3, h4⟩
end
end Go.Proofs.Ytoegbgkgenjplaa.Zs
end
section
namespace Go.Proofs.Ytoegbgkgenjplaa.Rf
open Go.Proofs.Ytoegbgkgenjplaa.Zs Go.Proofs.Ytoegbgkgenjplaa.Sn Go.Proofs.Ytoegbgkgenjplaa.Ln
theorem lastV_fl (x a : List Int) (h : x ≠ []) : lastV (vals x a) = valAt a (fl x) := by
  have h1 : x.length - 1 < x.length := by have := List.length_pos_iff.2 h; omega
  unfold lastV vals fl
  rw [List.length_map]
  simp [List.getD, h1]
theorem prod_in {n v l u : Int} (h1 : l ≤ v) (h2 : v ≤ u) : min (n * l) (n * u) ≤ n * v ∧ n * v ≤ max (n * l) (n * u) := by
  rcases Int.le_total 0 n with hn | hn
  · have := Int.mul_le_mul_of_nonneg_left h1 hn
    have := Int.mul_le_mul_of_nonneg_left h2 hn
    omega
  · have := Int.mul_le_mul_of_nonpos_left hn h1
    have := Int.mul_le_mul_of_nonpos_left hn h2
    omega
theorem sum_in {D : Ds} {a : List Int} (h : Gd D) (w : Wi D a) : ∀ (l : List (Int × Int)), (∀ p ∈ l, 0 ≤ p.2 ∧ p.2.toNat < D.length) →
    lsum (l.map (tm D)) ≤ smF (l.map fun p => (p.1, valAt a p.2)) ∧ smF (l.map fun p => (p.1, valAt a p.2)) ≤ gsum (l.map (tm D))
  | [], _ => ⟨Int.le_refl _, Int.le_refl _⟩
  | p :: l, hp => by
    obtain ⟨h1, h2⟩ := sum_in h w l fun q hq => hp q (List.mem_cons_of_mem _ hq)
    obtain ⟨hp1, hp2⟩ := hp p (by simp)
    have hm := w.2 p.2 hp1 hp2
    have hr := (h.at_ hp2).1
    have := prod_in (n := p.1) (mem_lo hr hm) (mem_hi _ hr hm)
    simp only [List.map_cons, lsum, gsum, smF, mnT, mxT, tm] at h1 h2 ⊢
    omega
theorem sm_neg (A x a : List Int) : sm (neg A) (vals x a) = -sm A (vals x a) := by
  rw [sm_zip, sm_zip, neg_zip']
  generalize A.zip x = l
  induction l with
  | nil => rfl
  | cons p l ih => simp only [List.map_cons, smF] at ih ⊢; rw [ih, Int.neg_mul]; omega
theorem rei_keeps {c : Cn} {ds : Ds} {a : List Int} (hm : modOk ⟨ds, [c], 0, 0⟩ = true) (hk : 4 ≤ c.k ∧ c.k ≤ 6) (w : Wi ds a) (hh : holds c a = true) :
    ∃ E, reiL c.k c.c c.a c.x ds = some E ∧ ∀ y : Int, 0 ≤ y → y.toNat < ds.length → mem (domAt E y) (valAt a y) := by
  obtain ⟨m1, m2, m3⟩ := mod_parts hm
  have hp := flg_parts m1 m3 hk
  have hne : c.x ≠ [] := by intro e; have := hp.len; rw [e] at this; simp at this
  have hf := w.2 _ hp.inx.1 hp.inx.2
  have hin : ∀ p ∈ c.a.zip c.x, 0 ≤ p.2 ∧ p.2.toNat < ds.length := fun p hpm => by
    have := List.all_eq_true.1 hp.lin.x _ (List.of_mem_zip hpm).2
    simp only [isV, Bool.and_eq_true, decide_eq_true_eq] at this
    omega
  obtain ⟨s1, s2⟩ := sum_in m1 w _ hin
  rw [← sm_zip] at s1 s2
  unfold holds at hh
  rw [Bool.and_eq_true] at hh
  have hv := hh.2
  -- what the flag says
  have hF : flg (vals c.x a) = (valAt a (fl c.x) == 1) := by unfold flg; rw [lastV_fl _ _ hne]
  have H4 : c.k = 4 → (valAt a (fl c.x) = 1 ↔ sm c.a (vals c.x a) = c.c) := fun e => by
    unfold holdV at hv
    rw [if_neg (by omega), if_neg (by omega), if_neg (by omega), if_pos e, hF] at hv
    have := eq_of_beq hv
    rw [Bool.eq_iff_iff] at this
    simpa using this
  have H5 : c.k = 5 → (valAt a (fl c.x) = 1 ↔ sm c.a (vals c.x a) ≤ c.c) := fun e => by
    unfold holdV at hv
    rw [if_neg (by omega), if_neg (by omega), if_neg (by omega), if_neg (by omega), if_pos e, hF] at hv
    have := eq_of_beq hv
    rw [Bool.eq_iff_iff] at this
    simpa using this
  have H6 : c.k = 6 → valAt a (fl c.x) = 1 → sm c.a (vals c.x a) ≤ c.c := fun e h1 => by
    unfold holdV at hv
    rw [if_neg (by omega), if_neg (by omega), if_neg (by omega), if_neg (by omega), if_neg (by omega), if_pos e, hF, h1] at hv
    simpa using hv
  clear hv hh hF
  rcases hp.tr with h0 | h0 | h0
  · rw [h0, Ln.mem_one] at hf
    have hn1 : ¬ valAt a (fl c.x) = 1 := by omega
    by_cases k4 : c.k = 4
    · obtain ⟨E, hE, hs⟩ := nar_keeps (k := 3) (c := c.c) (A := c.a) m1 hp.lin.x w (fun h => absurd h (by decide)) (fun h => absurd h (by decide)) (fun _ _ => fun e => hn1 ((H4 k4).2 e))
      exact ⟨E, by rw [reiL, if_neg (by rw [h0]; decide), if_pos h0, if_pos k4, hE], hs⟩
    · by_cases k5 : c.k = 5
      · have hgt : ¬ sm c.a (vals c.x a) ≤ c.c := fun e => hn1 ((H5 k5).2 e)
        obtain ⟨E, hE, hs⟩ := nar_keeps (k := 2) (c := -c.c - 1) (A := neg c.a) m1 hp.lin.x w (fun h => absurd h (by decide)) (fun _ => by rw [sm_neg]; omega) (fun _ h => absurd rfl h)
        exact ⟨E, by rw [reiL, if_neg (by rw [h0]; decide), if_pos h0, if_neg k4, if_pos k5, hE], hs⟩
      · exact ⟨ds, by rw [reiL, if_neg (by rw [h0]; decide), if_pos h0, if_neg k4, if_neg k5], w.2⟩
  · rw [h0, Ln.mem_one] at hf
    by_cases k4 : c.k = 4
    · obtain ⟨E, hE, hs⟩ := nar_keeps (k := 1) (c := c.c) (A := c.a) m1 hp.lin.x w (fun _ => (H4 k4).1 hf) (fun h => absurd h (by decide)) (fun h _ => absurd rfl h)
      exact ⟨E, by rw [reiL, if_pos h0, if_pos k4, hE], hs⟩
    · have hle : sm c.a (vals c.x a) ≤ c.c := by
        by_cases k5 : c.k = 5
        · exact (H5 k5).1 hf
        · exact H6 (by omega) hf
      obtain ⟨E, hE, hs⟩ := nar_keeps (k := 2) (c := c.c) (A := c.a) m1 hp.lin.x w (fun h => absurd h (by decide)) (fun _ => hle) (fun _ h => absurd rfl h)
      exact ⟨E, by rw [reiL, if_pos h0, if_neg k4, hE], hs⟩
  · refine ⟨_, by rw [reiL, if_neg (by rw [h0]; decide), if_neg (by rw [h0]; decide)], fun y hy hl => ?_⟩
    rw [domAt_set hp.inx.2]
    split
    · rename_i e
      have ey : y = fl c.x := by have := hp.inx.1; omega
      rw [ey]
      have hb : valAt a (fl c.x) = 0 ∨ valAt a (fl c.x) = 1 := by
        rw [h0] at hf
        rcases hf with hf | hf
        · have h1 := hf.1; have h2 := hf.2; simp only at h1 h2; omega
        · exact hf.elim
      rw [h0]
      have e1 : without [(0, 1)] 0 = [(1, 1)] := by decide
      have e2 : without [(0, 1)] 1 = [(0, 0)] := by decide
      unfold dcd
      rw [e1, e2]
      unfold tms at *
      split
      · rename_i ha
        rw [Ln.mem_one]
        simp only [alw, Bool.or_eq_true, Bool.and_eq_true, decide_eq_true_eq] at ha
        rcases ha with ⟨k4, hl1, hg1⟩ | ⟨k5, hg1⟩
        · exact (H4 k4).2 (by omega)
        · exact (H5 k5).2 (by omega)
      · split
        · rename_i hn
          rw [Ln.mem_one]
          simp only [nev, Bool.or_eq_true, Bool.and_eq_true, decide_eq_true_eq] at hn
          rcases hb with hb | hb
          · exact hb
          · exfalso
            by_cases k4 : c.k = 4
            · have := (H4 k4).1 hb; omega
            · have hle : sm c.a (vals c.x a) ≤ c.c := by
                by_cases k5 : c.k = 5
                · exact (H5 k5).1 hb
                · exact H6 (by omega) hb
              omega
        · rw [← h0]; exact hf
    · exact w.2 y hy hl
end Go.Proofs.Ytoegbgkgenjplaa.Rf
end
