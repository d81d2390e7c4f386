/- Layer 15 (logic), pure: what is left has no more values; all that there are for which it holds. Layer 9 (set): -/
import Derived.Test.YtilgmkhcpmegjaaCs
import Derived.Test.YtilgmkhcpmegjaaQbf
import Derived.Lib.SmallJoins
import Derived.Test.YtilgmkhcpmegjaaQbe
set_option linter.unusedVariables false
set_option linter.unusedSimpArgs false
section
namespace Go.Proofs.Ytilgmkhcpmegjaa.Lgc
open Go.Proofs.Ytilgmkhcpmegjaa.Num Go.Proofs.Ytilgmkhcpmegjaa.Zs Go.Proofs.Ytilgmkhcpmegjaa.Sn Go.Proofs.Ytilgmkhcpmegjaa.Ln Go.Proofs.Ytilgmkhcpmegjaa.At Go.Proofs.Ytilgmkhcpmegjaa.Ev
theorem size_cut2 {d : List Rn} (h : right d = true) (l u : Int) : size (cut d l u) ≤ size d := by
  have h1 := cut_right d (-mx) u
  have e : cut d l u = cut (cut d (-mx) u) l mx := uniq (cut_ok d l u h).1 (cut_ok _ l mx h1).1 fun v => by
    rw [(cut_ok d l u h).2, (cut_ok _ l mx h1).2, (cut_ok d (-mx) u h).2]
    constructor
    · rintro ⟨a, b, c⟩; have := mem_ge h a; exact ⟨⟨a, by omega, c⟩, b, by omega⟩
    · rintro ⟨⟨a, b, c⟩, d, e⟩; exact ⟨a, d, c⟩
  rw [e]
  exact Int.le_trans (size_cut h1 (.inr fun v hv => (mem_ge h1 hv).2)) (size_cut h (.inl fun v hv => (mem_ge h hv).1))
/-- steps that leave no more values -/
def Shr (f : St) : Prop := ∀ D E, Rd D → f D = some E → Rd E ∧ prodF E ≤ prodF D
theorem shr_some : Shr some := fun D E h e => by cases e; exact ⟨h, Int.le_refl _⟩
theorem shr_thn {f g : St} (hf : Shr f) (hg : Shr g) : Shr (thn f g) := fun D E h e => by
  obtain ⟨D1, e1, e2⟩ := thn_ex e
  obtain ⟨a, b⟩ := hf D D1 h e1
  obtain ⟨c, d⟩ := hg D1 E a e2
  exact ⟨c, Int.le_trans d b⟩
theorem shr_if {P : Ln.Ds → Bool} {f : St} (hf : Shr f) : Shr (ifS P f) := fun D E h e => by
  unfold ifS at e
  split at e
  · exact hf D E h e
  · cases e; exact ⟨h, Int.le_refl _⟩
theorem shr_set (x s : Int) : Shr (setS x s) := fun D E h e => by
  unfold setS cutS putS at e
  split at e
  · cases e
  · cases e
    refine ⟨h.set (cut_right _ _ _), prod_set h fun d hd => ?_⟩
    have hm : d ∈ D := List.mem_of_getElem? hd
    have he : domAt D x = d := by unfold domAt; simp [List.getD, hd]
    dsimp only
    rw [he]
    exact size_cut2 (h d hm) s s
theorem shr_clu (ps : List (Int × Int)) : Shr (cluS ps) := fun D E h e => by
  rcases clu_ways ps D with ⟨-, e2⟩ | ⟨-, -, e2⟩ | ⟨-, p, l1, l2, e0, -, -, -, e2⟩ | ⟨-, p, q, l, -, e2⟩
  · rw [e2] at e; exact shr_some D E h e
  · rw [e2] at e; cases e
  · rw [e2] at e; exact shr_set _ _ D E h e
  · rw [e2] at e; exact shr_some D E h e
theorem shr_all (s : Int) : ∀ (R : List Int), Shr (setAll R s)
  | [] => shr_some
  | x :: R => shr_thn (shr_set x s) (shr_all s R)
theorem shr_xor (X : List Int) : Shr (xorS X) := fun D E h e => by
  unfold xorS xorW at e
  split at e
  · split at e
    · split at e
      · exact shr_some D E h e
      · cases e
    · exact shr_set _ _ D E h e
    · exact shr_some D E h e
  · cases e
theorem log_prod {k : Int} {x a : List Int} {D E : Ln.Ds} (h : Rd D) (e : logL k x a D = some E) : prodF E ≤ prodF D := by
  unfold logL at e
  split at e
  · exact (shr_clu _ D E h e).2
  · split at e
    · exact (shr_thn (shr_thn (shr_if (shr_set _ _)) (shr_if (shr_set _ _))) (shr_thn (shr_if (shr_all _ _)) (shr_if (shr_clu _))) D E h e).2
    · split at e
      · exact (shr_thn (shr_thn (shr_if (shr_set _ _)) (shr_if (shr_set _ _))) (shr_thn (shr_if (shr_all _ _)) (shr_if (shr_clu _))) D E h e).2
      · exact (shr_xor _ D E h e).2
/-- each truth value that is left to a variable is in some for which it holds -/
theorem log_found {c : Cn} {ds E : Ln.Ds} (hm : modOk ⟨ds, [c], 0, 0⟩ = true) (hk : Lk c.k) (hn : c.x.Nodup) (he : logL c.k c.x c.a ds = some E) (g1 : Gd E) {x0 v : Int} (hx0 : x0 ∈ c.x) (hv : has (domAt E x0) v = true) :
    ((allB vals E).filter (holds c)).any (fun a => valAt a x0 == v) = true := by
  obtain ⟨a, w, hh, ha⟩ := log_all hm hk hn he hx0 (has_iff.1 hv).2
  refine List.any_eq_true.2 ⟨a, List.mem_filter.2 ⟨(mem_allB vals).2 ⟨w.1, fun i hi9 => ?_⟩, hh⟩, by simp [ha]⟩
  have h1 := w.2 (i : Int) (by omega) (by simpa using hi9)
  have g9 := g1 _ (List.getElem_mem hi9)
  rw [domAt_lt (by exact hi9)] at h1
  exact (mem_vals g9.1 g9.2 _).2 h1
end Go.Proofs.Ytilgmkhcpmegjaa.Lgc
end
section
namespace Go.Proofs.Ytilgmkhcpmegjaa.Zs
open Go.RowKit Go.ChangeShapes Go.WideShapes Go.Deep
open Go.Proofs.Ytilgmkhcpmegjaa.Dig Go.Proofs.Ytilgmkhcpmegjaa.Tk Go.Proofs.Ytilgmkhcpmegjaa.Ti
section
variable {H : Type} {enc : TypeId × Value → H} {P : Program} {w : World} {base : Nat} {spare : Nat → Bool} {held : Bool}
/-- a slice that came in, if each element's cells read as something -/
theorem slice_in {α : Type} (dflt : α) {size : Nat} (hs : 0 < size) (Q : World → α → List Value → Prop) (R : α → Prop) {t e : TypeId} {fuel : Nat} {a : Option Addr} {len cap : Nat} {x : DataW H × List MemPlace} (ht : P.underlying t = some (.slice e)) (hC : P.cellsOf e = size)
    (el : ∀ (n : Nat) (cs : List Value) (y : DataW H × List MemPlace), cs.length = size → DataW.trod enc P w base spare held n e cs = some y → ∃ z, Q w z cs ∧ R z)
    (h : DataW.trod enc P w base spare held fuel t [.slice a len cap] = some x) : ∃ l : List α, l.length = len ∧ Sl size Q w (.slice a len cap) l ∧ (∀ z ∈ l, R z) ∧ l.length ≤ maxLen := by
  rcases open_slice ht h with ⟨h0, _⟩ | ⟨ad, l, c, m, n, D, Pl, hcs, hb, hl, hm, hmm, hx, hi⟩
  · injection h0 with h0
    injection h0 with h1 h2 h3
    subst h1 h2 h3
    exact ⟨[], rfl, Sl.nil _ _ _, by simp, Nat.zero_le _⟩
  · injection hcs with hcs
    injection hcs with h1 h2 h3
    subst h1 h2 h3
    have hlm : len ≤ m := by rw [hmm]; split <;> omega
    have key : ∀ i, i < len → ∃ z : α, ∃ u, Q w z u ∧ R z ∧ u.length = size ∧ ∀ j v, u[j]? = some v → w.cell? (ad.add (i * size + j)) = some v := by
      intro i hlt
      obtain ⟨cs', hc, hd⟩ := hi i (by omega)
      rw [hC] at hc
      obtain ⟨_, hcl, hat⟩ := World.cells?_some hc
      obtain ⟨z, hz, hr⟩ := el n cs' _ hcl hd
      refine ⟨z, cs', hz, hr, hcl, fun j v hv => ?_⟩
      have hj : j < size := by
        apply Decidable.byContradiction; intro hn
        rw [List.getElem?_eq_none (by omega)] at hv; cases hv
      have := hat j hj
      rw [Go.Deep.add_add] at this
      rw [this]; exact hv
    obtain ⟨ts, hts, hp⟩ := list_of dflt len key
    subst hts
    have hget : ∀ i (hi : i < ts.length), ts.getD i dflt = ts[i] := fun i hi => by simp [List.getD, hi]
    refine ⟨ts, rfl, ⟨some ad, cap, rfl, hl, fun h0 => ?_⟩, fun z hz => ?_, by omega⟩
    · obtain ⟨b, o, spot⟩ := ad
      have hspot : spot = none := by
        obtain ⟨u, h1, h2, h3, h4⟩ := hp 0 h0
        obtain ⟨v, hv⟩ : ∃ v, u[0]? = some v := ⟨u[0]'(by omega), List.getElem?_eq_getElem (by omega)⟩
        have := World.cell?_spot (h4 0 v hv)
        simpa [Addr.add] using this
      subst hspot
      refine ⟨b, o, rfl, fun i x hx => ?_⟩
      have hi : i < ts.length := by
        apply Decidable.byContradiction; intro hn
        rw [List.getElem?_eq_none (by omega)] at hx; cases hx
      have ex : ts.getD i dflt = x := by
        rw [hget i hi]
        rw [List.getElem?_eq_getElem hi] at hx
        exact Option.some.inj hx
      obtain ⟨u, h1, h2, h3, h4⟩ := hp i hi
      rw [ex] at h1
      refine ⟨u, h1, h3, fun j v hv => ?_⟩
      have := h4 j v hv
      rw [add_at] at this
      rw [show o + i * size + j = o + (i * size + j) by omega]
      exact this
    · obtain ⟨i, hi, rfl⟩ := List.mem_iff_getElem.1 hz
      obtain ⟨u, h1, h2, -⟩ := hp i hi
      rw [hget i hi] at h2
      exact h2
theorem wf_fits {n : Int} (h : (Lit.int .i64 n).wf = true) : Lx.fits n := by
  simp only [Lit.wf, Bool.and_eq_true, decide_eq_true_iff] at h
  have e1 : IntKind.i64.min = -9223372036854775808 := rfl
  have e2 : IntKind.i64.max = 9223372036854775807 := rfl
  rw [e1, e2] at h
  exact ⟨h.1, by omega⟩
theorem range_in {e : TypeId} {f0 f1 : Field} (he : P.underlying e = some (.struct #[f0, f1])) (o0 : f0.offset = 0) (o1 : f1.offset = 1) (c0 : P.cellsOf f0.type = 1) (c1 : P.cellsOf f1.type = 1)
    (t0 : P.underlying f0.type = some (.int .i64)) (t1 : P.underlying f1.type = some (.int .i64)) (n : Nat) (cs : List Value) (y : DataW H × List MemPlace) (hl : cs.length = 2) (hd : DataW.trod enc P w base spare held n e cs = some y) : ∃ z, QR w z cs ∧ (Lx.fits z.1 ∧ Lx.fits z.2) := by
  obtain ⟨ys, n', -, -, -, hyl, hf⟩ := DataW.trod_struct he hd
  match cs, hl with
  | [v0, v1], _ =>
    have g0 := hf 0 f0 rfl
    have g1 := hf 1 f1 rfl
    rw [o0, c0] at g0
    rw [o1, c1] at g1
    simp only [List.drop_zero, List.drop_succ_cons, List.take_succ_cons, List.take_zero] at g0 g1
    have hys : ys.length = 2 := hyl
    match ys, hys with
    | [y0, y1], _ =>
      obtain ⟨n0, e0, -, q0⟩ := DataW.trod_int t0 (show _ = some y0 from g0)
      obtain ⟨n1, e1, -, q1⟩ := DataW.trod_int t1 (show _ = some y1 from g1)
      injection e0 with e0; injection e1 with e1
      subst e0 e1
      exact ⟨(n0, n1), rfl, wf_fits q0, wf_fits q1⟩
/-- the slice came in and reads as ranges -/
def RangesIn (w : World) (a : Option Addr) (len cap : Nat) (l : List Rn) : Prop := l.length = len ∧ Sl 2 QR w (.slice a len cap) l ∧ Bd l ∧ l.length ≤ maxLen
theorem ranges_in {t e : TypeId} {f0 f1 : Field} {fuel : Nat} {a : Option Addr} {len cap : Nat} {x : DataW H × List MemPlace} (ht : P.underlying t = some (.slice e)) (he : P.underlying e = some (.struct #[f0, f1])) (hC : P.cellsOf e = 2)
    (o0 : f0.offset = 0) (o1 : f1.offset = 1) (c0 : P.cellsOf f0.type = 1) (c1 : P.cellsOf f1.type = 1) (t0 : P.underlying f0.type = some (.int .i64)) (t1 : P.underlying f1.type = some (.int .i64))
    (h : DataW.trod enc P w base spare held fuel t [.slice a len cap] = some x) : ∃ l, RangesIn w a len cap l := by
  obtain ⟨l, h1, h2, h3, h4⟩ := slice_in ((0, 0) : Int × Int) (by decide) QR (fun z => Lx.fits z.1 ∧ Lx.fits z.2) ht hC (fun n cs y hl hd => range_in he o0 o1 c0 c1 t0 t1 n cs y hl hd) h
  exact ⟨l, h1, h2, h3, h4⟩
end
end Go.Proofs.Ytilgmkhcpmegjaa.Zs
end
section
namespace Go.Proofs.Ytilgmkhcpmegjaa.Tr
open Go.RowKit Go.ChangeShapes Go.WideShapes Go.Deep
open Go.Proofs.Ytilgmkhcpmegjaa.Dig Go.Proofs.Ytilgmkhcpmegjaa.Tk Go.Proofs.Ytilgmkhcpmegjaa.Ti Go.Proofs.Ytilgmkhcpmegjaa.Zs
section
variable {H : Type} {enc : TypeId × Value → H} {P : Program} {w : World} {base : Nat} {spare : Nat → Bool} {held : Bool}
/-- the slice came in and reads as domains -/
def DomsIn (w : World) (a : Option Addr) (len cap : Nat) (l : Ds) : Prop := l.length = len ∧ Sl 1 QD w (.slice a len cap) l ∧ (∀ d ∈ l, Bd d ∧ d.length ≤ maxLen) ∧ l.length ≤ maxLen
theorem doms_in {t e1 e2 : TypeId} {f0 f1 : Field} {fuel : Nat} {a : Option Addr} {len cap : Nat} {x : DataW H × List MemPlace} (ht : P.underlying t = some (.slice e1)) (hC1 : P.cellsOf e1 = 1) (h1 : P.underlying e1 = some (.slice e2)) (he : P.underlying e2 = some (.struct #[f0, f1])) (hC : P.cellsOf e2 = 2)
    (o0 : f0.offset = 0) (o1 : f1.offset = 1) (c0 : P.cellsOf f0.type = 1) (c1 : P.cellsOf f1.type = 1) (t0 : P.underlying f0.type = some (.int .i64)) (t1 : P.underlying f1.type = some (.int .i64))
    (h : DataW.trod enc P w base spare held fuel t [.slice a len cap] = some x) : ∃ l, DomsIn w a len cap l := by
  obtain ⟨l, q1, q2, q3, q4⟩ := slice_in ([] : List Rn) (by decide) QD (fun z => Bd z ∧ z.length ≤ maxLen) ht hC1 (fun n cs y hl hd => by
    match cs, hl with
    | [v], _ =>
      obtain ⟨a', len', cap', e⟩ := Go.Joins.slice_form h1 hd
      injection e with e
      subst e
      obtain ⟨l, r1, r2, r3, r4⟩ := ranges_in h1 he hC o0 o1 c0 c1 t0 t1 hd
      subst r1
      exact ⟨l, ⟨_, rfl, r2⟩, r3, r4⟩) h
  exact ⟨l, q1, q2, q3, q4⟩
end
end Go.Proofs.Ytilgmkhcpmegjaa.Tr
end
section
namespace Go.Proofs.Ytilgmkhcpmegjaa.Sn
open Go.RowKit Go.ChangeShapes Go.WideShapes Go.Deep
open Go.Proofs.Ytilgmkhcpmegjaa.Dig Go.Proofs.Ytilgmkhcpmegjaa.Tk Go.Proofs.Ytilgmkhcpmegjaa.Ti Go.Proofs.Ytilgmkhcpmegjaa.Zs Go.Proofs.Ytilgmkhcpmegjaa.Tr
section
variable {H : Type} {enc : TypeId × Value → H} {P : Program} {w : World} {base : Nat} {spare : Nat → Bool} {held : Bool}
/-- the slice came in and reads as integers -/
def IntsIn (w : World) (a : Option Addr) (len cap : Nat) (l : List Int) : Prop := l.length = len ∧ Sl 1 QI w (.slice a len cap) l ∧ BdI l ∧ l.length ≤ maxLen
theorem ints_in {t e : TypeId} {fuel : Nat} {a : Option Addr} {len cap : Nat} {x : DataW H × List MemPlace} (ht : P.underlying t = some (.slice e)) (he : P.underlying e = some (.int .i64)) (hC : P.cellsOf e = 1)
    (h : DataW.trod enc P w base spare held fuel t [.slice a len cap] = some x) : ∃ l, IntsIn w a len cap l := by
  obtain ⟨l, h1, h2, h3, h4⟩ := slice_in (0 : Int) (by decide) QI (fun z => Lx.fits z) ht hC (fun n cs y hl hd => by
    match cs, hl with
    | [v], _ =>
      obtain ⟨z, e, -, q⟩ := DataW.trod_int he hd
      injection e with e
      subst e
      exact ⟨z, rfl, wf_fits q⟩) h
  exact ⟨l, h1, h2, h3, h4⟩
/-- the types of a constraint -/
structure CT (P : Program) (e : TypeId) (g0 g1 g2 g3 : Field) (tx ta : TypeId) : Prop where
  he : P.underlying e = some (.struct #[g0, g1, g2, g3])
  go : g0.offset = 0 ∧ g1.offset = 1 ∧ g2.offset = 2 ∧ g3.offset = 3
  gc : P.cellsOf g0.type = 1 ∧ P.cellsOf g1.type = 1 ∧ P.cellsOf g2.type = 1 ∧ P.cellsOf g3.type = 1
  t0 : P.underlying g0.type = some (.int .i64)
  t1 : P.underlying g1.type = some (.slice tx)
  t2 : P.underlying g2.type = some (.slice ta)
  t3 : P.underlying g3.type = some (.int .i64)
  hx : P.underlying tx = some (.int .i64)
  cx : P.cellsOf tx = 1
  ha : P.underlying ta = some (.int .i64)
  ca : P.cellsOf ta = 1
def BdC' (c : Cn) : Prop := BdC c ∧ c.x.length ≤ maxLen ∧ c.a.length ≤ maxLen
theorem con_cells {e : TypeId} {g0 g1 g2 g3 : Field} {tx ta : TypeId} (T : CT P e g0 g1 g2 g3 tx ta) (n : Nat) (cs : List Value) (y : DataW H × List MemPlace) (hl : cs.length = 4) (hd : DataW.trod enc P w base spare held n e cs = some y) : ∃ z, QC w z cs ∧ BdC' z := by
  obtain ⟨ys, n', -, -, -, hyl, hf⟩ := DataW.trod_struct T.he hd
  match cs, hl with
  | [v0, v1, v2, v3], _ =>
    have k0 := hf 0 g0 rfl
    have k1 := hf 1 g1 rfl
    have k2 := hf 2 g2 rfl
    have k3 := hf 3 g3 rfl
    rw [T.go.1, T.gc.1] at k0
    rw [T.go.2.1, T.gc.2.1] at k1
    rw [T.go.2.2.1, T.gc.2.2.1] at k2
    rw [T.go.2.2.2, T.gc.2.2.2] at k3
    simp only [List.drop_zero, List.drop_succ_cons, List.take_succ_cons, List.take_zero] at k0 k1 k2 k3
    have hys : ys.length = 4 := hyl
    match ys, hys with
    | [y0, y1, y2, y3], _ =>
      obtain ⟨n0, e0, -, q0⟩ := DataW.trod_int T.t0 (show _ = some y0 from k0)
      obtain ⟨n3, e3, -, q3⟩ := DataW.trod_int T.t3 (show _ = some y3 from k3)
      obtain ⟨a1, l1, c1, e1⟩ := Go.Joins.slice_form T.t1 (show _ = some y1 from k1)
      obtain ⟨a2, l2, c2, e2⟩ := Go.Joins.slice_form T.t2 (show _ = some y2 from k2)
      injection e0 with e0; injection e1 with e1; injection e2 with e2; injection e3 with e3
      subst e0 e1 e2 e3
      obtain ⟨xs, r1, r2, r3, r4⟩ := ints_in T.t1 T.hx T.cx (show _ = some y1 from k1)
      obtain ⟨es, s1, s2, s3, s4⟩ := ints_in T.t2 T.ha T.ca (show _ = some y2 from k2)
      exact ⟨⟨n0, xs, es, n3⟩, ⟨_, _, rfl, r2, s2⟩, ⟨wf_fits q0, r3, s3, wf_fits q3⟩, r4, s4⟩
/-- the constraint came in, by value -/
def ConIn (w : World) (k : Int) (X : Option Addr) (n xc : Nat) (Y : Option Addr) (m yc : Nat) (e : Int) (c : Cn) : Prop := ConAt w (.agg #[.int .i64 k, .slice X n xc, .slice Y m yc, .int .i64 e]) c ∧ BdC' c
theorem con_in {r : Reach} {b0 : Nat} {v : Value} {d : DataW H} {p : List MemPlace} {e : TypeId} {g0 g1 g2 g3 : Field} {tx ta : TypeId} (T : CT P e g0 g1 g2 g3 tx ta) (hC : P.cellsOf e = 4)
    (hv : Value.okWide P w r b0 e v) (h : DataW.Trod enc P w base spare held e v d p) : ∃ (k : Int) (X : Option Addr) (n xc : Nat) (Y : Option Addr) (m yc : Nat) (q : Int), v = .agg #[.int .i64 k, .slice X n xc, .slice Y m yc, .int .i64 q] ∧ ∃ c, ConIn w k X n xc Y m yc q c := by
  simp only [Value.okWide, T.he] at hv
  obtain ⟨cs, rfl, h2, -⟩ := hv
  obtain ⟨fuel, hf⟩ := h
  obtain ⟨l⟩ := cs
  have hl : l.length = 4 := by have := h2; rw [hC] at this; simpa using this
  obtain ⟨z, ⟨vx, va, e1, e2, e3⟩, e4⟩ := con_cells T fuel l _ hl hf
  obtain ⟨X, xc, rfl⟩ := e2.form
  obtain ⟨Y, yc, rfl⟩ := e3.form
  subst e1
  exact ⟨z.k, X, z.x.length, xc, Y, z.a.length, yc, z.c, rfl, z, ⟨_, _, rfl, e2, e3⟩, e4⟩
/-- the types of a model -/
structure MT (P : Program) (e : TypeId) (f0 f1 f2 f3 : Field) (td tr ec : TypeId) (l0 l1 : Field) : Prop where
  he : P.underlying e = some (.struct #[f0, f1, f2, f3])
  go : f0.offset = 0 ∧ f1.offset = 1 ∧ f2.offset = 2 ∧ f3.offset = 3
  gc : P.cellsOf f0.type = 1 ∧ P.cellsOf f1.type = 1 ∧ P.cellsOf f2.type = 1 ∧ P.cellsOf f3.type = 1
  t0 : P.underlying f0.type = some (.slice td)
  cd : P.cellsOf td = 1
  hd : P.underlying td = some (.slice tr)
  hr : P.underlying tr = some (.struct #[l0, l1])
  cr : P.cellsOf tr = 2
  lo : l0.offset = 0 ∧ l1.offset = 1
  lc : P.cellsOf l0.type = 1 ∧ P.cellsOf l1.type = 1
  lt : P.underlying l0.type = some (.int .i64) ∧ P.underlying l1.type = some (.int .i64)
  t1 : P.underlying f1.type = some (.slice ec)
  ce : P.cellsOf ec = 4
  t2 : P.underlying f2.type = some (.int .i64)
  t3 : P.underlying f3.type = some (.int .i64)
end
end Go.Proofs.Ytilgmkhcpmegjaa.Sn
end
