/- Layer 15 (logic), pure: what a clause, an And, an Or or an Xor leaves of domains; smaller domains lead to smal -/
import Derived.Test.YtilgmkhcpmegjaaQan
namespace Go.Proofs.Ytilgmkhcpmegjaa.Lgc
set_option linter.unusedVariables false
set_option linter.unusedSimpArgs false
open Go.Proofs.Ytilgmkhcpmegjaa.Num Go.Proofs.Ytilgmkhcpmegjaa.Zs Go.Proofs.Ytilgmkhcpmegjaa.Sn Go.Proofs.Ytilgmkhcpmegjaa.Ln Go.Proofs.Ytilgmkhcpmegjaa.At
/-- a variable is this value; is open -/
def isv (x s : Int) (D : Ln.Ds) : Bool := decide (L x D = s ∧ H x D = s)
def ope (x : Int) (D : Ln.Ds) : Bool := decide (L x D ≠ H x D)
def setS (x s : Int) : St := cutS x (fun _ => s) (fun _ => s)
/-- of variables, each with what makes it true -/
def cluS (ps : List (Int × Int)) : St := fun D =>
  if ps.any (fun p => isv p.1 p.2 D) = true then some D
  else match ps.filter (fun p => ope p.1 D) with
    | [] => none
    | [p] => setS p.1 p.2 D
    | _ => some D
def anyS (X : List Int) (s : Int) (D : Ln.Ds) : Bool := X.any (fun x => isv x s D)
def allS (X : List Int) (s : Int) (D : Ln.Ds) : Bool := X.all (fun x => isv x s D)
def setAll : List Int → Int → St
  | [], _ => some
  | x :: X, s => thn (setS x s) (setAll X s)
def decS (R : List Int) (f s : Int) : St := thn (ifS (anyS R (1 - s)) (setS f (1 - s))) (ifS (allS R s) (setS f s))
def notP (R : List Int) (s : Int) : List (Int × Int) := R.map fun x => (x, 1 - s)
def demS (R : List Int) (f s : Int) : St := thn (ifS (isv f s) (setAll R s)) (ifS (isv f (1 - s)) (cluS (notP R s)))
def andS (R : List Int) (f s : Int) : St := thn (decS R f s) (demS R f s)
def cnt1 (X : List Int) (D : Ln.Ds) : Nat := X.countP (fun x => isv x 1 D)
def odd (X : List Int) (D : Ln.Ds) : Int := ((cnt1 X D % 2 : Nat) : Int)
/-- those that are not open are truth values -/
def bitS (X : List Int) (D : Ln.Ds) : Bool := X.all fun x => ope x D || decide (L x D = 0) || decide (L x D = 1)
def xorW (X : List Int) : St := fun D =>
  match X.filter (fun x => ope x D) with
    | [] => if odd X D = 0 then some D else none
    | [p] => setS p (odd X D) D
    | _ => some D
def xorS (X : List Int) : St := fun D => if bitS X D = true then xorW X D else none
def tr (n : Int) : Int := if n = 1 then 1 else 0
def cluP (x a : List Int) : List (Int × Int) := x.zip (a.map tr)
def rst (x : List Int) : List Int := x.take (x.length - 1)
def flf (x : List Int) : Int := x.getD (x.length - 1) 0
def logL (k : Int) (x a : List Int) : St :=
  if k = 11 then cluS (cluP x a) else if k = 12 then andS (rst x) (flf x) 1 else if k = 13 then andS (rst x) (flf x) 0 else xorS x
def Lk (k : Int) : Prop := 11 ≤ k ∧ k ≤ 14
instance (k : Int) : Decidable (Lk k) := by unfold Lk; infer_instance
/-- what Narrow is to answer -/
def logO (c : Cn) (ds : Ln.Ds) : Option Ln.Ds × Int :=
  if modOk ⟨ds, [c], 0, 0⟩ = true then
    if Lk c.k then (logL c.k c.x c.a ds, if (logL c.k c.x c.a ds).isSome then 0 else 12) else (none, 10)
  else (none, 2)
theorem logO_no {c : Cn} {ds : Ln.Ds} (h : modOk ⟨ds, [c], 0, 0⟩ = false) : logO c ds = (none, 2) := by rw [logO, if_neg (by rw [h]; simp)]
theorem logO_know {c : Cn} {ds : Ln.Ds} (h : modOk ⟨ds, [c], 0, 0⟩ = true) (hk : ¬ Lk c.k) : logO c ds = (none, 10) := by rw [logO, if_pos h, if_neg hk]
theorem logO_is {c : Cn} {ds : Ln.Ds} (h : modOk ⟨ds, [c], 0, 0⟩ = true) (hk : Lk c.k) {R : Option Ln.Ds} (hR : logL c.k c.x c.a ds = R) : logO c ds = (R, if R.isSome then 0 else 12) := by rw [logO, if_pos h, if_pos hk, hR]
theorem isv_iff {x s : Int} {D : Ln.Ds} : isv x s D = true ↔ L x D = s ∧ H x D = s := by simp [isv]
theorem ope_iff {x : Int} {D : Ln.Ds} : ope x D = true ↔ L x D ≠ H x D := by simp [ope]
theorem ope_no {x : Int} {D : Ln.Ds} : ope x D = false ↔ L x D = H x D := by simp [ope]
theorem isv_no {x s : Int} {D : Ln.Ds} : isv x s D = false ↔ ¬ (L x D = s ∧ H x D = s) := by simp [isv]
section
variable {n : Nat} {D D' : Ln.Ds}
theorem isv_mo (h : Gd D) (h' : Gd D') (hl : D.length = n) (hs : Sub D' D) {x : Int} (hx : Inn n x) {s : Int} (k : isv x s D = true) : isv x s D' = true := by
  have := ends_le h h' hl hs hx
  rw [isv_iff] at k ⊢; omega
theorem fix_mo (h : Gd D) (h' : Gd D') (hl : D.length = n) (hs : Sub D' D) {x : Int} (hx : Inn n x) (k : ope x D = false) : L x D' = L x D ∧ H x D' = H x D ∧ ope x D' = false := by
  have := ends_le h h' hl hs hx
  rw [ope_no] at k ⊢; omega
theorem fix_isv (h : Gd D) (h' : Gd D') (hl : D.length = n) (hs : Sub D' D) {x : Int} (hx : Inn n x) (k : ope x D = false) (s : Int) : isv x s D' = isv x s D := by
  obtain ⟨h1, h2, -⟩ := fix_mo h h' hl hs hx k
  unfold isv; rw [h1, h2]
theorem set_okp {X : List Int} {x : Int} (hx : Inn n x) (hX : x ∈ X) (s : Int) : Okp n X (setS x s) :=
  cut_okp hx hX fun _ _ _ _ _ _ => ⟨Int.le_refl _, Int.le_refl _⟩
/-- what is fixed already lies within what is set -/
theorem set_fx_mo (h : Gd D) (h' : Gd D') (hl : D.length = n) (hs : Sub D' D) {x : Int} (hx : Inn n x) {t : Int} (k : isv x t D' = true) : ∃ E, setS x t D = some E ∧ Sub D' E := by
  rw [isv_iff] at k
  have hl' : D'.length = n := hs.1.trans hl
  have g' := h'.at_ (x := x) (by rw [hl']; exact hx.2)
  have g := h.at_ (x := x) (by rw [hl]; exact hx.2)
  have hv : mem (domAt D' x) t := by have := lo_mem g'.1 g'.2; rw [← k.1]; exact this
  have hb : ∀ v, mem (domAt D' x) v → v = t := fun v hv => by
    have h1 := mem_lo g'.1 hv
    have h2 := mem_hi _ g'.1 hv
    unfold L H at k; omega
  have hm : mem (cut (domAt D x) t t) t := by rw [(cut_ok _ _ _ g.1).2]; exact ⟨hs.2 x hx.1 t hv, Int.le_refl _, Int.le_refl _⟩
  unfold setS cutS putS
  rw [if_neg (fun e => by dsimp only at e; rw [e] at hm; exact hm)]
  refine ⟨_, rfl, by simp [hs.1], fun y hy v hv => ?_⟩
  rw [domAt_set (by rw [hl]; exact hx.2)]
  split
  · rename_i e
    have e2 : y = x := by have := hx.1; omega
    rw [e2] at hv
    rw [hb v hv]; exact hm
  · exact hs.2 y hy v hv
end
/-! a clause -/
section
variable {n : Nat} {X : List Int} {ps : List (Int × Int)}
theorem filt_is {α : Type} {P : α → Bool} {l l1 l2 : List α} {p : α} (e : l = l1 ++ p :: l2) (h1 : ∀ q ∈ l1, P q = false) (h2 : ∀ q ∈ l2, P q = false) (h3 : P p = true) : l.filter P = [p] := by
  rw [e, List.filter_append, List.filter_cons_of_pos h3, List.filter_eq_nil_iff.2 (fun q hq h => by rw [h1 q hq] at h; cases h), List.filter_eq_nil_iff.2 (fun q hq h => by rw [h2 q hq] at h; cases h)]
  rfl
theorem clu_true {D : Ln.Ds} {p : Int × Int} (hp : p ∈ ps) (h : isv p.1 p.2 D = true) : cluS ps D = some D := by
  unfold cluS; rw [if_pos (List.any_eq_true.2 ⟨p, hp, h⟩)]
theorem clu_none {D : Ln.Ds} (h1 : ∀ p ∈ ps, isv p.1 p.2 D = false) (h2 : ∀ p ∈ ps, ope p.1 D = false) : cluS ps D = none := by
  unfold cluS
  rw [if_neg (by rw [List.any_eq_true]; rintro ⟨p, hp, h⟩; rw [h1 p hp] at h; cases h)]
  rw [show ps.filter (fun p => ope p.1 D) = [] from List.filter_eq_nil_iff.2 fun p hp h => by rw [h2 p hp] at h; cases h]
theorem clu_one {D : Ln.Ds} {p : Int × Int} {l1 l2 : List (Int × Int)} (e : ps = l1 ++ p :: l2) (h1 : ∀ q ∈ ps, isv q.1 q.2 D = false) (h2 : ∀ q ∈ l1, ope q.1 D = false) (h3 : ∀ q ∈ l2, ope q.1 D = false) (h4 : ope p.1 D = true) :
    cluS ps D = setS p.1 p.2 D := by
  unfold cluS
  rw [if_neg (by rw [List.any_eq_true]; rintro ⟨p, hp, h⟩; rw [h1 p hp] at h; cases h)]
  rw [filt_is (P := fun p : Int × Int => ope p.1 D) e h2 h3 h4]
theorem filt_one {α : Type} {P : α → Bool} {l : List α} {p : α} (h : l.filter P = [p]) : ∃ l1 l2, l = l1 ++ p :: l2 ∧ (∀ q ∈ l1, P q = false) ∧ (∀ q ∈ l2, P q = false) ∧ P p = true := by
  obtain ⟨l1, l2, e, h1, h2, h3⟩ := List.filter_eq_cons_iff.1 h
  exact ⟨l1, l2, e, fun q hq => by simpa using h1 q hq, fun q hq => by simpa using List.filter_eq_nil_iff.1 h3 q hq, h2⟩
/-- the ways of a clause -/
theorem clu_ways (ps : List (Int × Int)) (D : Ln.Ds) :
    ((∃ p ∈ ps, isv p.1 p.2 D = true) ∧ cluS ps D = some D)
    ∨ ((∀ p ∈ ps, isv p.1 p.2 D = false) ∧ (∀ p ∈ ps, ope p.1 D = false) ∧ cluS ps D = none)
    ∨ ((∀ p ∈ ps, isv p.1 p.2 D = false) ∧ ∃ p l1 l2, ps = l1 ++ p :: l2 ∧ (∀ q ∈ l1, ope q.1 D = false) ∧ (∀ q ∈ l2, ope q.1 D = false) ∧ ope p.1 D = true ∧ cluS ps D = setS p.1 p.2 D)
    ∨ ((∀ p ∈ ps, isv p.1 p.2 D = false) ∧ ∃ p q l, ps.filter (fun p => ope p.1 D) = p :: q :: l ∧ cluS ps D = some D) := by
  by_cases hA : ps.any (fun p => isv p.1 p.2 D) = true
  · obtain ⟨p, hp, h⟩ := List.any_eq_true.1 hA
    exact .inl ⟨⟨p, hp, h⟩, clu_true hp h⟩
  · have hN : ∀ p ∈ ps, isv p.1 p.2 D = false := fun p hp => by
      cases e : isv p.1 p.2 D with
      | false => rfl
      | true => exact absurd (List.any_eq_true.2 ⟨p, hp, e⟩) hA
    cases hf : ps.filter (fun p => ope p.1 D) with
    | nil =>
      have h2 : ∀ p ∈ ps, ope p.1 D = false := fun p hp => by simpa using List.filter_eq_nil_iff.1 hf p hp
      exact .inr (.inl ⟨hN, h2, clu_none hN h2⟩)
    | cons p l =>
      cases l with
      | nil =>
        obtain ⟨l1, l2, e, a, b, c⟩ := filt_one hf
        exact .inr (.inr (.inl ⟨hN, p, l1, l2, e, a, b, c, clu_one e hN a b c⟩))
      | cons q l =>
        refine .inr (.inr (.inr ⟨hN, p, q, l, rfl, ?_⟩))
        unfold cluS
        rw [if_neg hA, hf]
theorem clu_ok (hI : ∀ p ∈ ps, Inn n p.1 ∧ p.1 ∈ X) : Okp n X (cluS ps) := by
  have ok : ∀ D E, Gd D → D.length = n → cluS ps D = some E → Gd E ∧ Sub E D ∧ ∀ y : Nat, y < n → (y : Int) ∉ X → domAt E y = domAt D y := by
    intro D E h hl he
    rcases clu_ways ps D with ⟨-, e⟩ | ⟨-, -, e⟩ | ⟨-, p, l1, l2, e0, -, -, -, e⟩ | ⟨-, p, q, l, -, e⟩
    · rw [e] at he; cases he; exact ⟨h, .refl _, fun _ _ _ => rfl⟩
    · rw [e] at he; cases he
    · rw [e] at he
      have hp := hI p (by rw [e0]; simp)
      exact (set_okp hp.1 hp.2 p.2).ok D E h hl he
    · rw [e] at he; cases he; exact ⟨h, .refl _, fun _ _ _ => rfl⟩
  refine ⟨ok, fun D D' E' h h' hl hs he => ?_⟩
  have hl' : D'.length = n := hs.1.trans hl
  have hE := (ok D' E' h' hl' he).2.1.trans hs
  have keep : ∀ q ∈ ps, isv q.1 q.2 D = false → ope q.1 D = false → isv q.1 q.2 D' = false ∧ ope q.1 D' = false := fun q hq a b => by
    have f := fix_mo h h' hl hs (hI q hq).1 b
    exact ⟨by rw [fix_isv h h' hl hs (hI q hq).1 b]; exact a, f.2.2⟩
  rcases clu_ways ps D with ⟨-, e⟩ | ⟨a, b, e⟩ | ⟨a, p, l1, l2, e0, b1, b2, b3, e⟩ | ⟨-, p, q, l, -, e⟩
  · exact ⟨D, e, hE⟩
  · rw [clu_none (fun q hq => (keep q hq (a q hq) (b q hq)).1) (fun q hq => (keep q hq (a q hq) (b q hq)).2)] at he; cases he
  · have hp : p ∈ ps := by rw [e0]; simp
    have hm1 : ∀ q ∈ l1, q ∈ ps := fun q hq => by rw [e0]; simp [hq]
    have hm2 : ∀ q ∈ l2, q ∈ ps := fun q hq => by rw [e0]; simp [hq]
    have c1 : ∀ q ∈ l1, isv q.1 q.2 D' = false ∧ ope q.1 D' = false := fun q hq => keep q (hm1 q hq) (a q (hm1 q hq)) (b1 q hq)
    have c2 : ∀ q ∈ l2, isv q.1 q.2 D' = false ∧ ope q.1 D' = false := fun q hq => keep q (hm2 q hq) (a q (hm2 q hq)) (b2 q hq)
    rw [e]
    cases hv : isv p.1 p.2 D' with
    | true =>
      rw [clu_true hp hv] at he
      cases he
      exact set_fx_mo h h' hl hs (hI p hp).1 hv
    | false =>
      have c3 : ∀ q ∈ ps, isv q.1 q.2 D' = false := fun q hq => by
        rw [e0] at hq
        rcases List.mem_append.1 hq with hq | hq
        · exact (c1 q hq).1
        · rcases List.mem_cons.1 hq with rfl | hq
          · exact hv
          · exact (c2 q hq).1
      cases ho : ope p.1 D' with
      | false =>
        have c4 : ∀ q ∈ ps, ope q.1 D' = false := fun q hq => by
          rw [e0] at hq
          rcases List.mem_append.1 hq with hq | hq
          · exact (c1 q hq).2
          · rcases List.mem_cons.1 hq with rfl | hq
            · exact ho
            · exact (c2 q hq).2
        rw [clu_none c3 c4] at he; cases he
      | true =>
        rw [clu_one e0 c3 (fun q hq => (c1 q hq).2) (fun q hq => (c2 q hq).2) ho] at he
        exact (set_okp (hI p hp).1 (hI p hp).2 p.2).mo D D' E' h h' hl hs he
  · exact ⟨D, e, hE⟩
end
/-! an And, an Or -/
section
variable {n : Nat} {X : List Int}
theorem some_ok : Okp n X some := ⟨fun D E h hl he => by cases he; exact ⟨h, .refl _, fun _ _ _ => rfl⟩, fun D D' E' h h' hl hs he => by cases he; exact ⟨D, rfl, hs⟩⟩
theorem setAll_ok (s : Int) : ∀ {R : List Int}, (∀ x ∈ R, Inn n x ∧ x ∈ X) → Okp n X (setAll R s)
  | [], _ => some_ok
  | x :: R, h => thn_ok (set_okp (h x (by simp)).1 (h x (by simp)).2 s) (setAll_ok s fun y hy => h y (by simp [hy]))
theorem any_mo {R : List Int} (hR : ∀ x ∈ R, Inn n x) (s : Int) (D D' : Ln.Ds) (h : Gd D) (h' : Gd D') (hl : D.length = n) (hs : Sub D' D) (k : anyS R s D = true) : anyS R s D' = true := by
  obtain ⟨x, hx, e⟩ := List.any_eq_true.1 k
  exact List.any_eq_true.2 ⟨x, hx, isv_mo h h' hl hs (hR x hx) e⟩
theorem all_mo {R : List Int} (hR : ∀ x ∈ R, Inn n x) (s : Int) (D D' : Ln.Ds) (h : Gd D) (h' : Gd D') (hl : D.length = n) (hs : Sub D' D) (k : allS R s D = true) : allS R s D' = true :=
  List.all_eq_true.2 fun x hx => isv_mo h h' hl hs (hR x hx) (List.all_eq_true.1 k x hx)
theorem and_ok {R : List Int} {f : Int} (hR : ∀ x ∈ R, Inn n x ∧ x ∈ X) (hf : Inn n f ∧ f ∈ X) (s : Int) : Okp n X (andS R f s) := by
  refine thn_ok (thn_ok (if_ok (any_mo (fun x hx => (hR x hx).1) _) ?_) (if_ok (all_mo (fun x hx => (hR x hx).1) _) ?_)) (thn_ok (if_ok (fun D D' h h' hl hs k => isv_mo h h' hl hs hf.1 k) ?_) (if_ok (fun D D' h h' hl hs k => isv_mo h h' hl hs hf.1 k) ?_))
  · exact set_okp hf.1 hf.2 _
  · exact set_okp hf.1 hf.2 _
  · exact setAll_ok s hR
  · exact clu_ok fun p hp => by
      obtain ⟨x, hx, rfl⟩ := List.mem_map.1 hp
      exact hR x hx
end
/-! an Xor -/
section
variable {n : Nat} {X : List Int}
theorem cnt_eq {D D' : Ln.Ds} {l : List Int} (h : ∀ x ∈ l, isv x 1 D' = isv x 1 D) : cnt1 l D' = cnt1 l D := by
  unfold cnt1
  exact List.countP_congr fun x hx => by rw [h x hx]
theorem cnt_mid (l1 l2 : List Int) (p : Int) (D : Ln.Ds) : cnt1 (l1 ++ p :: l2) D = cnt1 l1 D + cnt1 l2 D + (if isv p 1 D = true then 1 else 0) := by
  unfold cnt1
  rw [List.countP_append, List.countP_cons]
  omega
theorem filt_nil {D : Ln.Ds} {l : List Int} (h : ∀ x ∈ l, ope x D = false) : l.filter (fun x => ope x D) = [] := List.filter_eq_nil_iff.2 fun p hp k => by rw [h p hp] at k; cases k
theorem filt_mid {D : Ln.Ds} {l1 l2 : List Int} {p : Int} (h1 : ∀ x ∈ l1, ope x D = false) (h2 : ∀ x ∈ l2, ope x D = false) (h3 : ope p D = true) : (l1 ++ p :: l2).filter (fun x => ope x D) = [p] := by
  rw [List.filter_append, List.filter_cons_of_pos (p := fun x : Int => ope x D) h3, filt_nil h1, filt_nil h2]; rfl
theorem xor_ok (hI : ∀ x ∈ X, Inn n x) : Okp n X (xorS X) := by
  have ok : ∀ D E, Gd D → D.length = n → xorS X D = some E → Gd E ∧ Sub E D ∧ ∀ y : Nat, y < n → (y : Int) ∉ X → domAt E y = domAt D y := by
    intro D E h hl he
    unfold xorS xorW at he
    split at he
    · split at he
      · split at he
        · cases he; exact ⟨h, .refl _, fun _ _ _ => rfl⟩
        · cases he
      · rename_i p hp
        have hm : p ∈ X := (List.mem_filter.1 (show p ∈ X.filter (fun x => ope x D) by rw [hp]; simp)).1
        exact (set_okp (hI p hm) hm _).ok D E h hl he
      · cases he; exact ⟨h, .refl _, fun _ _ _ => rfl⟩
    · cases he
  refine ⟨ok, fun D D' E' h h' hl hs he => ?_⟩
  have hl' : D'.length = n := hs.1.trans hl
  have hE := (ok D' E' h' hl' he).2.1.trans hs
  have bit' : bitS X D' = true := by
    unfold xorS at he
    split at he
    · assumption
    · cases he
  have bit : bitS X D = true := by
    unfold bitS at bit' ⊢
    rw [List.all_eq_true] at bit' ⊢
    intro x hx
    have b := bit' x hx
    cases ho : ope x D with
    | true => simp
    | false =>
      obtain ⟨f1, f2, f3⟩ := fix_mo h h' hl hs (hI x hx) ho
      rw [f3, f1] at b
      exact b
  have same : ∀ x ∈ X, ope x D = false → isv x 1 D' = isv x 1 D ∧ ope x D' = false := fun x hx ho => ⟨fix_isv h h' hl hs (hI x hx) ho 1, (fix_mo h h' hl hs (hI x hx) ho).2.2⟩
  unfold xorS at he ⊢
  rw [if_pos bit'] at he
  rw [if_pos bit]
  unfold xorW at he ⊢
  cases hf : X.filter (fun x => ope x D) with
  | nil =>
    have h2 : ∀ x ∈ X, ope x D = false := fun p hp => by simpa using List.filter_eq_nil_iff.1 hf p hp
    rw [filt_nil fun x hx => (same x hx (h2 x hx)).2] at he
    have ec : odd X D' = odd X D := by unfold odd; rw [cnt_eq fun x hx => (same x hx (h2 x hx)).1]
    dsimp only at he ⊢
    rw [ec] at he
    split at he
    · rename_i e; cases he; rw [if_pos e]; exact ⟨D, rfl, hs⟩
    · cases he
  | cons p l =>
    cases l with
    | nil =>
      obtain ⟨l1, l2, e0, a, b, c⟩ := filt_one hf
      have hp : p ∈ X := by rw [e0]; simp
      have s1 := fun x (hx : x ∈ l1) => same x (by rw [e0]; simp [hx]) (a x hx)
      have s2 := fun x (hx : x ∈ l2) => same x (by rw [e0]; simp [hx]) (b x hx)
      have nv : isv p 1 D = false := by
        rw [isv_no]; rw [ope_iff] at c; omega
      have oD : odd X D = (((cnt1 l1 D + cnt1 l2 D) % 2 : Nat) : Int) := by
        unfold odd; rw [e0, cnt_mid, nv]; simp
      have oD' : odd X D' = (((cnt1 l1 D + cnt1 l2 D + (if isv p 1 D' = true then 1 else 0)) % 2 : Nat) : Int) := by
        unfold odd; rw [e0, cnt_mid, cnt_eq fun x hx => (s1 x hx).1, cnt_eq fun x hx => (s2 x hx).1]
      dsimp only
      cases ho : ope p D' with
      | true =>
        have nv' : isv p 1 D' = false := by
          rw [isv_no]; rw [ope_iff] at ho; omega
        rw [e0, filt_mid (fun x hx => (s1 x hx).2) (fun x hx => (s2 x hx).2) ho] at he
        dsimp only at he
        rw [← e0, show odd X D' = odd X D by rw [oD', oD, nv']; simp] at he
        exact (set_okp (hI p hp) hp _).mo D D' E' h h' hl hs he
      | false =>
        have hn : X.filter (fun x => ope x D') = [] := by
          rw [e0, List.filter_append, List.filter_cons_of_neg (p := fun x : Int => ope x D') (by rw [ho]; simp), filt_nil fun x hx => (s1 x hx).2, filt_nil fun x hx => (s2 x hx).2]; rfl
        rw [hn] at he
        dsimp only at he
        split at he
        · rename_i e
          cases he
          have hb := List.all_eq_true.1 bit' p hp
          rw [ho] at hb
          simp only [Bool.false_or, Bool.or_eq_true, decide_eq_true_eq] at hb
          rw [ope_no] at ho
          refine set_fx_mo h h' hl hs (hI p hp) (isv_iff.2 ?_)
          rw [oD]
          rw [oD'] at e
          rcases hb with hb | hb
          · have hx : isv p 1 D' = false := by rw [isv_no]; omega
            rw [hx] at e
            simp only [Bool.false_eq_true, if_false] at e
            omega
          · have hx : isv p 1 D' = true := by rw [isv_iff]; omega
            rw [hx] at e
            simp only [if_true] at e
            omega
        · cases he
    | cons q l => exact ⟨D, rfl, hE⟩
end
/-! whatever the kind -/
theorem l11 (k : Int) (x a : List Int) (h : k = 11) : logL k x a = cluS (cluP x a) := by rw [logL, if_pos h]
theorem l12 (k : Int) (x a : List Int) (h : k = 12) : logL k x a = andS (rst x) (flf x) 1 := by rw [logL, if_neg (by omega), if_pos h]
theorem l13 (k : Int) (x a : List Int) (h : k = 13) : logL k x a = andS (rst x) (flf x) 0 := by rw [logL, if_neg (by omega), if_neg (by omega), if_pos h]
theorem l14 (k : Int) (x a : List Int) (h : k = 14) : logL k x a = xorS x := by rw [logL, if_neg (by omega), if_neg (by omega), if_neg (by omega)]
theorem lk4 {k : Int} (h : Lk k) : k = 11 ∨ k = 12 ∨ k = 13 ∨ k = 14 := by unfold Lk at h; omega
theorem inn_all {n : Nat} {x : List Int} (h : x.all (isV n) = true) : ∀ y ∈ x, Inn n y := fun y hy => by
  have := List.all_eq_true.1 h y hy
  simp only [isV, Bool.and_eq_true, decide_eq_true_eq] at this
  exact ⟨this.1, by omega⟩
theorem flf_mem {x : List Int} (h : x ≠ []) : flf x ∈ x := by
  have : 0 < x.length := List.length_pos_iff.2 h
  have hl : x.length - 1 < x.length := by omega
  unfold flf
  rw [List.getD, List.getElem?_eq_getElem hl]
  exact List.getElem_mem hl
theorem rst_flf {x : List Int} (h : x ≠ []) : x = rst x ++ [flf x] := by
  have : 0 < x.length := List.length_pos_iff.2 h
  have hl : x.length - 1 < x.length := by omega
  unfold rst flf
  rw [List.getD, List.getElem?_eq_getElem hl, Option.getD_some, ← List.take_succ_eq_append_getElem hl, show x.length - 1 + 1 = x.length by omega, List.take_length]
theorem and_ne {ds : Ln.Ds} {c : Cn} (h : conOk ds c = true) (hk : c.k = 12 ∨ c.k = 13) : c.x ≠ [] := by
  obtain ⟨-, -, h3⟩ := con_x h
  intro e
  unfold shp at h3
  rw [if_neg (by omega), if_neg (by omega), if_neg (by omega), if_neg (by omega), if_pos hk, e] at h3
  simp at h3
theorem log_ok {ds : Ln.Ds} {c : Cn} (h : conOk ds c = true) (hk : Lk c.k) : Okp ds.length c.x (logL c.k c.x c.a) := by
  obtain ⟨h1, h2, h3⟩ := con_x h
  have hI := inn_all h1
  have hR : ∀ x ∈ rst c.x, Inn ds.length x ∧ x ∈ c.x := fun x hx => ⟨hI x (List.mem_of_mem_take hx), List.mem_of_mem_take hx⟩
  rcases lk4 hk with k | k | k | k
  · rw [l11 _ _ _ k]
    exact clu_ok fun p hp => ⟨hI _ (List.of_mem_zip hp).1, (List.of_mem_zip hp).1⟩
  · rw [l12 _ _ _ k]
    have hf := flf_mem (and_ne h (.inl k))
    exact and_ok hR ⟨hI _ hf, hf⟩ 1
  · rw [l13 _ _ _ k]
    have hf := flf_mem (and_ne h (.inr k))
    exact and_ok hR ⟨hI _ hf, hf⟩ 0
  · rw [l14 _ _ _ k]
    exact xor_ok hI
end Go.Proofs.Ytilgmkhcpmegjaa.Lgc
