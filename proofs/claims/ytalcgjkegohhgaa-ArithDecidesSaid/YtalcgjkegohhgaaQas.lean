/- Layer 11 (sense), pure: all values within domains, one behind the other (the document's first, after, Every).  -/
import Derived.Test.YtalcgjkegohhgaaQar
set_option linter.unusedVariables false
set_option linter.unusedSimpArgs false
section
namespace Go.Proofs.Ytalcgjkegohhgaa.Ev
open Go.Proofs.Ytalcgjkegohhgaa.Zs
/-- from a on, step by step, these and no more -/
inductive Run {β : Type} (f : β → Option β) : β → List β → Prop
  | last {a : β} : f a = none → Run f a [a]
  | more {a b : β} {l : List β} : f a = some b → Run f b l → Run f a (a :: l)
section
variable {α : Type} (nx : α → Int → Option Int) (fs : α → Int) (vs : α → List Int)
/-- the values that follow others, the last one's soonest -/
def afterB : List α → List Int → Option (List Int)
  | d :: ds, a :: zs => match afterB ds zs with
    | some l => some (a :: l)
    | none => (nx d (a + 1)).map fun n => n :: ds.map fs
  | _, _ => none
/-- all values within domains, in their order -/
def allB : List α → List (List Int)
  | [] => [[]]
  | d :: ds => (vs d).flatMap fun x => (allB ds).map (x :: ·)
theorem run_end {d : α} {ds : List α} {x : Int} (hn : nx d (x + 1) = none) {a : List Int} {l : List (List Int)} (h : Run (afterB nx fs ds) a l) :
    Run (afterB nx fs (d :: ds)) (x :: a) (l.map (x :: ·)) := by
  induction h with
  | last h => exact .last (by simp [afterB, h, hn])
  | more h _ ih => exact .more (by simp [afterB, h]) ih
theorem run_on {d : α} {ds : List α} {x y : Int} (hn : nx d (x + 1) = some y) {L : List (List Int)} (hL : Run (afterB nx fs (d :: ds)) (y :: ds.map fs) L) {a : List Int} {l : List (List Int)} (h : Run (afterB nx fs ds) a l) :
    Run (afterB nx fs (d :: ds)) (x :: a) (l.map (x :: ·) ++ L) := by
  induction h with
  | last h => exact .more (by simp [afterB, h, hn]) hL
  | more h _ ih => exact .more (by simp [afterB, h]) ih
/-- step by step from the least values on, all are met, each once -/
theorem run_all {ds : List α} (h : ∀ d ∈ ds, Run (fun x => nx d (x + 1)) (fs d) (vs d)) : Run (afterB nx fs ds) (ds.map fs) (allB vs ds) := by
  induction ds with
  | nil => exact .last rfl
  | cons d ds ih =>
    have r := ih fun e he => h e (List.mem_cons_of_mem _ he)
    have go : ∀ x V, Run (fun x => nx d (x + 1)) x V → Run (afterB nx fs (d :: ds)) (x :: ds.map fs) (V.flatMap fun x => (allB vs ds).map (x :: ·)) := by
      intro x V hV
      induction hV with
      | last h => simpa using run_end nx fs h r
      | more h _ ih2 => rw [List.flatMap_cons]; exact run_on nx fs h ih2 r
    exact go _ _ (h d (List.mem_cons_self ..))
theorem mem_allB {ds : List α} {a : List Int} : a ∈ allB vs ds ↔ a.length = ds.length ∧ ∀ i (h : i < ds.length), a.getD i 0 ∈ vs ds[i] := by
  induction ds generalizing a with
  | nil => cases a <;> simp [allB]
  | cons d ds ih =>
    simp only [allB, List.mem_flatMap, List.mem_map]
    constructor
    · rintro ⟨x, hx, b, hb, rfl⟩
      obtain ⟨h1, h2⟩ := ih.1 hb
      refine ⟨by simp [h1], fun i hi => ?_⟩
      cases i with
      | zero => simpa using hx
      | succ i => simpa using h2 i (by simpa using hi)
    · rintro ⟨h1, h2⟩
      cases a with
      | nil => simp at h1
      | cons x b =>
        refine ⟨x, h2 0 (Nat.succ_pos _), b, ih.2 ⟨by simpa using h1, fun i hi => ?_⟩, rfl⟩
        exact h2 (i + 1) (Nat.succ_lt_succ hi)
/-- how the loop behind it goes, from the last place on: what stands behind place k has run out -/
def behind (ds : List α) (a : List Int) (k : Nat) : Prop := afterB nx fs (ds.drop k) (a.drop k) = none
theorem behind_none {ds : List α} {a : List Int} {k : Nat} (hk : k < ds.length) (ha : a.length = ds.length) (h : behind nx fs ds a (k + 1)) (hn : nx ds[k] (a.getD k 0 + 1) = none) : behind nx fs ds a k := by
  have hka : k < a.length := by omega
  unfold behind at *
  rw [List.drop_eq_getElem_cons hk, List.drop_eq_getElem_cons hka, afterB, h]
  simp only [List.getD, List.getElem?_eq_getElem hka, Option.getD_some] at hn
  simp [hn]
theorem after_take {ds : List α} {a b : List Int} {k : Nat} (ha : a.length = ds.length) (hk : k ≤ ds.length) (h : afterB nx fs (ds.drop k) (a.drop k) = some b) : afterB nx fs ds a = some (a.take k ++ b) := by
  induction k generalizing ds a with
  | zero => simpa using h
  | succ k ih =>
    cases ds with
    | nil => simp at hk
    | cons d ds =>
      cases a with
      | nil => simp at ha
      | cons x a =>
        have := ih (ds := ds) (a := a) (by simpa using ha) (by simpa using hk) (by simpa using h)
        simp [afterB, this]
theorem behind_some {ds : List α} {a : List Int} {k : Nat} {n : Int} (hk : k < ds.length) (ha : a.length = ds.length) (h : behind nx fs ds a (k + 1)) (hn : nx ds[k] (a.getD k 0 + 1) = some n) :
    afterB nx fs ds a = some (a.take k ++ n :: (ds.drop (k + 1)).map fs) := by
  have hka : k < a.length := by omega
  refine after_take nx fs ha (Nat.le_of_lt hk) ?_
  unfold behind at h
  rw [List.drop_eq_getElem_cons hk, List.drop_eq_getElem_cons hka, afterB, h]
  simp only [List.getD, List.getElem?_eq_getElem hka, Option.getD_some] at hn
  simp [hn]
theorem behind_end {ds : List α} {a : List Int} : behind nx fs ds a ds.length := by
  unfold behind; rw [List.drop_length]; cases a.drop ds.length <;> rfl
end
/-- a domain's values from x on -/
def valsF : Nat → List Rn → Int → List Int
  | 0, _, x => [x]
  | n + 1, d, x => x :: match nextF d (x + 1) with
    | some y => valsF n d y
    | none => []
def vals (d : List Rn) : List Int := valsF (cntF d (-mx)).toNat d (d.headD (0, 0)).1
theorem valsF_run {b : Int} {d : List Rn} (h : okF b d = true) : ∀ (n : Nat) (x : Int), cntF d (x + 1) ≤ n → Run (fun x => nextF d (x + 1)) x (valsF n d x)
  | 0, x, hc => by
    cases hn : nextF d (x + 1) with
    | none => exact .last hn
    | some y => have := (next_some h hn).2.2.2.2; have := cntF_nonneg d (y + 1); omega
  | n + 1, x, hc => by
    rw [valsF]
    cases hn : nextF d (x + 1) with
    | none => exact .last hn
    | some y => exact .more hn (valsF_run h n y (by have := (next_some h hn).2.2.2.2; omega))
theorem next_least {d : List Rn} {b v w u : Int} (h : okF b d = true) (hn : nextF d v = some w) (hu : mem d u) (hv : v ≤ u) : w ≤ u := by
  induction d generalizing b with
  | nil => cases hn
  | cons r l ih =>
    rw [okF_cons] at h
    rw [nextF] at hn
    rw [mem] at hu
    split at hn
    · injection hn with hn
      rcases hu with hu | hu
      · omega
      · have := mem_ge h.2.2.2 hu; omega
    · rcases hu with hu | hu
      · omega
      · exact ih h.2.2.2 hn hu
theorem next_nothing {d : List Rn} {v u : Int} (hn : nextF d v = none) (hu : mem d u) : u < v := by
  induction d with
  | nil => cases hu
  | cons r l ih =>
    rw [nextF] at hn
    rw [mem] at hu
    split at hn
    · cases hn
    · rcases hu with hu | hu
      · omega
      · exact ih hn hu
theorem mem_run {b : Int} {d : List Rn} (h : okF b d = true) {x : Int} {l : List Int} (hr : Run (fun x => nextF d (x + 1)) x l) (hx : mem d x) (u : Int) : u ∈ l ↔ mem d u ∧ x ≤ u := by
  induction hr with
  | @last a hn =>
    simp only [List.mem_singleton]
    constructor
    · rintro rfl; exact ⟨hx, Int.le_refl _⟩
    · rintro ⟨h1, h2⟩; have := next_nothing hn h1; omega
  | @more a c l hn _ ih =>
    have hc := next_some h hn
    rw [List.mem_cons, ih hc.2.2.2.1]
    constructor
    · rintro (rfl | ⟨h1, h2⟩)
      · exact ⟨hx, Int.le_refl _⟩
      · exact ⟨h1, by omega⟩
    · rintro ⟨h1, h2⟩
      by_cases e : u = a
      · exact .inl e
      · exact .inr ⟨h1, next_least h hn h1 (by omega)⟩
theorem vals_run {d : List Rn} (h : right d = true) (hd : d ≠ []) : Run (fun x => next d (x + 1)) (d.headD (0, 0)).1 (vals d) := by
  have e : (fun x => next d (x + 1)) = fun x => nextF d (x + 1) := by funext x; rw [next, if_pos h]
  rw [e]
  refine valsF_run h _ _ ?_
  cases d with
  | nil => exact absurd rfl hd
  | cons r l =>
    have h' := h
    rw [right, okF_cons] at h'
    have e2 := cntF_all h (Int.le_refl _)
    have e3 := cntF_all (v := r.1 + 1) h'.2.2.2 (by omega)
    have e4 := cntF_nonneg l (r.1 + 1)
    simp only [List.headD_cons, cntF, e3, sizeF] at *
    omega
theorem mem_vals {d : List Rn} (h : right d = true) (hd : d ≠ []) (u : Int) : u ∈ vals d ↔ mem d u := by
  have e : (fun x => next d (x + 1)) = fun x => nextF d (x + 1) := by funext x; rw [next, if_pos h]
  have r := vals_run h hd
  rw [e] at r
  cases d with
  | nil => exact absurd rfl hd
  | cons q l =>
    have h' := h
    rw [right, okF_cons] at h'
    rw [mem_run h r (.inl ⟨Int.le_refl _, h'.2.1⟩)]
    constructor
    · exact fun h => h.1
    · intro hu
      refine ⟨hu, ?_⟩
      rcases hu with hu | hu
      · exact hu.1
      · have := mem_ge h'.2.2.2 hu; simp only [List.headD_cons]; omega
end Go.Proofs.Ytalcgjkegohhgaa.Ev
end
section
namespace Go.Proofs.Ytalcgjkegohhgaa.Ln
open Go.Proofs.Ytalcgjkegohhgaa.Zs Go.Proofs.Ytalcgjkegohhgaa.Sn
/-- these values lie within the domains -/
def Wi (D : Ds) (a : List Int) : Prop := a.length = D.length ∧ ∀ y : Int, 0 ≤ y → y.toNat < D.length → mem (domAt D y) (valAt a y)
theorem sing_at {a : List Int} {y : Int} (h : y.toNat < a.length) : domAt (sing a) y = [(valAt a y, valAt a y)] := by simp [domAt, sing, valAt, h]
theorem mem_one {n v : Int} : mem [(n, n)] v ↔ v = n := by
  constructor
  · rintro (h | h)
    · have h1 := h.1; have h2 := h.2; simp only at h1 h2; omega
    · exact h.elim
  · rintro rfl; exact .inl ⟨Int.le_refl _, Int.le_refl _⟩
theorem one_rt {n : Int} (h : -mx ≤ n ∧ n ≤ mx) : right [(n, n)] = true := by
  show okF (-mx) [(n, n)] = true
  rw [okF_cons]; exact ⟨h.1, Int.le_refl _, h.2, rfl⟩
theorem wi_sing {D : Ds} {a : List Int} (h : Gd D) (w : Wi D a) : Gd (sing a) ∧ Sub (sing a) D := by
  refine ⟨fun d hd => ?_, by rw [sing_len]; exact w.1, fun y hy v hv => ?_⟩
  · obtain ⟨n, hn, rfl⟩ := List.mem_map.1 hd
    obtain ⟨i, hi, rfl⟩ := List.mem_iff_getElem.1 hn
    have hiD : i < D.length := by rw [← w.1]; exact hi
    have h1 := w.2 (i : Int) (by omega) (by simpa using hiD)
    have h2 := h.at_ (x := (i : Int)) (by simpa using hiD)
    have e : valAt a (i : Int) = a[i] := by simp [valAt, hi]
    rw [e] at h1
    exact ⟨one_rt (mem_ge h2.1 h1), by simp⟩
  · by_cases hl : y.toNat < a.length
    · rw [sing_at hl, mem_one] at hv
      subst hv
      exact w.2 y hy (by rw [← w.1]; exact hl)
    · have e : domAt (sing a) y = [] := by unfold domAt; rw [List.getD, List.getElem?_eq_none (by rw [sing_len]; omega)]; rfl
      rw [e] at hv; exact hv.elim
theorem gd_sing {a : List Int} {E : Ds} (hs : Gd (sing a)) (hE : Gd E) (k : Sub E (sing a)) : E = sing a := by
  refine List.ext_getElem k.1 fun i h1 h2 => ?_
  have ha : i < a.length := by rw [sing_len] at h2; exact h2
  have e1 : domAt E (i : Int) = E[i] := domAt_lt (by exact h1)
  have e2 : domAt (sing a) (i : Int) = (sing a)[i] := domAt_lt (by exact h2)
  have e3 := sing_at (a := a) (y := (i : Int)) (by simpa using ha)
  have g1 := hE _ (List.getElem_mem h1)
  have g2 := hs _ (List.getElem_mem h2)
  have hv : ∀ v, mem E[i] v → v = valAt a i := fun v hv => by
    have := k.2 (i : Int) (by omega) v (by rw [e1]; exact hv)
    rw [e3] at this; exact mem_one.1 this
  refine uniq g1.1 g2.1 fun v => ?_
  rw [← e2, e3, mem_one]
  refine ⟨hv v, fun e => ?_⟩
  obtain ⟨u, hu⟩ := mem_ex g1.1 g1.2
  rw [e, ← hv u hu]; exact hu
end Go.Proofs.Ytalcgjkegohhgaa.Ln
end
section
namespace Go.Proofs.Ytalcgjkegohhgaa.At
open Go.Proofs.Ytalcgjkegohhgaa.Num Go.Proofs.Ytalcgjkegohhgaa.Zs Go.Proofs.Ytalcgjkegohhgaa.Sn Go.Proofs.Ytalcgjkegohhgaa.Ln
/-- steps: domains, or none -/
abbrev St := Ln.Ds → Option Ln.Ds
def putS (x : Int) (F : Ln.Ds → List Rn) : St := fun D => if F D = [] then none else some (D.set x.toNat (F D))
def cutS (x : Int) (l h : Ln.Ds → Int) : St := putS x fun D => cut (domAt D x) (l D) (h D)
def losS (x : Int) : St := putS x fun D => without (domAt D x) 0
def ifS (P : Ln.Ds → Bool) (f : St) : St := fun D => if P D = true then f D else some D
def thn (f g : St) : St := fun D => (f D).bind g
def L (x : Int) (D : Ln.Ds) : Int := lo (domAt D x)
def H (x : Int) (D : Ln.Ds) : Int := hi (domAt D x)
def mn4 (a b c d : Int) : Int := min (min (min a b) c) d
def mx4 (a b c d : Int) : Int := max (max (max a b) c) d
def mnP (f : Int → Int → Int) (x y : Int) (D : Ln.Ds) : Int := mn4 (f (L x D) (L y D)) (f (L x D) (H y D)) (f (H x D) (L y D)) (f (H x D) (H y D))
def mxP (f : Int → Int → Int) (x y : Int) (D : Ln.Ds) : Int := mx4 (f (L x D) (L y D)) (f (L x D) (H y D)) (f (H x D) (L y D)) (f (H x D) (H y D))
/-- the landed steps -/
def awy (y : Int) (D : Ln.Ds) : Bool := !(decide (L y D ≤ 0) && decide (0 ≤ H y D))
def facS (x y z : Int) : St := ifS (awy y) (cutS x (mnP cei z y) (mxP flo z y))
def no0 (z : Int) (D : Ln.Ds) : Bool := !has (domAt D z) 0
def timS (x y z : Int) : St := thn (cutS z (mnP (· * ·) x y) (mxP (· * ·) x y)) (thn (ifS (no0 z) (thn (losS x) (losS y))) (thn (facS x y z) (facS y x z)))
def above (x z : Int) (D : Ln.Ds) : Bool := decide (H z D < L x D)
def minS (x y z : Int) : St := thn (cutS z (fun D => min (L x D) (L y D)) (fun D => min (H x D) (H y D))) (thn (cutS x (L z) (H x)) (thn (cutS y (L z) (H y)) (thn (ifS (above x z) (cutS y (L y) (H z))) (ifS (above y z) (cutS x (L x) (H z))))))
def maxS (x y z : Int) : St := thn (cutS z (fun D => max (L x D) (L y D)) (fun D => max (H x D) (H y D))) (thn (cutS x (L x) (H z)) (thn (cutS y (L y) (H z)) (thn (ifS (above z x) (cutS y (L z) (H y))) (ifS (above z y) (cutS x (L z) (H x))))))
def pos (x : Int) (D : Ln.Ds) : Bool := decide (0 < L x D)
def ngt (x : Int) (D : Ln.Ds) : Bool := decide (H x D < 0)
def nea (d : List Rn) (l n h : Int) : List Rn := cut d l (-n) ++ cut d n h
def neaS (x y : Int) : St := putS x fun D => nea (domAt D x) (L x D) (L y D) (H x D)
def absS (x y : Int) : St := thn (cutS y (fun _ => 0) (fun D => max (H x D) (-L x D))) (thn (ifS (pos x) (cutS y (L x) (H y))) (thn (ifS (ngt x) (cutS y (fun D => -H x D) (H y))) (thn (cutS x (fun D => -H y D) (H y)) (ifS (pos y) (neaS x y)))))
def samS (x y : Int) : St := fun D => if meet (domAt D x) (domAt D y) = [] then none else some ((D.set x.toNat (meet (domAt D x) (domAt D y))).set y.toNat (meet (domAt D x) (domAt D y)))
def v0 (x : List Int) : Int := x.getD 0 0
def v1 (x : List Int) : Int := x.getD 1 0
def v2 (x : List Int) : Int := x.getD 2 0
def ariL (k : Int) (x : List Int) : St :=
  if k = 7 then timS (v0 x) (v1 x) (v2 x) else if k = 8 then minS (v0 x) (v1 x) (v2 x) else if k = 9 then maxS (v0 x) (v1 x) (v2 x)
  else if k = 10 then absS (v0 x) (v1 x) else samS (v0 x) (v1 x)
/-- its kinds -/
def Ak (k : Int) : Prop := (7 ≤ k ∧ k ≤ 10) ∨ k = 15
instance (k : Int) : Decidable (Ak k) := by unfold Ak; infer_instance
/-- what Narrow is to answer -/
def ariO (c : Cn) (ds : Ln.Ds) : Option Ln.Ds × Int :=
  if modOk ⟨ds, [c], 0, 0⟩ = true then
    if Ak c.k then (ariL c.k c.x ds, if (ariL c.k c.x ds).isSome then 0 else 12) else (none, 10)
  else (none, 2)
theorem ariO_no {c : Cn} {ds : Ln.Ds} (h : modOk ⟨ds, [c], 0, 0⟩ = false) : ariO c ds = (none, 2) := by rw [ariO, if_neg (by rw [h]; simp)]
theorem ariO_know {c : Cn} {ds : Ln.Ds} (h : modOk ⟨ds, [c], 0, 0⟩ = true) (hk : ¬ Ak c.k) : ariO c ds = (none, 10) := by rw [ariO, if_pos h, if_neg hk]
theorem ariO_is {c : Cn} {ds : Ln.Ds} (h : modOk ⟨ds, [c], 0, 0⟩ = true) (hk : Ak c.k) {R : Option Ln.Ds} (hR : ariL c.k c.x ds = R) : ariO c ds = (R, if R.isSome then 0 else 12) := by rw [ariO, if_pos h, if_pos hk, hR]
/-- what may be said of steps over n variables, of which those in X are touched -/
structure Okp (n : Nat) (X : List Int) (f : St) : Prop where
  ok : ∀ D E, Gd D → D.length = n → f D = some E → Gd E ∧ Sub E D ∧ ∀ y : Nat, y < n → (y : Int) ∉ X → domAt E y = domAt D y
  mo : ∀ D D' E', Gd D → Gd D' → D.length = n → Sub D' D → f D' = some E' → ∃ E, f D = some E ∧ Sub E' E
def Inn (n : Nat) (x : Int) : Prop := 0 ≤ x ∧ x.toNat < n
theorem Gd.set {D : Ln.Ds} (h : Gd D) {i : Nat} {d : List Rn} (hd : right d = true) (hn : d ≠ []) : Gd (D.set i d) := fun e he => by
  rcases List.mem_or_eq_of_mem_set he with h1 | rfl
  · exact h e h1
  · exact ⟨hd, hn⟩
theorem put_ok {n : Nat} {X : List Int} {x : Int} {F : Ln.Ds → List Rn} (hx : Inn n x) (hX : x ∈ X)
    (hF : ∀ D, Gd D → D.length = n → right (F D) = true ∧ ∀ v, mem (F D) v → mem (domAt D x) v)
    (hM : ∀ D D', Gd D → Gd D' → D.length = n → Sub D' D → ∀ v, mem (F D') v → mem (F D) v) : Okp n X (putS x F) := by
  constructor
  · intro D E h hl he
    unfold putS at he
    split at he
    · cases he
    · rename_i hne
      cases he
      obtain ⟨f1, f2⟩ := hF D h hl
      refine ⟨Gd.set h f1 hne, ⟨by simp, fun y hy v hv => ?_⟩, fun y hy hyX => ?_⟩
      · rw [domAt_set (by rw [hl]; exact hx.2)] at hv
        split at hv
        · rename_i e
          rw [show y = x by have := hx.1; omega]; exact f2 v hv
        · exact hv
      · rw [domAt_set (by rw [hl]; exact hx.2), if_neg]
        intro e
        exact hyX (by rw [show (y : Int) = x by have := hx.1; have : ((y : Int)).toNat = y := rfl; omega]; exact hX)
  · intro D D' E' h h' hl hs he
    have hl' : D'.length = n := hs.1.trans hl
    unfold putS at he ⊢
    split at he
    · cases he
    · rename_i hne
      cases he
      obtain ⟨f1, f2⟩ := hF D' h' hl'
      obtain ⟨v, hv⟩ := mem_ex f1 hne
      have hv2 := hM D D' h h' hl hs v hv
      have hne2 : F D ≠ [] := fun e => by rw [e] at hv2; exact hv2
      rw [if_neg hne2]
      refine ⟨_, rfl, by simp [hs.1], fun y hy u hu => ?_⟩
      rw [domAt_set (by rw [hl']; exact hx.2)] at hu
      rw [domAt_set (by rw [hl]; exact hx.2)]
      split at hu
      · rename_i e; rw [if_pos e]; exact hM D D' h h' hl hs u hu
      · rename_i e; rw [if_neg e]; exact hs.2 y hy u hu
theorem thn_ok {n : Nat} {X : List Int} {f g : St} (hf : Okp n X f) (hg : Okp n X g) : Okp n X (thn f g) := by
  constructor
  · intro D E h hl he
    unfold thn at he
    cases e : f D with
    | none => rw [e] at he; cases he
    | some D1 =>
      rw [e] at he
      obtain ⟨a1, a2, a3⟩ := hf.ok D D1 h hl e
      obtain ⟨b1, b2, b3⟩ := hg.ok D1 E a1 (a2.1.trans hl) he
      exact ⟨b1, b2.trans a2, fun y hy hX => (b3 y hy hX).trans (a3 y hy hX)⟩
  · intro D D' E' h h' hl hs he
    have hl' : D'.length = n := hs.1.trans hl
    unfold thn at he ⊢
    cases e' : f D' with
    | none => rw [e'] at he; cases he
    | some D1' =>
      rw [e'] at he
      obtain ⟨D1, e1, s1⟩ := hf.mo D D' D1' h h' hl hs e'
      obtain ⟨a1, a2, a3⟩ := hf.ok D D1 h hl e1
      obtain ⟨b1, b2, b3⟩ := hf.ok D' D1' h' hl' e'
      rw [e1]
      exact hg.mo D1 D1' E' a1 b1 (a2.1.trans hl) s1 he
theorem if_ok {n : Nat} {X : List Int} {P : Ln.Ds → Bool} {f : St} (hP : ∀ D D', Gd D → Gd D' → D.length = n → Sub D' D → P D = true → P D' = true) (hf : Okp n X f) : Okp n X (ifS P f) := by
  constructor
  · intro D E h hl he
    unfold ifS at he
    split at he
    · exact hf.ok D E h hl he
    · cases he; exact ⟨h, .refl _, fun _ _ _ => rfl⟩
  · intro D D' E' h h' hl hs he
    have hl' : D'.length = n := hs.1.trans hl
    unfold ifS at he ⊢
    split at he
    · rename_i p'
      by_cases p : P D = true
      · rw [if_pos p]; exact hf.mo D D' E' h h' hl hs he
      · rw [if_neg p]; exact ⟨D, rfl, (hf.ok D' E' h' hl' he).2.1.trans hs⟩
    · rename_i p'
      rw [if_neg (fun p => p' (hP D D' h h' hl hs p))]
      cases he
      exact ⟨D, rfl, hs⟩
/-- the ends of smaller domains -/
theorem ends_le {n : Nat} {D D' : Ln.Ds} (h : Gd D) (h' : Gd D') (hl : D.length = n) (hs : Sub D' D) {x : Int} (hx : Inn n x) : L x D ≤ L x D' ∧ L x D' ≤ H x D' ∧ H x D' ≤ H x D ∧ L x D ≤ H x D :=
  ends_sub h h' hs (x := x) ⟨hx.1, by rw [hl]; exact hx.2⟩
theorem cut_okp {n : Nat} {X : List Int} {x : Int} {l u : Ln.Ds → Int} (hx : Inn n x) (hX : x ∈ X)
    (hM : ∀ D D', Gd D → Gd D' → D.length = n → Sub D' D → l D ≤ l D' ∧ u D' ≤ u D) : Okp n X (cutS x l u) := by
  refine put_ok hx hX (fun D h hl => ⟨cut_right _ _ _, fun v hv => ((cut_ok _ _ _ (h.at_ (x := x) (by rw [hl]; exact hx.2)).1).2 v |>.1 hv).1⟩) fun D D' h h' hl hs v hv => ?_
  have g := (h.at_ (x := x) (by rw [hl]; exact hx.2)).1
  have g' := (h'.at_ (x := x) (by rw [hs.1, hl]; exact hx.2)).1
  rw [(cut_ok _ _ _ g').2] at hv
  rw [(cut_ok _ _ _ g).2]
  have := hM D D' h h' hl hs
  exact ⟨hs.2 x hx.1 v hv.1, by omega, by omega⟩
theorem los_ok {n : Nat} {X : List Int} {x : Int} (hx : Inn n x) (hX : x ∈ X) : Okp n X (losS x) := by
  refine put_ok hx hX (fun D h hl => ⟨without_right _ _, fun v hv => ((without_ok _ _ (h.at_ (x := x) (by rw [hl]; exact hx.2)).1).2 v |>.1 hv).1⟩) fun D D' h h' hl hs v hv => ?_
  have g := (h.at_ (x := x) (by rw [hl]; exact hx.2)).1
  have g' := (h'.at_ (x := x) (by rw [hs.1, hl]; exact hx.2)).1
  rw [(without_ok _ _ g').2] at hv
  rw [(without_ok _ _ g).2]
  exact ⟨hs.2 x hx.1 v hv.1, hv.2⟩
/-- products lie between the products of the ends -/
theorem mul_in {a l u v : Int} (h1 : l ≤ v) (h2 : v ≤ u) : min (a * l) (a * u) ≤ a * v ∧ a * v ≤ max (a * l) (a * u) := by
  rcases Int.le_total 0 a with hn | hn
  · have := Int.mul_le_mul_of_nonneg_left h1 hn
    have := Int.mul_le_mul_of_nonneg_left h2 hn
    omega
  · have := Int.mul_le_mul_of_nonpos_left hn h1
    have := Int.mul_le_mul_of_nonpos_left hn h2
    omega
theorem box_in {l u m w a b : Int} (h1 : l ≤ a) (h2 : a ≤ u) (h3 : m ≤ b) (h4 : b ≤ w) : mn4 (l * m) (l * w) (u * m) (u * w) ≤ a * b ∧ a * b ≤ mx4 (l * m) (l * w) (u * m) (u * w) := by
  have p := mul_in (a := a) h3 h4
  have q := mul_in (a := m) h1 h2
  have r := mul_in (a := w) h1 h2
  rw [Int.mul_comm m l, Int.mul_comm m u, Int.mul_comm m a] at q
  rw [Int.mul_comm w l, Int.mul_comm w u, Int.mul_comm w a] at r
  unfold mn4 mx4
  omega
/-- quotients, rounded -/
theorem quo_parts {n m : Int} (hm : m ≠ 0) (hn : -9223372036854775808 < n) : dbad n m = 0 := dbad_ok hm (by omega)
theorem fl_iff {n m v : Int} (hm : m ≠ 0) (hn : -9223372036854775808 < n) : v ≤ flo n m ↔ (0 < m → v * m ≤ n) ∧ (m < 0 → n ≤ v * m) := by
  have h0 := quo_rem n m
  have h1 := rem_small (a := n) hm
  have h2 := rem_sign n m
  have hq := quo_parts hm hn
  unfold flo
  rw [if_neg (by rw [hq]; decide)]
  generalize quo n m = q at *
  generalize rem n m = r at *
  rcases Int.lt_or_gt_of_ne hm with hm | hm
  · have key : ∀ t, v ≤ t ↔ m * t ≤ m * v := fun t => ⟨fun h => Int.mul_le_mul_of_nonpos_left (by omega) h, fun h => by
      apply Decidable.byContradiction; intro hn
      have : t + 1 ≤ v := by omega
      have := Int.mul_le_mul_of_nonpos_left (show m ≤ 0 by omega) this
      rw [Int.mul_add] at this; omega⟩
    rw [Int.mul_comm v m]
    split
    · rename_i hc
      rw [key, Int.mul_sub]
      have := key q
      have := key (q - 1)
      rw [Int.mul_sub] at this
      constructor
      · intro h; exact ⟨fun h => by omega, fun _ => by omega⟩
      · intro h; have := h.2 hm; 
        apply Decidable.byContradiction; intro hn
        have e1 : m * v < m * q - m * 1 := by omega
        have e2 : ¬ v ≤ q - 1 := fun h => by have := (key (q - 1)).1 h; rw [Int.mul_sub] at this; omega
        have e3 : q ≤ v := by omega
        have := Int.mul_le_mul_of_nonpos_left (show m ≤ 0 by omega) e3
        omega
    · rename_i hc
      rw [key]
      constructor
      · intro h; exact ⟨fun h => by omega, fun _ => by omega⟩
      · intro h; have := h.2 hm
        apply Decidable.byContradiction; intro hn
        have e2 : ¬ v ≤ q := fun h => by have := (key q).1 h; omega
        have e3 : q + 1 ≤ v := by omega
        have := Int.mul_le_mul_of_nonpos_left (show m ≤ 0 by omega) e3
        rw [Int.mul_add] at this
        omega
  · have key : ∀ t, v ≤ t ↔ m * v ≤ m * t := fun t => ⟨fun h => Int.mul_le_mul_of_nonneg_left h (by omega), fun h => by
      apply Decidable.byContradiction; intro hn
      have : t + 1 ≤ v := by omega
      have := Int.mul_le_mul_of_nonneg_left this (show 0 ≤ m by omega)
      rw [Int.mul_add] at this; omega⟩
    rw [Int.mul_comm v m]
    split
    · rename_i hc
      rw [key, Int.mul_sub]
      constructor
      · intro h; exact ⟨fun _ => by omega, fun h => by omega⟩
      · intro h; have := h.1 hm
        apply Decidable.byContradiction; intro hn
        have e2 : ¬ v ≤ q - 1 := fun h => by have := (key (q - 1)).1 h; rw [Int.mul_sub] at this; omega
        have e3 : q ≤ v := by omega
        have := Int.mul_le_mul_of_nonneg_left e3 (show 0 ≤ m by omega)
        omega
    · rename_i hc
      rw [key]
      constructor
      · intro h; exact ⟨fun _ => by omega, fun h => by omega⟩
      · intro h; have := h.1 hm
        apply Decidable.byContradiction; intro hn
        have e2 : ¬ v ≤ q := fun h => by have := (key q).1 h; omega
        have e3 : q + 1 ≤ v := by omega
        have := Int.mul_le_mul_of_nonneg_left e3 (show 0 ≤ m by omega)
        rw [Int.mul_add] at this
        omega
end Go.Proofs.Ytalcgjkegohhgaa.At
end
