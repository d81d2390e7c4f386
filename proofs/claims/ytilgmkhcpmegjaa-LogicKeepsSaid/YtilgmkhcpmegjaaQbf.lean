/- Layer 11 (sense), pure: all values within domains, one behind the other (the document's first, after, Every).  -/
import Derived.Test.YtilgmkhcpmegjaaQan
set_option linter.unusedVariables false
set_option linter.unusedSimpArgs false
section
namespace Go.Proofs.Ytilgmkhcpmegjaa.Ev
open Go.Proofs.Ytilgmkhcpmegjaa.Zs
/-- from a on, step by step, these and no more -/
inductive Run {β : Type} (f : β → Option β) : β → List β → Prop
  | last {a : β} : f a = none → Run f a [a]
  | more {a b : β} {l : List β} : f a = some b → Run f b l → Run f a (a :: l)
section
variable {α : Type} (nx : α → Int → Option Int) (fs : α → Int) (vs : α → List Int)
/-- the values that follow others, the last one's soonest -/
def afterB : List α → List Int → Option (List Int)
  | d :: ds, a :: zs => match afterB ds zs with
    | some l => some (a :: l)
    | none => (nx d (a + 1)).map fun n => n :: ds.map fs
  | _, _ => none
/-- all values within domains, in their order -/
def allB : List α → List (List Int)
  | [] => [[]]
  | d :: ds => (vs d).flatMap fun x => (allB ds).map (x :: ·)
theorem run_end {d : α} {ds : List α} {x : Int} (hn : nx d (x + 1) = none) {a : List Int} {l : List (List Int)} (h : Run (afterB nx fs ds) a l) :
    Run (afterB nx fs (d :: ds)) (x :: a) (l.map (x :: ·)) := by
  induction h with
  | last h => exact .last (by simp [afterB, h, hn])
  | more h _ ih => exact .more (by simp [afterB, h]) ih
theorem run_on {d : α} {ds : List α} {x y : Int} (hn : nx d (x + 1) = some y) {L : List (List Int)} (hL : Run (afterB nx fs (d :: ds)) (y :: ds.map fs) L) {a : List Int} {l : List (List Int)} (h : Run (afterB nx fs ds) a l) :
    Run (afterB nx fs (d :: ds)) (x :: a) (l.map (x :: ·) ++ L) := by
  induction h with
  | last h => exact .more (by simp [afterB, h, hn]) hL
  | more h _ ih => exact .more (by simp [afterB, h]) ih
/-- step by step from the least values on, all are met, each once -/
theorem run_all {ds : List α} (h : ∀ d ∈ ds, Run (fun x => nx d (x + 1)) (fs d) (vs d)) : Run (afterB nx fs ds) (ds.map fs) (allB vs ds) := by
  induction ds with
  | nil => exact .last rfl
  | cons d ds ih =>
    have r := ih fun e he => h e (List.mem_cons_of_mem _ he)
    have go : ∀ x V, Run (fun x => nx d (x + 1)) x V → Run (afterB nx fs (d :: ds)) (x :: ds.map fs) (V.flatMap fun x => (allB vs ds).map (x :: ·)) := by
      intro x V hV
      induction hV with
      | last h => simpa using run_end nx fs h r
      | more h _ ih2 => rw [List.flatMap_cons]; exact run_on nx fs h ih2 r
    exact go _ _ (h d (List.mem_cons_self ..))
theorem mem_allB {ds : List α} {a : List Int} : a ∈ allB vs ds ↔ a.length = ds.length ∧ ∀ i (h : i < ds.length), a.getD i 0 ∈ vs ds[i] := by
  induction ds generalizing a with
  | nil => cases a <;> simp [allB]
  | cons d ds ih =>
    simp only [allB, List.mem_flatMap, List.mem_map]
    constructor
    · rintro ⟨x, hx, b, hb, rfl⟩
      obtain ⟨h1, h2⟩ := ih.1 hb
      refine ⟨by simp [h1], fun i hi => ?_⟩
      cases i with
      | zero => simpa using hx
      | succ i => simpa using h2 i (by simpa using hi)
    · rintro ⟨h1, h2⟩
      cases a with
      | nil => simp at h1
      | cons x b =>
        refine ⟨x, h2 0 (Nat.succ_pos _), b, ih.2 ⟨by simpa using h1, fun i hi => ?_⟩, rfl⟩
        exact h2 (i + 1) (Nat.succ_lt_succ hi)
/-- how the loop behind it goes, from the last place on: what stands behind place k has run out -/
def behind (ds : List α) (a : List Int) (k : Nat) : Prop := afterB nx fs (ds.drop k) (a.drop k) = none
theorem behind_none {ds : List α} {a : List Int} {k : Nat} (hk : k < ds.length) (ha : a.length = ds.length) (h : behind nx fs ds a (k + 1)) (hn : nx ds[k] (a.getD k 0 + 1) = none) : behind nx fs ds a k := by
  have hka : k < a.length := by omega
  unfold behind at *
  rw [List.drop_eq_getElem_cons hk, List.drop_eq_getElem_cons hka, afterB, h]
  simp only [List.getD, List.getElem?_eq_getElem hka, Option.getD_some] at hn
  simp [hn]
theorem after_take {ds : List α} {a b : List Int} {k : Nat} (ha : a.length = ds.length) (hk : k ≤ ds.length) (h : afterB nx fs (ds.drop k) (a.drop k) = some b) : afterB nx fs ds a = some (a.take k ++ b) := by
  induction k generalizing ds a with
  | zero => simpa using h
  | succ k ih =>
    cases ds with
    | nil => simp at hk
    | cons d ds =>
      cases a with
      | nil => simp at ha
      | cons x a =>
        have := ih (ds := ds) (a := a) (by simpa using ha) (by simpa using hk) (by simpa using h)
        simp [afterB, this]
theorem behind_some {ds : List α} {a : List Int} {k : Nat} {n : Int} (hk : k < ds.length) (ha : a.length = ds.length) (h : behind nx fs ds a (k + 1)) (hn : nx ds[k] (a.getD k 0 + 1) = some n) :
    afterB nx fs ds a = some (a.take k ++ n :: (ds.drop (k + 1)).map fs) := by
  have hka : k < a.length := by omega
  refine after_take nx fs ha (Nat.le_of_lt hk) ?_
  unfold behind at h
  rw [List.drop_eq_getElem_cons hk, List.drop_eq_getElem_cons hka, afterB, h]
  simp only [List.getD, List.getElem?_eq_getElem hka, Option.getD_some] at hn
  simp [hn]
theorem behind_end {ds : List α} {a : List Int} : behind nx fs ds a ds.length := by
  unfold behind; rw [List.drop_length]; cases a.drop ds.length <;> rfl
end
/-- a domain's values from x on -/
def valsF : Nat → List Rn → Int → List Int
  | 0, _, x => [x]
  | n + 1, d, x => x :: match nextF d (x + 1) with
    | some y => valsF n d y
    | none => []
def vals (d : List Rn) : List Int := valsF (cntF d (-mx)).toNat d (d.headD (0, 0)).1
theorem valsF_run {b : Int} {d : List Rn} (h : okF b d = true) : ∀ (n : Nat) (x : Int), cntF d (x + 1) ≤ n → Run (fun x => nextF d (x + 1)) x (valsF n d x)
  | 0, x, hc => by
    cases hn : nextF d (x + 1) with
    | none => exact .last hn
    | some y => have := (next_some h hn).2.2.2.2; have := cntF_nonneg d (y + 1); omega
  | n + 1, x, hc => by
    rw [valsF]
    cases hn : nextF d (x + 1) with
    | none => exact .last hn
    | some y => exact .more hn (valsF_run h n y (by have := (next_some h hn).2.2.2.2; omega))
theorem next_least {d : List Rn} {b v w u : Int} (h : okF b d = true) (hn : nextF d v = some w) (hu : mem d u) (hv : v ≤ u) : w ≤ u := by
  induction d generalizing b with
  | nil => cases hn
  | cons r l ih =>
    rw [okF_cons] at h
    rw [nextF] at hn
    rw [mem] at hu
    split at hn
    · injection hn with hn
      rcases hu with hu | hu
      · omega
      · have := mem_ge h.2.2.2 hu; omega
    · rcases hu with hu | hu
      · omega
      · exact ih h.2.2.2 hn hu
theorem next_nothing {d : List Rn} {v u : Int} (hn : nextF d v = none) (hu : mem d u) : u < v := by
  induction d with
  | nil => cases hu
  | cons r l ih =>
    rw [nextF] at hn
    rw [mem] at hu
    split at hn
    · cases hn
    · rcases hu with hu | hu
      · omega
      · exact ih hn hu
theorem mem_run {b : Int} {d : List Rn} (h : okF b d = true) {x : Int} {l : List Int} (hr : Run (fun x => nextF d (x + 1)) x l) (hx : mem d x) (u : Int) : u ∈ l ↔ mem d u ∧ x ≤ u := by
  induction hr with
  | @last a hn =>
    simp only [List.mem_singleton]
    constructor
    · rintro rfl; exact ⟨hx, Int.le_refl _⟩
    · rintro ⟨h1, h2⟩; have := next_nothing hn h1; omega
  | @more a c l hn _ ih =>
    have hc := next_some h hn
    rw [List.mem_cons, ih hc.2.2.2.1]
    constructor
    · rintro (rfl | ⟨h1, h2⟩)
      · exact ⟨hx, Int.le_refl _⟩
      · exact ⟨h1, by omega⟩
    · rintro ⟨h1, h2⟩
      by_cases e : u = a
      · exact .inl e
      · exact .inr ⟨h1, next_least h hn h1 (by omega)⟩
theorem vals_run {d : List Rn} (h : right d = true) (hd : d ≠ []) : Run (fun x => next d (x + 1)) (d.headD (0, 0)).1 (vals d) := by
  have e : (fun x => next d (x + 1)) = fun x => nextF d (x + 1) := by funext x; rw [next, if_pos h]
  rw [e]
  refine valsF_run h _ _ ?_
  cases d with
  | nil => exact absurd rfl hd
  | cons r l =>
    have h' := h
    rw [right, okF_cons] at h'
    have e2 := cntF_all h (Int.le_refl _)
    have e3 := cntF_all (v := r.1 + 1) h'.2.2.2 (by omega)
    have e4 := cntF_nonneg l (r.1 + 1)
    simp only [List.headD_cons, cntF, e3, sizeF] at *
    omega
theorem mem_vals {d : List Rn} (h : right d = true) (hd : d ≠ []) (u : Int) : u ∈ vals d ↔ mem d u := by
  have e : (fun x => next d (x + 1)) = fun x => nextF d (x + 1) := by funext x; rw [next, if_pos h]
  have r := vals_run h hd
  rw [e] at r
  cases d with
  | nil => exact absurd rfl hd
  | cons q l =>
    have h' := h
    rw [right, okF_cons] at h'
    rw [mem_run h r (.inl ⟨Int.le_refl _, h'.2.1⟩)]
    constructor
    · exact fun h => h.1
    · intro hu
      refine ⟨hu, ?_⟩
      rcases hu with hu | hu
      · exact hu.1
      · have := mem_ge h'.2.2.2 hu; simp only [List.headD_cons]; omega
end Go.Proofs.Ytilgmkhcpmegjaa.Ev
end
section
namespace Go.Proofs.Ytilgmkhcpmegjaa.Ev
open Go.Proofs.Ytilgmkhcpmegjaa.Zs Go.Proofs.Ytilgmkhcpmegjaa.Sn Go.Proofs.Ytilgmkhcpmegjaa.Ln
theorem valsF_len {b : Int} {d : List Rn} (h : okF b d = true) : ∀ (n : Nat) (x : Int), cntF d (x + 1) ≤ n → ((valsF n d x).length : Int) = 1 + cntF d (x + 1)
  | 0, x, hc => by
    have := cntF_nonneg d (x + 1)
    simp only [valsF, List.length_singleton]
    omega
  | n + 1, x, hc => by
    rw [valsF]
    cases hn : nextF d (x + 1) with
    | none => have := next_none h hn; simp only [List.length_cons, List.length_nil]; omega
    | some y =>
      have h1 := (next_some h hn).2.2.2.2
      have := valsF_len h n y (by omega)
      simp only [List.length_cons]
      omega
theorem vals_len {d : List Rn} (h : right d = true) (hd : d ≠ []) : ((vals d).length : Int) = size d := by
  unfold vals
  cases d with
  | nil => exact absurd rfl hd
  | cons r l =>
    have h' := h
    rw [right, okF_cons] at h'
    have e2 := cntF_all h (Int.le_refl _)
    have e3 := cntF_all (v := r.1 + 1) h'.2.2.2 (by omega)
    have e4 := cntF_nonneg l (r.1 + 1)
    have e5 : cntF (r :: l) (r.1 + 1) + 1 = sizeF (r :: l) := by simp only [cntF, e3, sizeF]; omega
    have e6 := cntF_nonneg (r :: l) (-mx)
    rw [valsF_len h _ _ (by simp only [List.headD_cons]; omega), size, if_pos h]
    simp only [List.headD_cons]
    omega
def prodF : Ds → Int
  | [] => 1
  | d :: ds => size d * prodF ds
theorem prod_snoc : ∀ (l : Ds) (d : List Rn), prodF (l ++ [d]) = prodF l * size d
  | [], d => by simp [prodF]
  | e :: l, d => by simp only [List.cons_append, prodF, prod_snoc l d]; rw [Int.mul_assoc]
theorem all_len : ∀ {ds : Ds}, Gd ds → ((allB vals ds).length : Int) = prodF ds
  | [], _ => rfl
  | d :: ds, h => by
    have h1 := all_len (ds := ds) fun e he => h e (List.mem_cons_of_mem _ he)
    have h2 := vals_len (h d (by simp)).1 (h d (by simp)).2
    have h3 : ∀ (V : List Int), (V.flatMap fun x => (allB vals ds).map (x :: ·)).length = V.length * (allB vals ds).length := by
      intro V
      induction V with
      | nil => simp
      | cons x V ih => rw [List.flatMap_cons, List.length_append, ih, List.length_map, List.length_cons, Nat.add_mul, Nat.one_mul, Nat.add_comm]
    rw [allB, h3, prodF, ← h1, ← h2]
    simp
theorem all_wi {ds : Ds} (h : Gd ds) {a : List Int} (ha : a ∈ allB vals ds) : Wi ds a := by
  obtain ⟨h1, h2⟩ := (mem_allB vals).1 ha
  refine ⟨h1, fun y hy hl => ?_⟩
  have h3 := h2 y.toNat hl
  have h4 := h _ (List.getElem_mem hl)
  rw [domAt_lt hl]
  exact (mem_vals h4.1 h4.2 _).1 h3
/-- the least values -/
def lows (ds : Ds) : List Int := ds.map fun d => (d.headD (0, 0)).1
/-- the values behind others -/
def nextB (ds : Ds) (a : List Int) : Option (List Int) := afterB next (fun d => (d.headD (0, 0)).1) ds a
theorem all_run {ds : Ds} (h : Gd ds) : Run (nextB ds) (lows ds) (allB vals ds) := run_all next _ vals fun d hd => vals_run (h d hd).1 (h d hd).2
theorem size_pos {d : List Rn} (h : right d = true) (hd : d ≠ []) : 1 ≤ size d ∧ size d ≤ 2097154 := by
  rw [size, if_pos h]
  have := sizeF_le h (by simp only [mx]; omega)
  have h2 := this.2.2 hd
  have h3 := this.2.1
  simp only [mx] at h3
  omega
end Go.Proofs.Ytilgmkhcpmegjaa.Ev
end
section
namespace Go.Proofs.Ytilgmkhcpmegjaa.Ev
open Go.Proofs.Ytilgmkhcpmegjaa.Zs Go.Proofs.Ytilgmkhcpmegjaa.Sn Go.Proofs.Ytilgmkhcpmegjaa.Ln
theorem size_nn {d : List Rn} (h : right d = true) : 0 ≤ size d := by
  rw [size, if_pos h]; exact (sizeF_le h (by simp only [mx]; omega)).1
theorem size_cut {d : List Rn} (h : right d = true) {l u : Int} (hc : (∀ v, mem d v → l ≤ v) ∨ ∀ v, mem d v → v ≤ u) : size (cut d l u) ≤ size d := by
  have hb := fun v (hv : mem d v) => mem_ge h hv
  have key : ∀ l u : Int, size (cut d l u) = sizeF (cutF d l u) := fun l u => by
    rw [size, if_pos (cut_right d l u), cut, if_pos h]
  have nn : ∀ l u : Int, 0 ≤ sizeF (cutF d l u) := fun l u => by rw [← key]; exact size_nn (cut_right d l u)
  rcases hc with hc | hc
  · have e : cut d l u = cut d (-mx) u := cut_same h fun v hv => by have := hc v hv; have := hb v hv; simp only [mx] at *; omega
    rw [e, key, size, if_pos h]
    have := size_parts h (-mx) mx u (Int.le_refl _) (Int.le_refl _)
    have := nn (u + 1) mx
    omega
  · have e : cut d l u = cut d l mx := cut_same h fun v hv => by have := hc v hv; have := hb v hv; simp only [mx] at *; omega
    rw [e, key, size, if_pos h]
    have h1 := size_parts h (-mx) mx (l - 1) (Int.le_refl _) (Int.le_refl _)
    rw [show l - 1 + 1 = l by omega] at h1
    have := nn (-mx) (l - 1)
    omega
theorem prod_nn : ∀ {D : Ds}, Rd D → 0 ≤ prodF D
  | [], _ => by decide
  | d :: D, h => Int.mul_nonneg (size_nn (h d (by simp))) (prod_nn fun e he => h e (List.mem_cons_of_mem _ he))
theorem prod_set : ∀ {D : Ds} {i : Nat} {d : List Rn}, Rd D → (∀ e, D[i]? = some e → size d ≤ size e) → prodF (D.set i d) ≤ prodF D
  | [], i, d, _, _ => Int.le_refl _
  | e :: D, 0, d, h, hs => by
    show size d * prodF D ≤ size e * prodF D
    exact Int.mul_le_mul_of_nonneg_right (hs e rfl) (prod_nn fun e he => h e (List.mem_cons_of_mem _ he))
  | e :: D, i + 1, d, h, hs => by
    show size e * prodF (D.set i d) ≤ size e * prodF D
    exact Int.mul_le_mul_of_nonneg_left (prod_set (fun e he => h e (List.mem_cons_of_mem _ he)) fun e he => hs e (by simpa using he)) (size_nn (h e (by simp)))
/-- all others at the end where they add least; y is e -/
def pick (l : List (Int × Int)) (E : Ds) (y : Nat) (e : Int) : List Int :=
  (List.range E.length).map fun i => if i = y then e else if l.any (fun p => decide (p.2 = (i : Int)) && decide (p.1 < 0)) = true then hi (domAt E (i : Int)) else lo (domAt E (i : Int))
end Go.Proofs.Ytilgmkhcpmegjaa.Ev
end
