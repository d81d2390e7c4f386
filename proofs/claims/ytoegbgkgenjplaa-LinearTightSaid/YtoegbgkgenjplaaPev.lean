/- Layer 11 (sense), pure: all values within domains, one behind the other (the document's first, after, Every). -/
import Derived.Test.YtoegbgkgenjplaaEa
namespace Go.Proofs.Ytoegbgkgenjplaa.Ev
set_option linter.unusedVariables false
open Go.Proofs.Ytoegbgkgenjplaa.Zs
/-- from a on, step by step, these and no more -/
inductive Run {β : Type} (f : β → Option β) : β → List β → Prop
  | last {a : β} : f a = none → Run f a [a]
  | more {a b : β} {l : List β} : f a = some b → Run f b l → Run f a (a :: l)
section
variable {α : Type} (nx : α → Int → Option Int) (fs : α → Int) (vs : α → List Int)
/-- the values that follow others, the last one's soonest -/
def afterB : List α → List Int → Option (List Int)
  | d :: ds, a :: zs => match afterB ds zs with
    | some l => some (a :: l)
    | none => (nx d (a + 1)).map fun n => n :: ds.map fs
  | _, _ => none
/-- all values within domains, in their order -/
def allB : List α → List (List Int)
  | [] => [[]]
  | d :: ds => (vs d).flatMap fun x => (allB ds).map (x :: ·)
theorem run_end {d : α} {ds : List α} {x : Int} (hn : nx d (x + 1) = none) {a : List Int} {l : List (List Int)} (h : Run (afterB nx fs ds) a l) :
    Run (afterB nx fs (d :: ds)) (x :: a) (l.map (x :: ·)) := by
  induction h with
  | last h => exact .last (by simp [afterB, h, hn])
  | more h _ ih => exact .more (by simp [afterB, h]) ih
theorem run_on {d : α} {ds : List α} {x y : Int} (hn : nx d (x + 1) = some y) {L : List (List Int)} (hL : Run (afterB nx fs (d :: ds)) (y :: ds.map fs) L) {a : List Int} {l : List (List Int)} (h : Run (afterB nx fs ds) a l) :
    Run (afterB nx fs (d :: ds)) (x :: a) (l.map (x :: ·) ++ L) := by
  induction h with
  | last h => exact .more (by simp [afterB, h, hn]) hL
  | more h _ ih => exact .more (by simp [afterB, h]) ih
/-- step by step from the least values on, all are met, each once -/
theorem run_all {ds : List α} (h : ∀ d ∈ ds, Run (fun x => nx d (x + 1)) (fs d) (vs d)) : Run (afterB nx fs ds) (ds.map fs) (allB vs ds) := by
  induction ds with
  | nil => exact .last rfl
  | cons d ds ih =>
    have r := ih fun e he => h e (List.mem_cons_of_mem _ he)
    have go : ∀ x V, Run (fun x => nx d (x + 1)) x V → Run (afterB nx fs (d :: ds)) (x :: ds.map fs) (V.flatMap fun x => (allB vs ds).map (x :: ·)) := by
      intro x V hV
      induction hV with
      | last h => simpa using run_end nx fs h r
      | more h _ ih2 => rw [List.flatMap_cons]; exact run_on nx fs h ih2 r
    exact go _ _ (h d (List.mem_cons_self ..))
theorem mem_allB {ds : List α} {a : List Int} : a ∈ allB vs ds ↔ a.length = ds.length ∧ ∀ i (h : i < ds.length), a.getD i 0 ∈ vs ds[i] := by
  induction ds generalizing a with
  | nil => cases a <;> simp [allB]
  | cons d ds ih =>
    simp only [allB, List.mem_flatMap, List.mem_map]
    constructor
    · rintro ⟨x, hx, b, hb, rfl⟩
      obtain ⟨h1, h2⟩ := ih.1 hb
      refine ⟨by simp [h1], fun i hi => ?_⟩
      cases i with
      | zero => simpa using hx
      | succ i => simpa using h2 i (by simpa using hi)
    · rintro ⟨h1, h2⟩
      cases a with
      | nil => simp at h1
      | cons x b =>
        refine ⟨x, h2 0 (Nat.succ_pos _), b, ih.2 ⟨by simpa using h1, fun i hi => ?_⟩, rfl⟩
        exact h2 (i + 1) (Nat.succ_lt_succ hi)
/-- how the loop behind it goes, from the last place on: what stands behind place k has run out -/
def behind (ds : List α) (a : List Int) (k : Nat) : Prop := afterB nx fs (ds.drop k) (a.drop k) = none
theorem behind_none {ds : List α} {a : List Int} {k : Nat} (hk : k < ds.length) (ha : a.length = ds.length) (h : behind nx fs ds a (k + 1)) (hn : nx ds[k] (a.getD k 0 + 1) = none) : behind nx fs ds a k := by
  have hka : k < a.length := by omega
  unfold behind at *
  rw [List.drop_eq_getElem_cons hk, List.drop_eq_getElem_cons hka, afterB, h]
  simp only [List.getD, List.getElem?_eq_getElem hka, Option.getD_some] at hn
  simp [hn]
theorem after_take {ds : List α} {a b : List Int} {k : Nat} (ha : a.length = ds.length) (hk : k ≤ ds.length) (h : afterB nx fs (ds.drop k) (a.drop k) = some b) : afterB nx fs ds a = some (a.take k ++ b) := by
  induction k generalizing ds a with
  | zero => simpa using h
  | succ k ih =>
    cases ds with
    | nil => simp at hk
    | cons d ds =>
      cases a with
      | nil => simp at ha
      | cons x a =>
        have := ih (ds := ds) (a := a) (by simpa using ha) (by simpa using hk) (by simpa using h)
        simp [afterB, this]
theorem behind_some {ds : List α} {a : List Int} {k : Nat} {n : Int} (hk : k < ds.length) (ha : a.length = ds.length) (h : behind nx fs ds a (k + 1)) (hn : nx ds[k] (a.getD k 0 + 1) = some n) :
    afterB nx fs ds a = some (a.take k ++ n :: (ds.drop (k + 1)).map fs) := by
  have hka : k < a.length := by omega
  refine after_take nx fs ha (Nat.le_of_lt hk) ?_
  unfold behind at h
  rw [List.drop_eq_getElem_cons hk, List.drop_eq_getElem_cons hka, afterB, h]
  simp only [List.getD, List.getElem?_eq_getElem hka, Option.getD_some] at hn
  simp [hn]
theorem behind_end {ds : List α} {a : List Int} : behind nx fs ds a ds.length := by
  unfold behind; rw [List.drop_length]; cases a.drop ds.length <;> rfl
end
/-- a domain's values from x on -/
def valsF : Nat → List Rn → Int → List Int
  | 0, _, x => [x]
  | n + 1, d, x => x :: match nextF d (x + 1) with
    | some y => valsF n d y
    | none => []
def vals (d : List Rn) : List Int := valsF (cntF d (-mx)).toNat d (d.headD (0, 0)).1
theorem valsF_run {b : Int} {d : List Rn} (h : okF b d = true) : ∀ (n : Nat) (x : Int), cntF d (x + 1) ≤ n → Run (fun x => nextF d (x + 1)) x (valsF n d x)
  | 0, x, hc => by
    cases hn : nextF d (x + 1) with
    | none => exact .last hn
    | some y => have := (next_some h hn).2.2.2.2; have := cntF_nonneg d (y + 1); omega
  | n + 1, x, hc => by
    rw [valsF]
    cases hn : nextF d (x + 1) with
    | none => exact .last hn
    | some y => exact .more hn (valsF_run h n y (by have := (next_some h hn).2.2.2.2; omega))
theorem next_least {d : List Rn} {b v w u : Int} (h : okF b d = true) (hn : nextF d v = some w) (hu : mem d u) (hv : v ≤ u) : w ≤ u := by
  induction d generalizing b with
  | nil => cases hn
  | cons r l ih =>
    rw [okF_cons] at h
    rw [nextF] at hn
    rw [mem] at hu
    split at hn
    · injection hn with hn
      rcases hu with hu | hu
      · omega
      · have := mem_ge h.2.2.2 hu; omega
    · rcases hu with hu | hu
      · omega
      · exact ih h.2.2.2 hn hu
theorem next_nothing {d : List Rn} {v u : Int} (hn : nextF d v = none) (hu : mem d u) : u < v := by
  induction d with
  | nil => cases hu
  | cons r l ih =>
    rw [nextF] at hn
    rw [mem] at hu
    split at hn
    · cases hn
    · rcases hu with hu | hu
      · omega
      · exact ih hn hu
theorem mem_run {b : Int} {d : List Rn} (h : okF b d = true) {x : Int} {l : List Int} (hr : Run (fun x => nextF d (x + 1)) x l) (hx : mem d x) (u : Int) : u ∈ l ↔ mem d u ∧ x ≤ u := by
  induction hr with
  | @last a hn =>
    simp only [List.mem_singleton]
    constructor
    · rintro rfl; exact ⟨hx, Int.le_refl _⟩
    · rintro ⟨h1, h2⟩; have := next_nothing hn h1; omega
  | @more a c l hn _ ih =>
    have hc := next_some h hn
    rw [List.mem_cons, ih hc.2.2.2.1]
    constructor
    · rintro (rfl | ⟨h1, h2⟩)
      · exact ⟨hx, Int.le_refl _⟩
      · exact ⟨h1, by omega⟩
    · rintro ⟨h1, h2⟩
      by_cases e : u = a
      · exact .inl e
      · exact .inr ⟨h1, next_least h hn h1 (by omega)⟩
theorem vals_run {d : List Rn} (h : right d = true) (hd : d ≠ []) : Run (fun x => next d (x + 1)) (d.headD (0, 0)).1 (vals d) := by
  have e : (fun x => next d (x + 1)) = fun x => nextF d (x + 1) := by funext x; rw [next, if_pos h]
  rw [e]
  refine valsF_run h _ _ ?_
  cases d with
  | nil => exact absurd rfl hd
  | cons r l =>
    have h' := h
    rw [right, okF_cons] at h'
    have e2 := cntF_all h (Int.le_refl _)
    have e3 := cntF_all (v := r.1 + 1) h'.2.2.2 (by omega)
    have e4 := cntF_nonneg l (r.1 + 1)
    simp only [List.headD_cons, cntF, e3, sizeF] at *
    omega
theorem mem_vals {d : List Rn} (h : right d = true) (hd : d ≠ []) (u : Int) : u ∈ vals d ↔ mem d u := by
  have e : (fun x => next d (x + 1)) = fun x => nextF d (x + 1) := by funext x; rw [next, if_pos h]
  have r := vals_run h hd
  rw [e] at r
  cases d with
  | nil => exact absurd rfl hd
  | cons q l =>
    have h' := h
    rw [right, okF_cons] at h'
    rw [mem_run h r (.inl ⟨Int.le_refl _, h'.2.1⟩)]
    constructor
    · exact fun h => h.1
    · intro hu
      refine ⟨hu, ?_⟩
      rcases hu with hu | hu
      · exact hu.1
      · have := mem_ge h'.2.2.2 hu; simp only [List.headD_cons]; omega
end Go.Proofs.Ytoegbgkgenjplaa.Ev
