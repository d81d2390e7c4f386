/- Layer 12 (linear): domains whose ranges are written to one by one; of variables that a sum does not have nothi -/
import Derived.Deep.MidRow
import Derived.Laws.IdiomCopy
import Derived.Test.YtoegbgkgenjplaaQaw
import Derived.ChangeSame
import Derived.Deep.Fields
import Derived.Deep.Slices
import Derived.OpenShut
set_option linter.unusedVariables false
set_option linter.unusedSimpArgs false
section
namespace Go.Proofs.Ytoegbgkgenjplaa.Ln
open Go.RowKit
open Go.Proofs.Ytoegbgkgenjplaa.Dig Go.Proofs.Ytoegbgkgenjplaa.Lx Go.Proofs.Ytoegbgkgenjplaa.Tk Go.Proofs.Ytoegbgkgenjplaa.Ti Go.Proofs.Ytoegbgkgenjplaa.Zs Go.Proofs.Ytoegbgkgenjplaa.Tr Go.Proofs.Ytoegbgkgenjplaa.Sn
theorem Turn.bx {G : Nat → Bool} {w w' : World} (h : Turn G w w') {b : Nat} {cs : Array Value} {t : TypeId} (hb : Bx w b cs t) (hG : G b = false) : Bx w' b cs t := by
  have hl := hb.lt
  unfold Bx at *
  rw [h.block b hl hG]; exact hb
theorem Turn.mono {G G' : Nat → Bool} {w w' : World} (h : Turn G w w') (hG : ∀ b, G' b = false → G b = false) : Turn G' w w' := ⟨h.os, h.tape, h.output, h.size, fun k hk e => h.block k hk (hG k e)⟩
/-- what lies ahead of B -/
def low (B : Nat) : Nat → Bool := fun b => decide (B ≤ b)
/-- the domains in memory of the call's own, from B on -/
structure Out (g n : Nat) (cs : Array Value) (B : Nat) (w : World) (E : Ds) : Prop where
  row : Bx w g cs 50
  size : cs.size = n
  len : E.length = n
  gB : B ≤ g
  el : ∀ (i : Nat) (d : List Rn), E[i]? = some d → ∃ b o c, cs[i]? = some (.slice (some ⟨b, o, none⟩) d.length c) ∧ Sl 2 QR w (.slice (some ⟨b, o, none⟩) d.length c) d ∧ 0 < d.length ∧ B ≤ b ∧ b < w.heap.size ∧ b ≠ g ∧ ∀ j, w.frozen? ⟨b, j, none⟩ = false
  apart : ∀ (i j : Nat) (u u' : Value), cs[i]? = some u → cs[j]? = some u' → i ≠ j → ∀ b, u.ownBlock = some b → u'.ownBlock ≠ some b
theorem Out.since {g n : Nat} {cs : Array Value} {B : Nat} {w w' : World} {E : Ds} (h : Out g n cs B w E) (k : Since w w') : Out g n cs B w' E :=
  ⟨h.row.since k, h.size, h.len, h.gB, fun i d hd => by
    obtain ⟨b, o, c, h1, h2, h3, h4, h5, h6, h7⟩ := h.el i d hd
    exact ⟨b, o, c, h1, h2.since stR k, h3, h4, Nat.lt_of_lt_of_le h5 k.size, h6, fun j => (World.frozen?_of_block (w := w) (a := ⟨b, j, none⟩) (k.block b h5)).trans (h7 j)⟩, h.apart⟩
open Classical in
/-- the blocks of the first k domains -/
noncomputable def hot (cs : Array Value) (k : Nat) : Nat → Bool := fun b => decide (∃ i, i < k ∧ ∃ u : Value, cs[i]? = some u ∧ u.ownBlock = some b)
theorem hot_no {cs : Array Value} {k b : Nat} (h : ∀ (i : Nat) (u : Value), i < k → cs[i]? = some u → u.ownBlock ≠ some b) : hot cs k b = false := by
  simp only [hot, decide_eq_false_iff_not]
  rintro ⟨i, hi, u, hu, hb⟩
  exact h i u hi hu hb
section
variable {g n : Nat} {cs : Array Value} {B : Nat} {w : World} {E : Ds} (h : Out g n cs B w E)
include h
theorem Out.hot_g {k : Nat} : hot cs k g = false := hot_no fun i u _ hu e => by
  have hi : i < cs.size := (Array.getElem?_eq_some_iff.1 hu).1
  have hi2 : i < E.length := by rw [h.len, ← h.size]; exact hi
  obtain ⟨b', o, c, h1, h2, h3, h4, h5, h6, -⟩ := h.el i _ (List.getElem?_eq_getElem hi2)
  rw [hu] at h1
  cases h1
  injection e with e
  exact h6 e
/-- the next domain is there as it was, when those ahead of it have been written to -/
theorem Out.at_ {k : Nat} {wr : World} (T : Turn (hot cs k) w wr) (hk : k < E.length) : ∃ b o c, wr.cell? ⟨g, k, none⟩ = some (.slice (some ⟨b, o, none⟩) E[k].length c) ∧ cs[k]? = some (.slice (some ⟨b, o, none⟩) E[k].length c) ∧ Sl 2 QR wr (.slice (some ⟨b, o, none⟩) E[k].length c) E[k] ∧ 0 < E[k].length ∧ b ≠ g ∧ ∀ j, wr.frozen? ⟨b, j, none⟩ = false := by
  obtain ⟨b, o, c, h1, h2, h3, h4, h5, h6, h7⟩ := h.el k _ (List.getElem?_eq_getElem hk)
  have hkc : k < cs.size := by rw [h.size, ← h.len]; exact hk
  have hb : hot cs k b = false := hot_no fun i u hi hu e => h.apart k i _ u h1 hu (by omega) b rfl e
  refine ⟨b, o, c, ?_, h1, ?_, h3, h6, fun j => ?_⟩
  · rw [(Turn.bx T h.row h.hot_g).cell k]; exact h1
  · have s1 : Sl 2 QR (veil (hot cs k) w) (.slice (some ⟨b, o, none⟩) E[k].length c) E[k] := Sl.veil (Q := QR) (Q' := QR) (fun _ _ h => h) h2 fun b' e _ => by injection e with e; subst e; exact hb
    exact sl_unveil (s1.since stR (T.veil fun _ _ => rfl))
  · exact (World.frozen?_of_block (w := w) (a := ⟨b, j, none⟩) (T.block b h5 hb)).trans (h7 j)
end
end Go.Proofs.Ytoegbgkgenjplaa.Ln
end
section
namespace Go.Proofs.Ytoegbgkgenjplaa.Tk
open Go.RowKit Go.ChangeShapes Go.WideShapes Go.Deep
section
variable {H : Type} {enc : TypeId × Value → H} {P : Program} {w : World} {base : Nat} {spare : Nat → Bool} {held : Bool}
theorem list_of {α : Type} (d : α) {p : Nat → α → Prop} : ∀ n, (∀ i, i < n → ∃ x, p i x) → ∃ l : List α, l.length = n ∧ ∀ i, i < n → p i (l.getD i d)
  | 0, _ => ⟨[], rfl, fun i h => by omega⟩
  | n + 1, h => by
    obtain ⟨l, hl, hp⟩ := list_of d n (fun i hi => h i (by omega))
    obtain ⟨x, hx⟩ := h n (by omega)
    refine ⟨l ++ [x], by simp [hl], fun i hi => ?_⟩
    by_cases hin : i < n
    · have e : (l ++ [x]).getD i d = l.getD i d := by simp [List.getD, List.getElem?_append_left (show i < l.length by omega)]
      rw [e]; exact hp i hin
    · obtain rfl : i = n := by omega
      have e : (l ++ [x]).getD i d = x := by simp [List.getD, ← hl]
      rw [e]; exact hx
end
end Go.Proofs.Ytoegbgkgenjplaa.Tk
end
section
namespace Go.Proofs.Ytoegbgkgenjplaa.Ev
open Go.Proofs.Ytoegbgkgenjplaa.Zs
/-- from a on, step by step, these and no more -/
inductive Run {β : Type} (f : β → Option β) : β → List β → Prop
  | last {a : β} : f a = none → Run f a [a]
  | more {a b : β} {l : List β} : f a = some b → Run f b l → Run f a (a :: l)
section
variable {α : Type} (nx : α → Int → Option Int) (fs : α → Int) (vs : α → List Int)
/-- the values that follow others, the last one's soonest -/
def afterB : List α → List Int → Option (List Int)
  | d :: ds, a :: zs => match afterB ds zs with
    | some l => some (a :: l)
    | none => (nx d (a + 1)).map fun n => n :: ds.map fs
  | _, _ => none
/-- all values within domains, in their order -/
def allB : List α → List (List Int)
  | [] => [[]]
  | d :: ds => (vs d).flatMap fun x => (allB ds).map (x :: ·)
theorem run_end {d : α} {ds : List α} {x : Int} (hn : nx d (x + 1) = none) {a : List Int} {l : List (List Int)} (h : Run (afterB nx fs ds) a l) :
    Run (afterB nx fs (d :: ds)) (x :: a) (l.map (x :: ·)) := by
  induction h with
  | last h => exact .last (by simp [afterB, h, hn])
  | more h _ ih => exact .more (by simp [afterB, h]) ih
theorem run_on {d : α} {ds : List α} {x y : Int} (hn : nx d (x + 1) = some y) {L : List (List Int)} (hL : Run (afterB nx fs (d :: ds)) (y :: ds.map fs) L) {a : List Int} {l : List (List Int)} (h : Run (afterB nx fs ds) a l) :
    Run (afterB nx fs (d :: ds)) (x :: a) (l.map (x :: ·) ++ L) := by
  induction h with
  | last h => exact .more (by simp [afterB, h, hn]) hL
  | more h _ ih => exact .more (by simp [afterB, h]) ih
/-- step by step from the least values on, all are met, each once -/
theorem run_all {ds : List α} (h : ∀ d ∈ ds, Run (fun x => nx d (x + 1)) (fs d) (vs d)) : Run (afterB nx fs ds) (ds.map fs) (allB vs ds) := by
  induction ds with
  | nil => exact .last rfl
  | cons d ds ih =>
    have r := ih fun e he => h e (List.mem_cons_of_mem _ he)
    have go : ∀ x V, Run (fun x => nx d (x + 1)) x V → Run (afterB nx fs (d :: ds)) (x :: ds.map fs) (V.flatMap fun x => (allB vs ds).map (x :: ·)) := by
      intro x V hV
      induction hV with
      | last h => simpa using run_end nx fs h r
      | more h _ ih2 => rw [List.flatMap_cons]; exact run_on nx fs h ih2 r
    exact go _ _ (h d (List.mem_cons_self ..))
theorem mem_allB {ds : List α} {a : List Int} : a ∈ allB vs ds ↔ a.length = ds.length ∧ ∀ i (h : i < ds.length), a.getD i 0 ∈ vs ds[i] := by
  induction ds generalizing a with
  | nil => cases a <;> simp [allB]
  | cons d ds ih =>
    simp only [allB, List.mem_flatMap, List.mem_map]
    constructor
    · rintro ⟨x, hx, b, hb, rfl⟩
      obtain ⟨h1, h2⟩ := ih.1 hb
      refine ⟨by simp [h1], fun i hi => ?_⟩
      cases i with
      | zero => simpa using hx
      | succ i => simpa using h2 i (by simpa using hi)
    · rintro ⟨h1, h2⟩
      cases a with
      | nil => simp at h1
      | cons x b =>
        refine ⟨x, h2 0 (Nat.succ_pos _), b, ih.2 ⟨by simpa using h1, fun i hi => ?_⟩, rfl⟩
        exact h2 (i + 1) (Nat.succ_lt_succ hi)
/-- how the loop behind it goes, from the last place on: what stands behind place k has run out -/
def behind (ds : List α) (a : List Int) (k : Nat) : Prop := afterB nx fs (ds.drop k) (a.drop k) = none
theorem behind_none {ds : List α} {a : List Int} {k : Nat} (hk : k < ds.length) (ha : a.length = ds.length) (h : behind nx fs ds a (k + 1)) (hn : nx ds[k] (a.getD k 0 + 1) = none) : behind nx fs ds a k := by
  have hka : k < a.length := by omega
  unfold behind at *
  rw [List.drop_eq_getElem_cons hk, List.drop_eq_getElem_cons hka, afterB, h]
  simp only [List.getD, List.getElem?_eq_getElem hka, Option.getD_some] at hn
  simp [hn]
theorem after_take {ds : List α} {a b : List Int} {k : Nat} (ha : a.length = ds.length) (hk : k ≤ ds.length) (h : afterB nx fs (ds.drop k) (a.drop k) = some b) : afterB nx fs ds a = some (a.take k ++ b) := by
  induction k generalizing ds a with
  | zero => simpa using h
  | succ k ih =>
    cases ds with
    | nil => simp at hk
    | cons d ds =>
      cases a with
      | nil => simp at ha
      | cons x a =>
        have := ih (ds := ds) (a := a) (by simpa using ha) (by simpa using hk) (by simpa using h)
        simp [afterB, this]
theorem behind_some {ds : List α} {a : List Int} {k : Nat} {n : Int} (hk : k < ds.length) (ha : a.length = ds.length) (h : behind nx fs ds a (k + 1)) (hn : nx ds[k] (a.getD k 0 + 1) = some n) :
    afterB nx fs ds a = some (a.take k ++ n :: (ds.drop (k + 1)).map fs) := by
  have hka : k < a.length := by omega
  refine after_take nx fs ha (Nat.le_of_lt hk) ?_
  unfold behind at h
  rw [List.drop_eq_getElem_cons hk, List.drop_eq_getElem_cons hka, afterB, h]
  simp only [List.getD, List.getElem?_eq_getElem hka, Option.getD_some] at hn
  simp [hn]
theorem behind_end {ds : List α} {a : List Int} : behind nx fs ds a ds.length := by
  unfold behind; rw [List.drop_length]; cases a.drop ds.length <;> rfl
end
/-- a domain's values from x on -/
def valsF : Nat → List Rn → Int → List Int
  | 0, _, x => [x]
  | n + 1, d, x => x :: match nextF d (x + 1) with
    | some y => valsF n d y
    | none => []
def vals (d : List Rn) : List Int := valsF (cntF d (-mx)).toNat d (d.headD (0, 0)).1
theorem valsF_run {b : Int} {d : List Rn} (h : okF b d = true) : ∀ (n : Nat) (x : Int), cntF d (x + 1) ≤ n → Run (fun x => nextF d (x + 1)) x (valsF n d x)
  | 0, x, hc => by
    cases hn : nextF d (x + 1) with
    | none => exact .last hn
    | some y => have := (next_some h hn).2.2.2.2; have := cntF_nonneg d (y + 1); omega
  | n + 1, x, hc => by
    rw [valsF]
    cases hn : nextF d (x + 1) with
    | none => exact .last hn
    | some y => exact .more hn (valsF_run h n y (by have := (next_some h hn).2.2.2.2; omega))
theorem next_least {d : List Rn} {b v w u : Int} (h : okF b d = true) (hn : nextF d v = some w) (hu : mem d u) (hv : v ≤ u) : w ≤ u := by
  induction d generalizing b with
  | nil => cases hn
  | cons r l ih =>
    rw [okF_cons] at h
    rw [nextF] at hn
    rw [mem] at hu
    split at hn
    · injection hn with hn
      rcases hu with hu | hu
      · omega
      · have := mem_ge h.2.2.2 hu; omega
    · rcases hu with hu | hu
      · omega
      · exact ih h.2.2.2 hn hu
theorem next_nothing {d : List Rn} {v u : Int} (hn : nextF d v = none) (hu : mem d u) : u < v := by
  induction d with
  | nil => cases hu
  | cons r l ih =>
    rw [nextF] at hn
    rw [mem] at hu
    split at hn
    · cases hn
    · rcases hu with hu | hu
      · omega
      · exact ih hn hu
theorem mem_run {b : Int} {d : List Rn} (h : okF b d = true) {x : Int} {l : List Int} (hr : Run (fun x => nextF d (x + 1)) x l) (hx : mem d x) (u : Int) : u ∈ l ↔ mem d u ∧ x ≤ u := by
  induction hr with
  | @last a hn =>
    simp only [List.mem_singleton]
    constructor
    · rintro rfl; exact ⟨hx, Int.le_refl _⟩
    · rintro ⟨h1, h2⟩; have := next_nothing hn h1; omega
  | @more a c l hn _ ih =>
    have hc := next_some h hn
    rw [List.mem_cons, ih hc.2.2.2.1]
    constructor
    · rintro (rfl | ⟨h1, h2⟩)
      · exact ⟨hx, Int.le_refl _⟩
      · exact ⟨h1, by omega⟩
    · rintro ⟨h1, h2⟩
      by_cases e : u = a
      · exact .inl e
      · exact .inr ⟨h1, next_least h hn h1 (by omega)⟩
theorem vals_run {d : List Rn} (h : right d = true) (hd : d ≠ []) : Run (fun x => next d (x + 1)) (d.headD (0, 0)).1 (vals d) := by
  have e : (fun x => next d (x + 1)) = fun x => nextF d (x + 1) := by funext x; rw [next, if_pos h]
  rw [e]
  refine valsF_run h _ _ ?_
  cases d with
  | nil => exact absurd rfl hd
  | cons r l =>
    have h' := h
    rw [right, okF_cons] at h'
    have e2 := cntF_all h (Int.le_refl _)
    have e3 := cntF_all (v := r.1 + 1) h'.2.2.2 (by omega)
    have e4 := cntF_nonneg l (r.1 + 1)
    simp only [List.headD_cons, cntF, e3, sizeF] at *
    omega
theorem mem_vals {d : List Rn} (h : right d = true) (hd : d ≠ []) (u : Int) : u ∈ vals d ↔ mem d u := by
  have e : (fun x => next d (x + 1)) = fun x => nextF d (x + 1) := by funext x; rw [next, if_pos h]
  have r := vals_run h hd
  rw [e] at r
  cases d with
  | nil => exact absurd rfl hd
  | cons q l =>
    have h' := h
    rw [right, okF_cons] at h'
    rw [mem_run h r (.inl ⟨Int.le_refl _, h'.2.1⟩)]
    constructor
    · exact fun h => h.1
    · intro hu
      refine ⟨hu, ?_⟩
      rcases hu with hu | hu
      · exact hu.1
      · have := mem_ge h'.2.2.2 hu; simp only [List.headD_cons]; omega
end Go.Proofs.Ytoegbgkgenjplaa.Ev
end
