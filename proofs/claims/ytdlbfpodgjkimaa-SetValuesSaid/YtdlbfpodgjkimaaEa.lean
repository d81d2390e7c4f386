/- Layer 9 (set), pure: what a set of ranges is, what it has, and that sets of the same values are the same lists. -/
import Derived.Test.YtdlbfpodgjkimaaDig
namespace Go.Proofs.Ytdlbfpodgjkimaa.Zs
set_option linter.unusedVariables false
abbrev Rn := Int × Int
abbrev mx : Int := 1048576
def okF : Int → List Rn → Bool
  | _, [] => true
  | b, r :: l => decide (b ≤ r.1) && decide (r.1 ≤ r.2) && decide (r.2 ≤ mx) && okF (r.2 + 2) l
def right (l : List Rn) : Bool := okF (-mx) l
def mem : List Rn → Int → Prop
  | [], _ => False
  | r :: l, v => (r.1 ≤ v ∧ v ≤ r.2) ∨ mem l v
theorem okF_cons {b : Int} {r : Rn} {l : List Rn} : okF b (r :: l) = true ↔ b ≤ r.1 ∧ r.1 ≤ r.2 ∧ r.2 ≤ mx ∧ okF (r.2 + 2) l = true := by
  simp only [okF, Bool.and_eq_true, decide_eq_true_eq, and_assoc]
theorem okF_mono {b b' : Int} {l : List Rn} (h : okF b l = true) (hb : b' ≤ b) : okF b' l = true := by
  cases l with
  | nil => rfl
  | cons r l => rw [okF_cons] at h ⊢; exact ⟨by omega, h.2⟩
theorem mem_ge {b : Int} {l : List Rn} (h : okF b l = true) {v : Int} (hv : mem l v) : b ≤ v ∧ v ≤ mx := by
  induction l generalizing b with
  | nil => exact hv.elim
  | cons r l ih =>
    rw [okF_cons] at h
    rcases hv with hv | hv
    · omega
    · have := ih h.2.2.2 hv; omega
theorem uniq {a c : List Rn} {b b' : Int} (ha : okF b a = true) (hc : okF b' c = true) (h : ∀ v, mem a v ↔ mem c v) : a = c := by
  induction a generalizing b b' c with
  | nil =>
    cases c with
    | nil => rfl
    | cons s m => rw [okF_cons] at hc; exact ((h s.1).2 (.inl ⟨Int.le_refl _, hc.2.1⟩)).elim
  | cons r l ih =>
    rw [okF_cons] at ha
    cases c with
    | nil => exact ((h r.1).1 (.inl ⟨Int.le_refl _, ha.2.1⟩)).elim
    | cons s m =>
      rw [okF_cons] at hc
      have h1 : s.1 ≤ r.1 := by
        rcases (h r.1).1 (.inl ⟨Int.le_refl _, ha.2.1⟩) with h1 | h1
        · exact h1.1
        · have := mem_ge hc.2.2.2 h1; omega
      have h2 : r.1 ≤ s.1 := by
        rcases (h s.1).2 (.inl ⟨Int.le_refl _, hc.2.1⟩) with h1 | h1
        · exact h1.1
        · have := mem_ge ha.2.2.2 h1; omega
      have h3 : ¬ r.2 < s.2 := fun hlt => by
        rcases (h (r.2 + 1)).2 (.inl ⟨by omega, by omega⟩) with h1 | h1
        · omega
        · have := mem_ge ha.2.2.2 h1; omega
      have h4 : ¬ s.2 < r.2 := fun hlt => by
        rcases (h (s.2 + 1)).1 (.inl ⟨by omega, by omega⟩) with h1 | h1
        · omega
        · have := mem_ge hc.2.2.2 h1; omega
      have e : r = s := Prod.ext (by omega) (by omega)
      subst e
      congr 1
      refine ih ha.2.2.2 hc.2.2.2 fun v => ⟨fun hv => ?_, fun hv => ?_⟩
      · rcases (h v).1 (.inr hv) with h1 | h1
        · have := mem_ge ha.2.2.2 hv; omega
        · exact h1
      · rcases (h v).2 (.inr hv) with h1 | h1
        · have := mem_ge hc.2.2.2 hv; omega
        · exact h1
theorem mem_append {a c : List Rn} {v : Int} : mem (a ++ c) v ↔ mem a v ∨ mem c v := by
  induction a with
  | nil => simp [mem]
  | cons r l ih => simp [mem, ih, or_assoc]
theorem mem_iff {a : List Rn} {v : Int} : mem a v ↔ ∃ r ∈ a, r.1 ≤ v ∧ v ≤ r.2 := by
  induction a with
  | nil => simp [mem]
  | cons r l ih => simp [mem, ih]
theorem mem_perm {a c : List Rn} (h : a.Perm c) {v : Int} : mem a v ↔ mem c v := by
  rw [mem_iff, mem_iff]
  exact ⟨fun ⟨r, h1, h2⟩ => ⟨r, h.mem_iff.1 h1, h2⟩, fun ⟨r, h1, h2⟩ => ⟨r, h.mem_iff.2 h1, h2⟩⟩
/-- every range ends at h or before -/
def upto (h : Int) (a : List Rn) : Prop := ∀ r ∈ a, r.2 ≤ h
theorem okF_append {b h : Int} {a c : List Rn} (ha : okF b a = true) (hu : upto h a) (hc : okF (h + 2) c = true) (hb : b ≤ h + 2) : okF b (a ++ c) = true := by
  induction a generalizing b with
  | nil => exact okF_mono hc hb
  | cons r l ih =>
    rw [okF_cons] at ha
    rw [List.cons_append, okF_cons]
    have := hu r (by simp)
    exact ⟨ha.1, ha.2.1, ha.2.2.1, ih ha.2.2.2 (fun s hs => hu s (by simp [hs])) (by omega)⟩
/-- the document's: a range taken together with a set -/
def joinT : Rn → Bool → List Rn → List Rn
  | r, laid, [] => if laid then [] else [r]
  | r, laid, k :: d =>
    if k.2 + 1 < r.1 then k :: joinT r laid d
    else if r.2 + 1 < k.1 then (if laid then [k] else [r, k]) ++ joinT r true d
    else joinT (min r.1 k.1, max r.2 k.2) laid d
theorem joinT_on {d : List Rn} {b : Int} {r : Rn} (h : okF b d = true) (hr : r.2 + 1 < b) (h0 : r.1 ≤ r.2) : joinT r true d = d := by
  induction d generalizing b with
  | nil => rfl
  | cons k d ih =>
    rw [okF_cons] at h
    rw [joinT, if_neg (by omega), if_pos (by omega), ih h.2.2.2 (by omega)]; rfl
theorem joinT_ok {d : List Rn} {b : Int} {r : Rn} (h : okF b d = true) (h0 : r.1 ≤ r.2) (h1 : b ≤ r.1) (h2 : r.2 ≤ mx) : okF b (joinT r false d) = true ∧ ∀ v, mem (joinT r false d) v ↔ mem d v ∨ (r.1 ≤ v ∧ v ≤ r.2) := by
  induction d generalizing b r with
  | nil =>
    refine ⟨?_, fun v => ?_⟩
    · rw [joinT, if_neg (by decide), okF_cons]; exact ⟨h1, h0, h2, rfl⟩
    · simp [joinT, mem]
  | cons k d ih =>
    have hk := okF_cons.1 h
    rw [joinT]
    by_cases c1 : k.2 + 1 < r.1
    · rw [if_pos c1]
      obtain ⟨i1, i2⟩ := ih hk.2.2.2 h0 (by omega) h2
      refine ⟨okF_cons.2 ⟨hk.1, hk.2.1, hk.2.2.1, i1⟩, fun v => ?_⟩
      simp only [mem, i2 v]
      grind
    · rw [if_neg c1]
      by_cases c2 : r.2 + 1 < k.1
      · rw [if_pos c2, if_neg (by decide), joinT_on hk.2.2.2 (by omega) h0]
        refine ⟨?_, fun v => ?_⟩
        · simp only [List.cons_append, List.nil_append, okF_cons]
          exact ⟨h1, h0, h2, by omega, hk.2.1, hk.2.2.1, hk.2.2.2⟩
        · simp only [List.cons_append, List.nil_append, mem]; grind
      · rw [if_neg c2]
        obtain ⟨i1, i2⟩ := ih (r := (min r.1 k.1, max r.2 k.2)) (okF_mono (b' := b) hk.2.2.2 (by omega)) (by simp only; omega) (by simp only; omega) (by simp only; omega)
        refine ⟨i1, fun v => ?_⟩
        rw [i2 v, mem]
        simp only
        constructor
        · rintro (h | h)
          · exact .inl (.inr h)
          · by_cases c : r.1 ≤ v ∧ v ≤ r.2
            · exact .inr c
            · exact .inl (.inl (by omega))
        · rintro ((h | h) | h)
          · exact .inr (by omega)
          · exact .inl h
          · exact .inr (by omega)
def within (n : Int) : Bool := decide (-mx ≤ n) && decide (n ≤ mx)
/-- the document's: all ranges together -/
def ofD : List Rn → List Rn → Option (List Rn)
  | acc, [] => some acc
  | acc, r :: l => if r.1 > r.2 then ofD acc l else if within r.1 && within r.2 then ofD (joinT r false acc) l else none
/-- the landed one's: those that have a value -/
def fullL : List Rn → List Rn → Option (List Rn)
  | acc, [] => some acc
  | acc, r :: l => if r.1 > r.2 then fullL acc l else if r.1 < -mx ∨ r.2 > mx then none else fullL (acc ++ [r]) l
def uni : Rn → List Rn → List Rn
  | c, [] => [c]
  | c, r :: l => if r.1 ≤ c.2 + 1 then uni (c.1, max c.2 r.2) l else c :: uni r l
def joinL : List Rn → List Rn
  | [] => []
  | r :: l => uni r l
/-- each range has a value, and may be -/
def full (l : List Rn) : Prop := ∀ r ∈ l, r.1 ≤ r.2 ∧ -mx ≤ r.1 ∧ r.2 ≤ mx
theorem uni_ok {l : List Rn} {b : Int} {c : Rn} (h0 : c.1 ≤ c.2) (h1 : b ≤ c.1) (h2 : c.2 ≤ mx) (hl : full l) (hs : l.Pairwise fun x y => x.1 ≤ y.1) (hc : ∀ r ∈ l, c.1 ≤ r.1) :
    okF b (uni c l) = true ∧ ∀ v, mem (uni c l) v ↔ (c.1 ≤ v ∧ v ≤ c.2) ∨ mem l v := by
  induction l generalizing b c with
  | nil => exact ⟨okF_cons.2 ⟨h1, h0, h2, rfl⟩, fun v => by simp [uni, mem]⟩
  | cons r l ih =>
    have hr := hl r (by simp)
    have hcr := hc r (by simp)
    have hs2 := List.pairwise_cons.1 hs
    rw [uni]
    by_cases c1 : r.1 ≤ c.2 + 1
    · rw [if_pos c1]
      obtain ⟨i1, i2⟩ := ih (b := b) (c := (c.1, max c.2 r.2)) (by simp only; omega) h1 (by simp only; omega) (fun s hs => hl s (by simp [hs])) hs2.2 (fun s hs => hc s (by simp [hs]))
      refine ⟨i1, fun v => ?_⟩
      rw [i2 v, mem]
      simp only
      constructor
      · rintro (h | h)
        · by_cases c : c.1 ≤ v ∧ v ≤ c.2
          · exact .inl c
          · exact .inr (.inl (by omega))
        · exact .inr (.inr h)
      · rintro (h | h | h)
        · exact .inl (by omega)
        · exact .inl (by omega)
        · exact .inr h
    · rw [if_neg c1]
      obtain ⟨i1, i2⟩ := ih (b := c.2 + 2) (c := r) hr.1 (by omega) hr.2.2 (fun s hs => hl s (by simp [hs])) hs2.2 hs2.1
      exact ⟨okF_cons.2 ⟨h1, h0, h2, i1⟩, fun v => by rw [mem, i2 v, mem]⟩
theorem joinL_ok {l : List Rn} (hl : full l) (hs : l.Pairwise fun x y => x.1 ≤ y.1) : right (joinL l) = true ∧ ∀ v, mem (joinL l) v ↔ mem l v := by
  cases l with
  | nil => exact ⟨rfl, fun v => Iff.rfl⟩
  | cons r l =>
    have hr := hl r (by simp)
    have hs2 := List.pairwise_cons.1 hs
    exact uni_ok hr.1 hr.2.1 hr.2.2 (fun s hs => hl s (by simp [hs])) hs2.2 hs2.1
theorem fullL_is (acc l : List Rn) : fullL acc l = (fullL [] l).map (acc ++ ·) := by
  induction l generalizing acc with
  | nil => simp [fullL]
  | cons r l ih =>
    rw [fullL, fullL]
    split
    · exact ih acc
    · split
      · rfl
      · rw [ih (acc ++ [r]), ih ([] ++ [r])]
        cases fullL [] l with
        | none => rfl
        | some x => simp
theorem fullL_ok {l f : List Rn} (h : fullL [] l = some f) : full f := by
  induction l generalizing f with
  | nil => simp only [fullL, Option.some.injEq] at h; subst h; intro r hr; cases hr
  | cons r l ih =>
    rw [fullL] at h
    split at h
    · exact ih h
    · split at h
      · cases h
      · rw [fullL_is] at h
        cases hf : fullL [] l with
        | none => rw [hf] at h; cases h
        | some g =>
          rw [hf] at h
          simp only [Option.map_some, Option.some.injEq] at h
          subst h
          intro s hs
          simp only [List.nil_append, List.cons_append, List.mem_cons] at hs
          rcases hs with rfl | hs
          · omega
          · exact ih hf s hs
theorem ofD_is {acc l : List Rn} (ha : right acc = true) :
    (fullL [] l = none ∧ ofD acc l = none) ∨ ∃ f d, fullL [] l = some f ∧ ofD acc l = some d ∧ right d = true ∧ ∀ v, mem d v ↔ mem acc v ∨ mem f v := by
  induction l generalizing acc with
  | nil => exact .inr ⟨[], acc, rfl, rfl, ha, fun v => by simp [mem]⟩
  | cons r l ih =>
    rw [fullL, ofD]
    by_cases c0 : r.1 > r.2
    · rw [if_pos c0, if_pos c0]; exact ih ha
    · rw [if_neg c0, if_neg c0]
      by_cases c1 : r.1 < -mx ∨ r.2 > mx
      · rw [if_pos c1, if_neg]
        · exact .inl ⟨rfl, rfl⟩
        · simp only [within, Bool.and_eq_true, decide_eq_true_eq]; omega
      · rw [if_neg c1, if_pos (by simp only [within, Bool.and_eq_true, decide_eq_true_eq]; omega), fullL_is]
        obtain ⟨j1, j2⟩ := joinT_ok (r := r) ha (by omega) (by omega) (by omega)
        rcases ih (acc := joinT r false acc) j1 with ⟨h1, h2⟩ | ⟨f, d, h1, h2, h3, h4⟩
        · exact .inl ⟨by rw [h1]; rfl, h2⟩
        · refine .inr ⟨[r] ++ f, d, by rw [h1]; rfl, h2, h3, fun v => ?_⟩
          rw [h4 v, j2 v, mem_append]
          simp only [mem]
          grind
/-- the landed one's and the document's are one list -/
theorem of_same {l f s : List Rn} (hf : fullL [] l = some f) (hp : s.Perm f) (hs : s.Pairwise fun x y => x.1 ≤ y.1) : ofD [] l = some (joinL s) ∧ right (joinL s) = true ∧ ∀ v, mem (joinL s) v ↔ mem f v := by
  have hfull := fullL_ok hf
  obtain ⟨j1, j2⟩ := joinL_ok (l := s) (fun r hr => hfull r (hp.mem_iff.1 hr)) hs
  rcases ofD_is (acc := []) (l := l) rfl with ⟨h1, h2⟩ | ⟨f', d, h1, h2, h3, h4⟩
  · rw [hf] at h1; cases h1
  · rw [hf] at h1
    injection h1 with h1
    subst h1
    have : d = joinL s := uniq h3 j1 fun v => by rw [h4 v, j2 v, mem_perm hp]; simp [mem]
    subst this
    exact ⟨h2, h3, fun v => by rw [h4 v]; simp [mem]⟩
theorem of_none {l : List Rn} (hf : fullL [] l = none) : ofD [] l = none := by
  rcases ofD_is (acc := []) (l := l) rfl with ⟨h1, h2⟩ | ⟨f', d, h1, -⟩
  · exact h2
  · rw [hf] at h1; cases h1
end Go.Proofs.Ytdlbfpodgjkimaa.Zs
