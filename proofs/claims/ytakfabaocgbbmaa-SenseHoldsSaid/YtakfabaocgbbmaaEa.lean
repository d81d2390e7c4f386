/- Layer 9 (set), pure: what a set of ranges is, what it has, and that sets of the same values are the same lists. -/
import Derived.Test.YtakfabaocgbbmaaDig
namespace Go.Proofs.Ytakfabaocgbbmaa.Zs
set_option linter.unusedVariables false
abbrev Rn := Int × Int
abbrev mx : Int := 1048576
def okF : Int → List Rn → Bool
  | _, [] => true
  | b, r :: l => decide (b ≤ r.1) && decide (r.1 ≤ r.2) && decide (r.2 ≤ mx) && okF (r.2 + 2) l
def right (l : List Rn) : Bool := okF (-mx) l
def mem : List Rn → Int → Prop
  | [], _ => False
  | r :: l, v => (r.1 ≤ v ∧ v ≤ r.2) ∨ mem l v
theorem okF_cons {b : Int} {r : Rn} {l : List Rn} : okF b (r :: l) = true ↔ b ≤ r.1 ∧ r.1 ≤ r.2 ∧ r.2 ≤ mx ∧ okF (r.2 + 2) l = true := by
  simp only [okF, Bool.and_eq_true, decide_eq_true_eq, and_assoc]
theorem okF_mono {b b' : Int} {l : List Rn} (h : okF b l = true) (hb : b' ≤ b) : okF b' l = true := by
  cases l with
  | nil => rfl
  | cons r l => rw [okF_cons] at h ⊢; exact ⟨by omega, h.2⟩
theorem mem_ge {b : Int} {l : List Rn} (h : okF b l = true) {v : Int} (hv : mem l v) : b ≤ v ∧ v ≤ mx := by
  induction l generalizing b with
  | nil => exact hv.elim
  | cons r l ih =>
    rw [okF_cons] at h
    rcases hv with hv | hv
    · omega
    · have := ih h.2.2.2 hv; omega
theorem uniq {a c : List Rn} {b b' : Int} (ha : okF b a = true) (hc : okF b' c = true) (h : ∀ v, mem a v ↔ mem c v) : a = c := by
  induction a generalizing b b' c with
  | nil =>
    cases c with
    | nil => rfl
    | cons s m => rw [okF_cons] at hc; exact ((h s.1).2 (.inl ⟨Int.le_refl _, hc.2.1⟩)).elim
  | cons r l ih =>
    rw [okF_cons] at ha
    cases c with
    | nil => exact ((h r.1).1 (.inl ⟨Int.le_refl _, ha.2.1⟩)).elim
    | cons s m =>
      rw [okF_cons] at hc
      have h1 : s.1 ≤ r.1 := by
        rcases (h r.1).1 (.inl ⟨Int.le_refl _, ha.2.1⟩) with h1 | h1
        · exact h1.1
        · have := mem_ge hc.2.2.2 h1; omega
      have h2 : r.1 ≤ s.1 := by
        rcases (h s.1).2 (.inl ⟨Int.le_refl _, hc.2.1⟩) with h1 | h1
        · exact h1.1
        · have := mem_ge ha.2.2.2 h1; omega
      have h3 : ¬ r.2 < s.2 := fun hlt => by
        rcases (h (r.2 + 1)).2 (.inl ⟨by omega, by omega⟩) with h1 | h1
        · omega
        · have := mem_ge ha.2.2.2 h1; omega
      have h4 : ¬ s.2 < r.2 := fun hlt => by
        rcases (h (s.2 + 1)).1 (.inl ⟨by omega, by omega⟩) with h1 | h1
        · omega
        · have := mem_ge hc.2.2.2 h1; omega
      have e : r = s := Prod.ext (by omega) (by omega)
      subst e
      congr 1
      refine ih ha.2.2.2 hc.2.2.2 fun v => ⟨fun hv => ?_, fun hv => ?_⟩
      · rcases (h v).1 (.inr hv) with h1 | h1
        · have := mem_ge ha.2.2.2 hv; omega
        · exact h1
      · rcases (h v).2 (.inr hv) with h1 | h1
        · have := mem_ge hc.2.2.2 hv; omega
        · exact h1
theorem mem_append {a c : List Rn} {v : Int} : mem (a ++ c) v ↔ mem a v ∨ mem c v := by
  induction a with
  | nil => simp [mem]
  | cons r l ih => simp [mem, ih, or_assoc]
theorem mem_iff {a : List Rn} {v : Int} : mem a v ↔ ∃ r ∈ a, r.1 ≤ v ∧ v ≤ r.2 := by
  induction a with
  | nil => simp [mem]
  | cons r l ih => simp [mem, ih]
theorem mem_perm {a c : List Rn} (h : a.Perm c) {v : Int} : mem a v ↔ mem c v := by
  rw [mem_iff, mem_iff]
  exact ⟨fun ⟨r, h1, h2⟩ => ⟨r, h.mem_iff.1 h1, h2⟩, fun ⟨r, h1, h2⟩ => ⟨r, h.mem_iff.2 h1, h2⟩⟩
/-- every range ends at h or before -/
def upto (h : Int) (a : List Rn) : Prop := ∀ r ∈ a, r.2 ≤ h
theorem okF_append {b h : Int} {a c : List Rn} (ha : okF b a = true) (hu : upto h a) (hc : okF (h + 2) c = true) (hb : b ≤ h + 2) : okF b (a ++ c) = true := by
  induction a generalizing b with
  | nil => exact okF_mono hc hb
  | cons r l ih =>
    rw [okF_cons] at ha
    rw [List.cons_append, okF_cons]
    have := hu r (by simp)
    exact ⟨ha.1, ha.2.1, ha.2.2.1, ih ha.2.2.2 (fun s hs => hu s (by simp [hs])) (by omega)⟩
/-- the document's: a range taken together with a set -/
def joinT : Rn → Bool → List Rn → List Rn
  | r, laid, [] => if laid then [] else [r]
  | r, laid, k :: d =>
    if k.2 + 1 < r.1 then k :: joinT r laid d
    else if r.2 + 1 < k.1 then (if laid then [k] else [r, k]) ++ joinT r true d
    else joinT (min r.1 k.1, max r.2 k.2) laid d
theorem joinT_on {d : List Rn} {b : Int} {r : Rn} (h : okF b d = true) (hr : r.2 + 1 < b) (h0 : r.1 ≤ r.2) : joinT r true d = d := by
  induction d generalizing b with
  | nil => rfl
  | cons k d ih =>
    rw [okF_cons] at h
    rw [joinT, if_neg (by omega), if_pos (by omega), ih h.2.2.2 (by omega)]; rfl
theorem joinT_ok {d : List Rn} {b : Int} {r : Rn} (h : okF b d = true) (h0 : r.1 ≤ r.2) (h1 : b ≤ r.1) (h2 : r.2 ≤ mx) : okF b (joinT r false d) = true ∧ ∀ v, mem (joinT r false d) v ↔ mem d v ∨ (r.1 ≤ v ∧ v ≤ r.2) := by
  induction d generalizing b r with
  | nil =>
    refine ⟨?_, fun v => ?_⟩
    · rw [joinT, if_neg (by decide), okF_cons]; exact ⟨h1, h0, h2, rfl⟩
    · simp [joinT, mem]
  | cons k d ih =>
    have hk := okF_cons.1 h
    rw [joinT]
    by_cases c1 : k.2 + 1 < r.1
    · rw [if_pos c1]
      obtain ⟨i1, i2⟩ := ih hk.2.2.2 h0 (by omega) h2
      refine ⟨okF_cons.2 ⟨hk.1, hk.2.1, hk.2.2.1, i1⟩, fun v => ?_⟩
      simp only [mem, i2 v]
      grind
    · rw [if_neg c1]
      by_cases c2 : r.2 + 1 < k.1
      · rw [if_pos c2, if_neg (by decide), joinT_on hk.2.2.2 (by omega) h0]
        refine ⟨?_, fun v => ?_⟩
        · simp only [List.cons_append, List.nil_append, okF_cons]
          exact ⟨h1, h0, h2, by omega, hk.2.1, hk.2.2.1, hk.2.2.2⟩
        · simp only [List.cons_append, List.nil_append, mem]; grind
      · rw [if_neg c2]
        obtain ⟨i1, i2⟩ := ih (r := (min r.1 k.1, max r.2 k.2)) (okF_mono (b' := b) hk.2.2.2 (by omega)) (by simp only; omega) (by simp only; omega) (by simp only; omega)
        refine ⟨i1, fun v => ?_⟩
        rw [i2 v, mem]
        simp only
        constructor
        · rintro (h | h)
          · exact .inl (.inr h)
          · by_cases c : r.1 ≤ v ∧ v ≤ r.2
            · exact .inr c
            · exact .inl (.inl (by omega))
        · rintro ((h | h) | h)
          · exact .inr (by omega)
          · exact .inl h
          · exact .inr (by omega)
def within (n : Int) : Bool := decide (-mx ≤ n) && decide (n ≤ mx)
/-- the document's: all ranges together -/
def ofD : List Rn → List Rn → Option (List Rn)
  | acc, [] => some acc
  | acc, r :: l => if r.1 > r.2 then ofD acc l else if within r.1 && within r.2 then ofD (joinT r false acc) l else none
/-- the landed one's: those that have a value -/
def fullL : List Rn → List Rn → Option (List Rn)
  | acc, [] => some acc
  | acc, r :: l => if r.1 > r.2 then fullL acc l else if r.1 < -mx ∨ r.2 > mx then none else fullL (acc ++ [r]) l
def uni : Rn → List Rn → List Rn
  | c, [] => [c]
  | c, r :: l => if r.1 ≤ c.2 + 1 then uni (c.1, max c.2 r.2) l else c :: uni r l
def joinL : List Rn → List Rn
  | [] => []
  | r :: l => uni r l
/-- each range has a value, and may be -/
def full (l : List Rn) : Prop := ∀ r ∈ l, r.1 ≤ r.2 ∧ -mx ≤ r.1 ∧ r.2 ≤ mx
theorem uni_ok {l : List Rn} {b : Int} {c : Rn} (h0 : c.1 ≤ c.2) (h1 : b ≤ c.1) (h2 : c.2 ≤ mx) (hl : full l) (hs : l.Pairwise fun x y => x.1 ≤ y.1) (hc : ∀ r ∈ l, c.1 ≤ r.1) :
    okF b (uni c l) = true ∧ ∀ v, mem (uni c l) v ↔ (c.1 ≤ v ∧ v ≤ c.2) ∨ mem l v := by
  induction l generalizing b c with
  | nil => exact ⟨okF_cons.2 ⟨h1, h0, h2, rfl⟩, fun v => by simp [uni, mem]⟩
  | cons r l ih =>
    have hr := hl r (by simp)
    have hcr := hc r (by simp)
    have hs2 := List.pairwise_cons.1 hs
    rw [uni]
    by_cases c1 : r.1 ≤ c.2 + 1
    · rw [if_pos c1]
      obtain ⟨i1, i2⟩ := ih (b := b) (c := (c.1, max c.2 r.2)) (by simp only; omega) h1 (by simp only; omega) (fun s hs => hl s (by simp [hs])) hs2.2 (fun s hs => hc s (by simp [hs]))
      refine ⟨i1, fun v => ?_⟩
      rw [i2 v, mem]
      simp only
      constructor
      · rintro (h | h)
        · by_cases c : c.1 ≤ v ∧ v ≤ c.2
          · exact .inl c
          · exact .inr (.inl (by omega))
        · exact .inr (.inr h)
      · rintro (h | h | h)
        · exact .inl (by omega)
        · exact .inl (by omega)
        · exact .inr h
    · rw [if_neg c1]
      obtain ⟨i1, i2⟩ := ih (b := c.2 + 2) (c := r) hr.1 (by omega) hr.2.2 (fun s hs => hl s (by simp [hs])) hs2.2 hs2.1
      exact ⟨okF_cons.2 ⟨h1, h0, h2, i1⟩, fun v => by rw [mem, i2 v, mem]⟩
theorem joinL_ok {l : List Rn} (hl : full l) (hs : l.Pairwise fun x y => x.1 ≤ y.1) : right (joinL l) = true ∧ ∀ v, mem (joinL l) v ↔ mem l v := by
  cases l with
  | nil => exact ⟨rfl, fun v => Iff.rfl⟩
  | cons r l =>
    have hr := hl r (by simp)
    have hs2 := List.pairwise_cons.1 hs
    exact uni_ok hr.1 hr.2.1 hr.2.2 (fun s hs => hl s (by simp [hs])) hs2.2 hs2.1
theorem fullL_is (acc l : List Rn) : fullL acc l = (fullL [] l).map (acc ++ ·) := by
  induction l generalizing acc with
  | nil => simp [fullL]
  | cons r l ih =>
    rw [fullL, fullL]
    split
    · exact ih acc
    · split
      · rfl
      · rw [ih (acc ++ [r]), ih ([] ++ [r])]
        cases fullL [] l with
        | none => rfl
        | some x => simp
theorem fullL_ok {l f : List Rn} (h : fullL [] l = some f) : full f := by
  induction l generalizing f with
  | nil => simp only [fullL, Option.some.injEq] at h; subst h; intro r hr; cases hr
  | cons r l ih =>
    rw [fullL] at h
    split at h
    · exact ih h
    · split at h
      · cases h
      · rw [fullL_is] at h
        cases hf : fullL [] l with
        | none => rw [hf] at h; cases h
        | some g =>
          rw [hf] at h
          simp only [Option.map_some, Option.some.injEq] at h
          subst h
          intro s hs
          simp only [List.nil_append, List.cons_append, List.mem_cons] at hs
          rcases hs with rfl | hs
          · omega
          · exact ih hf s hs
theorem ofD_is {acc l : List Rn} (ha : right acc = true) :
    (fullL [] l = none ∧ ofD acc l = none) ∨ ∃ f d, fullL [] l = some f ∧ ofD acc l = some d ∧ right d = true ∧ ∀ v, mem d v ↔ mem acc v ∨ mem f v := by
  induction l generalizing acc with
  | nil => exact .inr ⟨[], acc, rfl, rfl, ha, fun v => by simp [mem]⟩
  | cons r l ih =>
    rw [fullL, ofD]
    by_cases c0 : r.1 > r.2
    · rw [if_pos c0, if_pos c0]; exact ih ha
    · rw [if_neg c0, if_neg c0]
      by_cases c1 : r.1 < -mx ∨ r.2 > mx
      · rw [if_pos c1, if_neg]
        · exact .inl ⟨rfl, rfl⟩
        · simp only [within, Bool.and_eq_true, decide_eq_true_eq]; omega
      · rw [if_neg c1, if_pos (by simp only [within, Bool.and_eq_true, decide_eq_true_eq]; omega), fullL_is]
        obtain ⟨j1, j2⟩ := joinT_ok (r := r) ha (by omega) (by omega) (by omega)
        rcases ih (acc := joinT r false acc) j1 with ⟨h1, h2⟩ | ⟨f, d, h1, h2, h3, h4⟩
        · exact .inl ⟨by rw [h1]; rfl, h2⟩
        · refine .inr ⟨[r] ++ f, d, by rw [h1]; rfl, h2, h3, fun v => ?_⟩
          rw [h4 v, j2 v, mem_append]
          simp only [mem]
          grind
/-- the landed one's and the document's are one list -/
theorem of_same {l f s : List Rn} (hf : fullL [] l = some f) (hp : s.Perm f) (hs : s.Pairwise fun x y => x.1 ≤ y.1) : ofD [] l = some (joinL s) ∧ right (joinL s) = true ∧ ∀ v, mem (joinL s) v ↔ mem f v := by
  have hfull := fullL_ok hf
  obtain ⟨j1, j2⟩ := joinL_ok (l := s) (fun r hr => hfull r (hp.mem_iff.1 hr)) hs
  rcases ofD_is (acc := []) (l := l) rfl with ⟨h1, h2⟩ | ⟨f', d, h1, h2, h3, h4⟩
  · rw [hf] at h1; cases h1
  · rw [hf] at h1
    injection h1 with h1
    subst h1
    have : d = joinL s := uniq h3 j1 fun v => by rw [h4 v, j2 v, mem_perm hp]; simp [mem]
    subst this
    exact ⟨h2, h3, fun v => by rw [h4 v]; simp [mem]⟩
theorem of_none {l : List Rn} (hf : fullL [] l = none) : ofD [] l = none := by
  rcases ofD_is (acc := []) (l := l) rfl with ⟨h1, h2⟩ | ⟨f', d, h1, -⟩
  · exact h2
  · rw [hf] at h1; cases h1
section
set_option linter.unusedVariables false
def nextF : List Rn → Int → Option Int
  | [], _ => none
  | r :: l, v => if v ≤ r.2 then some (max v r.1) else nextF l v
def next (d : List Rn) (v : Int) : Option Int := if right d then nextF d v else none
def hasF : List Rn → Int → Bool
  | [], _ => false
  | r :: l, v => (decide (r.1 ≤ v) && decide (v ≤ r.2)) || hasF l v
def has (d : List Rn) (v : Int) : Bool := right d && hasF d v
theorem hasF_iff {d : List Rn} {v : Int} : hasF d v = true ↔ mem d v := by
  induction d with
  | nil => simp [hasF, mem]
  | cons r l ih => simp [hasF, mem, ih]
theorem has_iff {d : List Rn} {v : Int} : has d v = true ↔ right d = true ∧ mem d v := by simp [has, hasF_iff]
theorem nextF_has {d : List Rn} {b : Int} (h : okF b d = true) (v : Int) : (nextF d v = some v ↔ mem d v) := by
  induction d generalizing b with
  | nil => simp [nextF, mem]
  | cons r l ih =>
    rw [okF_cons] at h
    rw [nextF, mem]
    split
    · rw [Option.some.injEq]
      constructor
      · intro h; exact .inl (by omega)
      · rintro (h | h')
        · omega
        · have := mem_ge h.2.2.2 h'; omega
    · rw [ih h.2.2.2]
      constructor
      · exact .inr
      · rintro (h | h)
        · omega
        · exact h
/-- the landed one's Has, by Next -/
theorem has_next (d : List Rn) (v : Int) : has d v = decide (next d v = some v) := by
  unfold has next
  cases h : right d with
  | false => simp
  | true =>
    have := nextF_has h v
    rw [← hasF_iff] at this
    cases hh : hasF d v <;> simp_all
def sizeF : List Rn → Int
  | [] => 0
  | r :: l => (r.2 - r.1 + 1) + sizeF l
def size (d : List Rn) : Int := if right d then sizeF d else 0
theorem sizeF_le {d : List Rn} {b : Int} (h : okF b d = true) (hb : b ≤ mx + 2) : 0 ≤ sizeF d ∧ sizeF d ≤ mx + 2 - b ∧ (d ≠ [] → 0 < sizeF d) := by
  induction d generalizing b with
  | nil => simp [sizeF]; omega
  | cons r l ih =>
    rw [okF_cons] at h
    have := ih h.2.2.2 (by omega)
    rw [sizeF]
    omega
def ends (d : List Rn) : Option Rn := if right d then (match d.head?, d.getLast? with | some a, some z => some (a.1, z.2) | _, _ => none) else none
def one (lo hi : Int) : List Rn := if lo ≤ hi then [(lo, hi)] else []
def cutF : List Rn → Int → Int → List Rn
  | [], _, _ => []
  | r :: l, lo, hi => one (max lo r.1) (min hi r.2) ++ cutF l lo hi
def cut (d : List Rn) (lo hi : Int) : List Rn := if right d then cutF d lo hi else []
theorem upto_one {lo hi h : Int} (k : hi ≤ h) : upto h (one lo hi) := by
  unfold one; split
  · intro r hr; simp only [List.mem_singleton] at hr; subst hr; exact k
  · intro r hr; cases hr
theorem upto_append {h : Int} {a c : List Rn} (ha : upto h a) (hc : upto h c) : upto h (a ++ c) := fun r hr => (List.mem_append.1 hr).elim (ha r) (hc r)
theorem okF_one {b lo hi : Int} (h1 : b ≤ lo) (h2 : hi ≤ mx) : okF b (one lo hi) = true := by
  unfold one; split
  · rw [okF_cons]; exact ⟨h1, by assumption, h2, rfl⟩
  · rfl
theorem mem_one {lo hi v : Int} : mem (one lo hi) v ↔ lo ≤ v ∧ v ≤ hi := by
  unfold one; split
  · simp [mem]
  · simp only [mem, false_iff]; omega
theorem upto_cut (d : List Rn) (lo hi : Int) : upto hi (cutF d lo hi) := by
  induction d with
  | nil => intro r hr; cases hr
  | cons r l ih => exact upto_append (upto_one (by omega)) ih
theorem cutF_ok {d : List Rn} {b lo hi : Int} (h : okF b d = true) : okF (max b lo) (cutF d lo hi) = true ∧ ∀ v, mem (cutF d lo hi) v ↔ mem d v ∧ lo ≤ v ∧ v ≤ hi := by
  induction d generalizing b with
  | nil => exact ⟨rfl, fun v => by simp [cutF, mem]⟩
  | cons r l ih =>
    rw [okF_cons] at h
    obtain ⟨i1, i2⟩ := ih h.2.2.2
    refine ⟨?_, fun v => ?_⟩
    · rw [cutF]
      by_cases c : lo ≤ r.2
      · exact okF_append (h := r.2) (okF_one (by omega) (by omega)) (upto_one (by omega)) (okF_mono i1 (by omega)) (by omega)
      · rw [one, if_neg (by omega)]; exact okF_mono i1 (by omega)
    rw [cutF, mem_append, i2 v, mem_one, mem]
    constructor
    · rintro (h | h)
      · exact ⟨.inl (by omega), by omega⟩
      · exact ⟨.inr h.1, h.2⟩
    · rintro ⟨h | h, k⟩
      · exact .inl (by omega)
      · exact .inr ⟨h, k⟩
theorem cut_ok (d : List Rn) (lo hi : Int) (h : right d = true) : right (cut d lo hi) = true ∧ ∀ v, mem (cut d lo hi) v ↔ mem d v ∧ lo ≤ v ∧ v ≤ hi := by
  rw [cut, if_pos h]
  exact ⟨okF_mono (cutF_ok h).1 (by omega), (cutF_ok h).2⟩
theorem cut_right (d : List Rn) (lo hi : Int) : right (cut d lo hi) = true := by
  cases h : right d with
  | true => exact (cut_ok d lo hi h).1
  | false => rw [cut, if_neg (by simp [h])]; rfl
theorem cutF_len (d : List Rn) (lo hi : Int) : (cutF d lo hi).length ≤ d.length := by
  induction d with
  | nil => exact Nat.le_refl _
  | cons r l ih => rw [cutF, List.length_append, List.length_cons, one]; split <;> simp only [List.length_cons, List.length_nil] <;> omega
theorem cut_len (d : List Rn) (lo hi : Int) : (cut d lo hi).length ≤ d.length := by
  rw [cut]; split
  · exact cutF_len d lo hi
  · exact Nat.zero_le _
def wo (r : Rn) (v : Int) : List Rn := if v < r.1 ∨ v > r.2 then [r] else one r.1 (v - 1) ++ one (v + 1) r.2
def withoutF : List Rn → Int → List Rn
  | [], _ => []
  | r :: l, v => wo r v ++ withoutF l v
def without (d : List Rn) (v : Int) : List Rn := if right d then withoutF d v else []
theorem mem_wo {r : Rn} {v x : Int} : mem (wo r v) x ↔ (r.1 ≤ x ∧ x ≤ r.2) ∧ x ≠ v := by
  unfold wo
  split
  · simp only [mem]; grind
  · rw [mem_append, mem_one, mem_one]; grind
theorem okF_wo {b v : Int} {r : Rn} (h0 : b ≤ r.1) (h1 : r.1 ≤ r.2) (h2 : r.2 ≤ mx) : okF b (wo r v) = true ∧ upto r.2 (wo r v) := by
  unfold wo
  split
  · exact ⟨okF_cons.2 ⟨h0, h1, h2, rfl⟩, fun s hs => by simp only [List.mem_singleton] at hs; subst hs; omega⟩
  · exact ⟨okF_append (h := v - 1) (okF_one h0 (by omega)) (upto_one (by omega)) (okF_one (by omega) h2) (by omega), upto_append (upto_one (by omega)) (upto_one (by omega))⟩
theorem withoutF_ok {d : List Rn} {b v : Int} (h : okF b d = true) : okF b (withoutF d v) = true ∧ ∀ x, mem (withoutF d v) x ↔ mem d x ∧ x ≠ v := by
  induction d generalizing b with
  | nil => exact ⟨rfl, fun v => by simp [withoutF, mem]⟩
  | cons r l ih =>
    rw [okF_cons] at h
    obtain ⟨i1, i2⟩ := ih h.2.2.2
    obtain ⟨j1, j2⟩ := okF_wo (v := v) h.1 h.2.1 h.2.2.1
    refine ⟨okF_append j1 j2 i1 (by omega), fun x => ?_⟩
    rw [withoutF, mem_append, i2 x, mem_wo, mem]
    grind
theorem without_ok (d : List Rn) (v : Int) (h : right d = true) : right (without d v) = true ∧ ∀ x, mem (without d v) x ↔ mem d x ∧ x ≠ v := by
  rw [without, if_pos h]; exact withoutF_ok h
theorem without_right (d : List Rn) (v : Int) : right (without d v) = true := by
  cases h : right d with
  | true => exact (without_ok d v h).1
  | false => rw [without, if_neg (by simp [h])]; rfl
theorem withoutF_len (d : List Rn) (v : Int) : (withoutF d v).length ≤ 2 * d.length := by
  induction d with
  | nil => exact Nat.le_refl _
  | cons r l ih => rw [withoutF, List.length_append, List.length_cons, wo, one, one]; (repeat' split) <;> simp only [List.length_append, List.length_cons, List.length_nil] <;> omega
theorem without_len (d : List Rn) (v : Int) : (without d v).length ≤ 2 * d.length := by
  rw [without]; split
  · exact withoutF_len d v
  · exact Nat.zero_le _
/-- what two have: the landed one's way -/
def meetL : List Rn → List Rn → List Rn
  | [], _ => []
  | _ :: _, [] => []
  | r :: a, s :: c => if r.2 < s.2 then one (max r.1 s.1) (min r.2 s.2) ++ meetL a (s :: c) else one (max r.1 s.1) (min r.2 s.2) ++ meetL (r :: a) c
termination_by a c => a.length + c.length
/-- the document's -/
def meetF (a : List Rn) : List Rn → List Rn
  | [] => []
  | s :: c => cutF a s.1 s.2 ++ meetF a c
def meet (a c : List Rn) : List Rn := if right a && right c then meetF a c else []
theorem meetF_ok {a c : List Rn} {b b' : Int} (ha : okF b a = true) (hc : okF b' c = true) : okF b' (meetF a c) = true ∧ ∀ v, mem (meetF a c) v ↔ mem a v ∧ mem c v := by
  induction c generalizing b' with
  | nil => exact ⟨rfl, fun v => by simp [meetF, mem]⟩
  | cons s c ih =>
    rw [okF_cons] at hc
    obtain ⟨i1, i2⟩ := ih hc.2.2.2
    obtain ⟨j1, j2⟩ := cutF_ok (lo := s.1) (hi := s.2) ha
    refine ⟨okF_append (h := s.2) (okF_mono j1 (by omega)) (upto_cut a s.1 s.2) i1 (by omega), fun v => ?_⟩
    rw [meetF, mem_append, i2 v, j2 v, mem]
    grind
theorem meet_ok {a c : List Rn} (ha : right a = true) (hc : right c = true) : right (meet a c) = true ∧ ∀ v, mem (meet a c) v ↔ mem a v ∧ mem c v := by
  rw [meet, if_pos (by simp [ha, hc])]; exact meetF_ok ha hc
theorem meet_right (a c : List Rn) : right (meet a c) = true := by
  rw [meet]
  split
  · rename_i h; simp only [Bool.and_eq_true] at h; exact (meetF_ok h.1 h.2).1
  · rfl
theorem meetL_ok {a c : List Rn} {b b' : Int} (ha : okF b a = true) (hc : okF b' c = true) : okF (max b b') (meetL a c) = true ∧ ∀ v, mem (meetL a c) v ↔ mem a v ∧ mem c v := by
  induction a, c using meetL.induct generalizing b b' with
  | case1 c => exact ⟨by simp [meetL, okF], fun v => by simp [meetL, mem]⟩
  | case2 r a => exact ⟨by simp [meetL, okF], fun v => by simp [meetL, mem]⟩
  | case3 r a s c hlt ih =>
    have h1 := okF_cons.1 ha
    have h2 := okF_cons.1 hc
    obtain ⟨i1, i2⟩ := ih h1.2.2.2 hc
    rw [meetL, if_pos hlt]
    refine ⟨?_, fun v => ?_⟩
    · by_cases c : s.1 ≤ r.2
      · exact okF_append (h := r.2) (okF_one (by omega) (by omega)) (upto_one (by omega)) (okF_mono i1 (by omega)) (by omega)
      · rw [one, if_neg (by omega)]; exact okF_mono i1 (by omega)
    · rw [mem_append, i2 v, mem_one]
      simp only [mem]
      constructor
      · rintro (h | h)
        · exact ⟨.inl (by omega), .inl (by omega)⟩
        · exact ⟨.inr h.1, h.2⟩
      · rintro ⟨h | h, k | k⟩
        · exact .inl (by omega)
        · have := mem_ge h2.2.2.2 k; omega
        · exact .inr ⟨h, .inl k⟩
        · exact .inr ⟨h, .inr k⟩
  | case4 r a s c hlt ih =>
    have h1 := okF_cons.1 ha
    have h2 := okF_cons.1 hc
    obtain ⟨i1, i2⟩ := ih ha h2.2.2.2
    rw [meetL, if_neg hlt]
    refine ⟨?_, fun v => ?_⟩
    · by_cases c : r.1 ≤ s.2
      · exact okF_append (h := s.2) (okF_one (by omega) (by omega)) (upto_one (by omega)) (okF_mono i1 (by omega)) (by omega)
      · rw [one, if_neg (by omega)]; exact okF_mono i1 (by omega)
    · rw [mem_append, i2 v, mem_one]
      simp only [mem]
      constructor
      · rintro (h | h)
        · exact ⟨.inl (by omega), .inl (by omega)⟩
        · exact ⟨h.1, .inr h.2⟩
      · rintro ⟨h | h, k | k⟩
        · exact .inl (by omega)
        · exact .inr ⟨.inl h, k⟩
        · have := mem_ge h1.2.2.2 h; omega
        · exact .inr ⟨.inr h, k⟩
theorem meet_is {a c : List Rn} (ha : right a = true) (hc : right c = true) : meetL a c = meet a c := by
  obtain ⟨j1, j2⟩ := meet_ok ha hc
  exact uniq (meetL_ok ha hc).1 j1 fun v => by rw [(meetL_ok ha hc).2 v, j2 v]
theorem meetL_len (a c : List Rn) : (meetL a c).length ≤ a.length + c.length := by
  induction a, c using meetL.induct with
  | case1 c => simp [meetL]
  | case2 r a => simp [meetL]
  | case3 r a s c hlt ih => rw [meetL, if_pos hlt, List.length_append, one]; split <;> simp only [List.length_cons, List.length_nil] at ih ⊢ <;> omega
  | case4 r a s c hlt ih => rw [meetL, if_neg hlt, List.length_append, one]; split <;> simp only [List.length_cons, List.length_nil] at ih ⊢ <;> omega
theorem meet_len {a c : List Rn} : (meet a c).length ≤ a.length + c.length := by
  by_cases h : right a = true ∧ right c = true
  · rw [← meet_is h.1 h.2]; exact meetL_len a c
  · rw [meet, if_neg (by simpa using h)]; exact Nat.zero_le _
theorem meet_comm (a c : List Rn) (ha : right a = true) (hc : right c = true) : meet a c = meet c a :=
  uniq (meet_ok ha hc).1 (meet_ok hc ha).1 fun v => by rw [(meet_ok ha hc).2 v, (meet_ok hc ha).2 v, and_comm]
theorem meet_assoc (a c d : List Rn) (ha : right a = true) (hc : right c = true) (hd : right d = true) : meet (meet a c) d = meet a (meet c d) := by
  have h1 := meet_ok ha hc
  have h2 := meet_ok hc hd
  exact uniq (meet_ok h1.1 hd).1 (meet_ok ha h2.1).1 fun v => by rw [(meet_ok h1.1 hd).2 v, (meet_ok ha h2.1).2 v, h1.2 v, h2.2 v, and_assoc]
theorem meet_self (a : List Rn) (ha : right a = true) : meet a a = a := uniq (meet_ok ha ha).1 ha fun v => by rw [(meet_ok ha ha).2 v, and_self]
def same (a c : List Rn) : Bool := right a && decide (a = c)
theorem full_right {b : Int} {l : List Rn} (h : okF b l = true) (hb : -mx ≤ b) : full l := by
  induction l generalizing b with
  | nil => intro r hr; cases hr
  | cons r l ih =>
    rw [okF_cons] at h
    intro s hs
    rcases List.mem_cons.1 hs with rfl | hs
    · omega
    · exact ih h.2.2.2 (by omega) s hs
theorem fullL_full {l : List Rn} (h : full l) : fullL [] l = some l := by
  induction l with
  | nil => rfl
  | cons r l ih =>
    have hr := h r (by simp)
    rw [fullL, if_neg (by omega), if_neg (by omega), fullL_is, ih (fun s hs => h s (by simp [hs]))]; rfl
/-- a set's ranges, each told twice -/
theorem of_twice {a : List Rn} (h : right a = true) : ofD [] (a ++ a) = some a := by
  have hf : full (a ++ a) := fun r hr => (List.mem_append.1 hr).elim (full_right h (Int.le_refl _) r) (full_right h (Int.le_refl _) r)
  rcases ofD_is (acc := []) (l := a ++ a) rfl with ⟨h1, -⟩ | ⟨f', d, h1, h2, h3, h4⟩
  · rw [fullL_full hf] at h1; cases h1
  · rw [fullL_full hf] at h1
    injection h1 with h1
    subst h1
    rw [h2, uniq h3 h fun v => by rw [h4 v, mem_append]; simp [mem]]
/-- sizes of parts -/
theorem sizeF_append (a c : List Rn) : sizeF (a ++ c) = sizeF a + sizeF c := by
  induction a with
  | nil => simp [sizeF]
  | cons r l ih => rw [List.cons_append, sizeF, sizeF, ih]; omega
theorem sizeF_one (lo hi : Int) : sizeF (one lo hi) = max 0 (hi - lo + 1) := by
  unfold one; split
  · simp only [sizeF]; omega
  · simp only [sizeF]; omega
theorem size_parts {d : List Rn} {b : Int} (h : okF b d = true) (lo hi v : Int) (hlo : lo ≤ b) (hhi : mx ≤ hi) : sizeF (cutF d lo v) + sizeF (cutF d (v + 1) hi) = sizeF d := by
  induction d generalizing b with
  | nil => simp [cutF, sizeF]
  | cons r l ih =>
    rw [okF_cons] at h
    have := ih h.2.2.2 (by omega)
    rw [cutF, cutF, sizeF_append, sizeF_append, sizeF_one, sizeF_one, sizeF]
    omega
theorem size_cut_all {d : List Rn} {b : Int} (h : okF b d = true) (lo v : Int) (hlo : lo ≤ b) (hv : mx ≤ v) : sizeF (cutF d lo v) = sizeF d := by
  induction d generalizing b with
  | nil => simp [cutF, sizeF]
  | cons r l ih =>
    rw [okF_cons] at h
    have := ih h.2.2.2 (by omega)
    rw [cutF, sizeF_append, sizeF_one, sizeF]
    omega
theorem sizeF_wo (r : Rn) (v : Int) (h : r.1 ≤ r.2) : sizeF (wo r v) = (r.2 - r.1 + 1) - if r.1 ≤ v ∧ v ≤ r.2 then 1 else 0 := by
  unfold wo
  split
  · rw [if_neg (by omega)]; simp only [sizeF]; omega
  · rw [if_pos (by omega), sizeF_append, sizeF_one, sizeF_one]; omega
theorem without_off {d : List Rn} {b v : Int} (h : okF b d = true) (hv : v < b) : sizeF (withoutF d v) = sizeF d := by
  induction d generalizing b with
  | nil => rfl
  | cons r l ih =>
    rw [okF_cons] at h
    rw [withoutF, sizeF_append, sizeF_wo _ _ h.2.1, if_neg (by omega), ih h.2.2.2 (by omega), sizeF]; omega
theorem size_without {d : List Rn} {b : Int} (h : okF b d = true) (v : Int) : sizeF (withoutF d v) = sizeF d - if hasF d v then 1 else 0 := by
  induction d generalizing b with
  | nil => simp [withoutF, sizeF, hasF]
  | cons r l ih =>
    rw [okF_cons] at h
    rw [withoutF, sizeF_append, sizeF_wo _ _ h.2.1, sizeF, hasF]
    by_cases c : r.1 ≤ v ∧ v ≤ r.2
    · rw [if_pos c, without_off h.2.2.2 (by omega)]
      simp [c]; omega
    · rw [if_neg c, ih h.2.2.2]
      have : (decide (r.1 ≤ v) && decide (v ≤ r.2)) = false := by simp; omega
      rw [this, Bool.false_or]; omega
/-- the first value of all -/
theorem next_first {d : List Rn} (h : right d = true) {lo : Int} (hlo : lo ≤ -mx) : next d lo = (ends d).map (·.1) := by
  unfold next ends
  rw [if_pos h, if_pos h]
  cases d with
  | nil => rfl
  | cons r l =>
    have h1 := okF_cons.1 h
    rw [nextF, if_pos (by omega)]
    have : ∃ z, (r :: l).getLast? = some z := ⟨(r :: l).getLast (by simp), by simp [List.getLast?_eq_some_getLast]⟩
    obtain ⟨z, hz⟩ := this
    rw [hz]
    simp only [List.head?_cons, Option.map_some, Option.some.injEq]
    omega
theorem ends_some {d : List Rn} (h : right d = true) : (ends d).isSome = decide (0 < size d) := by
  unfold ends size
  rw [if_pos h, if_pos h]
  cases d with
  | nil => rfl
  | cons r l =>
    have := (sizeF_le h (by decide)).2.2 (by simp)
    have h2 : ∃ z, (r :: l).getLast? = some z := ⟨(r :: l).getLast (by simp), by simp [List.getLast?_eq_some_getLast]⟩
    obtain ⟨z, hz⟩ := h2
    rw [hz]; simp [this]
/-- how many values there are from v on -/
def cntF : List Rn → Int → Int
  | [], _ => 0
  | r :: l, v => max 0 (r.2 - max r.1 v + 1) + cntF l v
theorem cntF_all {d : List Rn} {b v : Int} (h : okF b d = true) (hv : v ≤ b) : cntF d v = sizeF d := by
  induction d generalizing b with
  | nil => rfl
  | cons r l ih =>
    rw [okF_cons] at h
    rw [cntF, sizeF, ih h.2.2.2 (by omega)]; omega
theorem cntF_nonneg (d : List Rn) (v : Int) : 0 ≤ cntF d v := by
  induction d with
  | nil => exact Int.le_refl _
  | cons r l ih => rw [cntF]; omega
theorem next_none {d : List Rn} {b v : Int} (h : okF b d = true) (hn : nextF d v = none) : cntF d v = 0 := by
  induction d generalizing b with
  | nil => rfl
  | cons r l ih =>
    rw [okF_cons] at h
    rw [nextF] at hn
    split at hn
    · cases hn
    · rw [cntF, ih h.2.2.2 hn]; omega
theorem next_some {d : List Rn} {b v w : Int} (h : okF b d = true) (hn : nextF d v = some w) : v ≤ w ∧ b ≤ w ∧ w ≤ mx ∧ mem d w ∧ cntF d v = 1 + cntF d (w + 1) := by
  induction d generalizing b with
  | nil => cases hn
  | cons r l ih =>
    rw [okF_cons] at h
    rw [nextF] at hn
    split at hn
    · injection hn with hn
      have e1 := cntF_all (v := w + 1) h.2.2.2 (by omega)
      have e2 := cntF_all (v := v) h.2.2.2 (by omega)
      refine ⟨by omega, by omega, by omega, .inl (by omega), ?_⟩
      rw [cntF, cntF, e1, e2]; omega
    · obtain ⟨i1, i2, i3, i4, i5⟩ := ih h.2.2.2 hn
      refine ⟨i1, by omega, i3, .inr i4, ?_⟩
      rw [cntF, cntF, i5]; omega
theorem okF_len : ∀ (l : List Rn) (b : Int), okF b l = true → 2 * (l.length : Int) ≤ mx - b + 2 ∨ l = []
  | [], b, _ => .inr rfl
  | r :: l, b, h => by
    rw [okF_cons] at h
    obtain ⟨h1, h2, h3, h4⟩ := h
    left
    rw [List.length_cons]
    rcases okF_len l _ h4 with h5 | rfl
    · omega
    · simp; omega
/-- a set has no more ranges than that -/
theorem right_len {l : List Rn} (h : right l = true) : l.length ≤ 1100000 := by
  rcases okF_len l _ h with h1 | rfl
  · simp only [mx] at h1; omega
  · exact Nat.zero_le _
end
end Go.Proofs.Ytakfabaocgbbmaa.Zs
