/- Layer 9 (set), pure: what a set of ranges is, what it has, and that sets of the same values are the same lists -/
import Derived.Test.YtilgmkhcpmegjaaQaa
namespace Go.Proofs.Ytilgmkhcpmegjaa.Zs
set_option linter.unusedVariables false
abbrev Rn := Int × Int
abbrev mx : Int := 1048576
def okF : Int → List Rn → Bool
  | _, [] => true
  | b, r :: l => decide (b ≤ r.1) && decide (r.1 ≤ r.2) && decide (r.2 ≤ mx) && okF (r.2 + 2) l
def right (l : List Rn) : Bool := okF (-mx) l
def mem : List Rn → Int → Prop
  | [], _ => False
  | r :: l, v => (r.1 ≤ v ∧ v ≤ r.2) ∨ mem l v
theorem okF_cons {b : Int} {r : Rn} {l : List Rn} : okF b (r :: l) = true ↔ b ≤ r.1 ∧ r.1 ≤ r.2 ∧ r.2 ≤ mx ∧ okF (r.2 + 2) l = true := by
  simp only [okF, Bool.and_eq_true, decide_eq_true_eq, and_assoc]
theorem okF_mono {b b' : Int} {l : List Rn} (h : okF b l = true) (hb : b' ≤ b) : okF b' l = true := by
  cases l with
  | nil => rfl
  | cons r l => rw [okF_cons] at h ⊢; exact ⟨by omega, h.2⟩
theorem mem_ge {b : Int} {l : List Rn} (h : okF b l = true) {v : Int} (hv : mem l v) : b ≤ v ∧ v ≤ mx := by
  induction l generalizing b with
  | nil => exact hv.elim
  | cons r l ih =>
    rw [okF_cons] at h
    rcases hv with hv | hv
    · omega
    · have := ih h.2.2.2 hv; omega
theorem uniq {a c : List Rn} {b b' : Int} (ha : okF b a = true) (hc : okF b' c = true) (h : ∀ v, mem a v ↔ mem c v) : a = c := by
  induction a generalizing b b' c with
  | nil =>
    cases c with
    | nil => rfl
    | cons s m => rw [okF_cons] at hc; exact ((h s.1).2 (.inl ⟨Int.le_refl _, hc.2.1⟩)).elim
  | cons r l ih =>
    rw [okF_cons] at ha
    cases c with
    | nil => exact ((h r.1).1 (.inl ⟨Int.le_refl _, ha.2.1⟩)).elim
    | cons s m =>
      rw [okF_cons] at hc
      have h1 : s.1 ≤ r.1 := by
        rcases (h r.1).1 (.inl ⟨Int.le_refl _, ha.2.1⟩) with h1 | h1
        · exact h1.1
        · have := mem_ge hc.2.2.2 h1; omega
      have h2 : r.1 ≤ s.1 := by
        rcases (h s.1).2 (.inl ⟨Int.le_refl _, hc.2.1⟩) with h1 | h1
        · exact h1.1
        · have := mem_ge ha.2.2.2 h1; omega
      have h3 : ¬ r.2 < s.2 := fun hlt => by
        rcases (h (r.2 + 1)).2 (.inl ⟨by omega, by omega⟩) with h1 | h1
        · omega
        · have := mem_ge ha.2.2.2 h1; omega
      have h4 : ¬ s.2 < r.2 := fun hlt => by
        rcases (h (s.2 + 1)).1 (.inl ⟨by omega, by omega⟩) with h1 | h1
        · omega
        · have := mem_ge hc.2.2.2 h1; omega
      have e : r = s := Prod.ext (by omega) (by omega)
      subst e
      congr 1
      refine ih ha.2.2.2 hc.2.2.2 fun v => ⟨fun hv => ?_, fun hv => ?_⟩
      · rcases (h v).1 (.inr hv) with h1 | h1
        · have := mem_ge ha.2.2.2 hv; omega
        · exact h1
      · rcases (h v).2 (.inr hv) with h1 | h1
        · have := mem_ge hc.2.2.2 hv; omega
        · exact h1
theorem mem_append {a c : List Rn} {v : Int} : mem (a ++ c) v ↔ mem a v ∨ mem c v := by
  induction a with
  | nil => simp [mem]
  | cons r l ih => simp [mem, ih, or_assoc]
/-- every range ends at h or before -/
def upto (h : Int) (a : List Rn) : Prop := ∀ r ∈ a, r.2 ≤ h
theorem okF_append {b h : Int} {a c : List Rn} (ha : okF b a = true) (hu : upto h a) (hc : okF (h + 2) c = true) (hb : b ≤ h + 2) : okF b (a ++ c) = true := by
  induction a generalizing b with
  | nil => exact okF_mono hc hb
  | cons r l ih =>
    rw [okF_cons] at ha
    rw [List.cons_append, okF_cons]
    have := hu r (by simp)
    exact ⟨ha.1, ha.2.1, ha.2.2.1, ih ha.2.2.2 (fun s hs => hu s (by simp [hs])) (by omega)⟩
def within (n : Int) : Bool := decide (-mx ≤ n) && decide (n ≤ mx)
/-- each range has a value, and may be -/
def full (l : List Rn) : Prop := ∀ r ∈ l, r.1 ≤ r.2 ∧ -mx ≤ r.1 ∧ r.2 ≤ mx
section
set_option linter.unusedVariables false
def nextF : List Rn → Int → Option Int
  | [], _ => none
  | r :: l, v => if v ≤ r.2 then some (max v r.1) else nextF l v
def next (d : List Rn) (v : Int) : Option Int := if right d then nextF d v else none
def hasF : List Rn → Int → Bool
  | [], _ => false
  | r :: l, v => (decide (r.1 ≤ v) && decide (v ≤ r.2)) || hasF l v
def has (d : List Rn) (v : Int) : Bool := right d && hasF d v
theorem hasF_iff {d : List Rn} {v : Int} : hasF d v = true ↔ mem d v := by
  induction d with
  | nil => simp [hasF, mem]
  | cons r l ih => simp [hasF, mem, ih]
theorem has_iff {d : List Rn} {v : Int} : has d v = true ↔ right d = true ∧ mem d v := by simp [has, hasF_iff]
def sizeF : List Rn → Int
  | [] => 0
  | r :: l => (r.2 - r.1 + 1) + sizeF l
def size (d : List Rn) : Int := if right d then sizeF d else 0
theorem sizeF_le {d : List Rn} {b : Int} (h : okF b d = true) (hb : b ≤ mx + 2) : 0 ≤ sizeF d ∧ sizeF d ≤ mx + 2 - b ∧ (d ≠ [] → 0 < sizeF d) := by
  induction d generalizing b with
  | nil => simp [sizeF]; omega
  | cons r l ih =>
    rw [okF_cons] at h
    have := ih h.2.2.2 (by omega)
    rw [sizeF]
    omega
def ends (d : List Rn) : Option Rn := if right d then (match d.head?, d.getLast? with | some a, some z => some (a.1, z.2) | _, _ => none) else none
def one (lo hi : Int) : List Rn := if lo ≤ hi then [(lo, hi)] else []
def cutF : List Rn → Int → Int → List Rn
  | [], _, _ => []
  | r :: l, lo, hi => one (max lo r.1) (min hi r.2) ++ cutF l lo hi
def cut (d : List Rn) (lo hi : Int) : List Rn := if right d then cutF d lo hi else []
theorem upto_one {lo hi h : Int} (k : hi ≤ h) : upto h (one lo hi) := by
  unfold one; split
  · intro r hr; simp only [List.mem_singleton] at hr; subst hr; exact k
  · intro r hr; cases hr
theorem upto_append {h : Int} {a c : List Rn} (ha : upto h a) (hc : upto h c) : upto h (a ++ c) := fun r hr => (List.mem_append.1 hr).elim (ha r) (hc r)
theorem okF_one {b lo hi : Int} (h1 : b ≤ lo) (h2 : hi ≤ mx) : okF b (one lo hi) = true := by
  unfold one; split
  · rw [okF_cons]; exact ⟨h1, by assumption, h2, rfl⟩
  · rfl
theorem mem_one {lo hi v : Int} : mem (one lo hi) v ↔ lo ≤ v ∧ v ≤ hi := by
  unfold one; split
  · simp [mem]
  · simp only [mem, false_iff]; omega
theorem upto_cut (d : List Rn) (lo hi : Int) : upto hi (cutF d lo hi) := by
  induction d with
  | nil => intro r hr; cases hr
  | cons r l ih => exact upto_append (upto_one (by omega)) ih
theorem cutF_ok {d : List Rn} {b lo hi : Int} (h : okF b d = true) : okF (max b lo) (cutF d lo hi) = true ∧ ∀ v, mem (cutF d lo hi) v ↔ mem d v ∧ lo ≤ v ∧ v ≤ hi := by
  induction d generalizing b with
  | nil => exact ⟨rfl, fun v => by simp [cutF, mem]⟩
  | cons r l ih =>
    rw [okF_cons] at h
    obtain ⟨i1, i2⟩ := ih h.2.2.2
    refine ⟨?_, fun v => ?_⟩
    · rw [cutF]
      by_cases c : lo ≤ r.2
      · exact okF_append (h := r.2) (okF_one (by omega) (by omega)) (upto_one (by omega)) (okF_mono i1 (by omega)) (by omega)
      · rw [one, if_neg (by omega)]; exact okF_mono i1 (by omega)
    rw [cutF, mem_append, i2 v, mem_one, mem]
    constructor
    · rintro (h | h)
      · exact ⟨.inl (by omega), by omega⟩
      · exact ⟨.inr h.1, h.2⟩
    · rintro ⟨h | h, k⟩
      · exact .inl (by omega)
      · exact .inr ⟨h, k⟩
theorem cut_ok (d : List Rn) (lo hi : Int) (h : right d = true) : right (cut d lo hi) = true ∧ ∀ v, mem (cut d lo hi) v ↔ mem d v ∧ lo ≤ v ∧ v ≤ hi := by
  rw [cut, if_pos h]
  exact ⟨okF_mono (cutF_ok h).1 (by omega), (cutF_ok h).2⟩
theorem cut_right (d : List Rn) (lo hi : Int) : right (cut d lo hi) = true := by
  cases h : right d with
  | true => exact (cut_ok d lo hi h).1
  | false => rw [cut, if_neg (by simp [h])]; rfl
def wo (r : Rn) (v : Int) : List Rn := if v < r.1 ∨ v > r.2 then [r] else one r.1 (v - 1) ++ one (v + 1) r.2
def withoutF : List Rn → Int → List Rn
  | [], _ => []
  | r :: l, v => wo r v ++ withoutF l v
def without (d : List Rn) (v : Int) : List Rn := if right d then withoutF d v else []
/-- what two have: the landed one's way -/
def meetL : List Rn → List Rn → List Rn
  | [], _ => []
  | _ :: _, [] => []
  | r :: a, s :: c => if r.2 < s.2 then one (max r.1 s.1) (min r.2 s.2) ++ meetL a (s :: c) else one (max r.1 s.1) (min r.2 s.2) ++ meetL (r :: a) c
termination_by a c => a.length + c.length
/-- the document's -/
def meetF (a : List Rn) : List Rn → List Rn
  | [] => []
  | s :: c => cutF a s.1 s.2 ++ meetF a c
def meet (a c : List Rn) : List Rn := if right a && right c then meetF a c else []
theorem meetF_ok {a c : List Rn} {b b' : Int} (ha : okF b a = true) (hc : okF b' c = true) : okF b' (meetF a c) = true ∧ ∀ v, mem (meetF a c) v ↔ mem a v ∧ mem c v := by
  induction c generalizing b' with
  | nil => exact ⟨rfl, fun v => by simp [meetF, mem]⟩
  | cons s c ih =>
    rw [okF_cons] at hc
    obtain ⟨i1, i2⟩ := ih hc.2.2.2
    obtain ⟨j1, j2⟩ := cutF_ok (lo := s.1) (hi := s.2) ha
    refine ⟨okF_append (h := s.2) (okF_mono j1 (by omega)) (upto_cut a s.1 s.2) i1 (by omega), fun v => ?_⟩
    rw [meetF, mem_append, i2 v, j2 v, mem]
    grind
theorem meet_ok {a c : List Rn} (ha : right a = true) (hc : right c = true) : right (meet a c) = true ∧ ∀ v, mem (meet a c) v ↔ mem a v ∧ mem c v := by
  rw [meet, if_pos (by simp [ha, hc])]; exact meetF_ok ha hc
theorem meet_right (a c : List Rn) : right (meet a c) = true := by
  rw [meet]
  split
  · rename_i h; simp only [Bool.and_eq_true] at h; exact (meetF_ok h.1 h.2).1
  · rfl
theorem meetL_ok {a c : List Rn} {b b' : Int} (ha : okF b a = true) (hc : okF b' c = true) : okF (max b b') (meetL a c) = true ∧ ∀ v, mem (meetL a c) v ↔ mem a v ∧ mem c v := by
  induction a, c using meetL.induct generalizing b b' with
  | case1 c => exact ⟨by simp [meetL, okF], fun v => by simp [meetL, mem]⟩
  | case2 r a => exact ⟨by simp [meetL, okF], fun v => by simp [meetL, mem]⟩
  | case3 r a s c hlt ih =>
    have h1 := okF_cons.1 ha
    have h2 := okF_cons.1 hc
    obtain ⟨i1, i2⟩ := ih h1.2.2.2 hc
    rw [meetL, if_pos hlt]
    refine ⟨?_, fun v => ?_⟩
    · by_cases c : s.1 ≤ r.2
      · exact okF_append (h := r.2) (okF_one (by omega) (by omega)) (upto_one (by omega)) (okF_mono i1 (by omega)) (by omega)
      · rw [one, if_neg (by omega)]; exact okF_mono i1 (by omega)
    · rw [mem_append, i2 v, mem_one]
      simp only [mem]
      constructor
      · rintro (h | h)
        · exact ⟨.inl (by omega), .inl (by omega)⟩
        · exact ⟨.inr h.1, h.2⟩
      · rintro ⟨h | h, k | k⟩
        · exact .inl (by omega)
        · have := mem_ge h2.2.2.2 k; omega
        · exact .inr ⟨h, .inl k⟩
        · exact .inr ⟨h, .inr k⟩
  | case4 r a s c hlt ih =>
    have h1 := okF_cons.1 ha
    have h2 := okF_cons.1 hc
    obtain ⟨i1, i2⟩ := ih ha h2.2.2.2
    rw [meetL, if_neg hlt]
    refine ⟨?_, fun v => ?_⟩
    · by_cases c : r.1 ≤ s.2
      · exact okF_append (h := s.2) (okF_one (by omega) (by omega)) (upto_one (by omega)) (okF_mono i1 (by omega)) (by omega)
      · rw [one, if_neg (by omega)]; exact okF_mono i1 (by omega)
    · rw [mem_append, i2 v, mem_one]
      simp only [mem]
      constructor
      · rintro (h | h)
        · exact ⟨.inl (by omega), .inl (by omega)⟩
        · exact ⟨h.1, .inr h.2⟩
      · rintro ⟨h | h, k | k⟩
        · exact .inl (by omega)
        · exact .inr ⟨.inl h, k⟩
        · have := mem_ge h1.2.2.2 h; omega
        · exact .inr ⟨.inr h, k⟩
theorem meet_is {a c : List Rn} (ha : right a = true) (hc : right c = true) : meetL a c = meet a c := by
  obtain ⟨j1, j2⟩ := meet_ok ha hc
  exact uniq (meetL_ok ha hc).1 j1 fun v => by rw [(meetL_ok ha hc).2 v, j2 v]
theorem meetL_len (a c : List Rn) : (meetL a c).length ≤ a.length + c.length := by
  induction a, c using meetL.induct with
  | case1 c => simp [meetL]
  | case2 r a => simp [meetL]
  | case3 r a s c hlt ih => rw [meetL, if_pos hlt, List.length_append, one]; split <;> simp only [List.length_cons, List.length_nil] at ih ⊢ <;> omega
  | case4 r a s c hlt ih => rw [meetL, if_neg hlt, List.length_append, one]; split <;> simp only [List.length_cons, List.length_nil] at ih ⊢ <;> omega
theorem meet_len {a c : List Rn} : (meet a c).length ≤ a.length + c.length := by
  by_cases h : right a = true ∧ right c = true
  · rw [← meet_is h.1 h.2]; exact meetL_len a c
  · rw [meet, if_neg (by simpa using h)]; exact Nat.zero_le _
def same (a c : List Rn) : Bool := right a && decide (a = c)
theorem full_right {b : Int} {l : List Rn} (h : okF b l = true) (hb : -mx ≤ b) : full l := by
  induction l generalizing b with
  | nil => intro r hr; cases hr
  | cons r l ih =>
    rw [okF_cons] at h
    intro s hs
    rcases List.mem_cons.1 hs with rfl | hs
    · omega
    · exact ih h.2.2.2 (by omega) s hs
/-- sizes of parts -/
theorem sizeF_append (a c : List Rn) : sizeF (a ++ c) = sizeF a + sizeF c := by
  induction a with
  | nil => simp [sizeF]
  | cons r l ih => rw [List.cons_append, sizeF, sizeF, ih]; omega
theorem sizeF_one (lo hi : Int) : sizeF (one lo hi) = max 0 (hi - lo + 1) := by
  unfold one; split
  · simp only [sizeF]; omega
  · simp only [sizeF]; omega
theorem size_parts {d : List Rn} {b : Int} (h : okF b d = true) (lo hi v : Int) (hlo : lo ≤ b) (hhi : mx ≤ hi) : sizeF (cutF d lo v) + sizeF (cutF d (v + 1) hi) = sizeF d := by
  induction d generalizing b with
  | nil => simp [cutF, sizeF]
  | cons r l ih =>
    rw [okF_cons] at h
    have := ih h.2.2.2 (by omega)
    rw [cutF, cutF, sizeF_append, sizeF_append, sizeF_one, sizeF_one, sizeF]
    omega
/-- how many values there are from v on -/
def cntF : List Rn → Int → Int
  | [], _ => 0
  | r :: l, v => max 0 (r.2 - max r.1 v + 1) + cntF l v
theorem cntF_all {d : List Rn} {b v : Int} (h : okF b d = true) (hv : v ≤ b) : cntF d v = sizeF d := by
  induction d generalizing b with
  | nil => rfl
  | cons r l ih =>
    rw [okF_cons] at h
    rw [cntF, sizeF, ih h.2.2.2 (by omega)]; omega
theorem cntF_nonneg (d : List Rn) (v : Int) : 0 ≤ cntF d v := by
  induction d with
  | nil => exact Int.le_refl _
  | cons r l ih => rw [cntF]; omega
theorem next_none {d : List Rn} {b v : Int} (h : okF b d = true) (hn : nextF d v = none) : cntF d v = 0 := by
  induction d generalizing b with
  | nil => rfl
  | cons r l ih =>
    rw [okF_cons] at h
    rw [nextF] at hn
    split at hn
    · cases hn
    · rw [cntF, ih h.2.2.2 hn]; omega
theorem next_some {d : List Rn} {b v w : Int} (h : okF b d = true) (hn : nextF d v = some w) : v ≤ w ∧ b ≤ w ∧ w ≤ mx ∧ mem d w ∧ cntF d v = 1 + cntF d (w + 1) := by
  induction d generalizing b with
  | nil => cases hn
  | cons r l ih =>
    rw [okF_cons] at h
    rw [nextF] at hn
    split at hn
    · injection hn with hn
      have e1 := cntF_all (v := w + 1) h.2.2.2 (by omega)
      have e2 := cntF_all (v := v) h.2.2.2 (by omega)
      refine ⟨by omega, by omega, by omega, .inl (by omega), ?_⟩
      rw [cntF, cntF, e1, e2]; omega
    · obtain ⟨i1, i2, i3, i4, i5⟩ := ih h.2.2.2 hn
      refine ⟨i1, by omega, i3, .inr i4, ?_⟩
      rw [cntF, cntF, i5]; omega
theorem okF_len : ∀ (l : List Rn) (b : Int), okF b l = true → 2 * (l.length : Int) ≤ mx - b + 2 ∨ l = []
  | [], b, _ => .inr rfl
  | r :: l, b, h => by
    rw [okF_cons] at h
    obtain ⟨h1, h2, h3, h4⟩ := h
    left
    rw [List.length_cons]
    rcases okF_len l _ h4 with h5 | rfl
    · omega
    · simp; omega
/-- a set has no more ranges than that -/
theorem right_len {l : List Rn} (h : right l = true) : l.length ≤ 1100000 := by
  rcases okF_len l _ h with h1 | rfl
  · simp only [mx] at h1; omega
  · exact Nat.zero_le _
end
end Go.Proofs.Ytilgmkhcpmegjaa.Zs
