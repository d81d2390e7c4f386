/- Layer 12 (linear), pure: what a sum leaves of domains. -/
import Derived.Deep.OwnRows
import Derived.Test.YtoegbgkgenjplaaVc0
import Derived.Test.YtoegbgkgenjplaaUb
namespace Go.Proofs.Ytoegbgkgenjplaa.Ln
set_option linter.unusedVariables false
open Go.Proofs.Ytoegbgkgenjplaa.Zs Go.Proofs.Ytoegbgkgenjplaa.Sn
abbrev Ds := List (List Rn)
abbrev far : Int := 1099511627776
structure Tm where
  n : Int
  lo : Int
  hi : Int
  x : Int
def lo (d : List Rn) : Int := (d.getD 0 (0, 0)).1
def hi (d : List Rn) : Int := (d.getD (d.length - 1) (0, 0)).2
def tm (ds : Ds) (p : Int × Int) : Tm := ⟨p.1, lo (domAt ds p.2), hi (domAt ds p.2), p.2⟩
def tms (a x : List Int) (ds : Ds) : List Tm := (a.zip x).map (tm ds)
def mnT (t : Tm) : Int := min (t.n * t.lo) (t.n * t.hi)
def mxT (t : Tm) : Int := max (t.n * t.lo) (t.n * t.hi)
def lsum : List Tm → Int
  | [] => 0
  | t :: ts => mnT t + lsum ts
def gsum : List Tm → Int
  | [] => 0
  | t :: ts => mxT t + gsum ts
def cutT (r : Int) (t : Tm) (D : Ds) : Ds :=
  if 0 < t.n then D.set t.x.toNat (cut (domAt D t.x) t.lo (t.lo + r / t.n))
  else if t.n < 0 then D.set t.x.toNat (cut (domAt D t.x) (t.hi - r / (-t.n)) t.hi) else D
def keepT (r : Int) : List Tm → Ds → Option Ds
  | [], D => some D
  | t :: ts, D => if domAt (cutT r t D) t.x = [] then none else keepT r ts (cutT r t D)
/-- the landed one: a sum is kept at most c -/
def amL (c : Int) (ts : List Tm) (D : Ds) : Option Ds := if c - lsum ts < 0 then none else keepT (c - lsum ts) ts D
def cutD (r : Int) (t : Tm) (D : Ds) : Ds :=
  if 0 < t.n then D.set t.x.toNat (cut (domAt D t.x) (-far) (t.lo + r / t.n))
  else if t.n < 0 then D.set t.x.toNat (cut (domAt D t.x) (t.hi - r / (-t.n)) far) else D
def allD (r : Int) : List Tm → Ds → Ds
  | [], D => D
  | t :: ts, D => allD r ts (cutD r t D)
def opn (t : Tm) : Bool := t.n != 0 && t.lo != t.hi
def fsum : List Tm → Int
  | [] => 0
  | t :: ts => (if opn t then 0 else t.n * t.lo) + fsum ts
def neW (r : Int) (o : List Tm) (D : Ds) : Option Ds :=
  match o with
  | [] => if r = 0 then none else some D
  | [t] => if r.tmod t.n = 0 then some (D.set t.x.toNat (without (domAt D t.x) (r.tdiv t.n))) else some D
  | _ => some D
def neL (c : Int) (ts : List Tm) (D : Ds) : Option Ds := neW (c - fsum ts) (ts.filter opn) D
def neg (a : List Int) : List Int := a.map fun n => -n
def narL (k : Int) (c : Int) (a x : List Int) (D : Ds) : Option Ds :=
  if k = 1 then (amL c (tms a x D) D).bind fun E => amL (-c) (tms (neg a) x E) E
  else if k = 2 then amL c (tms a x D) D else neL c (tms a x D) D
/-- domains as they may be: sets that have values -/
def Gd (D : Ds) : Prop := ∀ d ∈ D, right d = true ∧ d ≠ []
/-- every variable of a sum is there -/
def Vs (ts : List Tm) (n : Nat) : Prop := ∀ t ∈ ts, 0 ≤ t.x ∧ t.x.toNat < n
theorem domAt_lt {D : Ds} {x : Int} (h : x.toNat < D.length) : domAt D x = D[x.toNat] := by simp [domAt, h]
theorem Gd.at_ {D : Ds} (h : Gd D) {x : Int} (hx : x.toNat < D.length) : right (domAt D x) = true ∧ domAt D x ≠ [] := by
  rw [domAt_lt hx]; exact h _ (List.getElem_mem hx)
theorem domAt_set {D : Ds} {x y : Int} {d : List Rn} (hx : x.toNat < D.length) : domAt (D.set x.toNat d) y = if y.toNat = x.toNat then d else domAt D y := by
  unfold domAt
  by_cases e : y.toNat = x.toNat
  · rw [if_pos e, e]; simp [List.getD, hx]
  · rw [if_neg e]; simp only [List.getD, List.getElem?_set_ne (fun h => e h.symm)]
/-- the ends of a set's values -/
theorem mem_lo {d : List Rn} {b : Int} (h : okF b d = true) {v : Int} (hv : mem d v) : lo d ≤ v := by
  cases d with
  | nil => exact hv.elim
  | cons r l =>
    rw [okF_cons] at h
    rcases hv with hv | hv
    · exact hv.1
    · have := mem_ge h.2.2.2 hv; show r.1 ≤ v; omega
theorem hi_cons (r s : Rn) (l : List Rn) : hi (r :: s :: l) = hi (s :: l) := by simp [hi, List.getD]
theorem hi_ge {b : Int} : ∀ (l : List Rn) (r : Rn), okF b (r :: l) = true → r.2 ≤ hi (r :: l) := by
  intro l
  induction l generalizing b with
  | nil => intro r h; simp [hi]
  | cons s l ih =>
    intro r h
    rw [okF_cons] at h
    rw [hi_cons]
    have h2 := h.2.2.2
    have := ih s h2
    rw [okF_cons] at h2
    omega
theorem mem_hi {b : Int} : ∀ (d : List Rn), okF b d = true → ∀ {v : Int}, mem d v → v ≤ hi d := by
  intro d
  induction d generalizing b with
  | nil => intro h v hv; exact hv.elim
  | cons r l ih =>
    intro h v hv
    have h0 := hi_ge l r h
    rw [okF_cons] at h
    rcases hv with hv | hv
    · omega
    · cases l with
      | nil => exact hv.elim
      | cons s l => rw [hi_cons]; exact ih h.2.2.2 hv
theorem lo_mem {d : List Rn} {b : Int} (h : okF b d = true) (hd : d ≠ []) : mem d (lo d) := by
  cases d with
  | nil => exact absurd rfl hd
  | cons r l => rw [okF_cons] at h; exact .inl ⟨Int.le_refl _, h.2.1⟩
theorem hi_mem {b : Int} : ∀ (d : List Rn), okF b d = true → d ≠ [] → mem d (hi d) := by
  intro d
  induction d generalizing b with
  | nil => intro h hd; exact absurd rfl hd
  | cons r l ih =>
    intro h _
    rw [okF_cons] at h
    cases l with
    | nil => exact .inl ⟨h.2.1, Int.le_refl _⟩
    | cons s l => rw [hi_cons]; exact .inr (ih h.2.2.2 (by simp))
theorem mem_ex {d : List Rn} {b : Int} (h : okF b d = true) (hd : d ≠ []) : ∃ v, mem d v := ⟨_, lo_mem h hd⟩
theorem not_mem_nil {d : List Rn} {b : Int} (h : okF b d = true) (hn : ∀ v, ¬ mem d v) : d = [] := Classical.byContradiction fun hd => (mem_ex h hd).elim fun v hv => hn v hv
theorem lo_hi {d : List Rn} {b : Int} (h : okF b d = true) (hd : d ≠ []) : lo d ≤ hi d := mem_lo h (hi_mem d h hd)
theorem lo_hi_mx {d : List Rn} (h : right d = true) (hd : d ≠ []) : -mx ≤ lo d ∧ lo d ≤ hi d ∧ hi d ≤ mx := ⟨(mem_ge h (lo_mem h hd)).1, lo_hi h hd, (mem_ge h (hi_mem d h hd)).2⟩
/-- within the ends that a term knows -/
def In (t : Tm) (D : Ds) : Prop := ∀ v, mem (domAt D t.x) v → t.lo ≤ v ∧ v ≤ t.hi
/-- as good as Gd, but for sets without values -/
def Rd (D : Ds) : Prop := ∀ d ∈ D, right d = true
theorem Rd.at_ {D : Ds} (h : Rd D) {x : Int} (hx : x.toNat < D.length) : right (domAt D x) = true := by
  rw [domAt_lt hx]; exact h _ (List.getElem_mem hx)
theorem Rd.set {D : Ds} (h : Rd D) {i : Nat} {d : List Rn} (hd : right d = true) : Rd (D.set i d) := fun e he => by
  rcases List.mem_or_eq_of_mem_set he with h1 | rfl
  · exact h e h1
  · exact hd
theorem Gd.rd {D : Ds} (h : Gd D) : Rd D := fun d hd => (h d hd).1
/-- may this term's variable have that value? -/
def okt (r : Int) (t : Tm) (v : Int) : Prop := (0 < t.n → t.n * (v - t.lo) ≤ r) ∧ (t.n < 0 → t.n * (v - t.hi) ≤ r)
theorem up_iff {n l r v : Int} (h : 0 < n) : v ≤ l + r / n ↔ n * (v - l) ≤ r := by
  have := Int.le_ediv_iff_mul_le (a := v - l) (b := r) h
  rw [Int.mul_comm] at this
  constructor
  · intro h1; exact this.1 (by omega)
  · intro h1; have := this.2 h1; omega
theorem down_iff {n l r v : Int} (h : n < 0) : l - r / (-n) ≤ v ↔ n * (v - l) ≤ r := by
  have h2 : 0 < -n := by omega
  have := up_iff (n := -n) (l := 0) (r := r) (v := l - v) h2
  rw [show (-n) * (l - v - 0) = n * (v - l) by grind] at this
  rw [← this]; omega
theorem cutT_len (r : Int) (t : Tm) (D : Ds) : (cutT r t D).length = D.length := by unfold cutT; repeat' split <;> simp
theorem cutT_rd {r : Int} {t : Tm} {D : Ds} (h : Rd D) : Rd (cutT r t D) := by
  unfold cutT; repeat' split
  · exact h.set (cut_right _ _ _)
  · exact h.set (cut_right _ _ _)
  · exact h
theorem cutT_mem {r : Int} {t : Tm} {D : Ds} (hr : 0 ≤ r) (h : Rd D) (hx : 0 ≤ t.x ∧ t.x.toNat < D.length) (hi : In t D) {y : Int} (hy : 0 ≤ y) (v : Int) : mem (domAt (cutT r t D) y) v ↔ mem (domAt D y) v ∧ (t.x = y → okt r t v) := by
  have hR := h.at_ hx.2
  unfold cutT okt
  by_cases c1 : 0 < t.n
  · rw [if_pos c1, domAt_set hx.2]
    by_cases e : y.toNat = t.x.toNat
    · have e2 : t.x = y := by omega
      subst e2
      rw [if_pos rfl, (cut_ok _ _ _ hR).2, up_iff c1]
      constructor
      · rintro ⟨h1, h2, h3⟩; exact ⟨h1, fun _ => ⟨fun _ => h3, fun h => by omega⟩⟩
      · rintro ⟨h1, h2⟩; exact ⟨h1, (hi v h1).1, (h2 rfl).1 c1⟩
    · rw [if_neg e]
      exact ⟨fun h1 => ⟨h1, fun e2 => absurd (by rw [e2]) e⟩, fun h1 => h1.1⟩
  · rw [if_neg c1]
    by_cases c2 : t.n < 0
    · rw [if_pos c2, domAt_set hx.2]
      by_cases e : y.toNat = t.x.toNat
      · have e2 : t.x = y := by omega
        subst e2
        rw [if_pos rfl, (cut_ok _ _ _ hR).2, down_iff c2]
        constructor
        · rintro ⟨h1, h2, h3⟩; exact ⟨h1, fun _ => ⟨fun h => by omega, fun _ => h2⟩⟩
        · rintro ⟨h1, h2⟩; exact ⟨h1, (h2 rfl).2 c2, (hi v h1).2⟩
      · rw [if_neg e]
        exact ⟨fun h1 => ⟨h1, fun e2 => absurd (by rw [e2]) e⟩, fun h1 => h1.1⟩
    · rw [if_neg c2]
      exact ⟨fun h1 => ⟨h1, fun _ => ⟨fun h => by omega, fun h => by omega⟩⟩, fun h1 => h1.1⟩
theorem cut_same {d : List Rn} (h : right d = true) {l l2 u u2 : Int} (k : ∀ v, mem d v → ((l ≤ v ∧ v ≤ u) ↔ (l2 ≤ v ∧ v ≤ u2))) : cut d l u = cut d l2 u2 :=
  uniq (cut_ok d l u h).1 (cut_ok d l2 u2 h).1 fun v => by rw [(cut_ok d l u h).2, (cut_ok d l2 u2 h).2]; exact ⟨fun ⟨a, b⟩ => ⟨a, (k v a).1 b⟩, fun ⟨a, b⟩ => ⟨a, (k v a).2 b⟩⟩
/-- the document cuts as the landed one does -/
theorem cutT_eq {r : Int} {t : Tm} {D : Ds} (h : Rd D) (hx : 0 ≤ t.x ∧ t.x.toNat < D.length) (hi : In t D) : cutT r t D = cutD r t D := by
  have hR := h.at_ hx.2
  have hb := fun v (hv : mem (domAt D t.x) v) => mem_ge hR hv
  unfold cutT cutD
  split
  · congr 1
    exact cut_same hR fun v hv => by have := hi v hv; have := hb v hv; simp only [far, mx] at *; omega
  · split
    · congr 1
      exact cut_same hR fun v hv => by have := hi v hv; have := hb v hv; simp only [far, mx] at *; omega
    · rfl
/-- D has no values that E has not -/
def Sub (D E : Ds) : Prop := D.length = E.length ∧ ∀ x : Int, 0 ≤ x → ∀ v, mem (domAt D x) v → mem (domAt E x) v
theorem Sub.refl (D : Ds) : Sub D D := ⟨rfl, fun _ _ _ h => h⟩
theorem Sub.trans {A B C : Ds} (h : Sub A B) (k : Sub B C) : Sub A C := ⟨h.1.trans k.1, fun x hx v hv => k.2 x hx v (h.2 x hx v hv)⟩
theorem cutT_sub {r : Int} {t : Tm} {D : Ds} (hr : 0 ≤ r) (h : Rd D) (hx : 0 ≤ t.x ∧ t.x.toNat < D.length) (hi : In t D) : Sub (cutT r t D) D :=
  ⟨cutT_len _ _ _, fun y hy v hv => ((cutT_mem hr h hx hi hy v).1 hv).1⟩
theorem In.sub {t : Tm} {D E : Ds} (h : In t E) (k : Sub D E) (hx : 0 ≤ t.x) : In t D := fun v hv => h v (k.2 _ hx v hv)
/-- the landed rounds, one behind the other -/
def allT (r : Int) : List Tm → Ds → Ds
  | [], D => D
  | t :: ts, D => allT r ts (cutT r t D)
theorem allT_spec {r : Int} (hr : 0 ≤ r) : ∀ (ts : List Tm) (D : Ds), Rd D → Vs ts D.length → (∀ t ∈ ts, In t D) →
    Sub (allT r ts D) D ∧ Rd (allT r ts D) ∧ allT r ts D = allD r ts D ∧ ∀ y, 0 ≤ y → ∀ v, mem (domAt (allT r ts D) y) v ↔ mem (domAt D y) v ∧ ∀ t ∈ ts, t.x = y → okt r t v := by
  intro ts
  induction ts with
  | nil => intro D h hv hi; exact ⟨.refl _, h, rfl, fun y hy v => ⟨fun h => ⟨h, fun t ht => by cases ht⟩, fun h => h.1⟩⟩
  | cons t ts ih =>
    intro D h hv hi
    have hx := hv t (by simp)
    have hit := hi t (by simp)
    have hs := cutT_sub hr h hx hit
    obtain ⟨i1, i2, i3, i4⟩ := ih (cutT r t D) (cutT_rd h) (fun t' ht => by rw [cutT_len]; exact hv t' (by simp [ht])) (fun t' ht => (hi t' (by simp [ht])).sub hs (hv t' (by simp [ht])).1)
    refine ⟨i1.trans hs, i2, ?_, fun y hy v => ?_⟩
    · rw [allT, allD, i3, cutT_eq h hx hit]
    · rw [allT, i4 y hy v, cutT_mem hr h hx hit hy]
      constructor
      · rintro ⟨⟨a, b⟩, c⟩
        refine ⟨a, fun t' ht e => ?_⟩
        rcases List.mem_cons.1 ht with rfl | ht
        · exact b e
        · exact c t' ht e
      · rintro ⟨a, b⟩
        exact ⟨⟨a, b t (by simp)⟩, fun t' ht => b t' (by simp [ht])⟩
theorem any_empty {D : Ds} : D.any List.isEmpty = true ↔ ∃ d ∈ D, d = [] := by simp [List.any_eq_true]
theorem nil_iff {D : Ds} {x : Int} (h : Rd D) (hx : x.toNat < D.length) : domAt D x = [] ↔ ∀ v, ¬ mem (domAt D x) v :=
  ⟨fun e v hv => by rw [e] at hv; exact hv, fun hn => not_mem_nil (h.at_ hx) hn⟩
theorem keepT_is {r : Int} (hr : 0 ≤ r) : ∀ (ts : List Tm) (D : Ds), Gd D → Vs ts D.length → (∀ t ∈ ts, In t D) →
    keepT r ts D = if (allT r ts D).any List.isEmpty then none else some (allT r ts D) := by
  intro ts
  induction ts with
  | nil =>
    intro D h _ _
    rw [keepT, allT, if_neg (by rw [any_empty]; rintro ⟨d, hd, e⟩; exact (h d hd).2 e)]
  | cons t ts ih =>
    intro D h hv hi
    have hx := hv t (by simp)
    have hit := hi t (by simp)
    have hs := cutT_sub hr h.rd hx hit
    have hv' : Vs ts (cutT r t D).length := fun t' ht => by rw [cutT_len]; exact hv t' (by simp [ht])
    have hi' : ∀ t' ∈ ts, In t' (cutT r t D) := fun t' ht => (hi t' (by simp [ht])).sub hs (hv t' (by simp [ht])).1
    rw [keepT, allT]
    by_cases e : domAt (cutT r t D) t.x = []
    · rw [if_pos e]
      obtain ⟨i1, i2, i3, i4⟩ := allT_spec hr ts (cutT r t D) (cutT_rd h.rd) hv' hi'
      have hl : t.x.toNat < (allT r ts (cutT r t D)).length := by rw [i1.1, cutT_len]; exact hx.2
      have e2 : domAt (allT r ts (cutT r t D)) t.x = [] := (nil_iff i2 hl).2 fun v hv => by
        have := i1.2 _ hx.1 v hv
        rw [e] at this; exact this
      rw [if_pos]
      rw [any_empty]
      exact ⟨_, List.getElem_mem hl, by rw [← domAt_lt hl]; exact e2⟩
    · rw [if_neg e]
      refine ih _ ?_ hv' hi'
      intro d hd
      refine ⟨cutT_rd h.rd d hd, ?_⟩
      unfold cutT at hd e
      split at hd
      · rename_i c
        rw [if_pos c, domAt_set hx.2, if_pos rfl] at e
        rcases List.mem_or_eq_of_mem_set hd with h1 | rfl
        · exact (h d h1).2
        · exact e
      · rename_i c
        rw [if_neg c] at e
        split at hd
        · rename_i c2
          rw [if_pos c2, domAt_set hx.2, if_pos rfl] at e
          rcases List.mem_or_eq_of_mem_set hd with h1 | rfl
          · exact (h d h1).2
          · exact e
        · exact (h d hd).2
/-- what comes of it, in one sentence -/
theorem amL_some {c : Int} {ts : List Tm} {D E : Ds} (h : Gd D) (hv : Vs ts D.length) (hi : ∀ t ∈ ts, In t D) (he : amL c ts D = some E) :
    0 ≤ c - lsum ts ∧ Gd E ∧ Sub E D ∧ ∀ y, 0 ≤ y → ∀ v, mem (domAt E y) v ↔ mem (domAt D y) v ∧ ∀ t ∈ ts, t.x = y → okt (c - lsum ts) t v := by
  unfold amL at he
  by_cases e : c - lsum ts < 0
  · rw [if_pos e] at he; cases he
  · rw [if_neg e, keepT_is (by omega) ts D h hv hi] at he
    obtain ⟨i1, i2, i3, i4⟩ := allT_spec (r := c - lsum ts) (by omega) ts D h.rd hv hi
    by_cases c2 : (allT (c - lsum ts) ts D).any List.isEmpty = true
    · rw [if_pos c2] at he; cases he
    · rw [if_neg c2] at he
      injection he with he
      subst he
      exact ⟨by omega, fun d hd => ⟨i2 d hd, fun e => c2 (any_empty.2 ⟨d, hd, e⟩)⟩, i1, i4⟩
theorem tms_in {a x : List Int} {D : Ds} (h : Rd D) (hx : x.all (isV D.length) = true) : Vs (tms a x D) D.length ∧ ∀ t ∈ tms a x D, In t D := by
  have key : ∀ t ∈ tms a x D, ∃ p : Int × Int, p.2 ∈ x ∧ t = tm D p := fun t ht => by
    obtain ⟨p, hp, rfl⟩ := List.mem_map.1 ht
    exact ⟨p, (List.of_mem_zip hp).2, rfl⟩
  refine ⟨fun t ht => ?_, fun t ht v hv => ?_⟩
  · obtain ⟨p, hp, rfl⟩ := key t ht
    have := List.all_eq_true.1 hx _ hp
    simp only [isV, Bool.and_eq_true, decide_eq_true_eq] at this
    show 0 ≤ p.2 ∧ p.2.toNat < D.length
    omega
  · obtain ⟨p, hp, rfl⟩ := key t ht
    have := List.all_eq_true.1 hx _ hp
    simp only [isV, Bool.and_eq_true, decide_eq_true_eq] at this
    have hR := h.at_ (x := p.2) (by omega)
    exact ⟨mem_lo hR hv, mem_hi _ hR hv⟩
theorem isV_len {x : List Int} {n m : Nat} (h : n = m) (hx : x.all (isV n) = true) : x.all (isV m) = true := h ▸ hx
section
open Go.RowKit
set_option linter.unusedVariables false
set_option linter.unusedSimpArgs false
open Go.Proofs.Ytoegbgkgenjplaa.Dig Go.Proofs.Ytoegbgkgenjplaa.Lx Go.Proofs.Ytoegbgkgenjplaa.Tk Go.Proofs.Ytoegbgkgenjplaa.Ti Go.Proofs.Ytoegbgkgenjplaa.Zs Go.Proofs.Ytoegbgkgenjplaa.Tr Go.Proofs.Ytoegbgkgenjplaa.Sn
/-- a term, in four cells -/
def tc (t : Tm) : List Value := [.int .i64 t.n, .int .i64 t.lo, .int .i64 t.hi, .int .i64 t.x]
def QT (w : World) (t : Tm) (u : List Value) : Prop := u = tc t
theorem stT : St QT := fun w w' x u h k => h
theorem elT {w : World} {A : Option Addr} {n c : Nat} {xs : List Tm} (h : Sl 4 QT w (.slice A n c) xs) {i : Nat} (hi : i < xs.length) :
    ∃ b o, A = some ⟨b, o, none⟩ ∧ w.cell? ⟨b, o + i * 4, none⟩ = some (.int .i64 xs[i].n) ∧ w.cell? ⟨b, o + i * 4 + 1, none⟩ = some (.int .i64 xs[i].lo) ∧ w.cell? ⟨b, o + i * 4 + 2, none⟩ = some (.int .i64 xs[i].hi) ∧ w.cell? ⟨b, o + i * 4 + 3, none⟩ = some (.int .i64 xs[i].x) := by
  obtain ⟨b, o, u, h1, h2, h3, h4⟩ := h.el hi
  cases h2
  exact ⟨b, o, h1, h4 0 _ rfl, h4 1 _ rfl, h4 2 _ rfl, h4 3 _ rfl⟩
def tcells (l : List Tm) : List Value := l.flatMap tc
theorem tcells_snoc (l : List Tm) (t : Tm) : tcells (l ++ [t]) = tcells l ++ tc t := by simp [tcells]
theorem tcells_rws (w : World) (l : List Tm) : Rws 4 (QT w) l (tcells l) := by
  suffices h : ∀ (l a : List Tm), Rws 4 (QT w) a (tcells a) → Rws 4 (QT w) (a ++ l) (tcells (a ++ l)) by simpa using h l [] .nil
  intro l
  induction l with
  | nil => intro a h; simpa using h
  | cons t l ih =>
    intro a h
    have := ih (a ++ [t]) (by rw [tcells_snoc]; exact h.snoc rfl rfl)
    simpa using this
/-- a row of terms of the call's own (from w0 on) -/
def Rt (w0 w : World) (v : Value) (xs : List Tm) : Prop := w.ownsRow w0.heap.size 91 4 v xs.length (tcells xs) ∧ Since w0 w
theorem Rt.nil {w0 w : World} (h : Since w0 w) : Rt w0 w (.slice none 0 0) [] := ⟨World.ownsRow_nil _ _ _ _, h⟩
theorem Rt.since {w0 w w' : World} {v : Value} {xs : List Tm} (h : Rt w0 w v xs) (k : Since w w') : Rt w0 w' v xs := ⟨owns_since h.1 k, h.2.trans k⟩
theorem Rt.sl {w0 w : World} {v : Value} {xs : List Tm} (h : Rt w0 w v xs) : Sl 4 QT w v xs := Sl.own h.1 (tcells_rws w xs) rfl
theorem Rt.form {w0 w : World} {v : Value} {xs : List Tm} (h : Rt w0 w v xs) : ∃ A c, v = .slice A xs.length c := h.sl.form
theorem info_term : (Try.prog.info? 91).map (fun i => (i.zero, i.size, i.bytes)) = some (some (.agg #[.int .i64 0, .int .i64 0, .int .i64 0, .int .i64 0]), 4, 32) := by kernel_rfl
/-- an append of one term -/
theorem wpList_appT {w0 w : World} {v : Value} {xs : List Tm} (H : Rt w0 w v xs) (hl : xs.length ≤ 1000000) (t : Tm) (g c : Nat) (h0 : w.cell? ⟨g, 0, none⟩ = some (.int .i64 t.n)) (h1 : w.cell? ⟨g, 1, none⟩ = some (.int .i64 t.lo)) (h2 : w.cell? ⟨g, 2, none⟩ = some (.int .i64 t.hi)) (h3 : w.cell? ⟨g, 3, none⟩ = some (.int .i64 t.x))
    {ops : Array Oper} {rest : List Oper} {o : Oper} {a : Act} {Q : Exit → Act → World → Prop} (hw : Region.wanted o (yielded ops a.tmps) = true) (s x : Operand)
    (ho : o.op = .call { callee := .builtin .append, args := #[s, x], argTypes := #[86, 86] }) (hs : a.eval s = v) (hx : a.eval x = .slice (some ⟨g, 0, none⟩) 1 c)
    (h : ∀ A c w', Rt w0 w' (.slice A (xs.length + 1) c) (xs ++ [t]) → Keep v w w' → wpList Try.prog ops Q rest (a.put o.dst (.slice A (xs.length + 1) c)) w') : wpList Try.prog ops Q (o :: rest) a w := by
  obtain ⟨i0, hi, hz0, hz1, hz2⟩ := info_parts info_term
  have hsz := H.2.size
  refine BigFrame.wpList_want hw fun K hK => ?_
  refine wp_append_at w s x 86 ho w0.heap.size 91 i0 (.agg #[.int .i64 0, .int .i64 0, .int .i64 0, .int .i64 0]) 4 32 Try.underlying86 hi hz0 hz1 hz2 rfl (by decide) v xs.length (tcells xs) hs H.1 ⟨g, 0, none⟩ 1 c (tc t) hx rfl ?_ ?_ ?_ ?_ hsz fun v' w' k2 k3 k4 => ?_
  · intro j u hj
    rw [add_at, Nat.zero_add]
    match j, hj with
    | 0, hj => cases hj; exact h0
    | 1, hj => cases hj; exact h1
    | 2, hj => cases hj; exact h2
    | 3, hj => cases hj; exact h3
    | j + 4, hj => simp [tc] at hj
  · intro u hu; simp [tc] at hu; rcases hu with rfl | rfl | rfl | rfl <;> rfl
  · unfold maxLen; omega
  · omega
  · obtain ⟨A, c', rfl⟩ := owns_slice k2
    refine hK _ _ (h A c' w' ⟨?_, ?_⟩ (.of k3))
    · rw [tcells_snoc, List.length_append]; exact k2
    · exact Below.grown H.2 k3 hsz (fun g hg => (H.1.lt g hg).1)
/-- terms that a call has laid: a row that reads as them, in a block that is not older than w0 -/
def NewT (w0 w : World) (v : Value) (xs : List Tm) : Prop := Sl 4 QT w v xs ∧ ∀ b, v.ownBlock = some b → w0.heap.size ≤ b
theorem Rt.new {w0 w : World} {v : Value} {xs : List Tm} (h : Rt w0 w v xs) : NewT w0 w v xs := ⟨h.sl, fun b hb => (h.1.lt b hb).1⟩
/-- all blocks but g -/
abbrev but (g : Nat) : Nat → Bool := fun k => decide (k = g)
/-- the domains D in the block g -/
structure DAt (g n : Nat) (w0 w : World) (D : Ds) : Prop where
  len : D.length = n
  row : ∃ cs : Array Value, Bx w g cs 50 ∧ cs.size = n ∧ (∀ (i : Nat) (d : List Rn), D[i]? = some d → ∃ u, cs[i]? = some u ∧ Sl 2 QR (veil (but g) w) u d ∧ ∀ b, u.ownBlock = some b → w0.heap.size ≤ b ∧ b < w.heap.size ∧ ∀ j, w.frozen? ⟨b, j, none⟩ = false) ∧ ∀ (i j : Nat) (u u' : Value), cs[i]? = some u → cs[j]? = some u' → i ≠ j → ∀ b, u.ownBlock = some b → u'.ownBlock ≠ some b
theorem DAt.since {g n : Nat} {w0 w w' : World} {D : Ds} (h : DAt g n w0 w D) (k : Since w w') : DAt g n w0 w' D := by
  obtain ⟨hl, cs, h1, h2, h3, h9⟩ := h
  refine ⟨hl, cs, h1.since k, h2, fun i d hd => ?_, h9⟩
  obtain ⟨u, h4, h5, h6⟩ := h3 i d hd
  exact ⟨u, h4, h5.since stR (Since.veil k _), fun b hb => ⟨(h6 b hb).1, Nat.lt_of_lt_of_le (h6 b hb).2.1 k.size, fun j => (World.frozen?_of_block (w := w) (a := ⟨b, j, none⟩) (k.block b (h6 b hb).2.1)).trans ((h6 b hb).2.2 j)⟩⟩
theorem DAt.get {g n : Nat} {w0 w : World} {D : Ds} (h : DAt g n w0 w D) {i : Nat} (hi : i < D.length) : ∃ A c, w.cell? ⟨g, i, none⟩ = some (.slice A D[i].length c) ∧ Sl 2 QR w (.slice A D[i].length c) D[i] := by
  obtain ⟨hl, cs, h1, h2, h3, h9⟩ := h
  obtain ⟨u, h4, h5, h6⟩ := h3 i _ (List.getElem?_eq_getElem hi)
  have h7 := sl_unveil h5
  obtain ⟨A, c, rfl⟩ := h7.form
  refine ⟨A, c, ?_, h7⟩
  have hi2 : i < cs.size := by omega
  have := h1.cell i
  rw [Array.getElem?_eq_getElem hi2] at h4
  injection h4 with h4
  simpa [hi2, h4] using this
theorem DAt.no {g n : Nat} {w0 w : World} {D : Ds} (h : DAt g n w0 w D) {i : Nat} (hi : i < n) : w.frozen? ⟨g, i, none⟩ = false := by
  obtain ⟨hl, cs, h1, h2, h3, h9⟩ := h
  exact h1.no i
/-- ranges that a call has laid, from w1 on -/
def NewR (w1 w : World) (v : Value) (d : List Rn) : Prop := Sl 2 QR w v d ∧ ∀ b, v.ownBlock = some b → w1.heap.size ≤ b ∧ b < w.heap.size ∧ ∀ j, w.frozen? ⟨b, j, none⟩ = false
theorem NewR.since {w1 w w' : World} {v : Value} {d : List Rn} (h : NewR w1 w v d) (k : Since w w') : NewR w1 w' v d :=
  ⟨h.1.since stR k, fun b hb => ⟨(h.2 b hb).1, Nat.lt_of_lt_of_le (h.2 b hb).2.1 k.size, fun j => (World.frozen?_of_block (w := w) (a := ⟨b, j, none⟩) (k.block b (h.2 b hb).2.1)).trans ((h.2 b hb).2.2 j)⟩⟩
theorem newR_of {ys : List Rn} {w : World} {e : Ending} {w' : World} (h : RetF ys w e w') : ∃ A m c, e = .returned (.slice A m c) ∧ ys.length = m ∧ NewR w w' (.slice A m c) ys ∧ Since w w' := by
  obtain ⟨A, m, c, h1, h2, h3, h4, h5⟩ := h
  exact ⟨A, m, c, h1, h2, ⟨h3, h5⟩, h4⟩
/-- a domain is put into its place -/
theorem DAt.put2 {g n : Nat} {w0 w1 w : World} {D : Ds} (h0 : DAt g n w0 w1 D) (kk : Since w1 w) {i : Nat} (hi : i < n) {u : Value} {d : List Rn} (hN : NewR w1 w u d) (hs : w0.heap.size ≤ w1.heap.size) (hgg : g < w1.heap.size) :
    DAt g n w0 (w.setCell ⟨g, i, none⟩ u) (D.set i d) := by
  have hu := hN.1
  have hb : ∀ b, u.ownBlock = some b → w0.heap.size ≤ b ∧ b < w.heap.size ∧ ∀ j, w.frozen? ⟨b, j, none⟩ = false := fun b hb => ⟨Nat.le_trans hs (hN.2 b hb).1, (hN.2 b hb).2⟩
  have hg : ∀ b, u.ownBlock = some b → b ≠ g := fun b hb => by have := (hN.2 b hb).1; omega
  have h := h0.since kk
  obtain ⟨-, cs0, a1, a2, a3, a9⟩ := h0
  obtain ⟨hl, cs, h1, h2, h3, h9⟩ := h
  have ecs : cs0 = cs := by
    have e1 := a1.since kk
    unfold Bx at e1 h1
    rw [e1] at h1
    injection h1 with h1
    injection h1 with h1
  subst ecs
  have hold : ∀ (k : Nat) (u' : Value), cs0[k]? = some u' → ∀ b, u'.ownBlock = some b → b < w1.heap.size := fun k u' hk b hb' => by
    have hkn : k < n := by rw [← a2]; exact (Array.getElem?_eq_some_iff.1 hk).1
    have hkD : k < D.length := by rw [hl]; exact hkn
    obtain ⟨u2, c1, c2, c3⟩ := a3 k _ (List.getElem?_eq_getElem hkD)
    rw [hk] at c1
    injection c1 with c1
    subst c1
    exact (c3 b hb').2.1
  have hT : Turn (but g) w (w.setCell ⟨g, i, none⟩ u) := (Turn.refl _ w).set (fun _ => by simp [but]) u
  have hS : Since (veil (but g) w) (veil (but g) (w.setCell ⟨g, i, none⟩ u)) := hT.veil fun _ _ => rfl
  have hsz : (w.setCell ⟨g, i, none⟩ u).heap.size = w.heap.size := by simp [World.setCell]
  have hfz : ∀ b j, b ≠ g → (w.setCell ⟨g, i, none⟩ u).frozen? ⟨b, j, none⟩ = w.frozen? ⟨b, j, none⟩ := fun b j hne => World.frozen?_of_block (w := w) (a := ⟨b, j, none⟩) (Below.heap_setCell w ⟨g, i, none⟩ u b hne)
  have hfg : ∀ j, w.frozen? ⟨g, j, none⟩ = false ∧ (w.setCell ⟨g, i, none⟩ u).frozen? ⟨g, j, none⟩ = false := fun j => ⟨h1.no j, (bxset h1 i u rfl).no j⟩
  have hfa : ∀ b, (∀ j, w.frozen? ⟨b, j, none⟩ = false) → ∀ j, (w.setCell ⟨g, i, none⟩ u).frozen? ⟨b, j, none⟩ = false := fun b hf j => by
    by_cases e : b = g
    · subst e; exact (hfg j).2
    · rw [hfz b j e]; exact hf j
  refine ⟨by rw [List.length_set]; exact hl, _, bxset h1 i u rfl, by simpa using h2, fun k d' hd => ?_, fun k l v v' hk hlv hne b hb1 hb2 => ?_⟩
  case refine_2 =>
    by_cases e1 : i = k
    · subst e1
      rw [Array.getElem?_setIfInBounds_self_of_lt (by omega)] at hk
      rw [Array.getElem?_setIfInBounds_ne hne] at hlv
      injection hk with hk
      subst hk
      have := (hN.2 b hb1).1
      have := hold l v' hlv b hb2
      omega
    · rw [Array.getElem?_setIfInBounds_ne e1] at hk
      by_cases e2 : i = l
      · subst e2
        rw [Array.getElem?_setIfInBounds_self_of_lt (by omega)] at hlv
        injection hlv with hlv
        subst hlv
        have := (hN.2 b hb2).1
        have := hold k v hk b hb1
        omega
      · rw [Array.getElem?_setIfInBounds_ne e2] at hlv
        exact h9 k l v v' hk hlv hne b hb1 hb2
  by_cases e : i = k
  · subst e
    rw [List.getElem?_set_self (by omega)] at hd
    injection hd with hd
    subst hd
    refine ⟨u, by simp [h2, hi], ?_, fun b k => ⟨(hb b k).1, by rw [hsz]; exact (hb b k).2.1, hfa b (hb b k).2.2⟩⟩
    exact (sl_veil (G := but g) hu fun b k _ => by simpa [but] using hg b k).since stR hS
  · rw [List.getElem?_set_ne e] at hd
    obtain ⟨u', h4, h5, h6⟩ := h3 k d' hd
    exact ⟨u', by rw [Array.getElem?_setIfInBounds_ne e]; exact h4, h5.since stR hS, fun b k => ⟨(h6 b k).1, by rw [hsz]; exact (h6 b k).2.1, hfa b (h6 b k).2.2⟩⟩
/-- the row of the domains, as a slice -/
theorem DAt.sl {g n : Nat} {w0 w : World} {D : Ds} (h : DAt g n w0 w D) : Sl 1 QD w (.slice (some ⟨g, 0, none⟩) n n) D := by
  have hl := h.len
  subst hl
  refine ⟨some ⟨g, 0, none⟩, D.length, rfl, Nat.le_refl _, fun _ => ⟨g, 0, rfl, fun i d hd => ?_⟩⟩
  obtain ⟨hi, rfl⟩ := List.getElem?_eq_some_iff.1 hd
  obtain ⟨A, c, h1, h2⟩ := h.get hi
  refine ⟨[.slice A D[i].length c], ⟨_, rfl, h2⟩, rfl, fun j y hy => ?_⟩
  match j, hy with
  | 0, hy => cases hy; simpa using h1
  | j + 1, hy => simp at hy
/-- the block g alone has turned since w, and what is new -/
abbrev Og (g : Nat) (w w' : World) : Prop := Turn (but g) w w'
theorem Og.put {g : Nat} {w w' : World} (h : Og g w w') (i : Nat) (u : Value) : Og g w (w'.setCell ⟨g, i, none⟩ u) := Turn.set h (fun _ => by simp [but]) u
theorem Og.since {g : Nat} {a b c : World} (h : Og g a b) (k : Since b c) : Og g a c := Turn.since h k
theorem Og.ve {g : Nat} {w w' : World} (h : Og g w w') : Since (veil (but g) w) (veil (but g) w') := h.veil fun _ _ => rfl
/-- what is not in g reads as it did -/
theorem Og.sl {α : Type} {size : Nat} {Q : World → α → List Value → Prop} (hQ : ∀ w w' x u, Q w x u → Q w' x u) {g : Nat} {w w' : World} (h : Og g w w') {v : Value} {xs : List α} (hs : Sl size Q w v xs) (hg : ∀ b, v.ownBlock = some b → b ≠ g) : Sl size Q w' v xs := by
  have h1 : Sl size Q (veil (but g) w) v xs := Sl.veil (G := but g) (Q := Q) (Q' := Q) (fun x u h => hQ _ _ x u h) hs fun b k _ => by simpa [but] using hg b k
  have h2 : Sl size Q (veil (but g) w') v xs := h1.since (fun w1 w2 x u h _ => hQ w1 w2 x u h) h.ve
  exact Sl.unveil (Q := Q) (Q' := Q) (fun x u h => hQ _ _ x u h) h2
/-- since w0, where g did not lie yet -/
theorem Og.all {g : Nat} {w0 w w' : World} (h : Since w0 w) (k : Og g w w') (hg : w0.heap.size ≤ g) : Since w0 w' :=
  ⟨k.os.trans h.os, k.tape.trans h.tape, k.output.trans h.output, Nat.le_trans h.size k.size, fun i hi => (k.block i (Nat.lt_of_lt_of_le hi h.size) (by simp [but]; omega)).trans (h.block i hi)⟩
theorem Og.bx {g : Nat} {w w' : World} (h : Og g w w') {b : Nat} {cs : Array Value} {t : TypeId} (hb : Bx w b cs t) (hne : b ≠ g) : Bx w' b cs t := by
  have hl : b < w.heap.size := by
    apply Decidable.byContradiction; intro hn
    have h1 := hb
    unfold Bx at h1
    rw [Array.getElem?_eq_none (by omega)] at h1; cases h1
  unfold Bx at *
  rw [h.block b hl (by simp [but, hne])]; exact hb
theorem Og.refl (g : Nat) (w : World) : Og g w w := Turn.refl _ w
theorem Og.trans {g : Nat} {a b c : World} (h : Og g a b) (k : Og g b c) : Og g a c := Turn.trans h k
end
section
open Go.RowKit
set_option linter.unusedVariables false
set_option linter.unusedSimpArgs false
open Go.Proofs.Ytoegbgkgenjplaa.Dig Go.Proofs.Ytoegbgkgenjplaa.Lx Go.Proofs.Ytoegbgkgenjplaa.Tk Go.Proofs.Ytoegbgkgenjplaa.Ti Go.Proofs.Ytoegbgkgenjplaa.Zs Go.Proofs.Ytoegbgkgenjplaa.Tr Go.Proofs.Ytoegbgkgenjplaa.Sn
/-- what fits -/
theorem mod_parts {ds : Ds} {c : Cn} (h : modOk ⟨ds, [c], 0, 0⟩ = true) : Gd ds ∧ ds.length ≤ 64 ∧ conOk ds c = true := by
  simp only [modOk, Bool.and_eq_true, decide_eq_true_eq, List.all_cons, List.all_nil, Bool.and_true] at h
  obtain ⟨⟨⟨⟨h1, h2⟩, h3⟩, h4⟩, h5⟩ := h
  refine ⟨fun d hd => ?_, h1, h4⟩
  have := List.all_eq_true.1 h3 d hd
  simp only [domOk, Bool.and_eq_true, decide_eq_true_eq] at this
  exact ⟨this.1, fun e => by rw [e] at this; simp at this⟩
structure LinOk (ds : Ds) (c : Cn) : Prop where
  x : c.x.all (isV ds.length) = true
  l : c.a.length ≤ c.x.length
  a : c.a.length ≤ 1000
  w : c.a.all within = true
  cb : -1048576 ≤ c.c ∧ c.c ≤ 1048576
  x32 : c.x.length ≤ 32
theorem sum_le' {k : Int} {n m : Nat} (h : shp k n m = true) (hk : 1 ≤ k ∧ k ≤ 6) : m ≤ n := by
  have hk6 : k = 1 ∨ k = 2 ∨ k = 3 ∨ k = 4 ∨ k = 5 ∨ k = 6 := by omega
  rcases hk6 with rfl | rfl | rfl | rfl | rfl | rfl <;> simp [shp] at h <;> omega
theorem lin_parts {ds : Ds} {c : Cn} (h : conOk ds c = true) (hk : 1 ≤ c.k ∧ c.k ≤ 6) : LinOk ds c := by
  simp only [conOk, numOk, Bool.and_eq_true, decide_eq_true_eq] at h
  obtain ⟨⟨⟨⟨⟨⟨⟨h1, h2⟩, h3⟩, h4⟩, h5⟩, h6⟩, h7⟩, h8⟩ := h
  have := sum_le' h1 hk
  exact ⟨h7, this, by omega, h4, (within_iff' _).1 h5, h3⟩
/-- what Narrow is to answer: domains or none, and a number -/
def narO (c : Cn) (ds : Ds) : Option Ds × Int :=
  if modOk ⟨ds, [c], 0, 0⟩ = true then
    if 1 ≤ c.k ∧ c.k ≤ 3 then (narL c.k c.c c.a c.x ds, if (narL c.k c.c c.a c.x ds).isSome then 0 else 12) else (none, 10)
  else (none, 2)
theorem narO_no {c : Cn} {ds : Ds} (h : modOk ⟨ds, [c], 0, 0⟩ = false) : narO c ds = (none, 2) := by rw [narO, if_neg (by rw [h]; simp)]
theorem narO_know {c : Cn} {ds : Ds} (h : modOk ⟨ds, [c], 0, 0⟩ = true) (hk : ¬ (1 ≤ c.k ∧ c.k ≤ 3)) : narO c ds = (none, 10) := by rw [narO, if_pos h, if_neg hk]
theorem narO_is {c : Cn} {ds : Ds} (h : modOk ⟨ds, [c], 0, 0⟩ = true) (hk : 1 ≤ c.k ∧ c.k ≤ 3) {R : Option Ds} (hR : narL c.k c.c c.a c.x ds = R) : narO c ds = (R, if R.isSome then 0 else 12) := by rw [narO, if_pos h, if_pos hk, hR]
def endO (c : Cn) (ds : Ds) : Option (Int × Int) := if modOk ⟨ds, [c], 0, 0⟩ = true ∧ 1 ≤ c.k ∧ c.k ≤ 6 then some (lsum (tms c.a c.x ds), gsum (tms c.a c.x ds)) else none
end
section
set_option linter.unusedVariables false
set_option linter.unusedSimpArgs false
open Go.RowKit
open Go.Proofs.Ytoegbgkgenjplaa.Dig Go.Proofs.Ytoegbgkgenjplaa.Lx Go.Proofs.Ytoegbgkgenjplaa.Tk Go.Proofs.Ytoegbgkgenjplaa.Ti Go.Proofs.Ytoegbgkgenjplaa.Zs Go.Proofs.Ytoegbgkgenjplaa.Tr Go.Proofs.Ytoegbgkgenjplaa.Sn
theorem tms_len {a x : List Int} {ds : Ds} (h : a.length ≤ x.length) : (tms a x ds).length = a.length := by simp [tms]; omega
theorem tms_at {a x : List Int} {ds : Ds} (h : a.length ≤ x.length) {k : Nat} (hk : k < a.length) : (tms a x ds)[k]? = some (tm ds (a[k], x[k]'(by omega))) := by
  have hk2 : k < x.length := by omega
  simp [tms, List.getElem?_zip_eq_some, List.getElem?_map, hk, hk2, List.zip, List.getElem?_zipWith]
theorem tms_take {a x : List Int} {ds : Ds} (h : a.length ≤ x.length) {k : Nat} (hk : k < a.length) : (tms a x ds).take (k + 1) = (tms a x ds).take k ++ [tm ds (a[k], x[k]'(by omega))] := by
  have h1 : k < (tms a x ds).length := by rw [tms_len h]; exact hk
  rw [List.take_succ_eq_append_getElem h1]
  have := tms_at (ds := ds) h hk
  rw [List.getElem?_eq_getElem h1] at this
  injection this with this
  rw [this]
theorem isV_at {x : List Int} {n : Nat} (h : x.all (isV n) = true) {k : Nat} (hk : k < x.length) : ∃ j : Nat, x[k] = (j : Int) ∧ j < n := by
  have := List.all_eq_true.1 h _ (List.getElem_mem hk)
  simp only [isV, Bool.and_eq_true, decide_eq_true_eq] at this
  exact ⟨x[k].toNat, by omega, by omega⟩
/-- the numbers of a term are values -/
def Bt (t : Tm) : Prop := (-1048576 ≤ t.n ∧ t.n ≤ 1048576) ∧ (-1048576 ≤ t.lo ∧ t.lo ≤ 1048576) ∧ (-1048576 ≤ t.hi ∧ t.hi ≤ 1048576) ∧ t.lo ≤ t.hi
theorem prod_le {d s : Int} (h : -1048576 ≤ d ∧ d ≤ 1048576) (k : -1048576 ≤ s ∧ s ≤ 1048576) : -1099511627776 ≤ d * s ∧ d * s ≤ 1099511627776 := by
  have h1 : d.natAbs * s.natAbs ≤ 1048576 * 1048576 := Nat.mul_le_mul (by omega) (by omega)
  have h2 : (d * s).natAbs = d.natAbs * s.natAbs := Int.natAbs_mul d s
  omega
theorem dropT {l : List Tm} {k : Nat} (h : k < l.length) : l.drop k = l[k] :: l.drop (k + 1) := List.drop_eq_getElem_cons h
theorem mnT_bd {t : Tm} (h : Bt t) : -1099511627776 ≤ mnT t ∧ mnT t ≤ 1099511627776 ∧ -1099511627776 ≤ mxT t ∧ mxT t ≤ 1099511627776 := by
  obtain ⟨h1, h2, h3, -⟩ := h
  have := prod_le h1 h2
  have := prod_le h1 h3
  unfold mnT mxT
  omega
theorem lsum_bd : ∀ {ts : List Tm}, (∀ t ∈ ts, Bt t) → -1099511627776 * (ts.length : Int) ≤ lsum ts ∧ lsum ts ≤ 1099511627776 * (ts.length : Int) ∧ -1099511627776 * (ts.length : Int) ≤ gsum ts ∧ gsum ts ≤ 1099511627776 * (ts.length : Int)
  | [], _ => by simp [lsum, gsum]
  | t :: ts, h => by
    have h1 := mnT_bd (h t (by simp))
    have h2 := lsum_bd (ts := ts) fun t' ht => h t' (by simp [ht])
    simp only [lsum, gsum, List.length_cons]
    omega
theorem tms_bt {a x : List Int} {D : Ds} (h : Gd D) (hx : x.all (isV D.length) = true) (ha : a.all within = true) : ∀ t ∈ tms a x D, Bt t := fun t ht => by
  obtain ⟨p, hp, rfl⟩ := List.mem_map.1 ht
  have h1 := (within_iff' _).1 (List.all_eq_true.1 ha _ (List.of_mem_zip hp).1)
  have h2 := List.all_eq_true.1 hx _ (List.of_mem_zip hp).2
  simp only [isV, Bool.and_eq_true, decide_eq_true_eq] at h2
  have h3 := h.at_ (x := p.2) (by omega)
  have h4 := lo_hi_mx h3.1 h3.2
  simp only [mx] at h4
  exact ⟨h1, by show -1048576 ≤ lo (domAt D p.2) ∧ lo (domAt D p.2) ≤ 1048576; omega, by show -1048576 ≤ hi (domAt D p.2) ∧ hi (domAt D p.2) ≤ 1048576; omega, h4.2.1⟩
theorem filter_take {T : List Tm} {k : Nat} (hk : k < T.length) : (T.take (k + 1)).filter opn = (T.take k).filter opn ++ (if opn T[k] then [T[k]] else []) := by
  rw [List.take_succ_eq_append_getElem hk, List.filter_append]
  congr 1
  by_cases h : opn T[k] = true
  · rw [List.filter_cons_of_pos h, if_pos h]; rfl
  · rw [List.filter_cons_of_neg h, if_neg h]; rfl
theorem fsum_bd : ∀ {ts : List Tm}, (∀ t ∈ ts, Bt t) → -1099511627776 * (ts.length : Int) ≤ fsum ts ∧ fsum ts ≤ 1099511627776 * (ts.length : Int)
  | [], _ => by simp [fsum]
  | t :: ts, h => by
    have h1 := h t (by simp)
    have h2 := prod_le h1.1 h1.2.1
    have h3 := fsum_bd (ts := ts) fun t' ht => h t' (by simp [ht])
    simp only [fsum, List.length_cons]
    split <;> omega
theorem opn_no {t : Tm} (h : t.n = 0 ∨ t.lo = t.hi) : opn t = false := by
  unfold opn; rcases h with h | h <;> simp [h]
theorem opn_yes {t : Tm} (h : t.n ≠ 0) (k : t.lo ≠ t.hi) : opn t = true := by simp [opn, h, k]
theorem neg_take {a : List Int} {k : Nat} (h : k < a.length) : neg (a.take (k + 1)) = neg (a.take k) ++ [-a[k]] := by
  rw [List.take_succ_eq_append_getElem h]; unfold neg; rw [List.map_append]; rfl
theorem neg_len (a : List Int) : (neg a).length = a.length := by simp [neg]
theorem neg_within {a : List Int} (h : a.all within = true) : (neg a).all within = true := by
  rw [List.all_eq_true] at h ⊢
  intro x hx
  obtain ⟨y, hy, rfl⟩ := List.mem_map.1 hx
  have := (within_iff' _).1 (h y hy)
  exact (within_iff' _).2 (by omega)
end
end Go.Proofs.Ytoegbgkgenjplaa.Ln
