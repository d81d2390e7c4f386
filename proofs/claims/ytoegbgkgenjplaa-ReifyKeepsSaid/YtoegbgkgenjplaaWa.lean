/- Layer 13 (reify), pure: what a sum with a flag leaves of domains. -/
import Derived.Test.YtoegbgkgenjplaaQax
namespace Go.Proofs.Ytoegbgkgenjplaa.Rf
set_option linter.unusedVariables false
open Go.Proofs.Ytoegbgkgenjplaa.Zs Go.Proofs.Ytoegbgkgenjplaa.Sn Go.Proofs.Ytoegbgkgenjplaa.Ln
/-- the flag's variable -/
def fl (x : List Int) : Int := x.getD (x.length - 1) 0
/-- does every sum have the flag 1? -/
def alw (k c l g : Int) : Bool := decide (k = 4) && (decide (l = c) && decide (g = c)) || decide (k = 5) && decide (g ≤ c)
/-- does no sum allow the flag 1? -/
def nev (k c l g : Int) : Bool := decide (c < l) || decide (k = 4) && decide (g < c)
/-- what is left of the flag's domain, if it may be 0 and 1 -/
def dcd (k c l g : Int) (d : List Rn) : List Rn := if alw k c l g then without d 0 else if nev k c l g then without d 1 else d
/-- what a sum with a flag leaves -/
def reiL (k c : Int) (a x : List Int) (D : Ds) : Option Ds :=
  if domAt D (fl x) = [(1, 1)] then (if k = 4 then narL 1 c a x D else narL 2 c a x D)
  else if domAt D (fl x) = [(0, 0)] then (if k = 4 then narL 3 c a x D else if k = 5 then narL 2 (-c - 1) (neg a) x D else some D)
  else some (D.set (fl x).toNat (dcd k c (lsum (tms a x D)) (gsum (tms a x D)) (domAt D (fl x))))
def reiO (c : Cn) (ds : Ds) : Option Ds × Int :=
  if modOk ⟨ds, [c], 0, 0⟩ = true then
    if 4 ≤ c.k ∧ c.k ≤ 6 then (reiL c.k c.c c.a c.x ds, if (reiL c.k c.c c.a c.x ds).isSome then 0 else 12) else (none, 10)
  else (none, 2)
theorem reiO_no {c : Cn} {ds : Ds} (h : modOk ⟨ds, [c], 0, 0⟩ = false) : reiO c ds = (none, 2) := by rw [reiO, if_neg (by rw [h]; simp)]
theorem reiO_know {c : Cn} {ds : Ds} (h : modOk ⟨ds, [c], 0, 0⟩ = true) (hk : ¬ (4 ≤ c.k ∧ c.k ≤ 6)) : reiO c ds = (none, 10) := by rw [reiO, if_pos h, if_neg hk]
theorem reiO_is {c : Cn} {ds : Ds} (h : modOk ⟨ds, [c], 0, 0⟩ = true) (hk : 4 ≤ c.k ∧ c.k ≤ 6) {R : Option Ds} (hR : reiL c.k c.c c.a c.x ds = R) : reiO c ds = (R, if R.isSome then 0 else 12) := by rw [reiO, if_pos h, if_pos hk, hR]
theorem tru3 {d : List Rn} (h : right d = true) (hd : d ≠ []) (ht : tru d = true) : d = [(0, 0)] ∨ d = [(1, 1)] ∨ d = [(0, 1)] := by
  have h4 := lo_hi (b := -mx) h hd
  simp only [tru, Bool.and_eq_true, decide_eq_true_eq] at ht
  obtain ⟨h1, h2, h3⟩ := ht
  match d, hd, h, h2, h3, h4 with
  | [(p, q)], hd, h, h2, h3, h4 =>
    simp [lo, hi] at h2 h3 h4
    have h5 : (p = 0 ∧ q = 0) ∨ (p = 1 ∧ q = 1) ∨ (p = 0 ∧ q = 1) := by omega
    rcases h5 with ⟨rfl, rfl⟩ | ⟨rfl, rfl⟩ | ⟨rfl, rfl⟩ <;> simp
  | r :: s :: l, hd, h, h2, h3, h4 =>
    exfalso
    have h' : okF (-mx) (r :: s :: l) = true := h
    rw [okF_cons] at h'
    have h5 := h'.2.2.2
    have h6 := hi_ge l s h5
    rw [okF_cons] at h5
    have h7 : hi (r :: s :: l) ≤ 1 := h3
    rw [hi_cons] at h7
    simp at h2
    omega
/-- what a model's rightness says of a sum with a flag -/
structure FlgOk (ds : Ds) (c : Cn) : Prop where
  lin : LinOk ds c
  len : c.x.length = c.a.length + 1
  inx : 0 ≤ fl c.x ∧ (fl c.x).toNat < ds.length
  tr : domAt ds (fl c.x) = [(0, 0)] ∨ domAt ds (fl c.x) = [(1, 1)] ∨ domAt ds (fl c.x) = [(0, 1)]
theorem fl_mem {x : List Int} (h : x ≠ []) : fl x ∈ x := by
  have : x.length - 1 < x.length := by have := List.length_pos_iff.2 h; omega
  unfold fl; rw [List.getD_eq_getElem?_getD, List.getElem?_eq_getElem this]; exact List.getElem_mem this
theorem bools_flag {k : Int} (hk : 4 ≤ k ∧ k ≤ 6) {x : List Int} (h : x ≠ []) : bools k x = [fl x] := by
  have h1 : x.length - 1 < x.length := by have := List.length_pos_iff.2 h; omega
  unfold bools
  rw [if_pos (by omega), List.drop_eq_getElem_cons h1, List.drop_of_length_le (by omega)]
  simp [fl, h1]
theorem flg_parts {ds : Ds} {c : Cn} (hg : Gd ds) (h : conOk ds c = true) (hk : 4 ≤ c.k ∧ c.k ≤ 6) : FlgOk ds c := by
  have hl := lin_parts h (by omega)
  have h' := h
  simp only [conOk, numOk, Bool.and_eq_true, decide_eq_true_eq] at h'
  obtain ⟨⟨⟨⟨⟨⟨⟨h1, h2⟩, h3⟩, h4⟩, h5⟩, h6⟩, h7⟩, h8⟩ := h'
  have hlen := shp_pos h1 (by omega)
  have hne : c.x ≠ [] := by intro e; rw [e] at hlen; simp at hlen
  rw [bools_flag hk hne] at h8
  have hin := List.all_eq_true.1 h7 _ (fl_mem hne)
  simp only [isV, Bool.and_eq_true, decide_eq_true_eq] at hin
  have hin2 : 0 ≤ fl c.x ∧ (fl c.x).toNat < ds.length := by omega
  have hd := hg.at_ hin2.2
  exact ⟨hl, hlen, hin2, tru3 hd.1 hd.2 (by simpa using h8)⟩
theorem tms_cut (a x : List Int) (D : Ds) (n : Nat) (h : a.length ≤ n) : tms a (x.take n) D = tms a x D := by
  unfold tms
  congr 1
  induction a generalizing x n with
  | nil => simp
  | cons p a ih =>
    cases x with
    | nil => simp
    | cons q x =>
      cases n with
      | zero => simp at h
      | succ n => simp [ih x n (by simpa using h)]
theorem nar_cut (k c : Int) (a x : List Int) (D : Ds) (n : Nat) (h : a.length ≤ n) : narL k c a (x.take n) D = narL k c a x D := by
  unfold narL
  rw [tms_cut a x D n h]
  congr 1
  congr 1
  funext E
  rw [tms_cut (neg a) x E n (by simpa [neg] using h)]
/-- the domains fit the sum without the flag -/
theorem mod_sum {ds : Ds} {c : Cn} (h : modOk ⟨ds, [c], 0, 0⟩ = true) (hk : 4 ≤ c.k ∧ c.k ≤ 6) {k : Int} (hk2 : 1 ≤ k ∧ k ≤ 3) : modOk ⟨ds, [⟨k, c.x.take c.a.length, c.a, c.c⟩], 0, 0⟩ = true := by
  have h0 := h
  simp only [modOk, Bool.and_eq_true, decide_eq_true_eq, List.all_cons, List.all_nil, Bool.and_true] at h ⊢
  obtain ⟨⟨⟨⟨h1, h2⟩, h3⟩, h4⟩, h5⟩ := h
  refine ⟨⟨⟨⟨h1, by simp⟩, h3⟩, ?_⟩, h5⟩
  have hb : ∀ x : List Int, bools k x = [] := fun x => by unfold bools; rw [if_neg (by omega), if_neg (by omega)]
  simp only [conOk, numOk, Bool.and_eq_true, decide_eq_true_eq, hb] at h4 ⊢
  obtain ⟨⟨⟨⟨⟨⟨⟨g1, g2⟩, g3⟩, g4⟩, g5⟩, g6⟩, g7⟩, g8⟩ := h4
  have hlen := shp_pos g1 (by omega)
  have hl : (c.x.take c.a.length).length = c.a.length := by rw [List.length_take]; omega
  rw [hl]
  refine ⟨⟨⟨⟨⟨⟨⟨?_, ?_⟩, by omega⟩, g4⟩, g5⟩, ?_⟩, ?_⟩, by simp⟩
  · unfold shp; rw [if_pos (by omega)]; simp
  · unfold sgn
    have e1 : decide (k ≠ 19) = true := by simp; omega
    rw [e1, Bool.true_or, Bool.and_true, List.all_eq_true]
    intro n _
    unfold okE
    have e2 : decide (k = 11) = false := by simp; omega
    have e3 : decide (k = 19) = false := by simp; omega
    simp [e2, e3]
  · simp only [tak, Bool.or_eq_true, decide_eq_true_eq]; right; left; omega
  · rw [List.all_eq_true] at g7 ⊢
    exact fun y hy => g7 y (List.mem_of_mem_take hy)
theorem narO_sum {ds : Ds} {c : Cn} (h : modOk ⟨ds, [c], 0, 0⟩ = true) (hk : 4 ≤ c.k ∧ c.k ≤ 6) {k : Int} (hk2 : 1 ≤ k ∧ k ≤ 3) : narO ⟨k, c.x.take c.a.length, c.a, c.c⟩ ds = (narL k c.c c.a c.x ds, if (narL k c.c c.a c.x ds).isSome then 0 else 12) := by
  refine narO_is (mod_sum h hk hk2) hk2 ?_
  exact nar_cut k c.c c.a c.x ds c.a.length (Nat.le_refl _)
-- with the flag 0, a sum that is to be above c
def drp (f : Int) (a x : List Int) : List (Int × Int) := (a.zip x).filter fun p => p.2 != f
def exA (f : Int) (a x : List Int) : List Int := 1 :: (drp f a x).map fun p => -p.1
def exX (f : Int) (a x : List Int) : List Int := f :: (drp f a x).map fun p => p.2
theorem cut_keep {d : List Rn} (h : right d = true) {l u : Int} (hv : ∀ v, mem d v → l ≤ v ∧ v ≤ u) : cut d l u = d :=
  uniq (cut_ok d l u h).1 h fun v => by rw [(cut_ok d l u h).2]; exact ⟨fun k => k.1, fun k => ⟨k, hv v k⟩⟩
theorem one_mem {n v : Int} (h : mem [(n, n)] v) : v = n := by
  rcases h with h | h
  · have h1 := h.1; have h2 := h.2; simp only at h1 h2; omega
  · exact h.elim
theorem cut_one {n l u : Int} (hr : right [(n, n)] = true) (h1 : l ≤ n) (h2 : n ≤ u) : cut [(n, n)] l u = [(n, n)] := cut_keep hr fun v hv => by rw [one_mem hv]; exact ⟨h1, h2⟩
theorem set_same {D : Ds} {f : Int} (hf : f.toNat < D.length) {d : List Rn} (h : domAt D f = d) : D.set f.toNat d = D := by
  rw [domAt_lt hf] at h; subst h; exact List.set_getElem_self ..
/-- a term of a variable that has one value takes nothing -/
theorem cutT_one {r n v : Int} {t : Tm} {D : Ds} (hr : 0 ≤ r) (hx : t.x.toNat < D.length) (hrv : right [(v, v)] = true) (hD : domAt D t.x = [(v, v)]) (hl : t.lo = v) (hh : t.hi = v) : cutT r t D = D := by
  unfold cutT
  rw [hD, hl, hh]
  split
  · rename_i hn
    have : 0 ≤ r / t.n := Int.ediv_nonneg hr (by omega)
    rw [cut_one hrv (by omega) (by omega)]; exact set_same hx hD
  · split
    · have : 0 ≤ r / (-t.n) := Int.ediv_nonneg hr (by omega)
      rw [cut_one hrv (by omega) (by omega)]; exact set_same hx hD
    · rfl
theorem cutT_comm {r : Int} {t : Tm} {D : Ds} {f : Nat} {d : List Rn} (hf : f < D.length) (hne : t.x.toNat ≠ f) : cutT r t (D.set f d) = (cutT r t D).set f d := by
  have e : domAt (D.set f d) t.x = domAt D t.x := by unfold domAt; simp only [List.getD, List.getElem?_set_ne (fun h => hne h.symm)]
  unfold cutT
  rw [e]
  split
  · exact List.set_comm _ _ (fun h => hne h.symm)
  · split
    · exact List.set_comm _ _ (fun h => hne h.symm)
    · rfl
theorem cutT_at {r : Int} {t : Tm} {D : Ds} {f : Int} (hne : t.x.toNat ≠ f.toNat) : domAt (cutT r t D) f = domAt D f := by
  unfold cutT domAt
  split
  · simp only [List.getD, List.getElem?_set_ne hne]
  · split
    · simp only [List.getD, List.getElem?_set_ne hne]
    · rfl
theorem zero_right : right [(0, 0)] = true := by decide
theorem one_right : right [(1, 1)] = true := by decide
theorem keepT_skip {r f : Int} (hr : 0 ≤ r) (hf : 0 ≤ f) {d : List Rn} {D0 : Ds} (h0 : domAt D0 f = [(0, 0)]) : ∀ (l : List (Int × Int)) (D : Ds), (∀ p ∈ l, 0 ≤ p.2) → f.toNat < D.length → domAt D f = [(0, 0)] →
    keepT r ((l.filter fun p => p.2 != f).map (tm D0)) (D.set f.toNat d) = (keepT r (l.map (tm D0)) D).map (fun E => E.set f.toNat d) := by
  intro l
  induction l with
  | nil => intro D _ _ _; rfl
  | cons p l ih =>
    intro D hp hl hD
    have hp0 := hp p (by simp)
    have hpl := fun q hq => hp q (List.mem_cons_of_mem _ hq)
    by_cases e : p.2 = f
    · rw [List.filter_cons_of_neg (by simp [e]), List.map_cons, keepT]
      have hc : cutT r (tm D0 p) D = D := by
        refine cutT_one (n := 0) (v := 0) hr ?_ zero_right ?_ ?_ ?_
        · show p.2.toNat < _; rw [e]; exact hl
        · show domAt D p.2 = _; rw [e]; exact hD
        · show lo (domAt D0 p.2) = 0; rw [e, h0]; rfl
        · show hi (domAt D0 p.2) = 0; rw [e, h0]; rfl
      rw [hc, if_neg, ih D hpl hl hD]
      show domAt D p.2 ≠ []
      rw [e, hD]; simp
    · have hne : (tm D0 p).x.toNat ≠ f.toNat := by show p.2.toNat ≠ _; omega
      rw [List.filter_cons_of_pos (by simp [e]), List.map_cons, List.map_cons, keepT, keepT, cutT_comm hl hne]
      have e2 : domAt ((cutT r (tm D0 p) D).set f.toNat d) (tm D0 p).x = domAt (cutT r (tm D0 p) D) (tm D0 p).x := by
        unfold domAt; simp only [List.getD, List.getElem?_set_ne (fun h => hne h.symm)]
      rw [e2]
      split
      · rfl
      · exact ih _ hpl (by rw [cutT_len]; exact hl) (by rw [cutT_at hne]; exact hD)
theorem lsum_skip {f : Int} {D0 : Ds} (h0 : domAt D0 f = [(0, 0)]) : ∀ (l : List (Int × Int)), lsum ((l.filter fun p => p.2 != f).map (tm D0)) = lsum (l.map (tm D0))
  | [] => rfl
  | p :: l => by
    have ih := lsum_skip h0 l
    by_cases e : p.2 = f
    · rw [List.filter_cons_of_neg (by simp [e]), ih, List.map_cons, lsum]
      have : mnT (tm D0 p) = 0 := by
        show min (p.1 * lo (domAt D0 p.2)) (p.1 * hi (domAt D0 p.2)) = 0
        rw [e, h0]; simp [lo, hi]
      omega
    · rw [List.filter_cons_of_pos (by simp [e]), List.map_cons, List.map_cons, lsum, lsum, ih]
theorem neg_zip' (a x : List Int) : (neg a).zip x = (a.zip x).map fun p => (-p.1, p.2) := by
  unfold neg; rw [List.zip_map_left]; rfl
theorem ex_zip (f : Int) (a x : List Int) : (exA f a x).zip (exX f a x) = (1, f) :: ((neg a).zip x).filter fun p => p.2 != f := by
  unfold exA exX
  rw [List.zip_cons_cons, neg_zip', List.filter_map]
  congr 1
  unfold drp
  rw [List.zip_map']
  rfl
theorem tm_off {D : Ds} {f : Int} {d : List Rn} (hf : 0 ≤ f) {p : Int × Int} (hp : 0 ≤ p.2) (hne : p.2 ≠ f) : tm (D.set f.toNat d) p = tm D p := by
  have e : domAt (D.set f.toNat d) p.2 = domAt D p.2 := by
    unfold domAt; simp only [List.getD, List.getElem?_set_ne (show f.toNat ≠ p.2.toNat by omega)]
  unfold tm; rw [e]
theorem ex_tms {f : Int} {a x : List Int} {D : Ds} (hf : 0 ≤ f ∧ f.toNat < D.length) (hx : ∀ y ∈ x, 0 ≤ y) :
    tms (exA f a x) (exX f a x) (D.set f.toNat [(1, 1)]) = ⟨1, 1, 1, f⟩ :: (((neg a).zip x).filter fun p => p.2 != f).map (tm D) := by
  unfold tms
  rw [ex_zip, List.map_cons]
  congr 1
  · unfold tm; rw [domAt_set hf.2, if_pos rfl]; rfl
  · refine List.map_congr_left fun p hp => ?_
    obtain ⟨h1, h2⟩ := List.mem_filter.1 hp
    exact tm_off hf.1 (hx _ (List.of_mem_zip h1).2) (by simpa using h2)
theorem exceed_eq {c f : Int} {a x : List Int} {D : Ds} (hf : 0 ≤ f ∧ f.toNat < D.length) (hx : ∀ y ∈ x, 0 ≤ y) (hD : domAt D f = [(0, 0)]) :
    narL 2 (-c) (exA f a x) (exX f a x) (D.set f.toNat [(1, 1)]) = (narL 2 (-c - 1) (neg a) x D).map (fun E => E.set f.toNat [(1, 1)]) := by
  have hn : ∀ (c : Int) (a x : List Int) (D : Ds), narL 2 c a x D = amL c (tms a x D) D := fun c a x D => by unfold narL; rw [if_neg (by decide), if_pos rfl]
  rw [hn, hn, ex_tms hf hx]
  unfold amL
  have e : -c - lsum (⟨1, 1, 1, f⟩ :: (((neg a).zip x).filter fun p => p.2 != f).map (tm D)) = -c - 1 - lsum (tms (neg a) x D) := by
    rw [lsum, lsum_skip hD]
    show -c - (min (1 * 1) (1 * 1) + _) = _
    unfold tms; omega
  rw [e]
  split
  · rfl
  · rename_i hr
    have hl2 : f.toNat < (D.set f.toNat [(1, 1)]).length := by rw [List.length_set]; exact hf.2
    have hd2 : domAt (D.set f.toNat [(1, 1)]) f = [(1, 1)] := by rw [domAt_set hf.2, if_pos rfl]
    have hc : cutT (-c - 1 - lsum (tms (neg a) x D)) ⟨1, 1, 1, f⟩ (D.set f.toNat [(1, 1)]) = D.set f.toNat [(1, 1)] := cutT_one (n := 0) (v := 1) (by omega) hl2 one_right hd2 rfl rfl
    rw [keepT, hc, if_neg (by show domAt _ f ≠ []; rw [hd2]; simp)]
    exact keepT_skip (by omega) hf.1 hD _ D (fun p hp => hx _ (List.of_mem_zip hp).2) hf.2 hD
/-- what is left of a variable that has one value -/
theorem sub_one {D E : Ds} {f n : Int} (hE : Gd E) (hs : Sub E D) (hf : 0 ≤ f ∧ f.toNat < D.length) (hr : right [(n, n)] = true) (hD : domAt D f = [(n, n)]) : domAt E f = [(n, n)] := by
  have hg := hE.at_ (x := f) (by rw [hs.1]; exact hf.2)
  have hv : ∀ v, mem (domAt E f) v → v = n := fun v hv => by have := hs.2 f hf.1 v hv; rw [hD] at this; exact one_mem this
  refine uniq hg.1 hr fun v => ⟨fun h => by rw [hv v h]; exact .inl ⟨Int.le_refl _, Int.le_refl _⟩, fun h => ?_⟩
  obtain ⟨u, hu⟩ := mem_ex hg.1 hg.2
  rw [one_mem h, ← hv u hu]; exact hu
/-- what a sum with a flag leaves is good -/
theorem dcd_good {k c l g : Int} (d : List Rn) (hd : d = [(0, 1)]) : right (dcd k c l g d) = true ∧ dcd k c l g d ≠ [] ∧ ∀ v, mem (dcd k c l g d) v → mem d v := by
  subst hd
  have e1 : without [(0, 1)] 0 = [(1, 1)] := by decide
  have e2 : without [(0, 1)] 1 = [(0, 0)] := by decide
  unfold dcd
  rw [e1, e2]
  have h1 : ∀ v, mem [(1, 1)] v → mem [((0 : Int), (1 : Int))] v := fun v hv => by rw [one_mem hv]; exact .inl ⟨by decide, by decide⟩
  have h2 : ∀ v, mem [(0, 0)] v → mem [((0 : Int), (1 : Int))] v := fun v hv => by rw [one_mem hv]; exact .inl ⟨by decide, by decide⟩
  split
  · exact ⟨by decide, by simp, h1⟩
  · split
    · exact ⟨by decide, by simp, h2⟩
    · exact ⟨by decide, by simp, fun v h => h⟩
theorem set_good {D : Ds} {f : Int} {d : List Rn} (h : Gd D) (hf : 0 ≤ f ∧ f.toNat < D.length) (hd : right d = true ∧ d ≠ [] ∧ ∀ v, mem d v → mem (domAt D f) v) : Gd (D.set f.toNat d) ∧ Sub (D.set f.toNat d) D := by
  refine ⟨fun e he => ?_, by simp, fun y hy v hv => ?_⟩
  · rcases List.mem_or_eq_of_mem_set he with h1 | rfl
    · exact h e h1
    · exact ⟨hd.1, hd.2.1⟩
  · rw [domAt_set hf.2] at hv
    split at hv
    · rename_i e
      rw [show y = f by omega]; exact hd.2.2 v hv
    · exact hv
theorem rei_good {k c : Int} {a x : List Int} {D E : Ds} (h : Gd D) (hx : x.all (isV D.length) = true) (hf : 0 ≤ fl x ∧ (fl x).toNat < D.length) (ht : domAt D (fl x) = [(0, 0)] ∨ domAt D (fl x) = [(1, 1)] ∨ domAt D (fl x) = [(0, 1)]) (he : reiL k c a x D = some E) : Gd E ∧ Sub E D := by
  unfold reiL at he
  repeat' split at he
  all_goals first
    | exact nar_good h hx he
    | (cases he; exact ⟨h, .refl _⟩)
    | skip
  rename_i n1 n2
  cases he
  have e : domAt D (fl x) = [(0, 1)] := by rcases ht with e | e | e; exact absurd e n2; exact absurd e n1; exact e
  refine set_good h hf ?_
  have := dcd_good (k := k) (c := c) (l := lsum (tms a x D)) (g := gsum (tms a x D)) (domAt D (fl x)) e
  exact this
end Go.Proofs.Ytoegbgkgenjplaa.Rf
