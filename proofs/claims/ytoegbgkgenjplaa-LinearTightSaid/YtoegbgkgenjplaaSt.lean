/- Layer 12 (linear), pure: each value that a bounded sum leaves is in values for which it holds. -/
import Derived.Test.YtoegbgkgenjplaaQbh
namespace Go.Proofs.Ytoegbgkgenjplaa.Ev
set_option linter.unusedVariables false
open Go.Proofs.Ytoegbgkgenjplaa.Zs Go.Proofs.Ytoegbgkgenjplaa.Sn Go.Proofs.Ytoegbgkgenjplaa.Ln
theorem size_nn {d : List Rn} (h : right d = true) : 0 ≤ size d := by
  rw [size, if_pos h]; exact (sizeF_le h (by simp only [mx]; omega)).1
theorem size_cut {d : List Rn} (h : right d = true) {l u : Int} (hc : (∀ v, mem d v → l ≤ v) ∨ ∀ v, mem d v → v ≤ u) : size (cut d l u) ≤ size d := by
  have hb := fun v (hv : mem d v) => mem_ge h hv
  have key : ∀ l u : Int, size (cut d l u) = sizeF (cutF d l u) := fun l u => by
    rw [size, if_pos (cut_right d l u), cut, if_pos h]
  have nn : ∀ l u : Int, 0 ≤ sizeF (cutF d l u) := fun l u => by rw [← key]; exact size_nn (cut_right d l u)
  rcases hc with hc | hc
  · have e : cut d l u = cut d (-mx) u := cut_same h fun v hv => by have := hc v hv; have := hb v hv; simp only [mx] at *; omega
    rw [e, key, size, if_pos h]
    have := size_parts h (-mx) mx u (Int.le_refl _) (Int.le_refl _)
    have := nn (u + 1) mx
    omega
  · have e : cut d l u = cut d l mx := cut_same h fun v hv => by have := hc v hv; have := hb v hv; simp only [mx] at *; omega
    rw [e, key, size, if_pos h]
    have h1 := size_parts h (-mx) mx (l - 1) (Int.le_refl _) (Int.le_refl _)
    rw [show l - 1 + 1 = l by omega] at h1
    have := nn (-mx) (l - 1)
    omega
theorem prod_nn : ∀ {D : Ds}, Rd D → 0 ≤ prodF D
  | [], _ => by decide
  | d :: D, h => Int.mul_nonneg (size_nn (h d (by simp))) (prod_nn fun e he => h e (List.mem_cons_of_mem _ he))
theorem prod_set : ∀ {D : Ds} {i : Nat} {d : List Rn}, Rd D → (∀ e, D[i]? = some e → size d ≤ size e) → prodF (D.set i d) ≤ prodF D
  | [], i, d, _, _ => Int.le_refl _
  | e :: D, 0, d, h, hs => by
    show size d * prodF D ≤ size e * prodF D
    exact Int.mul_le_mul_of_nonneg_right (hs e rfl) (prod_nn fun e he => h e (List.mem_cons_of_mem _ he))
  | e :: D, i + 1, d, h, hs => by
    show size e * prodF (D.set i d) ≤ size e * prodF D
    exact Int.mul_le_mul_of_nonneg_left (prod_set (fun e he => h e (List.mem_cons_of_mem _ he)) fun e he => hs e (by simpa using he)) (size_nn (h e (by simp)))
theorem prod_cut {r : Int} {t : Tm} {D : Ds} (h : Rd D) (hx : t.x.toNat < D.length) (hi : In t D) : prodF (cutT r t D) ≤ prodF D := by
  have hR := h.at_ hx
  have he : ∀ e, D[t.x.toNat]? = some e → e = domAt D t.x := fun e he => by rw [domAt_lt hx]; exact ((List.getElem?_eq_some_iff.1 he).2).symm
  unfold cutT
  split
  · exact prod_set h fun e h2 => by rw [he e h2]; exact size_cut hR (.inl fun v hv => (hi v hv).1)
  · split
    · exact prod_set h fun e h2 => by rw [he e h2]; exact size_cut hR (.inr fun v hv => (hi v hv).2)
    · exact Int.le_refl _
theorem prod_keep {r : Int} (hr : 0 ≤ r) : ∀ (ts : List Tm) {D E : Ds}, Rd D → Vs ts D.length → (∀ t ∈ ts, In t D) → keepT r ts D = some E → prodF E ≤ prodF D
  | [], D, E, _, _, _, h => by cases h; exact Int.le_refl _
  | t :: ts, D, E, hR, hV, hI, h => by
    have hx := hV t (by simp)
    have hit := hI t (by simp)
    have hs := cutT_sub hr hR hx hit
    rw [keepT] at h
    split at h
    · cases h
    · have h1 := prod_keep hr ts (cutT_rd hR) (fun t' ht => by rw [cutT_len]; exact hV t' (by simp [ht])) (fun t' ht => (hI t' (by simp [ht])).sub hs (hV t' (by simp [ht])).1) h
      exact Int.le_trans h1 (prod_cut hR hx.2 hit)
theorem prod_am {c : Int} {ts : List Tm} {D E : Ds} (h : Gd D) (hv : Vs ts D.length) (hi : ∀ t ∈ ts, In t D) (he : amL c ts D = some E) : prodF E ≤ prodF D := by
  unfold amL at he
  split at he
  · cases he
  · exact prod_keep (by omega) ts h.rd hv hi he
/-- all others at the end where they add least; y is e -/
def pick (l : List (Int × Int)) (E : Ds) (y : Nat) (e : Int) : List Int :=
  (List.range E.length).map fun i => if i = y then e else if l.any (fun p => decide (p.2 = (i : Int)) && decide (p.1 < 0)) = true then hi (domAt E (i : Int)) else lo (domAt E (i : Int))
theorem pick_at {l : List (Int × Int)} {E : Ds} {y : Nat} {e : Int} {z : Int} (h0 : 0 ≤ z) (hz : z.toNat < E.length) :
    valAt (pick l E y e) z = if z.toNat = y then e else if l.any (fun p => decide (p.2 = z) && decide (p.1 < 0)) = true then hi (domAt E z) else lo (domAt E z) := by
  obtain ⟨n, rfl⟩ : ∃ n : Nat, z = (n : Int) := ⟨z.toNat, by omega⟩
  simp only [Int.toNat_natCast] at hz ⊢
  have h1 : (List.range E.length)[((n : Int)).toNat]? = some n := by rw [Int.toNat_natCast]; exact List.getElem?_range hz
  unfold valAt pick
  rw [List.getD_eq_getElem?_getD, List.getElem?_map, h1]
  rfl
theorem pick_wi {l : List (Int × Int)} {E : Ds} {y : Nat} {e : Int} (h : Gd E) (hy : y < E.length) (he : mem (domAt E (y : Int)) e) : Wi E (pick l E y e) := by
  refine ⟨by simp [pick], fun z hz hl => ?_⟩
  rw [pick_at hz hl]
  have hg := h.at_ hl
  split
  · rename_i e1
    rw [show z = (y : Int) by omega]; exact he
  · split
    · exact hi_mem _ hg.1 hg.2
    · exact lo_mem hg.1 hg.2
theorem sum_le {D : Ds} {a : List Int} : ∀ (s : List (Int × Int)), (∀ p ∈ s, p.1 * valAt a p.2 ≤ mnT (tm D p)) → smF (s.map fun p => (p.1, valAt a p.2)) ≤ lsum (s.map (tm D))
  | [], _ => Int.le_refl _
  | p :: s, h => by
    have h1 := sum_le s fun q hq => h q (List.mem_cons_of_mem _ hq)
    have h2 := h p (by simp)
    simp only [List.map_cons, smF, lsum]
    omega
theorem sum_le2 {D : Ds} {a : List Int} {y r : Int} (hr : 0 ≤ r) : ∀ (s : List (Int × Int)), (s.map Prod.snd).Nodup → (∀ p ∈ s, p.2 ≠ y → p.1 * valAt a p.2 ≤ mnT (tm D p)) → (∀ p ∈ s, p.2 = y → p.1 * valAt a p.2 ≤ mnT (tm D p) + r) →
    smF (s.map fun p => (p.1, valAt a p.2)) ≤ lsum (s.map (tm D)) + r
  | [], _, _, _ => by simp only [List.map_nil, smF, lsum]; omega
  | p :: s, hn, h, k => by
    rw [List.map_cons, List.nodup_cons] at hn
    by_cases e : p.2 = y
    · have h1 := sum_le s fun q hq => h q (List.mem_cons_of_mem _ hq) fun e2 => hn.1 (by rw [e, ← e2]; exact List.mem_map_of_mem hq)
      have h2 := k p (by simp) e
      simp only [List.map_cons, smF, lsum]
      omega
    · have h1 := sum_le2 hr s hn.2 (fun q hq => h q (List.mem_cons_of_mem _ hq)) (fun q hq => k q (List.mem_cons_of_mem _ hq))
      have h2 := h p (by simp) e
      simp only [List.map_cons, smF, lsum]
      omega
theorem snd_inj {l : List (Int × Int)} (h : (l.map Prod.snd).Nodup) {p q : Int × Int} (hp : p ∈ l) (hq : q ∈ l) (e : p.2 = q.2) : p = q := by
  induction l with
  | nil => cases hp
  | cons s l ih =>
    rw [List.map_cons, List.nodup_cons] at h
    rcases List.mem_cons.1 hp with h1 | h1
    · rcases List.mem_cons.1 hq with h2 | h2
      · rw [h1, h2]
      · exact absurd (show s.2 ∈ l.map Prod.snd by rw [← h1, e]; exact List.mem_map_of_mem h2) h.1
    · rcases List.mem_cons.1 hq with h2 | h2
      · exact absurd (show s.2 ∈ l.map Prod.snd by rw [← h2, ← e]; exact List.mem_map_of_mem h1) h.1
      · exact ih h.2 h1 h2
theorem tight_any {c : Cn} {ds E : Ds} (hm : modOk ⟨ds, [c], 0, 0⟩ = true) (hk : c.k = 2) (hnd : c.x.Nodup) (hE : narL c.k c.c c.a c.x ds = some E) {y : Nat} {e : Int} (hy : y < E.length) (he : mem (domAt E (y : Int)) e) :
    ∃ a ∈ (allB vals E).filter (holds c), valAt a (y : Int) = e := by
  obtain ⟨m1, m2, m3⟩ := mod_parts hm
  have hl := lin_parts m3 (by omega)
  obtain ⟨hV, hI⟩ := tms_in (a := c.a) m1.rd hl.x
  have hE2 : amL c.c (tms c.a c.x ds) ds = some E := by
    unfold narL at hE
    rw [if_neg (by omega), if_pos hk] at hE; exact hE
  obtain ⟨r0, g1, g2, g3⟩ := amL_some m1 hV hI hE2
  have hnum := m3
  simp only [conOk, Bool.and_eq_true] at hnum
  have hshp := hnum.1.1
  have hlen : c.x.length = c.a.length := by
    simp only [numOk, Bool.and_eq_true] at hshp
    have := hshp.1.1.1.1.1
    unfold shp at this
    rw [if_pos (by omega)] at this
    simpa using this
  have hsnd : (c.a.zip c.x).map Prod.snd = c.x := List.map_snd_zip (by omega)
  have hN : ((c.a.zip c.x).map Prod.snd).Nodup := by rw [hsnd]; exact hnd
  have hin : ∀ p ∈ c.a.zip c.x, 0 ≤ p.2 ∧ p.2.toNat < ds.length := fun p hp => by
    have := List.all_eq_true.1 hl.x _ (List.of_mem_zip hp).2
    simp only [isV, Bool.and_eq_true, decide_eq_true_eq] at this
    omega
  have hlE : E.length = ds.length := g2.1
  -- the ends that add least stay
  have hlo : ∀ p ∈ c.a.zip c.x, 0 < p.1 → lo (domAt E p.2) = lo (domAt ds p.2) := fun p hp hpos => by
    obtain ⟨h0, h1⟩ := hin p hp
    have gD := m1.at_ h1
    have gE := g1.at_ (x := p.2) (by rw [hlE]; exact h1)
    have i1 : mem (domAt E p.2) (lo (domAt ds p.2)) := (g3 _ h0 _).2 ⟨lo_mem gD.1 gD.2, fun t ht hx => by
      obtain ⟨q, hq, rfl⟩ := List.mem_map.1 ht
      have : q = p := snd_inj hN hq hp hx
      subst this
      refine ⟨fun _ => ?_, fun hn => ?_⟩
      · show q.1 * (lo (domAt ds q.2) - lo (domAt ds q.2)) ≤ _
        rw [Int.sub_self, Int.mul_zero]; exact r0
      · exact absurd hn (by show ¬ q.1 < 0; omega)⟩
    have i2 := mem_lo gE.1 i1
    have i3 := mem_lo gD.1 (g2.2 _ h0 _ (lo_mem gE.1 gE.2))
    omega
  have hhi : ∀ p ∈ c.a.zip c.x, p.1 < 0 → hi (domAt E p.2) = hi (domAt ds p.2) := fun p hp hneg => by
    obtain ⟨h0, h1⟩ := hin p hp
    have gD := m1.at_ h1
    have gE := g1.at_ (x := p.2) (by rw [hlE]; exact h1)
    have i1 : mem (domAt E p.2) (hi (domAt ds p.2)) := (g3 _ h0 _).2 ⟨hi_mem _ gD.1 gD.2, fun t ht hx => by
      obtain ⟨q, hq, rfl⟩ := List.mem_map.1 ht
      have : q = p := snd_inj hN hq hp hx
      subst this
      refine ⟨fun hn => ?_, fun _ => ?_⟩
      · exact absurd hn (by show ¬ 0 < q.1; omega)
      · show q.1 * (hi (domAt ds q.2) - hi (domAt ds q.2)) ≤ _
        rw [Int.sub_self, Int.mul_zero]; exact r0⟩
    have i2 := mem_hi _ gE.1 i1
    have i3 := mem_hi _ gD.1 (g2.2 _ h0 _ (hi_mem _ gE.1 gE.2))
    omega
  have hA : Wi E (pick (c.a.zip c.x) E y e) := pick_wi g1 hy he
  have hAt : valAt (pick (c.a.zip c.x) E y e) (y : Int) = e := by rw [pick_at (by omega) (by simpa using hy), if_pos (by simp)]
  have hoth : ∀ p ∈ c.a.zip c.x, p.2 ≠ (y : Int) → p.1 * valAt (pick (c.a.zip c.x) E y e) p.2 ≤ mnT (tm ds p) := fun p hp hne => by
    obtain ⟨h0, h1⟩ := hin p hp
    have gD := m1.at_ h1
    have hlh := lo_hi gD.1 gD.2
    rw [pick_at h0 (by rw [hlE]; exact h1), if_neg (by omega)]
    show _ ≤ min (p.1 * lo (domAt ds p.2)) (p.1 * hi (domAt ds p.2))
    rcases Int.lt_trichotomy p.1 0 with hn | hz | hp0
    · rw [if_pos (List.any_eq_true.2 ⟨p, hp, by simp [hn]⟩), hhi p hp hn, mn_neg hn hlh]; exact Int.le_refl _
    · rw [hz]; simp
    · rw [if_neg (fun h => by
        obtain ⟨q, hq, hqe⟩ := List.any_eq_true.1 h
        simp only [Bool.and_eq_true, decide_eq_true_eq] at hqe
        have := snd_inj hN hq hp hqe.1
        subst this; omega), hlo p hp hp0, mn_pos hp0 hlh]
      exact Int.le_refl _
  have hy1 : ∀ p ∈ c.a.zip c.x, p.2 = (y : Int) → p.1 * valAt (pick (c.a.zip c.x) E y e) p.2 ≤ mnT (tm ds p) + (c.c - lsum (tms c.a c.x ds)) := fun p hp hpe => by
    obtain ⟨h0, h1⟩ := hin p hp
    have gD := m1.at_ h1
    have hlh := lo_hi gD.1 gD.2
    have hok := ((g3 _ (by omega) e).1 he).2 (tm ds p) (List.mem_map_of_mem hp) hpe
    rw [hpe, hAt]
    show _ ≤ min (p.1 * lo (domAt ds p.2)) (p.1 * hi (domAt ds p.2)) + _
    rcases Int.lt_trichotomy p.1 0 with hn | hz | hp0
    · have h2 : p.1 * (e - hi (domAt ds p.2)) ≤ c.c - lsum (tms c.a c.x ds) := hok.2 hn
      rw [mn_neg hn hlh]
      rw [Int.mul_sub] at h2
      omega
    · rw [hz]; simp; omega
    · have h2 : p.1 * (e - lo (domAt ds p.2)) ≤ c.c - lsum (tms c.a c.x ds) := hok.1 hp0
      rw [mn_pos hp0 hlh]
      rw [Int.mul_sub] at h2
      omega
  have hsum : sm c.a (Sn.vals c.x (pick (c.a.zip c.x) E y e)) ≤ c.c := by
    rw [sm_zip]
    have := sum_le2 (D := ds) (y := (y : Int)) r0 _ hN hoth hy1
    unfold tms at this
    omega
  refine ⟨pick (c.a.zip c.x) E y e, List.mem_filter.2 ⟨(mem_allB vals).2 ⟨hA.1, fun i hi9 => ?_⟩, ?_⟩, hAt⟩
  · have h1 := hA.2 (i : Int) (by omega) (by simpa using hi9)
    have g9 := g1 _ (List.getElem_mem hi9)
    rw [domAt_lt (by exact hi9)] at h1
    exact (mem_vals g9.1 g9.2 _).2 h1
  · unfold holds
    rw [Bool.and_eq_true]
    refine ⟨?_, ?_⟩
    · unfold asked askV
      rw [Bool.and_eq_true, Bool.and_eq_true, Bool.and_eq_true]
      refine ⟨?_, ⟨?_, ?_⟩, ?_⟩
      · unfold inR; rw [hA.1, hlE]; exact hl.x
      · rw [List.all_eq_true]
        intro v hv
        obtain ⟨x, hx, rfl⟩ := List.mem_map.1 hv
        have hxin := List.all_eq_true.1 hl.x _ hx
        simp only [isV, Bool.and_eq_true, decide_eq_true_eq] at hxin
        have hml := hA.2 x (by omega) (by rw [hlE]; omega)
        have := mem_ge (g1.at_ (x := x) (by rw [hlE]; omega)).1 hml
        simp only [mx] at this
        rw [within_iff']; omega
      · rw [Sn.vals_len]; exact hshp
      · rw [show bools c.k (Sn.vals c.x (pick (c.a.zip c.x) E y e)) = [] by unfold bools; rw [if_neg (by omega), if_neg (by omega)]]; rfl
    · unfold holdV
      rw [if_neg (by omega), if_pos hk]
      simpa using hsum
end Go.Proofs.Ytoegbgkgenjplaa.Ev
