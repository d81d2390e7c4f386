/- Layer 12 (linear), pure: what a sum leaves holds all values for which it holds. Layer 11 (sense): the document -/
import Derived.Test.YtoegbgkgenjplaaQaw
import Derived.Test.YtoegbgkgenjplaaKv
set_option linter.unusedVariables false
set_option linter.unusedSimpArgs false
section
namespace Go.Proofs.Ytoegbgkgenjplaa.Ln
open Go.Proofs.Ytoegbgkgenjplaa.Zs Go.Proofs.Ytoegbgkgenjplaa.Sn
/-- these values lie within the domains -/
def Wi (D : Ds) (a : List Int) : Prop := a.length = D.length ∧ ∀ y : Int, 0 ≤ y → y.toNat < D.length → mem (domAt D y) (valAt a y)
theorem sing_at {a : List Int} {y : Int} (h : y.toNat < a.length) : domAt (sing a) y = [(valAt a y, valAt a y)] := by simp [domAt, sing, valAt, h]
theorem mem_one {n v : Int} : mem [(n, n)] v ↔ v = n := by
  constructor
  · rintro (h | h)
    · have h1 := h.1; have h2 := h.2; simp only at h1 h2; omega
    · exact h.elim
  · rintro rfl; exact .inl ⟨Int.le_refl _, Int.le_refl _⟩
theorem one_rt {n : Int} (h : -mx ≤ n ∧ n ≤ mx) : right [(n, n)] = true := by
  show okF (-mx) [(n, n)] = true
  rw [okF_cons]; exact ⟨h.1, Int.le_refl _, h.2, rfl⟩
theorem wi_sing {D : Ds} {a : List Int} (h : Gd D) (w : Wi D a) : Gd (sing a) ∧ Sub (sing a) D := by
  refine ⟨fun d hd => ?_, by rw [sing_len]; exact w.1, fun y hy v hv => ?_⟩
  · obtain ⟨n, hn, rfl⟩ := List.mem_map.1 hd
    obtain ⟨i, hi, rfl⟩ := List.mem_iff_getElem.1 hn
    have hiD : i < D.length := by rw [← w.1]; exact hi
    have h1 := w.2 (i : Int) (by omega) (by simpa using hiD)
    have h2 := h.at_ (x := (i : Int)) (by simpa using hiD)
    have e : valAt a (i : Int) = a[i] := by simp [valAt, hi]
    rw [e] at h1
    exact ⟨one_rt (mem_ge h2.1 h1), by simp⟩
  · by_cases hl : y.toNat < a.length
    · rw [sing_at hl, mem_one] at hv
      subst hv
      exact w.2 y hy (by rw [← w.1]; exact hl)
    · have e : domAt (sing a) y = [] := by unfold domAt; rw [List.getD, List.getElem?_eq_none (by rw [sing_len]; omega)]; rfl
      rw [e] at hv; exact hv.elim
theorem tm_sing {a : List Int} {p : Int × Int} (h : p.2.toNat < a.length) : tm (sing a) p = ⟨p.1, valAt a p.2, valAt a p.2, p.2⟩ := by
  unfold tm; rw [sing_at h]; rfl
theorem sum_sing {a : List Int} : ∀ (l : List (Int × Int)), (∀ p ∈ l, p.2.toNat < a.length) →
    lsum (l.map (tm (sing a))) = smF (l.map fun p => (p.1, valAt a p.2)) ∧ fsum (l.map (tm (sing a))) = smF (l.map fun p => (p.1, valAt a p.2)) ∧ (l.map (tm (sing a))).filter opn = []
  | [], _ => ⟨rfl, rfl, rfl⟩
  | p :: l, h => by
    obtain ⟨h1, h2, h3⟩ := sum_sing l fun q hq => h q (List.mem_cons_of_mem _ hq)
    have hp := tm_sing (h p (by simp))
    have ho : opn (tm (sing a) p) = false := by rw [hp]; simp [opn]
    refine ⟨?_, ?_, ?_⟩
    · simp only [List.map_cons, lsum, smF, mnT, h1]; rw [hp]; simp only; omega
    · simp only [List.map_cons, fsum, smF, h2]; rw [ho, hp]; simp
    · rw [List.map_cons, List.filter_cons_of_neg (by rw [ho]; simp)]; exact h3
theorem sm_zip (A x a : List Int) : sm A (vals x a) = smF ((A.zip x).map fun p => (p.1, valAt a p.2)) := by
  unfold sm vals; rw [List.zip_map_right]; rfl
theorem gd_sing {a : List Int} {E : Ds} (hs : Gd (sing a)) (hE : Gd E) (k : Sub E (sing a)) : E = sing a := by
  refine List.ext_getElem k.1 fun i h1 h2 => ?_
  have ha : i < a.length := by rw [sing_len] at h2; exact h2
  have e1 : domAt E (i : Int) = E[i] := domAt_lt (by exact h1)
  have e2 : domAt (sing a) (i : Int) = (sing a)[i] := domAt_lt (by exact h2)
  have e3 := sing_at (a := a) (y := (i : Int)) (by simpa using ha)
  have g1 := hE _ (List.getElem_mem h1)
  have g2 := hs _ (List.getElem_mem h2)
  have hv : ∀ v, mem E[i] v → v = valAt a i := fun v hv => by
    have := k.2 (i : Int) (by omega) v (by rw [e1]; exact hv)
    rw [e3] at this; exact mem_one.1 this
  refine uniq g1.1 g2.1 fun v => ?_
  rw [← e2, e3, mem_one]
  refine ⟨hv v, fun e => ?_⟩
  obtain ⟨u, hu⟩ := mem_ex g1.1 g1.2
  rw [e, ← hv u hu]; exact hu
theorem am_sing {c : Int} {A x a : List Int} (hG : Gd (sing a)) (hx : x.all (isV (sing a).length) = true) (hs : lsum (tms A x (sing a)) ≤ c) : amL c (tms A x (sing a)) (sing a) = some (sing a) := by
  obtain ⟨hv, hi⟩ := tms_in (a := A) hG.rd hx
  cases e : amL c (tms A x (sing a)) (sing a) with
  | some E =>
    obtain ⟨q0, q1, q2, q3⟩ := amL_some hG hv hi e
    rw [gd_sing hG q1 q2]
  | none =>
    exfalso
    rcases amL_none hG hv hi e with h | ⟨y, hy, hl, hn⟩
    · omega
    · rw [sing_len] at hl
      have e3 := sing_at (a := a) hl
      refine hn (valAt a y) (by rw [e3, mem_one]) fun t ht htx => ?_
      obtain ⟨p, hp, rfl⟩ := List.mem_map.1 ht
      have hpx : p.2 = y := htx
      rw [tm_sing (by rw [hpx]; exact hl), hpx]
      refine ⟨fun _ => ?_, fun _ => ?_⟩ <;> simp only [Int.sub_self, Int.mul_zero] <;> omega
/-- values that a sum allows are left by it -/
theorem nar_sing {k c : Int} {A x a : List Int} (hG : Gd (sing a)) (hx : x.all (isV (sing a).length) = true) (h1 : k = 1 → sm A (vals x a) = c) (h2 : k = 2 → sm A (vals x a) ≤ c) (h3 : k ≠ 1 → k ≠ 2 → sm A (vals x a) ≠ c) : narL k c A x (sing a) = some (sing a) := by
  have hin : ∀ (B : List Int), ∀ p ∈ B.zip x, p.2.toNat < a.length := fun B p hp => by
    have := List.all_eq_true.1 hx _ (List.of_mem_zip hp).2
    simp only [isV, Bool.and_eq_true, decide_eq_true_eq, sing_len] at this
    omega
  obtain ⟨s1, s2, s3⟩ := sum_sing (a := a) _ (hin A)
  rw [← sm_zip] at s1 s2
  unfold narL
  by_cases k1 : k = 1
  · have hc := h1 k1
    rw [if_pos k1, am_sing hG hx (by unfold tms; omega)]
    show amL (-c) (tms (neg A) x (sing a)) (sing a) = _
    refine am_sing hG hx ?_
    obtain ⟨n1, -, -⟩ := sum_sing (a := a) _ (hin (neg A))
    have e : ∀ (l : List (Int × Int)), smF ((l.map fun p => (-p.1, p.2)).map fun p => (p.1, valAt a p.2)) = -smF (l.map fun p => (p.1, valAt a p.2)) := by
      intro l
      induction l with
      | nil => rfl
      | cons p l ih => simp only [List.map_cons, smF, ih]; rw [Int.neg_mul]; omega
    unfold tms
    rw [n1, show (neg A).zip x = (A.zip x).map fun p => (-p.1, p.2) by unfold neg; rw [List.zip_map_left]; rfl, e, ← sm_zip]
    omega
  · rw [if_neg k1]
    by_cases k2 : k = 2
    · have := h2 k2
      rw [if_pos k2]; exact am_sing hG hx (by unfold tms; omega)
    · have := h3 k1 k2
      rw [if_neg k2]
      unfold neL tms
      rw [s3, s2, neW]
      rw [if_neg (by omega)]
theorem nar_keeps {k c : Int} {A x a : List Int} {D : Ds} (h : Gd D) (hx : x.all (isV D.length) = true) (w : Wi D a) (h1 : k = 1 → sm A (vals x a) = c) (h2 : k = 2 → sm A (vals x a) ≤ c) (h3 : k ≠ 1 → k ≠ 2 → sm A (vals x a) ≠ c) :
    ∃ E, narL k c A x D = some E ∧ ∀ y : Int, 0 ≤ y → y.toNat < D.length → mem (domAt E y) (valAt a y) := by
  obtain ⟨g, s⟩ := wi_sing h w
  obtain ⟨E, hE, hs⟩ := nar_mono h g s hx (nar_sing g (isV_len s.1.symm hx) h1 h2 h3)
  refine ⟨E, hE, fun y hy hl => hs.2 y hy _ ?_⟩
  rw [sing_at (by rw [w.1]; exact hl), mem_one]
theorem lin_keeps {c : Cn} {ds : Ds} {a : List Int} (h : Gd ds) (hx : c.x.all (isV ds.length) = true) (hk : 1 ≤ c.k ∧ c.k ≤ 3) (w : Wi ds a) (hh : holds c a = true) :
    ∃ E, narL c.k c.c c.a c.x ds = some E ∧ ∀ y : Int, 0 ≤ y → y.toNat < ds.length → mem (domAt E y) (valAt a y) := by
  unfold holds at hh
  rw [Bool.and_eq_true] at hh
  have hv := hh.2
  unfold holdV at hv
  refine nar_keeps h hx w (fun k1 => ?_) (fun k2 => ?_) (fun k1 k2 => ?_)
  · rw [if_pos k1] at hv; simpa using hv
  · rw [if_neg (by omega), if_pos k2] at hv; simpa using hv
  · rw [if_neg k1, if_neg k2, if_pos (by omega)] at hv; simpa using hv
end Go.Proofs.Ytoegbgkgenjplaa.Ln
end
section
namespace Go.Proofs.Ytoegbgkgenjplaa.Sn
open Go.RowKit
open Go.Proofs.Ytoegbgkgenjplaa.Dig Go.Proofs.Ytoegbgkgenjplaa.Lx Go.Proofs.Ytoegbgkgenjplaa.Tk Go.Proofs.Ytoegbgkgenjplaa.Ti Go.Proofs.Ytoegbgkgenjplaa.Zs Go.Proofs.Ytoegbgkgenjplaa.Tr
set_option maxRecDepth 20000 in
set_option maxHeartbeats 2000000 in
theorem rholds6_any (v va : Value) (c : Cn) (a : List Int) (w : World) (h : ConAt w v c) (ha : Sl 1 QI w va a) (hx : c.x.length ≤ 1100000) (hca : c.a.length ≤ 1100000) (hla : a.length ≤ 1100000) (hk6 : 1 ≤ c.k ∧ c.k ≤ 6) :
    Calls Try.prog 17 #[v, va] w (RetT (holds c a) w) := by
  cases hk : asked c a with
  | false =>
    have e : holds c a = false := by rw [holds, hk]; rfl
    rw [e]
    have AK := Lib.hid (fun W (k : Since w W) => by have := rasked_any v va c a W (h.since k) (ha.since stI k) hx hca hla; rw [hk] at this; exact this)
    obtain ⟨vx, vy, rfl, h1, h2⟩ := h
    obtain ⟨X, xc, rfl⟩ := h1.form
    obtain ⟨Y, yc, rfl⟩ := h2.form
    obtain ⟨A, ac, rfl⟩ := ha.form
    generalize c.x.length = nx at *
    generalize c.a.length = na at *
    generalize a.length = nl at *
    have ka := Lib.hid (since_alloc w (.cells #[.int .i64 c.k, .slice X nx xc, .slice Y na yc, .int .i64 c.c] 25))
    clear h1 h2 ha hk e hk6
    go_enter Try.func17, Try.ntmps17
    go_wp2_with (go_at_call 43; (with_reducible refine (AK.out _ ka.out).mono ?_); rintro e w2 ⟨rfl, k2⟩)
    go_ret
    exact ⟨rfl, ka.out.trans k2⟩
  | true =>
    have e : holds c a = holdV c.k (vals c.x a) c.a c.c := by rw [holds, hk]; rfl
    rw [e]
    obtain ⟨ck, cx, ca, cc⟩ := c
    simp only at *
    have h1 : ck = 1 ∨ ck = 2 ∨ ck = 3 ∨ ck = 4 ∨ ck = 5 ∨ ck = 6 := by omega
    rcases h1 with rfl | rfl | rfl | rfl | rfl | rfl
    · exact rholds1 v va cx ca cc a w h ha hx hca hla hk
    · exact rholds2 v va cx ca cc a w h ha hx hca hla hk
    · exact rholds3 v va cx ca cc a w h ha hx hca hla hk
    · exact rholds4 v va cx ca cc a w h ha hx hca hla hk
    · exact rholds5 v va cx ca cc a w h ha hx hca hla hk
    · exact rholds6 v va cx ca cc a w h ha hx hca hla hk
end Go.Proofs.Ytoegbgkgenjplaa.Sn
end
