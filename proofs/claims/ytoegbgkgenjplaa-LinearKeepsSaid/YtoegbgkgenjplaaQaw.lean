/- Layer 12 (linear): the law's Fits; what is left of good domains is good. Layer 12 (linear), pure: smaller doma -/
import Derived.Test.YtoegbgkgenjplaaLa
import Derived.Test.YtoegbgkgenjplaaQar
set_option linter.unusedVariables false
set_option linter.unusedSimpArgs false
section
namespace Go.Proofs.Ytoegbgkgenjplaa.Ln
open Go.RowKit
open Go.Proofs.Ytoegbgkgenjplaa.Dig Go.Proofs.Ytoegbgkgenjplaa.Lx Go.Proofs.Ytoegbgkgenjplaa.Tk Go.Proofs.Ytoegbgkgenjplaa.Ti Go.Proofs.Ytoegbgkgenjplaa.Zs Go.Proofs.Ytoegbgkgenjplaa.Tr Go.Proofs.Ytoegbgkgenjplaa.Sn
theorem without_ne2 {d : List Rn} (h : right d = true) (hd : d ≠ []) (hne : lo d ≠ hi d) (v : Int) : without d v ≠ [] := fun e => by
  have h1 := (without_ok d v h).2
  rw [e] at h1
  by_cases c : lo d = v
  · exact (h1 (hi d)).2 ⟨hi_mem d h hd, fun e => hne (c.trans e.symm)⟩
  · exact (h1 (lo d)).2 ⟨lo_mem h hd, c⟩
/-- what a sum that may not be a number leaves, in one sentence -/
theorem neW_good {r : Int} {a x : List Int} {D E : Ds} (h : Gd D) (hx : x.all (isV D.length) = true) (he : neW r ((tms a x D).filter opn) D = some E) : Gd E ∧ Sub E D := by
  obtain ⟨hV, hI⟩ := tms_in (a := a) h.rd hx
  generalize hO : (tms a x D).filter opn = O at *
  match O, hO with
  | [], hO =>
    unfold neW at he
    simp only at he
    split at he
    · cases he
    · cases he; exact ⟨h, .refl _⟩
  | t1 :: t2 :: l, hO => cases he; exact ⟨h, .refl _⟩
  | [t], hO =>
    have hm := List.mem_filter.1 (show t ∈ (tms a x D).filter opn by rw [hO]; simp)
    have hv := hV t hm.1
    unfold neW at he
    simp only at he
    split at he
    · cases he
      have hg := h.at_ hv.2
      have hlo : lo (domAt D t.x) ≠ hi (domAt D t.x) := by
        obtain ⟨p, hp, rfl⟩ := List.mem_map.1 hm.1
        intro e
        rw [opn_no (.inr e)] at hm
        cases hm.2
      refine ⟨fun d hd => ?_, by simp, fun y hy v hv2 => ?_⟩
      · rcases List.mem_or_eq_of_mem_set hd with h1 | rfl
        · exact h d h1
        · exact ⟨without_right _ _, without_ne2 hg.1 hg.2 hlo _⟩
      · rw [domAt_set hv.2] at hv2
        split at hv2
        · rename_i e
          rw [show y = t.x by omega]
          exact ((without_ok _ _ hg.1).2 v |>.1 hv2).1
        · exact hv2
    · cases he; exact ⟨h, .refl _⟩
theorem nar_good {k c : Int} {a x : List Int} {D E : Ds} (h : Gd D) (hx : x.all (isV D.length) = true) (he : narL k c a x D = some E) : Gd E ∧ Sub E D := by
  obtain ⟨h1, h2⟩ := tms_in (a := a) h.rd hx
  unfold narL at he
  split at he
  · cases e : amL c (tms a x D) D with
    | none => rw [e] at he; cases he
    | some F =>
      rw [e] at he
      obtain ⟨q0, q1, q2, q3⟩ := amL_some h h1 h2 e
      obtain ⟨h3, h4⟩ := tms_in (a := neg a) q1.rd (isV_len q2.1.symm hx)
      obtain ⟨r0, r1, r2, r3⟩ := amL_some q1 h3 h4 he
      exact ⟨r1, r2.trans q2⟩
  · split at he
    · obtain ⟨q0, q1, q2, q3⟩ := amL_some h h1 h2 he
      exact ⟨q1, q2⟩
    · exact neW_good h hx he
def fits12 (c : Cn) (ds : Ds) : Bool := smallM ⟨ds, [c], 0, 0⟩ && decide (ds.length ≤ 100)
theorem fits12_sz {c : Cn} {ds : Ds} (h : fits12 c ds = true) : SzM ⟨ds, [c], 0, 0⟩ ∧ ds.length ≤ 100 := by
  simp only [fits12, Bool.and_eq_true, decide_eq_true_eq] at h
  exact ⟨smallM_sz h.1, h.2⟩
set_option maxRecDepth 20000 in
set_option maxHeartbeats 2000000 in
theorem fits12_any (v vd : Value) (c : Cn) (ds : List (List Rn)) (w : World) (h : ConAt w v c) (hd : Sl 1 QD w vd ds) (hl : ds.length ≤ maxLen) (hdl : ∀ d ∈ ds, d.length ≤ maxLen) (hx : c.x.length ≤ maxLen) (ha : c.a.length ≤ maxLen) :
    Calls Try.prog 24 #[v, vd] w (RetT (fits12 c ds) w) := by
  unfold maxLen at hl hdl hx ha
  have MR := Lib.hid (fun W v (k : Since w W) (h : ModAt W v ⟨ds, [c], 0, 0⟩) => small_any v ⟨ds, [c], 0, 0⟩ W h (by simp only; omega) (by simp) (fun d hd => by have := hdl d hd; omega) (fun c' hc => by simp only [List.mem_singleton] at hc; subst hc; omega))
  obtain ⟨R, hR⟩ : ∃ R, R = smallM ⟨ds, [c], 0, 0⟩ := ⟨_, rfl⟩
  rw [← hR] at MR
  have HF := Lib.hid (show (R && decide (ds.length ≤ 100)) = fits12 c ds by rw [hR]; rfl)
  rw [← HF.out]
  clear HF
  obtain ⟨vx, vy, rfl, h1, h2⟩ := h
  obtain ⟨ck, cx, ca, cc⟩ := c
  simp only at *
  obtain ⟨X, xc, rfl⟩ := h1.form
  obtain ⟨Y, yc, rfl⟩ := h2.form
  obtain ⟨D, dc, rfl⟩ := hd.form
  generalize hnx : cx.length = nx at *
  generalize hny : ca.length = ny at *
  generalize hnd : ds.length = nd at *
  have ka := since_alloc w (.cells #[.int .i64 ck, .slice X nx xc, .slice Y ny yc, .int .i64 cc] 25)
  have kb := since_alloc (w.alloc (.cells #[.int .i64 ck, .slice X nx xc, .slice Y ny yc, .int .i64 cc] 25)) (.cells #[.int .i64 ck, .slice X nx xc, .slice Y ny yc, .int .i64 cc] 25)
  have CL := con_lit (w.alloc (.cells #[.int .i64 ck, .slice X nx xc, .slice Y ny yc, .int .i64 cc] 25)) ⟨ck, cx, ca, cc⟩ (.slice X nx xc) (.slice Y ny yc) (h1.since stI ka) (h2.since stI ka)
  rw [show (w.alloc (.cells #[.int .i64 ck, .slice X nx xc, .slice Y ny yc, .int .i64 cc] 25)).heap.size = w.heap.size + 1 by simp] at CL
  simp only at CL
  have M := Lib.hid (MR.out ((w.alloc (.cells #[.int .i64 ck, .slice X nx xc, .slice Y ny yc, .int .i64 cc] 25)).alloc (.cells #[.int .i64 ck, .slice X nx xc, .slice Y ny yc, .int .i64 cc] 25)) (.agg #[.slice D nd dc, .slice (some ⟨w.heap.size + 1, 0, none⟩) 1 1, .int .i64 0, .int .i64 0]) (ka.trans kb) ⟨_, _, rfl, hd.since stD (ka.trans kb), CL⟩)
  have K := Lib.hid (ka.trans kb)
  obtain ⟨b0, b1, b2, b3⟩ := bx4 (Bx.fresh w #[.int .i64 ck, .slice X nx xc, .slice Y ny yc, .int .i64 cc] 25)
  clear MR hR h1 h2 hd CL ka kb hnx hny hnd hdl hx ha
  cases R with
  | false =>
    go_enter Try.func24, Try.ntmps24
    go_wp2_with (go_at_call 18; (with_reducible refine M.out.mono ?_); rintro e w2 ⟨rfl, k2⟩; have K2 := Lib.hid (K.out.trans k2); clear k2)
    go_ret
    exact .of (by simp) K2.out
  | true =>
    go_enter Try.func24, Try.ntmps24
    go_wp2_with (go_at_call 18; (with_reducible refine M.out.mono ?_); rintro e w2 ⟨rfl, k2⟩; have K2 := Lib.hid (K.out.trans k2); clear k2)
    go_ret
    exact .of (by simp; omega) K2.out
end Go.Proofs.Ytoegbgkgenjplaa.Ln
end
section
namespace Go.Proofs.Ytoegbgkgenjplaa.Ln
open Go.Proofs.Ytoegbgkgenjplaa.Zs Go.Proofs.Ytoegbgkgenjplaa.Sn
section
variable {D D' : Ds} (h : Gd D) (h' : Gd D') (hs : Sub D' D)
include h h' hs
theorem ends_sub {x : Int} (hx : 0 ≤ x ∧ x.toNat < D.length) : lo (domAt D x) ≤ lo (domAt D' x) ∧ lo (domAt D' x) ≤ hi (domAt D' x) ∧ hi (domAt D' x) ≤ hi (domAt D x) ∧ lo (domAt D x) ≤ hi (domAt D x) := by
  have g := h.at_ hx.2
  have g' := h'.at_ (x := x) (by rw [hs.1]; exact hx.2)
  exact ⟨mem_lo g.1 (hs.2 x hx.1 _ (lo_mem g'.1 g'.2)), lo_hi g'.1 g'.2, mem_hi _ g.1 (hs.2 x hx.1 _ (hi_mem _ g'.1 g'.2)), lo_hi g.1 g.2⟩
end
theorem mn_pos {n l u : Int} (hn : 0 < n) (h : l ≤ u) : min (n * l) (n * u) = n * l := by
  have : n * l ≤ n * u := Int.mul_le_mul_of_nonneg_left h (by omega)
  omega
theorem mn_neg {n l u : Int} (hn : n < 0) (h : l ≤ u) : min (n * l) (n * u) = n * u := by
  have h2 : (-n) * l ≤ (-n) * u := Int.mul_le_mul_of_nonneg_left h (by omega)
  rw [Int.neg_mul, Int.neg_mul] at h2
  omega
theorem mnT_mono {n l u l' u' : Int} (h1 : l ≤ l') (h2 : l' ≤ u') (h3 : u' ≤ u) : min (n * l) (n * u) ≤ min (n * l') (n * u') := by
  rcases Int.lt_trichotomy n 0 with hn | hn | hn
  · rw [mn_neg hn (by omega), mn_neg hn h2]
    have h4 : (-n) * u' ≤ (-n) * u := Int.mul_le_mul_of_nonneg_left h3 (by omega)
    rw [Int.neg_mul, Int.neg_mul] at h4
    omega
  · subst hn; simp
  · rw [mn_pos hn (by omega), mn_pos hn h2]
    exact Int.mul_le_mul_of_nonneg_left h1 (by omega)
theorem sum_diff {f f' : Int × Int → Tm} : ∀ (l : List (Int × Int)), (∀ p ∈ l, mnT (f p) ≤ mnT (f' p)) → lsum (l.map f) ≤ lsum (l.map f') ∧ ∀ p ∈ l, mnT (f' p) - mnT (f p) ≤ lsum (l.map f') - lsum (l.map f)
  | [], _ => ⟨Int.le_refl _, fun p hp => by cases hp⟩
  | q :: l, h => by
    obtain ⟨i1, i2⟩ := sum_diff l fun p hp => h p (by simp [hp])
    have hq := h q (by simp)
    simp only [List.map_cons, lsum]
    refine ⟨by omega, fun p hp => ?_⟩
    rcases List.mem_cons.1 hp with rfl | hp
    · omega
    · have := i2 p hp; omega
theorem okt_mono {r r' n l u l' u' x v : Int} (h1 : l ≤ l') (h2 : l' ≤ u') (h3 : u' ≤ u) (hr : min (n * l') (n * u') - min (n * l) (n * u) ≤ r - r') (h : okt r' ⟨n, l', u', x⟩ v) : okt r ⟨n, l, u, x⟩ v := by
  obtain ⟨q1, q2⟩ := h
  simp only at q1 q2
  refine ⟨fun hn => ?_, fun hn => ?_⟩
  · have hn : 0 < n := hn
    have := q1 hn
    rw [mn_pos (l := l) (u := u) hn (by omega), mn_pos (l := l') (u := u') hn h2] at hr
    show n * (v - l) ≤ r
    rw [Int.mul_sub] at this ⊢
    omega
  · have hn : n < 0 := hn
    have := q2 hn
    rw [mn_neg (l := l) (u := u) hn (by omega), mn_neg (l := l') (u := u') hn h2] at hr
    show n * (v - u) ≤ r
    rw [Int.mul_sub] at this ⊢
    omega
theorem am_mono {D D' E' : Ds} {c : Int} {a x : List Int} (h : Gd D) (h' : Gd D') (hs : Sub D' D) (hx : x.all (isV D.length) = true) (he : amL c (tms a x D') D' = some E') :
    ∃ E, amL c (tms a x D) D = some E ∧ Sub E' E := by
  obtain ⟨v1, i1⟩ := tms_in (a := a) h.rd hx
  obtain ⟨v2, i2⟩ := tms_in (a := a) h'.rd (isV_len hs.1.symm hx)
  obtain ⟨q0, q1, q2, q3⟩ := amL_some h' v2 i2 he
  have hp : ∀ p ∈ a.zip x, 0 ≤ p.2 ∧ p.2.toNat < D.length := fun p hp => by
    have := List.all_eq_true.1 hx _ (List.of_mem_zip hp).2
    simp only [isV, Bool.and_eq_true, decide_eq_true_eq] at this
    omega
  have hm : ∀ p ∈ a.zip x, mnT (tm D p) ≤ mnT (tm D' p) := fun p hpl => by
    obtain ⟨e1, e2, e3, e4⟩ := ends_sub h h' hs (hp p hpl)
    exact mnT_mono e1 e2 e3
  obtain ⟨s1, s2⟩ := sum_diff (f := tm D) (f' := tm D') (a.zip x) hm
  have key : ∀ y, 0 ≤ y → ∀ v, mem (domAt E' y) v → mem (domAt D y) v ∧ ∀ t ∈ tms a x D, t.x = y → okt (c - lsum (tms a x D)) t v := fun y hy v hv => by
    obtain ⟨k1, k2⟩ := (q3 y hy v).1 hv
    refine ⟨hs.2 y hy v k1, fun t ht hty => ?_⟩
    obtain ⟨p, hpl, rfl⟩ := List.mem_map.1 ht
    obtain ⟨e1, e2, e3, e4⟩ := ends_sub h h' hs (hp p hpl)
    have k3 := k2 (tm D' p) (List.mem_map_of_mem hpl) hty
    have k4 := s2 p hpl
    exact okt_mono e1 e2 e3 (show mnT (tm D' p) - mnT (tm D p) ≤ (c - lsum (tms a x D)) - (c - lsum (tms a x D')) by unfold tms; omega) k3
  cases e : amL c (tms a x D) D with
  | none =>
    exfalso
    rcases amL_none h v1 i1 e with hn | ⟨y, hy, hyl, hn⟩
    · unfold tms at hn q0; omega
    · have hyE : y.toNat < E'.length := by rw [q2.1, hs.1]; exact hyl
      have hg := q1.at_ hyE
      obtain ⟨k1, k2⟩ := key y hy _ (lo_mem hg.1 hg.2)
      exact hn _ k1 k2
  | some E =>
    obtain ⟨r0, r1, r2, r3⟩ := amL_some h v1 i1 e
    exact ⟨E, rfl, by rw [q2.1, hs.1, r2.1], fun y hy v hv => (r3 y hy v).2 (key y hy v hv)⟩
theorem fsum_open {D D' : Ds} : ∀ (l : List (Int × Int)), (∀ p ∈ l, opn (tm D p) = false → opn (tm D' p) = false ∧ p.1 * lo (domAt D' p.2) = p.1 * lo (domAt D p.2)) →
    fsum (l.map (tm D')) = fsum (l.map (tm D)) + ((l.filter fun p => opn (tm D p)).map fun p => if opn (tm D' p) then 0 else p.1 * lo (domAt D' p.2)).sum
  | [], _ => rfl
  | p :: l, h => by
    have ih := fsum_open l fun q hq => h q (by simp [hq])
    have hp := h p (by simp)
    simp only [List.map_cons, fsum]
    rw [ih]
    cases e : opn (tm D p) with
    | true =>
      simp only [List.filter_cons, e, if_true, List.map_cons, List.sum_cons]
      show (if opn (tm D' p) = true then 0 else p.1 * lo (domAt D' p.2)) + _ = _
      omega
    | false =>
      obtain ⟨h1, h2⟩ := hp e
      simp only [List.filter_cons, e, h1, Bool.false_eq_true, if_false]
      show p.1 * lo (domAt D' p.2) + _ = p.1 * lo (domAt D p.2) + _ + _
      omega
theorem opn_iff {t : Tm} : opn t = true ↔ t.n ≠ 0 ∧ t.lo ≠ t.hi := by simp [opn]
theorem filt_map {D : Ds} (l : List (Int × Int)) : (l.map (tm D)).filter opn = (l.filter fun p => opn (tm D p)).map (tm D) := by rw [List.filter_map]; rfl
theorem ne_mono {D D' E' : Ds} {c : Int} {a x : List Int} (h : Gd D) (h' : Gd D') (hs : Sub D' D) (hx : x.all (isV D.length) = true) (he : neL c (tms a x D') D' = some E') :
    ∃ E, neL c (tms a x D) D = some E ∧ Sub E' E := by
  have hg := neW_good h' (isV_len hs.1.symm hx) he
  have hp : ∀ p ∈ a.zip x, 0 ≤ p.2 ∧ p.2.toNat < D.length := fun p hp => by
    have := List.all_eq_true.1 hx _ (List.of_mem_zip hp).2
    simp only [isV, Bool.and_eq_true, decide_eq_true_eq] at this
    omega
  have hcl : ∀ p ∈ a.zip x, opn (tm D p) = false → opn (tm D' p) = false ∧ p.1 * lo (domAt D' p.2) = p.1 * lo (domAt D p.2) := fun p hpl ho => by
    obtain ⟨e1, e2, e3, e4⟩ := ends_sub h h' hs (hp p hpl)
    by_cases hn : p.1 = 0
    · exact ⟨opn_no (.inl hn), by rw [hn]; simp⟩
    · have hlh : lo (domAt D p.2) = hi (domAt D p.2) := Classical.byContradiction fun hne => by
        rw [show opn (tm D p) = true from opn_iff.2 ⟨hn, hne⟩] at ho; cases ho
      exact ⟨opn_no (.inr (show lo (domAt D' p.2) = hi (domAt D' p.2) by omega)), by rw [show lo (domAt D' p.2) = lo (domAt D p.2) by omega]⟩
  have hfs := fsum_open (a.zip x) hcl
  have hP : (a.zip x).filter (fun p => opn (tm D' p)) = ((a.zip x).filter fun p => opn (tm D p)).filter fun p => opn (tm D' p) := by
    rw [List.filter_filter]
    refine List.filter_congr fun p hpl => ?_
    cases e : opn (tm D p) with
    | true => simp
    | false => simp [(hcl p hpl e).1]
  unfold neL at he ⊢
  unfold tms at *
  rw [filt_map] at he ⊢
  rw [hP] at he
  generalize hPP : (a.zip x).filter (fun p => opn (tm D p)) = P at *
  match P, hPP with
  | [], hPP =>
    simp only [List.filter_nil, List.map_nil, List.sum_nil, Int.add_zero] at hfs he ⊢
    rw [hfs] at he
    unfold neW at he ⊢
    simp only at he ⊢
    split at he
    · cases he
    · rename_i hr
      cases he
      rw [if_neg hr]
      exact ⟨D, rfl, hs⟩
  | p1 :: p2 :: l, hPP => exact ⟨D, rfl, hg.2.trans hs⟩
  | [p], hPP =>
    have hpm := List.mem_filter.1 (show p ∈ (a.zip x).filter (fun p => opn (tm D p)) by rw [hPP]; simp)
    have hpx := hp p hpm.1
    have hop := opn_iff.1 hpm.2
    simp only [List.map_cons, List.map_nil, List.sum_cons, List.sum_nil, Int.add_zero] at hfs ⊢
    obtain ⟨r, hr⟩ : ∃ r, r = c - fsum ((a.zip x).map (tm D)) := ⟨_, rfl⟩
    rw [← hr]
    show ∃ E, (if r.tmod p.1 = 0 then some (D.set p.2.toNat (without (domAt D p.2) (r.tdiv p.1))) else some D) = some E ∧ Sub E' E
    by_cases c1 : r.tmod p.1 = 0
    · rw [if_pos c1]
      refine ⟨_, rfl, by rw [List.length_set, hg.2.1, hs.1], fun y hy v hv => ?_⟩
      have hvD := hs.2 y hy v (hg.2.2 y hy v hv)
      rw [domAt_set hpx.2]
      split
      · rename_i ey
        have eyx : y = p.2 := by omega
        subst eyx
        refine ((without_ok _ _ (h.at_ hpx.2).1).2 v).2 ⟨hvD, fun e => ?_⟩
        have hnv : p.1 * v = r := by
          have := Int.mul_tdiv_add_tmod r p.1
          rw [c1, Int.add_zero] at this
          rw [e]; exact this
        have hdx : p.2.toNat < D'.length := by rw [hs.1]; exact hpx.2
        cases ho : opn (tm D' p) with
        | true =>
          rw [ho] at hfs
          simp only [if_true, Int.add_zero] at hfs
          simp only [List.filter_cons, ho, if_true, List.filter_nil, List.map_cons, List.map_nil] at he
          rw [hfs, ← hr] at he
          unfold neW at he
          simp only at he
          rw [if_pos (show r.tmod (tm D' p).n = 0 from c1)] at he
          cases he
          have hv3 := hv
          rw [show (tm D' p).x = p.2 from rfl, domAt_set hdx, if_pos rfl] at hv3
          exact ((without_ok _ _ (h'.at_ hdx).1).2 v |>.1 hv3).2 e
        | false =>
          rw [ho] at hfs
          simp only [Bool.false_eq_true, if_false] at hfs
          simp only [List.filter_cons, ho, Bool.false_eq_true, if_false, List.filter_nil, List.map_nil] at he
          rw [hfs] at he
          unfold neW at he
          simp only at he
          split at he
          · cases he
          · rename_i hne
            cases he
            have hlh : lo (domAt D' p.2) = hi (domAt D' p.2) := Classical.byContradiction fun hq => by
              rw [show opn (tm D' p) = true from opn_iff.2 ⟨hop.1, hq⟩] at ho; cases ho
            have g' := h'.at_ hdx
            have := (one_val g'.1 g'.2 hlh).1 hv
            rw [← this] at hne
            omega
      · exact hvD
    · rw [if_neg c1]; exact ⟨D, rfl, hg.2.trans hs⟩
theorem nar_mono {k c : Int} {D D' E' : Ds} {a x : List Int} (h : Gd D) (h' : Gd D') (hs : Sub D' D) (hx : x.all (isV D.length) = true) (he : narL k c a x D' = some E') :
    ∃ E, narL k c a x D = some E ∧ Sub E' E := by
  unfold narL at he ⊢
  split at he
  · rename_i hk
    rw [if_pos hk]
    cases e' : amL c (tms a x D') D' with
    | none => rw [e'] at he; cases he
    | some F' =>
      rw [e'] at he
      obtain ⟨v2, i2⟩ := tms_in (a := a) h'.rd (isV_len hs.1.symm hx)
      obtain ⟨v1, i1⟩ := tms_in (a := a) h.rd hx
      obtain ⟨F, hF, hFs⟩ := am_mono h h' hs hx e'
      obtain ⟨q0, q1, q2, q3⟩ := amL_some h' v2 i2 e'
      obtain ⟨r0, r1, r2, r3⟩ := amL_some h v1 i1 hF
      rw [hF]
      exact am_mono r1 q1 hFs (isV_len r2.1.symm hx) he
  · rename_i hk
    rw [if_neg hk]
    split at he
    · rename_i hk2
      rw [if_pos hk2]
      exact am_mono h h' hs hx he
    · rename_i hk2
      rw [if_neg hk2]
      exact ne_mono h h' hs hx he
theorem meet_sub {E' E : List Rn} (h' : right E' = true) (h : right E = true) (hs : ∀ v, mem E' v → mem E v) : meet E' E = E' :=
  uniq (meet_ok h' h).1 h' fun v => by rw [(meet_ok h' h).2 v]; exact ⟨fun k => k.1, fun k => ⟨k, hs v k⟩⟩
end Go.Proofs.Ytoegbgkgenjplaa.Ln
end
