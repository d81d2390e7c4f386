/- Layer 14 (arith), pure: smaller domains lead to smaller ones, no values are lost, the last variable is decided -/
import Derived.Test.YtalcgjkegohhgaaQas
namespace Go.Proofs.Ytalcgjkegohhgaa.At
set_option linter.unusedVariables false
set_option linter.unusedSimpArgs false
open Go.Proofs.Ytalcgjkegohhgaa.Num Go.Proofs.Ytalcgjkegohhgaa.Zs Go.Proofs.Ytalcgjkegohhgaa.Sn Go.Proofs.Ytalcgjkegohhgaa.Ln
theorem cei_flo {n m : Int} (hm : m ≠ 0) (hn : -9223372036854775808 < n) (hn2 : -9223372036854775808 < -n) : cei n m = -flo (-n) m := by
  have h1 : rem (-n) m = -rem n m := by unfold rem; rw [Int.neg_tmod]
  have h2 : quo (-n) m = -quo n m := by unfold quo; rw [Int.neg_tdiv]
  have h3 := rem_sign n m
  unfold cei flo
  rw [if_neg (show ¬ dbad n m ≠ 0 by rw [quo_parts hm hn]; decide), if_neg (show ¬ dbad (-n) m ≠ 0 by rw [quo_parts hm hn2]; decide), h1, h2]
  by_cases hr : rem n m = 0
  · rw [if_neg (fun h => h.1 hr), if_neg (fun h => h.1 (by omega))]; omega
  · have hs : (n < 0 ↔ m < 0) ↔ ¬ (-n < 0 ↔ m < 0) := by
      have h4 : n ≠ 0 := fun e => by
        have := h3.1 (by omega); have := h3.2 (by omega); omega
      omega
    by_cases c : (n < 0 ↔ m < 0)
    · rw [if_pos ⟨hr, c⟩, if_pos ⟨by omega, hs.1 c⟩]; omega
    · rw [if_neg (fun h => c h.2), if_neg (fun h => c (hs.2 h.2))]; omega
theorem ce_iff {n m v : Int} (hm : m ≠ 0) (hn : -9223372036854775808 < n) (hn2 : -9223372036854775808 < -n) : cei n m ≤ v ↔ (0 < m → n ≤ v * m) ∧ (m < 0 → v * m ≤ n) := by
  have h := fl_iff (n := -n) (m := m) (v := -v) hm hn2
  rw [cei_flo hm hn hn2]
  rw [Int.neg_mul] at h
  constructor
  · intro k; have := h.1 (by omega); exact ⟨fun c => by have := this.1 c; omega, fun c => by have := this.2 c; omega⟩
  · intro k; have := h.2 ⟨fun c => by have := k.1 c; omega, fun c => by have := k.2 c; omega⟩; omega
/-- a bound as ends of domains have -/
def Bw (n : Int) : Prop := -1048576 ≤ n ∧ n ≤ 1048576
theorem quo_box {l u m w n' m' : Int} (bl : Bw l) (bu : Bw u) (bn : Bw n') (h1 : l ≤ n') (h2 : n' ≤ u) (h3 : m ≤ m') (h4 : m' ≤ w) (hs : 0 < m ∨ w < 0) :
    mn4 (cei l m) (cei l w) (cei u m) (cei u w) ≤ cei n' m' ∧ flo n' m' ≤ mx4 (flo l m) (flo l w) (flo u m) (flo u w) := by
  unfold Bw at *
  have hm' : m' ≠ 0 := by omega
  have hm : m ≠ 0 := by omega
  have hw : w ≠ 0 := by omega
  constructor
  · obtain ⟨v, hv⟩ : ∃ v, cei n' m' = v := ⟨_, rfl⟩
    have k := (ce_iff (v := v) hm' (by omega) (by omega)).1 (by omega : cei n' m' ≤ v)
    rw [hv]
    have q := mul_in (a := v) h3 h4
    unfold mn4
    rcases hs with hs | hs
    · have k1 := k.1 (by omega)
      have a1 := ce_iff (n := l) (m := m) (v := v) hm (by omega) (by omega)
      have a2 := ce_iff (n := l) (m := w) (v := v) hw (by omega) (by omega)
      by_cases c : l ≤ v * m
      · have := a1.2 ⟨fun _ => c, fun h => by omega⟩; omega
      · have := a2.2 ⟨fun _ => by omega, fun h => by omega⟩; omega
    · have k1 := k.2 (by omega)
      have a1 := ce_iff (n := u) (m := m) (v := v) hm (by omega) (by omega)
      have a2 := ce_iff (n := u) (m := w) (v := v) hw (by omega) (by omega)
      by_cases c : v * m ≤ u
      · have := a1.2 ⟨fun h => by omega, fun _ => c⟩; omega
      · have := a2.2 ⟨fun h => by omega, fun _ => by omega⟩; omega
  · obtain ⟨v, hv⟩ : ∃ v, flo n' m' = v := ⟨_, rfl⟩
    have k := (fl_iff (v := v) hm' (by omega)).1 (by omega : v ≤ flo n' m')
    rw [hv]
    have q := mul_in (a := v) h3 h4
    unfold mx4
    rcases hs with hs | hs
    · have k1 := k.1 (by omega)
      have a1 := fl_iff (n := u) (m := m) (v := v) hm (by omega)
      have a2 := fl_iff (n := u) (m := w) (v := v) hw (by omega)
      by_cases c : v * m ≤ u
      · have := a1.2 ⟨fun _ => c, fun h => by omega⟩; omega
      · have := a2.2 ⟨fun _ => by omega, fun h => by omega⟩; omega
    · have k1 := k.2 (by omega)
      have a1 := fl_iff (n := l) (m := m) (v := v) hm (by omega)
      have a2 := fl_iff (n := l) (m := w) (v := v) hw (by omega)
      by_cases c : l ≤ v * m
      · have := a1.2 ⟨fun h => by omega, fun _ => c⟩; omega
      · have := a2.2 ⟨fun h => by omega, fun _ => by omega⟩; omega
/-- ends, bounded -/
theorem ends_bw {D : Ln.Ds} (h : Gd D) {n : Nat} (hl : D.length = n) {x : Int} (hx : Inn n x) : Bw (L x D) ∧ Bw (H x D) ∧ L x D ≤ H x D := by
  have g := h.at_ (x := x) (by rw [hl]; exact hx.2)
  have := lo_hi_mx g.1 g.2
  simp only [mx] at this
  unfold Bw L H
  omega
theorem awy_iff {y : Int} {D : Ln.Ds} : awy y D = true ↔ 0 < L y D ∨ H y D < 0 := by
  unfold awy
  simp only [Bool.not_eq_true', Bool.and_eq_false_iff, decide_eq_false_iff_not]
  omega
variable {n : Nat} {X : List Int} {x y z : Int}
theorem fac_ok (hx : Inn n x) (hy : Inn n y) (hz : Inn n z) (hX : x ∈ X) : Okp n X (facS x y z) := by
  constructor
  · intro D E h hl he
    have hh : Okp n X (ifS (fun _ => awy y D) (putS x fun D' => cut (domAt D' x) (mnP cei z y D) (mxP flo z y D))) :=
      if_ok (fun _ _ _ _ _ _ h => h) (put_ok hx hX (fun D h hl => ⟨cut_right _ _ _, fun v hv => ((cut_ok _ _ _ (h.at_ (x := x) (by rw [hl]; exact hx.2)).1).2 v |>.1 hv).1⟩) fun D D' h h' hl hs v hv => by
        have g := (h.at_ (x := x) (by rw [hl]; exact hx.2)).1
        have g' := (h'.at_ (x := x) (by rw [hs.1, hl]; exact hx.2)).1
        rw [(cut_ok _ _ _ g').2] at hv
        rw [(cut_ok _ _ _ g).2]
        exact ⟨hs.2 x hx.1 v hv.1, hv.2⟩)
    exact hh.ok D E h hl he
  · intro D D' E' h h' hl hs he
    have hl' : D'.length = n := hs.1.trans hl
    have ey := ends_le h h' hl hs hy
    have ez := ends_le h h' hl hs hz
    unfold facS ifS at he ⊢
    by_cases c : awy y D = true
    · have c' : awy y D' = true := by rw [awy_iff] at c ⊢; omega
      rw [if_pos c'] at he
      rw [if_pos c]
      have bz := ends_bw h hl hz
      have bz' := ends_bw h' hl' hz
      have hs' : 0 < L y D ∨ H y D < 0 := awy_iff.1 c
      have q1 := quo_box (n' := L z D') (m' := L y D') bz.1 bz.2.1 bz'.1 (by omega) (by omega) (by omega) (by omega) hs'
      have q2 := quo_box (n' := L z D') (m' := H y D') bz.1 bz.2.1 bz'.1 (by omega) (by omega) (by omega) (by omega) hs'
      have q3 := quo_box (n' := H z D') (m' := L y D') bz.1 bz.2.1 bz'.2.1 (by omega) (by omega) (by omega) (by omega) hs'
      have q4 := quo_box (n' := H z D') (m' := H y D') bz.1 bz.2.1 bz'.2.1 (by omega) (by omega) (by omega) (by omega) hs'
      have e1 : mnP cei z y D ≤ mnP cei z y D' := by
        have a1 := q1.1; have a2 := q2.1; have a3 := q3.1; have a4 := q4.1
        unfold mnP
        generalize mn4 (cei (L z D) (L y D)) (cei (L z D) (H y D)) (cei (H z D) (L y D)) (cei (H z D) (H y D)) = q at *
        unfold mn4; omega
      have e2 : mxP flo z y D' ≤ mxP flo z y D := by
        have a1 := q1.2; have a2 := q2.2; have a3 := q3.2; have a4 := q4.2
        unfold mxP
        generalize mx4 (flo (L z D) (L y D)) (flo (L z D) (H y D)) (flo (H z D) (L y D)) (flo (H z D) (H y D)) = q at *
        unfold mx4; omega
      -- one cut, with wider bounds
      unfold cutS putS at he ⊢
      dsimp only at he ⊢
      split at he
      · cases he
      · rename_i hne
        cases he
        have g := (h.at_ (x := x) (by rw [hl]; exact hx.2)).1
        have g' := (h'.at_ (x := x) (by rw [hl']; exact hx.2)).1
        have key : ∀ v, mem (cut (domAt D' x) (mnP cei z y D') (mxP flo z y D')) v → mem (cut (domAt D x) (mnP cei z y D) (mxP flo z y D)) v := fun v hv => by
          rw [(cut_ok _ _ _ g').2] at hv
          rw [(cut_ok _ _ _ g).2]
          exact ⟨hs.2 x hx.1 v hv.1, by omega, by omega⟩
        obtain ⟨v, hv⟩ := mem_ex (cut_right (domAt D' x) (mnP cei z y D') (mxP flo z y D')) hne
        have hne2 : cut (domAt D x) (mnP cei z y D) (mxP flo z y D) ≠ [] := fun e => by have := key v hv; rw [e] at this; exact this
        rw [if_neg hne2]
        refine ⟨_, rfl, by simp [hs.1], fun t ht u hu => ?_⟩
        rw [domAt_set (by rw [hl']; exact hx.2)] at hu
        rw [domAt_set (by rw [hl]; exact hx.2)]
        split at hu
        · rename_i e; rw [if_pos e]; exact key u hu
        · rename_i e; rw [if_neg e]; exact hs.2 t ht u hu
    · rw [if_neg c]
      refine ⟨D, rfl, ?_⟩
      by_cases c' : awy y D' = true
      · rw [if_pos c'] at he
        have hh : Okp n X (cutS x (fun _ => mnP cei z y D') (fun _ => mxP flo z y D')) := cut_okp hx hX fun _ _ _ _ _ _ => ⟨Int.le_refl _, Int.le_refl _⟩
        exact (hh.ok D' E' h' hl' he).2.1.trans hs
      · rw [if_neg c'] at he; cases he; exact hs
theorem tim_ok (hx : Inn n x) (hy : Inn n y) (hz : Inn n z) (hX : x ∈ X) (hY : y ∈ X) (hZ : z ∈ X) : Okp n X (timS x y z) := by
  refine thn_ok (cut_okp hz hZ fun D D' h h' hl hs => ?_) (thn_ok (if_ok (fun D D' h h' hl hs p => ?_) (thn_ok (los_ok hx hX) (los_ok hy hY))) (thn_ok (fac_ok hx hy hz hX) (fac_ok hy hx hz hY)))
  · have ex := ends_le h h' hl hs hx
    have ey := ends_le h h' hl hs hy
    have q1 := box_in (l := L x D) (u := H x D) (m := L y D) (w := H y D) (a := L x D') (b := L y D') (by omega) (by omega) (by omega) (by omega)
    have q2 := box_in (l := L x D) (u := H x D) (m := L y D) (w := H y D) (a := L x D') (b := H y D') (by omega) (by omega) (by omega) (by omega)
    have q3 := box_in (l := L x D) (u := H x D) (m := L y D) (w := H y D) (a := H x D') (b := L y D') (by omega) (by omega) (by omega) (by omega)
    have q4 := box_in (l := L x D) (u := H x D) (m := L y D) (w := H y D) (a := H x D') (b := H y D') (by omega) (by omega) (by omega) (by omega)
    unfold mnP mxP
    dsimp only
    generalize mn4 (L x D * L y D) (L x D * H y D) (H x D * L y D) (H x D * H y D) = p at *
    generalize mx4 (L x D * L y D) (L x D * H y D) (H x D * L y D) (H x D * H y D) = q at *
    unfold mn4 mx4
    omega
  · unfold no0 at p ⊢
    have g := (h.at_ (x := z) (by rw [hl]; exact hz.2)).1
    have g' := (h'.at_ (x := z) (by rw [hs.1, hl]; exact hz.2)).1
    cases e : has (domAt D' z) 0 with
    | false => rfl
    | true =>
      have := has_iff.2 ⟨g, hs.2 z hz.1 0 (has_iff.1 e).2⟩
      rw [this] at p; cases p
theorem abv_up (hx : Inn n x) (hz : Inn n z) : ∀ D D', Gd D → Gd D' → D.length = n → Sub D' D → above x z D = true → above x z D' = true := fun D D' h h' hl hs p => by
  have ex := ends_le h h' hl hs hx
  have ez := ends_le h h' hl hs hz
  unfold above at *
  simp only [decide_eq_true_eq] at *
  omega
theorem min_ok (hx : Inn n x) (hy : Inn n y) (hz : Inn n z) (hX : x ∈ X) (hY : y ∈ X) (hZ : z ∈ X) : Okp n X (minS x y z) := by
  refine thn_ok (cut_okp hz hZ ?_) (thn_ok (cut_okp hx hX ?_) (thn_ok (cut_okp hy hY ?_) (thn_ok (if_ok (abv_up hx hz) (cut_okp hy hY ?_)) (if_ok (abv_up hy hz) (cut_okp hx hX ?_)))))
  all_goals
    intro D D' h h' hl hs
    have ex := ends_le h h' hl hs hx
    have ey := ends_le h h' hl hs hy
    have ez := ends_le h h' hl hs hz
    omega
theorem max_ok (hx : Inn n x) (hy : Inn n y) (hz : Inn n z) (hX : x ∈ X) (hY : y ∈ X) (hZ : z ∈ X) : Okp n X (maxS x y z) := by
  refine thn_ok (cut_okp hz hZ ?_) (thn_ok (cut_okp hx hX ?_) (thn_ok (cut_okp hy hY ?_) (thn_ok (if_ok (abv_up hz hx) (cut_okp hy hY ?_)) (if_ok (abv_up hz hy) (cut_okp hx hX ?_)))))
  all_goals
    intro D D' h h' hl hs
    have ex := ends_le h h' hl hs hx
    have ey := ends_le h h' hl hs hy
    have ez := ends_le h h' hl hs hz
    omega
theorem cutF_okF {d : List Rn} {l h : Int} (hr : right d = true) : okF (max (-mx) l) (cut d l h) = true ∧ upto h (cut d l h) := by
  have e : cut d l h = cutF d l h := by unfold cut; rw [if_pos hr]
  rw [e]
  exact ⟨(cutF_ok (b := -mx) hr).1, upto_cut _ _ _⟩
theorem nea_ok {d : List Rn} {l m h : Int} (hr : right d = true) (hm : 0 < m) : right (nea d l m h) = true ∧ ∀ v, mem (nea d l m h) v ↔ mem d v ∧ (l ≤ v ∧ v ≤ -m ∨ m ≤ v ∧ v ≤ h) := by
  constructor
  · have h1 := cutF_okF (l := l) (h := -m) hr
    have h2 := cutF_okF (l := m) (h := h) hr
    by_cases c : -mx ≤ -m + 2
    · have h3 : okF (-mx) (cut d l (-m)) = true := okF_mono h1.1 (by omega)
      have h4 : okF (-m + 2) (cut d m h) = true := okF_mono h2.1 (by omega)
      exact okF_append h3 h1.2 h4 c
    · have e : cut d l (-m) = [] := not_mem_nil (cut_right _ _ _) fun v hv => by
        rw [(cut_ok _ _ _ hr).2] at hv
        have := mem_ge hr hv.1
        omega
      show okF (-mx) (cut d l (-m) ++ cut d m h) = true
      rw [e, List.nil_append]
      exact okF_mono h2.1 (by omega)
  · intro v
    unfold nea
    rw [mem_append, (cut_ok _ _ _ hr).2, (cut_ok _ _ _ hr).2]
    constructor
    · rintro (⟨a, b⟩ | ⟨a, b⟩)
      · exact ⟨a, .inl b⟩
      · exact ⟨a, .inr b⟩
    · rintro ⟨a, b | b⟩
      · exact .inl ⟨a, b⟩
      · exact .inr ⟨a, b⟩
theorem pos_up (hx : Inn n x) : ∀ D D', Gd D → Gd D' → D.length = n → Sub D' D → pos x D = true → pos x D' = true := fun D D' h h' hl hs p => by
  have ex := ends_le h h' hl hs hx
  unfold pos at *
  simp only [decide_eq_true_eq] at *
  omega
theorem ngt_up (hx : Inn n x) : ∀ D D', Gd D → Gd D' → D.length = n → Sub D' D → ngt x D = true → ngt x D' = true := fun D D' h h' hl hs p => by
  have ex := ends_le h h' hl hs hx
  unfold ngt at *
  simp only [decide_eq_true_eq] at *
  omega
theorem nea_okp (hx : Inn n x) (hy : Inn n y) (hX : x ∈ X) : Okp n X (ifS (pos y) (neaS x y)) := by
  constructor
  · intro D E h hl he
    unfold ifS at he
    by_cases p : pos y D = true
    · rw [if_pos p] at he
      have hm : 0 < L y D := by unfold pos at p; simpa using p
      have g := (h.at_ (x := x) (by rw [hl]; exact hx.2)).1
      obtain ⟨k1, k2⟩ := nea_ok (l := L x D) (m := L y D) (h := H x D) g hm
      unfold neaS putS at he
      dsimp only at he
      split at he
      · cases he
      · rename_i hne
        cases he
        refine ⟨Gd.set h k1 hne, ⟨by simp, fun t ht v hv => ?_⟩, fun t ht htX => ?_⟩
        · rw [domAt_set (by rw [hl]; exact hx.2)] at hv
          split at hv
          · rename_i e
            rw [show t = x by have := hx.1; omega]; exact ((k2 v).1 hv).1
          · exact hv
        · rw [domAt_set (by rw [hl]; exact hx.2), if_neg]
          intro e
          exact htX (by rw [show (t : Int) = x by have := hx.1; have : ((t : Int)).toNat = t := rfl; omega]; exact hX)
    · rw [if_neg p] at he; cases he; exact ⟨h, .refl _, fun _ _ _ => rfl⟩
  · intro D D' E' h h' hl hs he
    have hl' : D'.length = n := hs.1.trans hl
    have ex := ends_le h h' hl hs hx
    have ey := ends_le h h' hl hs hy
    have g := (h.at_ (x := x) (by rw [hl]; exact hx.2)).1
    have g' := (h'.at_ (x := x) (by rw [hl']; exact hx.2)).1
    unfold ifS at he ⊢
    by_cases p : pos y D = true
    · have p' := pos_up hy D D' h h' hl hs p
      have hm : 0 < L y D := by unfold pos at p; simpa using p
      have hm' : 0 < L y D' := by unfold pos at p'; simpa using p'
      rw [if_pos p'] at he
      rw [if_pos p]
      obtain ⟨k1, k2⟩ := nea_ok (l := L x D) (m := L y D) (h := H x D) g hm
      obtain ⟨k1', k2'⟩ := nea_ok (l := L x D') (m := L y D') (h := H x D') g' hm'
      have key : ∀ v, mem (nea (domAt D' x) (L x D') (L y D') (H x D')) v → mem (nea (domAt D x) (L x D) (L y D) (H x D)) v := fun v hv => by
        rw [k2'] at hv
        rw [k2]
        exact ⟨hs.2 x hx.1 v hv.1, by omega⟩
      unfold neaS putS at he ⊢
      dsimp only at he ⊢
      split at he
      · cases he
      · rename_i hne
        cases he
        obtain ⟨v, hv⟩ := mem_ex k1' hne
        rw [if_neg (fun e => by have := key v hv; rw [e] at this; exact this)]
        refine ⟨_, rfl, by simp [hs.1], fun t ht u hu => ?_⟩
        rw [domAt_set (by rw [hl']; exact hx.2)] at hu
        rw [domAt_set (by rw [hl]; exact hx.2)]
        split at hu
        · rename_i e; rw [if_pos e]; exact key u hu
        · rename_i e; rw [if_neg e]; exact hs.2 t ht u hu
    · rw [if_neg p]
      refine ⟨D, rfl, ?_⟩
      by_cases p' : pos y D' = true
      · rw [if_pos p'] at he
        have hm' : 0 < L y D' := by unfold pos at p'; simpa using p'
        obtain ⟨k1', k2'⟩ := nea_ok (l := L x D') (m := L y D') (h := H x D') g' hm'
        unfold neaS putS at he
        dsimp only at he
        split at he
        · cases he
        · cases he
          refine ⟨by simp [hs.1], fun t ht u hu => ?_⟩
          rw [domAt_set (by rw [hl']; exact hx.2)] at hu
          split at hu
          · rename_i e
            rw [show t = x by have := hx.1; omega]
            exact hs.2 x hx.1 u ((k2' u).1 hu).1
          · exact hs.2 t ht u hu
      · rw [if_neg p'] at he; cases he; exact hs
theorem abs_ok (hx : Inn n x) (hy : Inn n y) (hX : x ∈ X) (hY : y ∈ X) : Okp n X (absS x y) := by
  refine thn_ok (cut_okp hy hY ?_) (thn_ok (if_ok (pos_up hx) (cut_okp hy hY ?_)) (thn_ok (if_ok (ngt_up hx) (cut_okp hy hY ?_)) (thn_ok (cut_okp hx hX ?_) (nea_okp hx hy hX))))
  all_goals
    intro D D' h h' hl hs
    have ex := ends_le h h' hl hs hx
    have ey := ends_le h h' hl hs hy
    omega
theorem sam_ok (hx : Inn n x) (hy : Inn n y) (hX : x ∈ X) (hY : y ∈ X) : Okp n X (samS x y) := by
  have two : ∀ (D : Ln.Ds) (d : List Rn) (t : Int), D.length = n → 0 ≤ t → domAt ((D.set x.toNat d).set y.toNat d) t = if t = x ∨ t = y then d else domAt D t := fun D d t hl ht => by
    rw [domAt_set (by rw [List.length_set, hl]; exact hy.2), domAt_set (by rw [hl]; exact hx.2)]
    have := hx.1
    have := hy.1
    by_cases c : t.toNat = y.toNat
    · rw [if_pos c, if_pos (by omega)]
    · rw [if_neg c]
      by_cases c2 : t.toNat = x.toNat
      · rw [if_pos c2, if_pos (by omega)]
      · rw [if_neg c2, if_neg (by omega)]
  constructor
  · intro D E h hl he
    have g := (h.at_ (x := x) (by rw [hl]; exact hx.2)).1
    have g2 := (h.at_ (x := y) (by rw [hl]; exact hy.2)).1
    obtain ⟨k1, k2⟩ := meet_ok g g2
    unfold samS at he
    split at he
    · cases he
    · rename_i hne
      cases he
      refine ⟨Gd.set (Gd.set h k1 hne) k1 hne, ⟨by simp, fun t ht v hv => ?_⟩, fun t ht htX => ?_⟩
      · rw [two D _ t hl ht] at hv
        split at hv
        · rename_i e
          rcases e with rfl | rfl
          · exact ((k2 v).1 hv).1
          · exact ((k2 v).1 hv).2
        · exact hv
      · rw [two D _ (t : Int) hl (by omega), if_neg]
        rintro (e | e)
        · exact htX (e ▸ hX)
        · exact htX (e ▸ hY)
  · intro D D' E' h h' hl hs he
    have hl' : D'.length = n := hs.1.trans hl
    have g := (h.at_ (x := x) (by rw [hl]; exact hx.2)).1
    have g2 := (h.at_ (x := y) (by rw [hl]; exact hy.2)).1
    have g' := (h'.at_ (x := x) (by rw [hl']; exact hx.2)).1
    have g2' := (h'.at_ (x := y) (by rw [hl']; exact hy.2)).1
    have key : ∀ v, mem (meet (domAt D' x) (domAt D' y)) v → mem (meet (domAt D x) (domAt D y)) v := fun v hv => by
      rw [(meet_ok g' g2').2] at hv
      rw [(meet_ok g g2).2]
      exact ⟨hs.2 x hx.1 v hv.1, hs.2 y hy.1 v hv.2⟩
    unfold samS at he ⊢
    split at he
    · cases he
    · rename_i hne
      cases he
      obtain ⟨v, hv⟩ := mem_ex (meet_ok g' g2').1 hne
      rw [if_neg (fun e => by have := key v hv; rw [e] at this; exact this)]
      refine ⟨_, rfl, by simp [hs.1], fun t ht u hu => ?_⟩
      rw [two D' _ t hl' ht] at hu
      rw [two D _ t hl ht]
      split at hu
      · rename_i e; rw [if_pos e]; exact key u hu
      · rename_i e; rw [if_neg e]; exact hs.2 t ht u hu
end Go.Proofs.Ytalcgjkegohhgaa.At
