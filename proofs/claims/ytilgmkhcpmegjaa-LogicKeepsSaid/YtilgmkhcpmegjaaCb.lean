/- Layer 15 (logic), pure: no values for which it holds are lost; each truth value that is left is in some for wh -/
import Derived.Test.YtilgmkhcpmegjaaCa
namespace Go.Proofs.Ytilgmkhcpmegjaa.Lgc
set_option linter.unusedVariables false
set_option linter.unusedSimpArgs false
open Go.Proofs.Ytilgmkhcpmegjaa.Num Go.Proofs.Ytilgmkhcpmegjaa.Zs Go.Proofs.Ytilgmkhcpmegjaa.Sn Go.Proofs.Ytilgmkhcpmegjaa.Ln Go.Proofs.Ytilgmkhcpmegjaa.At
theorem bools_lk {α : Type} {k : Int} (hk : Lk k) (x : List α) : bools k x = x := by
  unfold Lk at hk; unfold bools; rw [if_neg (by omega), if_pos (by omega)]
theorem bits_of {c : Cn} {a : List Int} (h : asked c a = true) (hk : Lk c.k) : ∀ x ∈ c.x, valAt a x = 0 ∨ valAt a x = 1 := fun x hx => by
  unfold asked askV at h
  rw [bools_lk hk] at h
  simp only [Bool.and_eq_true] at h
  have := List.all_eq_true.1 h.2.2 (valAt a x) (List.mem_map.2 ⟨x, hx, rfl⟩)
  simp only [bit, Bool.and_eq_true, decide_eq_true_eq] at this
  omega
theorem bit_beq {p q : Prop} [Decidable p] [Decidable q] : ((decide p == decide q) = true) ↔ (p ↔ q) := by
  by_cases hp : p <;> by_cases hq : q <;> simp [hp, hq]
/-- what the kinds mean -/
theorem hv11 {c : Cn} {a : List Int} (k : c.k = 11) : holdV c.k (vals c.x a) c.a c.c = lits c.a (vals c.x a) := by
  unfold holdV; rw [k]; rfl
theorem hv_and {c : Cn} {a : List Int} (hx : c.x ≠ []) (hb : ∀ x ∈ c.x, valAt a x = 0 ∨ valAt a x = 1) {s : Int} (k : c.k = 12 ∧ s = 1 ∨ c.k = 13 ∧ s = 0) :
    holdV c.k (vals c.x a) c.a c.c = true ↔ (valAt a (flf c.x) = s ↔ ∀ y ∈ rst c.x, valAt a y = s) := by
  have hl : 0 < c.x.length := List.length_pos_iff.2 hx
  have e1 : lastV (vals c.x a) = valAt a (flf c.x) := by
    unfold lastV flf vals
    have hl2 : c.x.length - 1 < c.x.length := by omega
    simp [List.getD, hl2]
  have e2 : other (vals c.x a) = (rst c.x).map (valAt a) := by
    unfold other rst vals
    rw [List.length_map, List.map_take]
  have hf := hb _ (flf_mem hx)
  have hr : ∀ y ∈ rst c.x, valAt a y = 0 ∨ valAt a y = 1 := fun y hy => hb y (List.mem_of_mem_take hy)
  rcases k with ⟨k, rfl⟩ | ⟨k, rfl⟩
  · have e : holdV c.k (vals c.x a) c.a c.c = (flg (vals c.x a) == !(other (vals c.x a)).contains 0) := by unfold holdV; rw [k]; rfl
    rw [e, e2]
    unfold flg
    rw [e1]
    have e3 : (!((rst c.x).map (valAt a)).contains 0) = decide (∀ y ∈ rst c.x, valAt a y = 1) := by
      rw [Bool.eq_iff_iff]
      simp only [Bool.not_eq_true', List.contains_eq_mem, decide_eq_false_iff_not, List.mem_map, not_exists, not_and, decide_eq_true_eq]
      exact ⟨fun h y hy => by have := h y hy; have := hr y hy; omega, fun h y hy => by have := h y hy; omega⟩
    rw [e3]
    exact bit_beq
  · have e : holdV c.k (vals c.x a) c.a c.c = (flg (vals c.x a) == (other (vals c.x a)).contains 1) := by unfold holdV; rw [k]; rfl
    rw [e, e2]
    unfold flg
    rw [e1]
    have e3 : (((rst c.x).map (valAt a)).contains 1) = decide (¬ ∀ y ∈ rst c.x, valAt a y = 0) := by
      rw [Bool.eq_iff_iff]
      simp only [List.contains_eq_mem, List.mem_map, decide_eq_true_eq]
      constructor
      · rintro ⟨y, hy, e⟩ h; have := h y hy; omega
      · intro h
        apply Classical.byContradiction
        intro hn
        exact h fun y hy => by
          have := hr y hy
          rcases this with h0 | h1
          · exact h0
          · exact absurd ⟨y, hy, h1⟩ hn
    rw [e3]
    have : (valAt a (flf c.x) == 1) = decide (valAt a (flf c.x) = 1) := rfl
    rw [this, bit_beq]
    constructor
    · intro h
      constructor
      · intro h0; apply Classical.byContradiction; intro hn; have := h.2 hn; omega
      · intro ha; rcases hf with h0 | h1
        · exact h0
        · exact absurd ha (h.1 h1)
    · intro h
      constructor
      · intro h1 ha; have := h.2 ha; omega
      · intro hn; rcases hf with h0 | h1
        · exact absurd (h.1 h0) hn
        · exact h1
theorem hv14 {c : Cn} {a : List Int} {x y z : Int} (k : c.k = 14) (e : c.x = [x, y, z]) (hb : ∀ x ∈ c.x, valAt a x = 0 ∨ valAt a x = 1) :
    holdV c.k (vals c.x a) c.a c.c = true ↔ (valAt a x + valAt a y + valAt a z) % 2 = 0 := by
  have e0 : holdV c.k (vals c.x a) c.a c.c = (flg (vals c.x a) == ((vals c.x a).getD 0 0 != (vals c.x a).getD 1 0)) := by unfold holdV; rw [k]; rfl
  rw [e0, e]
  rw [e] at hb
  have h0 := hb x (by simp)
  have h1 := hb y (by simp)
  have h2 := hb z (by simp)
  simp only [vals, List.map_cons, List.map_nil, flg, lastV, List.length_cons, List.length_nil, List.getD, List.getElem?_cons_zero, List.getElem?_cons_succ, Option.getD_some]
  rcases h0 with h0 | h0 <;> rcases h1 with h1 | h1 <;> rcases h2 with h2 | h2 <;> simp [h0, h1, h2]
theorem three14 {ds : Ln.Ds} {c : Cn} (h : conOk ds c = true) (hk : c.k = 14) : ∃ x y z : Int, c.x = [x, y, z] := by
  obtain ⟨h1, h2, h3⟩ := con_x h
  have hl : c.x.length = 3 := by
    unfold shp at h3
    rw [if_neg (by omega), if_neg (by omega), if_pos (by omega)] at h3
    exact (of_decide_eq_true h3).1
  match c.x, hl with
  | [x, y, z], _ => exact ⟨x, y, z, rfl⟩
/-! values for which it holds -/
section
variable {a : List Int}
theorem sg_isv {x s : Int} (hx : Inn a.length x) : isv x s (sing a) = decide (valAt a x = s) := by
  obtain ⟨h1, h2⟩ := sg_lo hx
  unfold isv; rw [h1, h2]; simp
theorem sg_ope {x : Int} (hx : Inn a.length x) : ope x (sing a) = false := by
  obtain ⟨h1, h2⟩ := sg_lo hx
  rw [ope_no, h1, h2]
theorem setAll_fx (hg : Gd (sing a)) (s : Int) : ∀ {R : List Int}, (∀ x ∈ R, Inn a.length x ∧ valAt a x = s) → setAll R s (sing a) = some (sing a)
  | [], _ => rfl
  | x :: R, h => thn_fx (cut_fx hg (h x (by simp)).1 (by rw [(h x (by simp)).2]; exact Int.le_refl _) (by rw [(h x (by simp)).2]; exact Int.le_refl _)) (setAll_fx hg s fun y hy => h y (by simp [hy]))
theorem and_fx (hg : Gd (sing a)) {R : List Int} {f s : Int} (hR : ∀ x ∈ R, Inn a.length x) (hf : Inn a.length f) (hs : s = 0 ∨ s = 1) (hb : ∀ x ∈ R, valAt a x = 0 ∨ valAt a x = 1) (hbf : valAt a f = 0 ∨ valAt a f = 1)
    (h : valAt a f = s ↔ ∀ y ∈ R, valAt a y = s) : andS R f s (sing a) = some (sing a) := by
  refine thn_fx (thn_fx (if_fx fun p => ?_) (if_fx fun p => ?_)) (thn_fx (if_fx fun p => ?_) (if_fx fun p => ?_))
  · obtain ⟨x, hx, e⟩ := List.any_eq_true.1 p
    rw [sg_isv (hR x hx), decide_eq_true_eq] at e
    have : ¬ valAt a f = s := fun k => by have := h.1 k x hx; omega
    exact cut_fx hg hf (by omega) (by omega)
  · have : valAt a f = s := h.2 fun y hy => by
      have e := List.all_eq_true.1 p y hy
      rwa [sg_isv (hR y hy), decide_eq_true_eq] at e
    exact cut_fx hg hf (by omega) (by omega)
  · rw [sg_isv hf, decide_eq_true_eq] at p
    exact setAll_fx hg s fun x hx => ⟨hR x hx, h.1 p x hx⟩
  · rw [sg_isv hf, decide_eq_true_eq] at p
    have : ¬ ∀ y ∈ R, valAt a y = s := fun k => by have := h.2 k; omega
    obtain ⟨y, hy, e⟩ : ∃ y, y ∈ R ∧ valAt a y ≠ s := by
      apply Classical.byContradiction; intro hn
      exact this fun y hy => by
        apply Classical.byContradiction; intro hne
        exact hn ⟨y, hy, hne⟩
    refine clu_true (p := (y, 1 - s)) (List.mem_map.2 ⟨y, hy, rfl⟩) ?_
    rw [sg_isv (hR y hy), decide_eq_true_eq]
    have := hb y hy
    show valAt a y = 1 - s
    omega
end
theorem log_keeps {c : Cn} {ds : Ln.Ds} {a : List Int} (hm : modOk ⟨ds, [c], 0, 0⟩ = true) (hk : Lk c.k) (w : Wi ds a) (hh : holds c a = true) :
    ∃ E, logL c.k c.x c.a ds = some E ∧ ∀ y : Int, 0 ≤ y → y.toNat < ds.length → mem (domAt E y) (valAt a y) := by
  obtain ⟨m1, m2, m3⟩ := mod_parts hm
  obtain ⟨g, s⟩ := wi_sing m1 w
  obtain ⟨h1, h2, h3⟩ := con_x m3
  have hI : ∀ y ∈ c.x, Inn a.length y := by rw [w.1]; exact inn_all h1
  have hO : Okp a.length c.x (logL c.k c.x c.a) := by rw [w.1]; exact log_ok m3 hk
  unfold holds at hh
  rw [Bool.and_eq_true] at hh
  have hb := bits_of hh.1 hk
  have hv := hh.2
  have key : logL c.k c.x c.a (sing a) = some (sing a) := by
    rcases lk4 hk with k | k | k | k
    · rw [hv11 k] at hv
      rw [l11 _ _ _ k]
      obtain ⟨p, hp, e⟩ := List.any_eq_true.1 hv
      obtain ⟨i, hi, e2⟩ := List.mem_iff_getElem.1 hp
      have hi1 : i < c.a.length := by have := hi; simp at this; omega
      have hi2 : i < c.x.length := by have := hi; simp [vals] at this; omega
      have e3 : p = (c.a[i], valAt a c.x[i]) := by rw [← e2]; simp [vals]
      have hq : (c.x[i], tr c.a[i]) ∈ cluP c.x c.a := by
        refine List.mem_iff_getElem.2 ⟨i, by simp [cluP]; omega, by simp [cluP]⟩
      refine clu_true hq ?_
      have hx := List.getElem_mem hi2
      rw [sg_isv (hI _ hx), decide_eq_true_eq]
      rw [e3] at e
      have b := hb _ hx
      unfold litE at e
      show valAt a c.x[i] = tr c.a[i]
      unfold tr
      dsimp only at e
      by_cases c1 : c.a[i] = 1
      · rw [if_pos c1]; rcases b with b | b
        · rw [c1, b] at e; simp at e
        · exact b
      · rw [if_neg c1]; rcases b with b | b
        · exact b
        · rw [b] at e; simp [c1] at e
    · have hn := and_ne m3 (.inl k)
      rw [hv_and hn hb (s := 1) (.inl ⟨k, rfl⟩)] at hv
      rw [l12 _ _ _ k]
      exact and_fx g (fun x hx => hI x (List.mem_of_mem_take hx)) (hI _ (flf_mem hn)) (.inr rfl) (fun x hx => hb x (List.mem_of_mem_take hx)) (hb _ (flf_mem hn)) hv
    · have hn := and_ne m3 (.inr k)
      rw [hv_and hn hb (s := 0) (.inr ⟨k, rfl⟩)] at hv
      rw [l13 _ _ _ k]
      exact and_fx g (fun x hx => hI x (List.mem_of_mem_take hx)) (hI _ (flf_mem hn)) (.inl rfl) (fun x hx => hb x (List.mem_of_mem_take hx)) (hb _ (flf_mem hn)) hv
    · obtain ⟨x, y, z, e⟩ := three14 m3 k
      rw [hv14 k e hb] at hv
      rw [l14 _ _ _ k, e]
      rw [e] at hI hb
      have i0 := hI x (by simp)
      have i1 := hI y (by simp)
      have i2 := hI z (by simp)
      have b0 := hb x (by simp)
      have b1 := hb y (by simp)
      have b2 := hb z (by simp)
      unfold xorS
      rw [if_pos (by simp only [bitS, List.all_cons, List.all_nil, sg_ope i0, sg_ope i1, sg_ope i2, (sg_lo i0).1, (sg_lo i1).1, (sg_lo i2).1]; simp [b0, b1, b2])]
      unfold xorW
      rw [filt_nil (by intro q hq; simp at hq; rcases hq with rfl | rfl | rfl <;> first | exact sg_ope i0 | exact sg_ope i1 | exact sg_ope i2)]
      dsimp only
      rw [if_pos]
      simp only [odd, cnt1, List.countP_cons, List.countP_nil, sg_isv i0, sg_isv i1, sg_isv i2, decide_eq_true_eq]
      rcases b0 with b0 | b0 <;> rcases b1 with b1 | b1 <;> rcases b2 with b2 | b2 <;> simp [b0, b1, b2] at hv ⊢
  obtain ⟨E, hE, hs⟩ := (log_ok m3 hk).mo ds (sing a) (sing a) m1 g rfl s key
  refine ⟨E, hE, fun y hy hl => hs.2 y hy _ ?_⟩
  rw [sing_at (by rw [w.1]; exact hl), Ln.mem_one]
theorem tru_of {ds : Ln.Ds} {c : Cn} (h : conOk ds c = true) (hk : Lk c.k) : ∀ x ∈ c.x, tru (domAt ds x) = true := by
  simp only [conOk, Bool.and_eq_true] at h
  obtain ⟨⟨h1, h2⟩, h3⟩ := h
  rw [bools_lk hk] at h3
  exact List.all_eq_true.1 h3
theorem sml_lk {D C : Ln.Ds} {c : Cn} (h : modOk ⟨D, [c], 0, 0⟩ = true) (hk : Lk c.k) (hl : C.length = D.length) : modOk ⟨sml D C, [c], 0, 0⟩ = true := by
  obtain ⟨m1, m2, m3⟩ := mod_parts h
  obtain ⟨s1, s2⟩ := sml_ok m1 hl
  have ht := tru_of m3 hk
  obtain ⟨x1, x2, x3⟩ := con_x m3
  have hI := inn_all x1
  simp only [modOk, Bool.and_eq_true, decide_eq_true_eq, List.all_cons, List.all_nil, Bool.and_true] at h ⊢
  obtain ⟨⟨⟨⟨h1, h2⟩, h3⟩, h4⟩, h5⟩ := h
  refine ⟨⟨⟨⟨by rw [s2.1]; exact h1, h2⟩, ?_⟩, ?_⟩, h5⟩
  · rw [List.all_eq_true]
    intro d hd
    have := s1 d hd
    simp [domOk, this.1, List.length_pos_iff, this.2]
  · unfold conOk at h4 ⊢
    rw [bools_lk hk] at h4 ⊢
    simp only [Bool.and_eq_true] at h4 ⊢
    refine ⟨⟨h4.1.1, by rw [s2.1]; exact h4.1.2⟩, List.all_eq_true.2 fun x hx => ?_⟩
    have e := ends_le (n := D.length) m1 s1 rfl s2 (hI x hx)
    have t := ht x hx
    unfold tru at t ⊢
    simp only [Bool.and_eq_true, decide_eq_true_eq] at t ⊢
    have hne := (s1.at_ (x := x) (by rw [s2.1]; exact (hI x hx).2)).2
    have hp := List.length_pos_iff.2 hne
    unfold L H lo hi at e
    omega
end Go.Proofs.Ytilgmkhcpmegjaa.Lgc
