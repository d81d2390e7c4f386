/- Layer 14 (arith), pure: what is left, whatever the kind: smaller domains, values for which it holds, the last  -/
import Derived.Test.YtalcgjkegohhgaaQb
namespace Go.Proofs.Ytalcgjkegohhgaa.At
set_option linter.unusedVariables false
set_option linter.unusedSimpArgs false
open Go.Proofs.Ytalcgjkegohhgaa.Num Go.Proofs.Ytalcgjkegohhgaa.Zs Go.Proofs.Ytalcgjkegohhgaa.Sn Go.Proofs.Ytalcgjkegohhgaa.Ln
theorem con_x {ds : Ln.Ds} {c : Cn} (h : conOk ds c = true) : c.x.all (isV ds.length) = true ∧ c.x.length ≤ 32 ∧ shp c.k c.x.length c.a.length = true := by
  simp only [conOk, numOk, Bool.and_eq_true, decide_eq_true_eq] at h
  obtain ⟨⟨⟨⟨⟨⟨⟨h1, h2⟩, h3⟩, h4⟩, h5⟩, h6⟩, h7⟩, h8⟩ := h
  exact ⟨h7, h3, h1⟩
theorem three_of {ds : Ln.Ds} {c : Cn} (h : conOk ds c = true) (hk : c.k = 7 ∨ c.k = 8 ∨ c.k = 9) : ∃ x y z : Nat, c.x = [(x : Int), (y : Int), (z : Int)] ∧ x < ds.length ∧ y < ds.length ∧ z < ds.length := by
  obtain ⟨h1, h2, h3⟩ := con_x h
  have hl : c.x.length = 3 := by
    unfold shp at h3
    rw [if_neg (by omega), if_neg (by omega), if_pos (by omega)] at h3
    exact (of_decide_eq_true h3).1
  obtain ⟨x, e0, l0⟩ := isV_at h1 (k := 0) (by omega)
  obtain ⟨y, e1, l1⟩ := isV_at h1 (k := 1) (by omega)
  obtain ⟨z, e2, l2⟩ := isV_at h1 (k := 2) (by omega)
  refine ⟨x, y, z, List.ext_getElem (by simpa using hl) fun i h1 h2 => ?_, l0, l1, l2⟩
  simp at h2
  rcases (show i = 0 ∨ i = 1 ∨ i = 2 by omega) with rfl | rfl | rfl
  · simpa using e0
  · simpa using e1
  · simpa using e2
theorem two_of {ds : Ln.Ds} {c : Cn} (h : conOk ds c = true) (hk : c.k = 10 ∨ c.k = 15) : ∃ x y : Nat, c.x = [(x : Int), (y : Int)] ∧ x < ds.length ∧ y < ds.length := by
  obtain ⟨h1, h2, h3⟩ := con_x h
  have hl : c.x.length = 2 := by
    unfold shp at h3
    rw [if_neg (by omega), if_neg (by omega), if_neg (by omega), if_pos (by omega)] at h3
    exact (of_decide_eq_true h3).1
  obtain ⟨x, e0, l0⟩ := isV_at h1 (k := 0) (by omega)
  obtain ⟨y, e1, l1⟩ := isV_at h1 (k := 1) (by omega)
  refine ⟨x, y, List.ext_getElem (by simpa using hl) fun i h1 h2 => ?_, l0, l1⟩
  simp at h2
  rcases (show i = 0 ∨ i = 1 by omega) with rfl | rfl
  · simpa using e0
  · simpa using e1
theorem inN {n x : Nat} (h : x < n) : Inn n (x : Int) := ⟨by omega, by simpa using h⟩
theorem ak5 {k : Int} (h : Ak k) : k = 7 ∨ k = 8 ∨ k = 9 ∨ k = 10 ∨ k = 15 := by unfold Ak at h; omega
theorem l7 (k : Int) (x : List Int) (h : k = 7) : ariL k x = timS (v0 x) (v1 x) (v2 x) := by rw [ariL, if_pos h]
theorem l8 (k : Int) (x : List Int) (h : k = 8) : ariL k x = minS (v0 x) (v1 x) (v2 x) := by rw [ariL, if_neg (by omega), if_pos h]
theorem l9 (k : Int) (x : List Int) (h : k = 9) : ariL k x = maxS (v0 x) (v1 x) (v2 x) := by rw [ariL, if_neg (by omega), if_neg (by omega), if_pos h]
theorem l10 (k : Int) (x : List Int) (h : k = 10) : ariL k x = absS (v0 x) (v1 x) := by rw [ariL, if_neg (by omega), if_neg (by omega), if_neg (by omega), if_pos h]
theorem l15 (k : Int) (x : List Int) (h : k = 15) : ariL k x = samS (v0 x) (v1 x) := by rw [ariL, if_neg (by omega), if_neg (by omega), if_neg (by omega), if_neg (by omega)]
theorem v0c (x : Int) (l : List Int) : v0 (x :: l) = x := rfl
theorem v1c (x y : Int) (l : List Int) : v1 (x :: y :: l) = y := rfl
theorem v2c (x y z : Int) (l : List Int) : v2 (x :: y :: z :: l) = z := rfl
theorem ari_ok {ds : Ln.Ds} {c : Cn} (h : conOk ds c = true) (hk : Ak c.k) : Okp ds.length c.x (ariL c.k c.x) := by
  rcases ak5 hk with k | k | k | k | k
  · obtain ⟨x, y, z, e, hx, hy, hz⟩ := three_of h (.inl k)
    rw [l7 _ _ k, e]
    exact tim_ok (inN hx) (inN hy) (inN hz) (by simp [v0]) (by simp [v1]) (by simp [v2])
  · obtain ⟨x, y, z, e, hx, hy, hz⟩ := three_of h (.inr (.inl k))
    rw [l8 _ _ k, e]
    exact min_ok (inN hx) (inN hy) (inN hz) (by simp [v0]) (by simp [v1]) (by simp [v2])
  · obtain ⟨x, y, z, e, hx, hy, hz⟩ := three_of h (.inr (.inr k))
    rw [l9 _ _ k, e]
    exact max_ok (inN hx) (inN hy) (inN hz) (by simp [v0]) (by simp [v1]) (by simp [v2])
  · obtain ⟨x, y, e, hx, hy⟩ := two_of h (.inl k)
    rw [l10 _ _ k, e]
    exact abs_ok (inN hx) (inN hy) (by simp [v0]) (by simp [v1])
  · obtain ⟨x, y, e, hx, hy⟩ := two_of h (.inr k)
    rw [l15 _ _ k, e]
    exact sam_ok (inN hx) (inN hy) (by simp [v0]) (by simp [v1])
theorem len_two {ds : Ln.Ds} {c : Cn} (h : conOk ds c = true) (hk : Ak c.k) : 2 ≤ c.x.length := by
  rcases ak5 hk with k | k | k | k | k
  · obtain ⟨x, y, z, e, -⟩ := three_of h (.inl k); rw [e]; simp
  · obtain ⟨x, y, z, e, -⟩ := three_of h (.inr (.inl k)); rw [e]; simp
  · obtain ⟨x, y, z, e, -⟩ := three_of h (.inr (.inr k)); rw [e]; simp
  · obtain ⟨x, y, e, -⟩ := two_of h (.inl k); rw [e]; simp
  · obtain ⟨x, y, e, -⟩ := two_of h (.inr k); rw [e]; simp
theorem sml_ak {D C : Ln.Ds} {c : Cn} (h : modOk ⟨D, [c], 0, 0⟩ = true) (hk : Ak c.k) (hl : C.length = D.length) : modOk ⟨sml D C, [c], 0, 0⟩ = true := by
  obtain ⟨m1, m2, m3⟩ := mod_parts h
  obtain ⟨s1, s2⟩ := sml_ok m1 hl
  have hbo : ∀ x : List Int, bools c.k x = [] := fun x => by unfold Ak at hk; unfold bools; rw [if_neg (by omega), if_neg (by omega)]
  simp only [modOk, Bool.and_eq_true, decide_eq_true_eq, List.all_cons, List.all_nil, Bool.and_true] at h ⊢
  obtain ⟨⟨⟨⟨h1, h2⟩, h3⟩, h4⟩, h5⟩ := h
  refine ⟨⟨⟨⟨by rw [s2.1]; exact h1, h2⟩, ?_⟩, ?_⟩, h5⟩
  · rw [List.all_eq_true]
    intro d hd
    have := s1 d hd
    simp [domOk, this.1, List.length_pos_iff, this.2]
  · unfold conOk at h4 ⊢
    rw [hbo] at h4 ⊢
    rw [s2.1]
    exact h4
/-! values for which it holds -/
section
variable {a : List Int} {n : Nat}
theorem sg_lo {x : Int} (hx : Inn a.length x) : L x (sing a) = valAt a x ∧ H x (sing a) = valAt a x := by
  unfold L H; rw [sing_at hx.2]; exact ⟨rfl, rfl⟩
theorem fx_of {X : List Int} {f : St} (hg : Gd (sing a)) (h : Okp a.length X f) (hn : f (sing a) ≠ none) : f (sing a) = some (sing a) := by
  cases e : f (sing a) with
  | none => exact absurd e hn
  | some E =>
    obtain ⟨h1, h2, -⟩ := h.ok _ _ hg (by simp [sing]) e
    rw [gd_sing hg h1 h2]
theorem sg_mem {x : Int} (hx : Inn a.length x) : mem (domAt (sing a) x) (valAt a x) := by rw [sing_at hx.2, Ln.mem_one]
theorem sg_rt (hg : Gd (sing a)) {x : Int} (hx : Inn a.length x) : right (domAt (sing a) x) = true := (hg.at_ (x := x) (by simpa [sing] using hx.2)).1
theorem put_ne {x : Int} {F : Ln.Ds → List Rn} {D : Ln.Ds} {v : Int} (h : mem (F D) v) : putS x F D ≠ none := by
  unfold putS
  split
  · rename_i e; rw [e] at h; exact h.elim
  · simp
theorem cut_fx (hg : Gd (sing a)) {x : Int} (hx : Inn a.length x) {l u : Ln.Ds → Int} (h1 : l (sing a) ≤ valAt a x) (h2 : valAt a x ≤ u (sing a)) : cutS x l u (sing a) = some (sing a) := by
  have e : cutS x l u (sing a) = cutS x (fun _ => l (sing a)) (fun _ => u (sing a)) (sing a) := rfl
  rw [e]
  refine fx_of hg (cut_okp (X := [x]) hx (by simp) fun _ _ _ _ _ _ => ⟨Int.le_refl _, Int.le_refl _⟩) (put_ne (v := valAt a x) ?_)
  rw [(cut_ok _ _ _ (sg_rt hg hx)).2]
  exact ⟨sg_mem hx, h1, h2⟩
theorem los_fx (hg : Gd (sing a)) {x : Int} (hx : Inn a.length x) (h : valAt a x ≠ 0) : losS x (sing a) = some (sing a) := by
  refine fx_of hg (los_ok (X := [x]) hx (by simp)) (put_ne (v := valAt a x) ?_)
  rw [(without_ok _ _ (sg_rt hg hx)).2]
  exact ⟨sg_mem hx, h⟩
theorem if_fx {P : Ln.Ds → Bool} {f : St} {D : Ln.Ds} (h : P D = true → f D = some D) : ifS P f D = some D := by
  unfold ifS
  split
  · rename_i p; exact h p
  · rfl
theorem thn_fx {f g : St} {D : Ln.Ds} (h : f D = some D) (k : g D = some D) : thn f g D = some D := by unfold thn; rw [h]; exact k
theorem val_bw (hg : Gd (sing a)) {x : Int} (hx : Inn a.length x) : Bw (valAt a x) := by
  have := mem_ge (sg_rt hg hx) (sg_mem hx)
  simp only [mx] at this
  exact this
theorem fac_fx (hg : Gd (sing a)) {x y z : Int} (hx : Inn a.length x) (hy : Inn a.length y) (hz : Inn a.length z) (h : valAt a x * valAt a y = valAt a z) : facS x y z (sing a) = some (sing a) := by
  refine if_fx fun p => ?_
  rw [awy_iff, (sg_lo hy).1, (sg_lo hy).2] at p
  have bz := val_bw hg hz
  unfold Bw at bz
  have c := (ce_iff (n := valAt a z) (m := valAt a y) (v := valAt a x) (by omega) (by omega) (by omega)).2 ⟨fun _ => by omega, fun _ => by omega⟩
  have f := (fl_iff (n := valAt a z) (m := valAt a y) (v := valAt a x) (by omega) (by omega)).2 ⟨fun _ => by omega, fun _ => by omega⟩
  refine cut_fx hg hx ?_ ?_
  · unfold mnP; rw [(sg_lo hy).1, (sg_lo hy).2, (sg_lo hz).1, (sg_lo hz).2]; unfold mn4; omega
  · unfold mxP; rw [(sg_lo hy).1, (sg_lo hy).2, (sg_lo hz).1, (sg_lo hz).2]; unfold mx4; omega
theorem tim_fx (hg : Gd (sing a)) {x y z : Int} (hx : Inn a.length x) (hy : Inn a.length y) (hz : Inn a.length z) (h : valAt a x * valAt a y = valAt a z) : timS x y z (sing a) = some (sing a) := by
  refine thn_fx (cut_fx hg hz ?_ ?_) (thn_fx (if_fx fun p => ?_) (thn_fx (fac_fx hg hx hy hz h) (fac_fx hg hy hx hz (by rw [Int.mul_comm]; exact h))))
  · unfold mnP; rw [(sg_lo hx).1, (sg_lo hx).2, (sg_lo hy).1, (sg_lo hy).2]; dsimp only; rw [h]; unfold mn4; omega
  · unfold mxP; rw [(sg_lo hx).1, (sg_lo hx).2, (sg_lo hy).1, (sg_lo hy).2]; dsimp only; rw [h]; unfold mx4; omega
  · have hz0 : valAt a z ≠ 0 := fun e => by
      unfold no0 at p
      have : has (domAt (sing a) z) 0 = true := has_iff.2 ⟨sg_rt hg hz, by rw [← e]; exact sg_mem hz⟩
      rw [this] at p; cases p
    have hx0 : valAt a x ≠ 0 := fun e => hz0 (by rw [← h, e, Int.zero_mul])
    have hy0 : valAt a y ≠ 0 := fun e => hz0 (by rw [← h, e, Int.mul_zero])
    exact thn_fx (los_fx hg hx hx0) (los_fx hg hy hy0)
theorem min_fx (hg : Gd (sing a)) {x y z : Int} (hx : Inn a.length x) (hy : Inn a.length y) (hz : Inn a.length z) (h : min (valAt a x) (valAt a y) = valAt a z) : minS x y z (sing a) = some (sing a) := by
  have ex := sg_lo hx
  have ey := sg_lo hy
  have ez := sg_lo hz
  refine thn_fx (cut_fx hg hz (by rw [ex.1, ey.1]; omega) (by rw [ex.2, ey.2]; omega)) (thn_fx (cut_fx hg hx (by rw [ez.1]; omega) (by rw [ex.2]; omega)) (thn_fx (cut_fx hg hy (by rw [ez.1]; omega) (by rw [ey.2]; omega)) (thn_fx (if_fx fun p => cut_fx hg hy (by rw [ey.1]; omega) ?_) (if_fx fun p => cut_fx hg hx (by rw [ex.1]; omega) ?_))))
  all_goals
    unfold above at p
    simp only [decide_eq_true_eq] at p
    omega
theorem max_fx (hg : Gd (sing a)) {x y z : Int} (hx : Inn a.length x) (hy : Inn a.length y) (hz : Inn a.length z) (h : max (valAt a x) (valAt a y) = valAt a z) : maxS x y z (sing a) = some (sing a) := by
  have ex := sg_lo hx
  have ey := sg_lo hy
  have ez := sg_lo hz
  refine thn_fx (cut_fx hg hz (by rw [ex.1, ey.1]; omega) (by rw [ex.2, ey.2]; omega)) (thn_fx (cut_fx hg hx (by rw [ex.1]; omega) (by rw [ez.2]; omega)) (thn_fx (cut_fx hg hy (by rw [ey.1]; omega) (by rw [ez.2]; omega)) (thn_fx (if_fx fun p => cut_fx hg hy ?_ (by rw [ey.2]; omega)) (if_fx fun p => cut_fx hg hx ?_ (by rw [ex.2]; omega)))))
  all_goals
    unfold above at p
    simp only [decide_eq_true_eq] at p
    omega
theorem abs_fx (hg : Gd (sing a)) {x y : Int} (hx : Inn a.length x) (hy : Inn a.length y) (h : max (valAt a x) (-valAt a x) = valAt a y) : absS x y (sing a) = some (sing a) := by
  have ex := sg_lo hx
  have ey := sg_lo hy
  refine thn_fx (cut_fx hg hy (by omega) (by rw [ex.1, ex.2]; omega)) (thn_fx (if_fx fun p => cut_fx hg hy (by rw [ex.1]; omega) (by rw [ey.2]; omega)) (thn_fx (if_fx fun p => cut_fx hg hy ?_ (by rw [ey.2]; omega)) (thn_fx (cut_fx hg hx (by rw [ey.2]; omega) (by rw [ey.2]; omega)) ?_)))
  · unfold ngt at p
    simp only [decide_eq_true_eq] at p
    omega
  · refine fx_of hg (nea_okp (X := [x]) hx hy (by simp)) ?_
    unfold ifS
    split
    · rename_i p
      unfold pos at p
      simp only [decide_eq_true_eq] at p
      refine put_ne (v := valAt a x) ?_
      rw [(nea_ok (sg_rt hg hx) p).2]
      exact ⟨sg_mem hx, by rw [ex.1, ex.2, ey.1]; omega⟩
    · simp
theorem sam_fx (hg : Gd (sing a)) {x y : Int} (hx : Inn a.length x) (hy : Inn a.length y) (h : valAt a x = valAt a y) : samS x y (sing a) = some (sing a) := by
  refine fx_of hg (sam_ok (X := [x, y]) hx hy (by simp) (by simp)) ?_
  unfold samS
  split
  · rename_i e
    have := ((meet_ok (sg_rt hg hx) (sg_rt hg hy)).2 (valAt a x)).2 ⟨sg_mem hx, by rw [h]; exact sg_mem hy⟩
    rw [e] at this; exact this.elim
  · simp
end
theorem ari_keeps {c : Cn} {ds : Ln.Ds} {a : List Int} (hm : modOk ⟨ds, [c], 0, 0⟩ = true) (hk : Ak c.k) (w : Wi ds a) (hh : holds c a = true) :
    ∃ E, ariL c.k c.x ds = some E ∧ ∀ y : Int, 0 ≤ y → y.toNat < ds.length → mem (domAt E y) (valAt a y) := by
  obtain ⟨m1, m2, m3⟩ := mod_parts hm
  obtain ⟨g, s⟩ := wi_sing m1 w
  have key : ariL c.k c.x (sing a) = some (sing a) := by
    unfold holds at hh
    rw [Bool.and_eq_true] at hh
    have hv := hh.2
    unfold holdV at hv
    have hl := w.1
    rcases ak5 hk with k | k | k | k | k
    · obtain ⟨x, y, z, e, hx, hy, hz⟩ := three_of m3 (.inl k)
      rw [← hl] at hx hy hz
      repeat rw [if_neg (by omega)] at hv
      rw [if_pos k, e] at hv
      rw [l7 _ _ k, e]
      rw [v0c, v1c, v2c]
      exact tim_fx g (inN hx) (inN hy) (inN hz) (by simpa [vals] using hv)
    · obtain ⟨x, y, z, e, hx, hy, hz⟩ := three_of m3 (.inr (.inl k))
      rw [← hl] at hx hy hz
      repeat rw [if_neg (by omega)] at hv
      rw [if_pos k, e] at hv
      rw [l8 _ _ k, e]
      rw [v0c, v1c, v2c]
      exact min_fx g (inN hx) (inN hy) (inN hz) (by simpa [vals] using hv)
    · obtain ⟨x, y, z, e, hx, hy, hz⟩ := three_of m3 (.inr (.inr k))
      rw [← hl] at hx hy hz
      repeat rw [if_neg (by omega)] at hv
      rw [if_pos k, e] at hv
      rw [l9 _ _ k, e]
      rw [v0c, v1c, v2c]
      exact max_fx g (inN hx) (inN hy) (inN hz) (by simpa [vals] using hv)
    · obtain ⟨x, y, e, hx, hy⟩ := two_of m3 (.inl k)
      rw [← hl] at hx hy
      repeat rw [if_neg (by omega)] at hv
      rw [if_pos k, e] at hv
      rw [l10 _ _ k, e]
      rw [v0c, v1c]
      exact abs_fx g (inN hx) (inN hy) (by simpa [vals] using hv)
    · obtain ⟨x, y, e, hx, hy⟩ := two_of m3 (.inr k)
      rw [← hl] at hx hy
      repeat rw [if_neg (by omega)] at hv
      rw [if_pos k, e] at hv
      rw [l15 _ _ k, e]
      rw [v0c, v1c]
      exact sam_fx g (inN hx) (inN hy) (by simpa [vals] using hv)
  obtain ⟨E, hE, hs⟩ := (ari_ok m3 hk).mo ds (sing a) (sing a) m1 g rfl s key
  refine ⟨E, hE, fun y hy hl => hs.2 y hy _ ?_⟩
  rw [sing_at (by rw [w.1]; exact hl), Ln.mem_one]
/-! the last variable is decided -/
theorem thn_ex {f g : St} {D E : Ln.Ds} (h : thn f g D = some E) : ∃ D1, f D = some D1 ∧ g D1 = some E := by
  unfold thn at h
  cases e : f D with
  | none => rw [e] at h; cases h
  | some D1 => rw [e] at h; exact ⟨D1, rfl, h⟩
theorem cut_mem {n : Nat} {x : Int} {l u : Ln.Ds → Int} {D D1 : Ln.Ds} (h : Gd D) (hl : D.length = n) (hx : Inn n x) (he : cutS x l u D = some D1) : ∀ v, mem (domAt D1 x) v → l D ≤ v ∧ v ≤ u D := fun v hv => by
  unfold cutS putS at he
  dsimp only at he
  split at he
  · cases he
  · cases he
    rw [domAt_set (by rw [hl]; exact hx.2), if_pos rfl, (cut_ok _ _ _ (h.at_ (x := x) (by rw [hl]; exact hx.2)).1).2] at hv
    exact hv.2
theorem fix_of {n : Nat} {E : Ln.Ds} (g : Gd E) (hl : E.length = n) {z : Int} (hz : Inn n z) {p : Int} (h : ∀ v, mem (domAt E z) v → v = p) : lo (domAt E z) = hi (domAt E z) := by
  have k := g.at_ (x := z) (by rw [hl]; exact hz.2)
  rw [h _ (lo_mem k.1 k.2), h _ (hi_mem _ k.1 k.2)]
theorem ari_decides {ds E : Ln.Ds} {c : Cn} (h : Gd ds) (m3 : conOk ds c = true) (hk : Ak c.k) (hf : ∀ y ∈ c.x.take (c.x.length - 1), lo (domAt ds y) = hi (domAt ds y)) (he : ariL c.k c.x ds = some E) :
    lo (domAt E (c.x.getD (c.x.length - 1) 0)) = hi (domAt E (c.x.getD (c.x.length - 1) 0)) := by
  obtain ⟨gE, sE, -⟩ := (ari_ok m3 hk).ok _ _ h rfl he
  rcases ak5 hk with k | k | k | k | k
  · obtain ⟨x, y, z, e, hx, hy, hz⟩ := three_of m3 (.inl k)
    rw [l7 _ _ k, e] at he
    rw [v0c, v1c, v2c] at he
    rw [e] at hf ⊢
    have fx : L x ds = H x ds := hf x (by simp)
    have fy : L y ds = H y ds := hf y (by simp)
    obtain ⟨D1, h1, h2⟩ := thn_ex he
    have o1 := (cut_okp (n := ds.length) (X := [(z : Int)]) (inN hz) (by simp) fun _ _ _ _ _ _ => ⟨Int.le_refl _, Int.le_refl _⟩).ok _ _ h rfl (show cutS (z : Int) (fun _ => mnP (· * ·) x y ds) (fun _ => mxP (· * ·) x y ds) ds = some D1 from h1)
    have o2 := ((thn_ok (if_ok (n := ds.length) (X := [(x : Int), y, z]) (fun D D' h h' hl hs p => by
        unfold no0 at p ⊢
        have g := (h.at_ (x := z) (by rw [hl]; simpa using hz)).1
        cases e : has (domAt D' z) 0 with
        | false => rfl
        | true =>
          have := has_iff.2 ⟨g, hs.2 z (by omega) 0 (has_iff.1 e).2⟩
          rw [this] at p; cases p) (thn_ok (los_ok (inN hx) (by simp)) (los_ok (inN hy) (by simp)))) (thn_ok (fac_ok (inN hx) (inN hy) (inN hz) (by simp)) (fac_ok (inN hy) (inN hx) (inN hz) (by simp)))).ok _ _ o1.1 o1.2.1.1 h2).2.1
    have cm := cut_mem h rfl (inN hz) h1
    refine fix_of gE sE.1 (inN hz) (p := L x ds * L y ds) fun v hv => ?_
    have := cm v (o2.2 z (by omega) v hv)
    unfold mnP mxP at this
    dsimp only at this
    rw [← fx, ← fy] at this
    unfold mn4 mx4 at this
    omega
  · obtain ⟨x, y, z, e, hx, hy, hz⟩ := three_of m3 (.inr (.inl k))
    rw [l8 _ _ k, e] at he
    rw [v0c, v1c, v2c] at he
    rw [e] at hf ⊢
    have fx : L x ds = H x ds := hf x (by simp)
    have fy : L y ds = H y ds := hf y (by simp)
    obtain ⟨D1, h1, h2⟩ := thn_ex he
    have o1 := (cut_okp (n := ds.length) (X := [(z : Int)]) (inN hz) (by simp) fun _ _ _ _ _ _ => ⟨Int.le_refl _, Int.le_refl _⟩).ok _ _ h rfl (show cutS (z : Int) (fun _ => min (L x ds) (L y ds)) (fun _ => min (H x ds) (H y ds)) ds = some D1 from h1)
    have o2 := ((thn_ok (n := ds.length) (X := [(x : Int), y, z]) (cut_okp (inN hx) (by simp) ?_) (thn_ok (cut_okp (inN hy) (by simp) ?_) (thn_ok (if_ok (abv_up (inN hx) (inN hz)) (cut_okp (inN hy) (by simp) ?_)) (if_ok (abv_up (inN hy) (inN hz)) (cut_okp (inN hx) (by simp) ?_))))).ok _ _ o1.1 o1.2.1.1 h2).2.1
    have cm := cut_mem h rfl (inN hz) h1
    refine fix_of gE sE.1 (inN hz) (p := min (L x ds) (L y ds)) fun v hv => ?_
    · have := cm v (o2.2 z (by omega) v hv)
      omega
    all_goals
      intro D D' h h' hl hs
      have ex := ends_le h h' hl hs (inN hx)
      have ey := ends_le h h' hl hs (inN hy)
      have ez := ends_le h h' hl hs (inN hz)
      omega
  · obtain ⟨x, y, z, e, hx, hy, hz⟩ := three_of m3 (.inr (.inr k))
    rw [l9 _ _ k, e] at he
    rw [v0c, v1c, v2c] at he
    rw [e] at hf ⊢
    have fx : L x ds = H x ds := hf x (by simp)
    have fy : L y ds = H y ds := hf y (by simp)
    obtain ⟨D1, h1, h2⟩ := thn_ex he
    have o1 := (cut_okp (n := ds.length) (X := [(z : Int)]) (inN hz) (by simp) fun _ _ _ _ _ _ => ⟨Int.le_refl _, Int.le_refl _⟩).ok _ _ h rfl (show cutS (z : Int) (fun _ => max (L x ds) (L y ds)) (fun _ => max (H x ds) (H y ds)) ds = some D1 from h1)
    have o2 := ((thn_ok (n := ds.length) (X := [(x : Int), y, z]) (cut_okp (inN hx) (by simp) ?_) (thn_ok (cut_okp (inN hy) (by simp) ?_) (thn_ok (if_ok (abv_up (inN hz) (inN hx)) (cut_okp (inN hy) (by simp) ?_)) (if_ok (abv_up (inN hz) (inN hy)) (cut_okp (inN hx) (by simp) ?_))))).ok _ _ o1.1 o1.2.1.1 h2).2.1
    have cm := cut_mem h rfl (inN hz) h1
    refine fix_of gE sE.1 (inN hz) (p := max (L x ds) (L y ds)) fun v hv => ?_
    · have := cm v (o2.2 z (by omega) v hv)
      omega
    all_goals
      intro D D' h h' hl hs
      have ex := ends_le h h' hl hs (inN hx)
      have ey := ends_le h h' hl hs (inN hy)
      have ez := ends_le h h' hl hs (inN hz)
      omega
  · obtain ⟨x, y, e, hx, hy⟩ := two_of m3 (.inl k)
    rw [l10 _ _ k, e] at he
    rw [v0c, v1c] at he
    rw [e] at hf ⊢
    have fx : L x ds = H x ds := hf x (by simp)
    obtain ⟨D1, h1, h2⟩ := thn_ex he
    obtain ⟨D2, h3, h4⟩ := thn_ex h2
    obtain ⟨D3, h5, h6⟩ := thn_ex h4
    have c1 : Okp ds.length [(x : Int), y] (cutS (y : Int) (fun _ => 0) (fun D => max (H x D) (-L x D))) := cut_okp (inN hy) (by simp) (fun D D' h h' hl hs => by have ex := ends_le h h' hl hs (inN hx); omega)
    have c2 : Okp ds.length [(x : Int), y] (ifS (pos x) (cutS (y : Int) (L x) (H y))) := if_ok (pos_up (inN hx)) (cut_okp (inN hy) (by simp) (fun D D' h h' hl hs => by have ex := ends_le h h' hl hs (inN hx); have ey := ends_le h h' hl hs (inN hy); omega))
    have c3 : Okp ds.length [(x : Int), y] (ifS (ngt x) (cutS (y : Int) (fun D => -H x D) (H y))) := if_ok (ngt_up (inN hx)) (cut_okp (inN hy) (by simp) (fun D D' h h' hl hs => by have ex := ends_le h h' hl hs (inN hx); have ey := ends_le h h' hl hs (inN hy); omega))
    have c4 : Okp ds.length [(x : Int), y] (thn (cutS (x : Int) (fun D => -H y D) (H y)) (ifS (pos y) (neaS x y))) := thn_ok (cut_okp (inN hx) (by simp) (fun D D' h h' hl hs => by have ex := ends_le h h' hl hs (inN hx); have ey := ends_le h h' hl hs (inN hy); omega)) (nea_okp (inN hx) (inN hy) (by simp))
    obtain ⟨g1, s1, -⟩ := c1.ok _ _ h rfl h1
    obtain ⟨g2, s2, -⟩ := c2.ok _ _ g1 s1.1 h3
    obtain ⟨g3, s3, -⟩ := c3.ok _ _ g2 (s2.1.trans s1.1) h5
    obtain ⟨g4, s4, -⟩ := c4.ok _ _ g3 (s3.1.trans (s2.1.trans s1.1)) h6
    have e1 := ends_le h g1 rfl s1 (inN hx)
    have e2 := ends_le h g2 rfl (s2.trans s1) (inN hx)
    have b1 := cut_mem h rfl (inN hy) h1
    have b2 : 0 < L x D1 → ∀ v, mem (domAt D2 y) v → L x D1 ≤ v := fun p v hv => by
      unfold ifS at h3
      rw [if_pos (by unfold pos; simpa using p)] at h3
      exact (cut_mem g1 s1.1 (inN hy) h3 v hv).1
    have b3 : H x D2 < 0 → ∀ v, mem (domAt D3 y) v → -H x D2 ≤ v := fun p v hv => by
      unfold ifS at h5
      rw [if_pos (by unfold ngt; simpa using p)] at h5
      exact (cut_mem g2 (s2.1.trans s1.1) (inN hy) h5 v hv).1
    refine fix_of gE sE.1 (inN hy) (p := max (L x ds) (-L x ds)) fun v hv => ?_
    have q3 := s4.2 y (by omega) v hv
    have q2 := s3.2 y (by omega) v q3
    have q1 := s2.2 y (by omega) v q2
    have r1 := b1 v q1
    rcases Int.lt_trichotomy (L x ds) 0 with hp | hp | hp
    · have := b3 (by omega) v q3; omega
    · omega
    · have := b2 (by omega) v q2; omega
  · obtain ⟨x, y, e, hx, hy⟩ := two_of m3 (.inr k)
    rw [l15 _ _ k, e] at he
    rw [v0c, v1c] at he
    rw [e] at hf ⊢
    have fx : L x ds = H x ds := hf x (by simp)
    have gx := h.at_ (x := x) (by simpa using hx)
    have gy := h.at_ (x := y) (by simpa using hy)
    refine fix_of gE sE.1 (inN hy) (p := L x ds) fun v hv => ?_
    have hv : mem (domAt E (y : Int)) v := hv
    unfold samS at he
    split at he
    · cases he
    · cases he
      rw [domAt_set (by simpa using hy), if_pos rfl] at hv
      exact (one_val gx.1 gx.2 fx).1 ((meet_ok gx.1 gy.1).2 v |>.1 hv).1
end Go.Proofs.Ytalcgjkegohhgaa.At
