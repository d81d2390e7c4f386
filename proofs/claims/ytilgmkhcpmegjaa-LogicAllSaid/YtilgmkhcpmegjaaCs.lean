/- Layer 15 (logic), pure: each truth value that is left is in values for which it holds. -/
import Derived.Test.YtilgmkhcpmegjaaCi
import Derived.Test.YtilgmkhcpmegjaaCk
import Derived.Test.YtilgmkhcpmegjaaCh
namespace Go.Proofs.Ytilgmkhcpmegjaa.Lgc
set_option linter.unusedVariables false
set_option linter.unusedSimpArgs false
open Go.Proofs.Ytilgmkhcpmegjaa.Num Go.Proofs.Ytilgmkhcpmegjaa.Zs Go.Proofs.Ytilgmkhcpmegjaa.Sn Go.Proofs.Ytilgmkhcpmegjaa.Ln Go.Proofs.Ytilgmkhcpmegjaa.At
/-- values within domains: these, where they are there, else the least ones -/
def mkA (E : Ln.Ds) (σ : Int → Int) : List Int := (List.range E.length).map fun (i : Nat) => if has (domAt E (i : Int)) (σ (i : Int)) = true then σ (i : Int) else At.L (i : Int) E
section
variable {E : Ln.Ds} {σ : Int → Int}
theorem mkA_len : (mkA E σ).length = E.length := by simp [mkA]
theorem mkA_at {x : Int} (h0 : 0 ≤ x) (hx : x.toNat < E.length) : valAt (mkA E σ) x = if has (domAt E x) (σ x) = true then σ x else At.L x E := by
  have e : ((x.toNat : Nat) : Int) = x := by omega
  unfold valAt mkA
  simp only [List.getD, List.getElem?_map, List.getElem?_range hx, Option.map_some, Option.getD_some, e]
theorem mkA_wi (g : Gd E) : Wi E (mkA E σ) := by
  refine ⟨mkA_len, fun y h0 hy => ?_⟩
  have gy := g.at_ (x := y) hy
  rw [mkA_at h0 hy]
  split
  · rename_i e; exact (has_iff.1 e).2
  · exact lo_mem gy.1 gy.2
theorem mem_bit (g : Gd E) {x v : Int} (hx : x.toNat < E.length) (hb : 0 ≤ At.L x E ∧ At.L x E ≤ At.H x E ∧ At.H x E ≤ 1) (h1 : At.L x E ≤ v) (h2 : v ≤ At.H x E) : mem (domAt E x) v := by
  have gy := g.at_ (x := x) hx
  have a := lo_mem gy.1 gy.2
  have b := hi_mem _ gy.1 gy.2
  have : v = At.L x E ∨ v = At.H x E := by omega
  rcases this with e | e
  · rw [e]; exact a
  · rw [e]; exact b
theorem mkA_val (g : Gd E) {x : Int} (h0 : 0 ≤ x) (hx : x.toNat < E.length) (hm : mem (domAt E x) (σ x)) : valAt (mkA E σ) x = σ x := by
  rw [mkA_at h0 hx, if_pos (has_iff.2 ⟨(g.at_ (x := x) hx).1, hm⟩)]
end
/-- values that may be, and for which it holds -/
theorem sol {c : Cn} {ds E : Ln.Ds} (m3 : conOk ds c = true) (hk : Lk c.k) (g : Gd E) (hl : E.length = ds.length) (hb : Bt2 c.x E) (σ : Int → Int) (hσ : ∀ x ∈ c.x, At.L x E ≤ σ x ∧ σ x ≤ At.H x E)
    (hP : ∀ a, (∀ x ∈ c.x, valAt a x = σ x) → (∀ x ∈ c.x, valAt a x = 0 ∨ valAt a x = 1) → holdV c.k (vals c.x a) c.a c.c = true) : ∃ a, Wi E a ∧ holds c a = true ∧ ∀ x ∈ c.x, valAt a x = σ x := by
  have hI := inn_all (con_x m3).1
  have hv : ∀ x ∈ c.x, valAt (mkA E σ) x = σ x := fun x hx => by
    have i := hI x hx
    exact mkA_val g i.1 (by rw [hl]; exact i.2) (mem_bit g (by rw [hl]; exact i.2) (hb x hx) (hσ x hx).1 (hσ x hx).2)
  have h01 : ∀ x ∈ c.x, valAt (mkA E σ) x = 0 ∨ valAt (mkA E σ) x = 1 := fun x hx => by rw [hv x hx]; have := hσ x hx; have := hb x hx; omega
  refine ⟨mkA E σ, mkA_wi g, ?_, hv⟩
  have ha : asked c (mkA E σ) = true := by
    simp only [conOk, Bool.and_eq_true] at m3
    unfold asked askV inR
    rw [bools_lk hk, mkA_len, hl]
    simp only [Bool.and_eq_true]
    refine ⟨m3.1.2, ⟨?_, ?_⟩, ?_⟩
    · refine List.all_eq_true.2 fun n hn => ?_
      obtain ⟨x, hx, rfl⟩ := List.mem_map.1 hn
      have := h01 x hx
      exact (within_iff' _).2 (by omega)
    · rw [vals_len]; exact m3.1.1
    · refine List.all_eq_true.2 fun n hn => ?_
      obtain ⟨x, hx, rfl⟩ := List.mem_map.1 hn
      have := h01 x hx
      simp only [bit, Bool.and_eq_true, decide_eq_true_eq]
      omega
  unfold holds
  rw [ha, hP _ hv h01]; rfl
/-- of two unlike ones one is not x -/
theorem other_of {p q x : Int} (h : p ≠ q) : p ≠ x ∨ q ≠ x := by omega
theorem two_open {α : Type} {f : α → Int} {P : α → Bool} {l l' : List α} {p q : α} (hn : (l.map f).Nodup) (h : l.filter P = p :: q :: l') : p ∈ l ∧ q ∈ l ∧ f p ≠ f q ∧ P p = true ∧ P q = true := by
  have hp : p ∈ l.filter P := by rw [h]; simp
  have hq : q ∈ l.filter P := by rw [h]; simp
  have hs : ((l.filter P).map f).Nodup := List.Nodup.sublist (List.Sublist.map f List.filter_sublist) hn
  rw [h] at hs
  simp only [List.map_cons, List.nodup_cons, List.mem_cons, not_or] at hs
  exact ⟨(List.mem_filter.1 hp).1, (List.mem_filter.1 hq).1, hs.1.1, (List.mem_filter.1 hp).2, (List.mem_filter.1 hq).2⟩
theorem lits_of {x A a : List Int} {p : Int × Int} (hp : p ∈ cluP x A) (hl : A.length = x.length) (hb : ∀ y ∈ x, valAt a y = 0 ∨ valAt a y = 1) (h : valAt a p.1 = p.2) : lits A (vals x a) = true := by
  obtain ⟨i, hi, e⟩ := List.mem_iff_getElem.1 hp
  rw [cluP_len hl] at hi
  have e2 := cluP_at (a := A) hl hi
  rw [List.getElem?_eq_getElem (by rw [cluP_len hl]; exact hi), e] at e2
  injection e2 with e2
  rw [e2] at h
  have hi2 : i < A.length := by omega
  refine List.any_eq_true.2 ⟨(A[i], valAt a x[i]), List.mem_iff_getElem.2 ⟨i, by simp [vals]; omega, by simp [vals]⟩, ?_⟩
  have h1 : valAt a x[i] = tr A[i] := by simpa [List.getD, hi, hi2] using h
  unfold litE
  dsimp only
  rw [h1]
  unfold tr
  by_cases c1 : A[i] = 1
  · simp [c1]
  · simp [c1]
/-- what an And, an Or leaves -/
theorem and_res {n : Nat} {R : List Int} {f s : Int} {D E : Ln.Ds} (hs : s = 0 ∨ s = 1) (h : Gd D) (hl : D.length = n) (hR : ∀ x ∈ R, Inn n x) (hf : Inn n f) (hnd : R.Nodup) (hbD : Bt2 (f :: R) D) (he : andS R f s D = some E) :
    (isv f s E = true ∧ allS R s E = true)
    ∨ (isv f (1 - s) E = true ∧ ((∃ r ∈ R, isv r (1 - s) E = true) ∨ ∃ p q, p ∈ R ∧ q ∈ R ∧ p ≠ q ∧ ope p E = true ∧ ope q E = true))
    ∨ (ope f E = true ∧ anyS R (1 - s) E = false ∧ ∃ r ∈ R, ope r E = true) := by
  obtain ⟨D1, e1, e2⟩ := thn_ex he
  obtain ⟨g1, s1, -⟩ := (and_dec (s := s) hR hf).ok D D1 h hl e1
  have l1 : D1.length = n := s1.1.trans hl
  by_cases c1 : isv f s D1 = true
  · left
    rw [dem_yes hs g1 l1 hR hf c1] at e2
    obtain ⟨g2, s2, -⟩ := (setAll_ok (X := R) s fun x hx => ⟨hR x hx, hx⟩).ok D1 E g1 l1 e2
    refine ⟨isv_mo g1 g2 l1 s2 hf c1, List.all_eq_true.2 fun x hx => ?_⟩
    have key : ∀ (R : List Int) (D1 : Ln.Ds), (∀ x ∈ R, Inn n x) → Gd D1 → D1.length = n → setAll R s D1 = some E → ∀ x ∈ R, isv x s E = true := by
      intro R
      induction R with
      | nil => intro D1 _ _ _ _ x hx; cases hx
      | cons y R ih =>
        intro D1 hR g1 l1 e2 x hx
        obtain ⟨D2, e3, e4⟩ := thn_ex (show thn (setS y s) (setAll R s) D1 = some E from e2)
        obtain ⟨g2, s2, -⟩ := (set_okp (X := [y]) (hR y (by simp)) (by simp) s).ok D1 D2 g1 l1 e3
        have l2 : D2.length = n := s2.1.trans l1
        obtain ⟨g3, s3, -⟩ := (setAll_ok (X := R) s fun x hx => ⟨hR x (by simp [hx]), hx⟩).ok D2 E g2 l2 e4
        rcases List.mem_cons.1 hx with rfl | hx
        · exact isv_mo g2 g3 l2 s3 (hR x (by simp)) (set_isv g1 l1 (hR x (by simp)) e3)
        · exact ih D2 (fun x hx => hR x (by simp [hx])) g2 l2 e4 x hx
    exact key R D1 hR g1 l1 e2 x hx
  · right
    by_cases c2 : isv f (1 - s) D1 = true
    · left
      rw [dem_no hs c2] at e2
      have hI : ∀ p ∈ notP R s, Inn n p.1 ∧ p.1 ∈ R := fun p hp => by
        obtain ⟨x, hx, rfl⟩ := List.mem_map.1 hp
        exact ⟨hR x hx, hx⟩
      obtain ⟨g2, s2, -⟩ := (clu_ok hI).ok D1 E g1 l1 e2
      refine ⟨isv_mo g1 g2 l1 s2 hf c2, ?_⟩
      rcases clu_ways (notP R s) D1 with ⟨⟨p, hp, hv⟩, e⟩ | ⟨-, -, e⟩ | ⟨-, p, la, lb, e0, -, -, -, e⟩ | ⟨-, p, q, l, hf2, e⟩
      · left
        obtain ⟨x, hx, rfl⟩ := List.mem_map.1 hp
        exact ⟨x, hx, isv_mo g1 g2 l1 s2 (hR x hx) hv⟩
      · rw [e] at e2; cases e2
      · left
        rw [e] at e2
        have hp : p ∈ notP R s := by rw [e0]; simp
        obtain ⟨x, hx, rfl⟩ := List.mem_map.1 hp
        exact ⟨x, hx, set_isv g1 l1 (hR x hx) e2⟩
      · right
        rw [e] at e2; cases e2
        have hm : ((notP R s).map Prod.fst) = R := by unfold notP; rw [List.map_map]; exact List.map_id _
        obtain ⟨a, b, c, d, e⟩ := two_open (f := Prod.fst) (by rw [hm]; exact hnd) hf2
        exact ⟨p.1, q.1, (hI p a).2, (hI q b).2, c, d, e⟩
    · right
      have c1' : isv f s D1 = false := by simpa using c1
      have c2' : isv f (1 - s) D1 = false := by simpa using c2
      rw [dem_open c1' c2'] at e2
      cases e2
      have na : anyS R (1 - s) D = false := by
        cases k : anyS R (1 - s) D with
        | false => rfl
        | true =>
          rw [dec_any hs h hl hR hf k] at e1
          rw [set_isv h hl hf e1] at c2'; cases c2'
      have nl : allS R s D = false := by
        cases k : allS R s D with
        | false => rfl
        | true =>
          rw [dec_all na k] at e1
          rw [set_isv h hl hf e1] at c1'; cases c1'
      rw [dec_none na nl] at e1
      cases e1
      have bf := hbD f (by simp)
      refine ⟨?_, na, ?_⟩
      · rw [isv_no] at c1' c2'
        rw [ope_iff]; omega
      · apply Classical.byContradiction
        intro hn
        have : allS R s D = true := List.all_eq_true.2 fun x hx => by
          have a := List.any_eq_false.1 na x hx
          have b := hbD x (by simp [hx])
          have o : ope x D = false := by
            cases k : ope x D with
            | false => rfl
            | true => exact absurd ⟨x, hx, k⟩ hn
          rw [isv_iff] at a ⊢
          rw [ope_no] at o
          omega
        rw [this] at nl; cases nl
/-- an And (s is 1), an Or (s is 0) -/
theorem and_all {c : Cn} {ds E : Ln.Ds} {s : Int} (hs : s = 0 ∨ s = 1) (m3 : conOk ds c = true) (hk : Lk c.k) (ks : c.k = 12 ∧ s = 1 ∨ c.k = 13 ∧ s = 0) (m1 : Gd ds) (hn : c.x.Nodup) (g : Gd E) (hl : E.length = ds.length) (hb : Bt2 c.x E) (hbD : Bt2 c.x ds) (he : andS (rst c.x) (flf c.x) s ds = some E)
    {x0 v : Int} (hx0 : x0 ∈ c.x) (h1 : At.L x0 E ≤ v) (h2 : v ≤ At.H x0 E) : ∃ a, Wi E a ∧ holds c a = true ∧ valAt a x0 = v := by
  have hne := and_ne m3 (by rcases ks with ⟨k, -⟩ | ⟨k, -⟩ <;> omega)
  have hI := inn_all (con_x m3).1
  have hR : ∀ x ∈ rst c.x, x ∈ c.x := fun x hx => List.mem_of_mem_take hx
  have hf := flf_mem hne
  have hsp := rst_flf hne
  have hnd : (rst c.x).Nodup ∧ ∀ r ∈ rst c.x, r ≠ flf c.x := by
    rw [hsp] at hn
    rw [List.nodup_append] at hn
    exact ⟨hn.1, fun r hr => hn.2.2 r hr _ (by simp)⟩
  have key : (∃ σ : Int → Int, (∀ x ∈ c.x, At.L x E ≤ σ x ∧ σ x ≤ At.H x E) ∧ σ x0 = v ∧ (σ (flf c.x) = s ↔ ∀ y ∈ rst c.x, σ y = s)) → ∃ a, Wi E a ∧ holds c a = true ∧ valAt a x0 = v := by
    rintro ⟨σ, s1, s2, s3⟩
    obtain ⟨a, w, hh, hv⟩ := sol m3 hk g hl hb σ s1 fun a ha h01 => by
      rw [hv_and hne h01 ks, ha _ hf]
      rw [s3]
      exact ⟨fun h y hy => by rw [ha y (hR y hy)]; exact h y hy, fun h y hy => by rw [← ha y (hR y hy)]; exact h y hy⟩
    exact ⟨a, w, hh, by rw [hv x0 hx0, s2]⟩
  apply key
  have hb0 := hb x0 hx0
  have base : ∀ (r t : Int), (r ∈ c.x → At.L r E ≤ t ∧ t ≤ At.H r E) → ∀ x ∈ c.x, At.L x E ≤ (if x = x0 then v else if x = r then t else At.L x E) ∧ (if x = x0 then v else if x = r then t else At.L x E) ≤ At.H x E := fun r t ht x hx => by
    have := hb x hx
    split
    · rename_i e; subst e; exact ⟨h1, h2⟩
    · split
      · rename_i e; subst e; exact ht hx
      · omega
  rcases and_res hs m1 rfl (fun x hx => hI x (hR x hx)) (hI _ hf) hnd.1 (fun x hx => (List.mem_cons.1 hx).elim (fun e => e ▸ hbD _ hf) fun hx => hbD _ (hR x hx)) he with ⟨a1, a2⟩ | ⟨a1, a2⟩ | ⟨a1, a2, r, hr, a3⟩
  · have all : ∀ x ∈ c.x, At.L x E = s ∧ At.H x E = s := fun x hx => by
      rw [hsp] at hx
      rcases List.mem_append.1 hx with hx | hx
      · exact isv_iff.1 (List.all_eq_true.1 a2 x hx)
      · simp only [List.mem_singleton] at hx; subst hx; exact isv_iff.1 a1
    have h0 := all x0 hx0
    refine ⟨fun _ => s, fun x hx => by have := all x hx; dsimp only; omega, by show s = v; omega, ⟨fun _ _ _ => rfl, fun _ => rfl⟩⟩
  · rw [isv_iff] at a1
    obtain ⟨r, hr, r1, r2⟩ : ∃ r, r ∈ rst c.x ∧ (At.L r E ≤ 1 - s ∧ 1 - s ≤ At.H r E) ∧ (r = x0 → v = 1 - s) := by
      rcases a2 with ⟨r, hr, hv⟩ | ⟨p, q, hp, hq, hpq, op, oq⟩
      · rw [isv_iff] at hv
        exact ⟨r, hr, by omega, fun e => by subst e; omega⟩
      · rw [ope_iff] at op oq
        have bp := hb p (hR p hp)
        have bq := hb q (hR q hq)
        rcases other_of (x := x0) hpq with h | h
        · exact ⟨p, hp, by omega, fun e => absurd e h⟩
        · exact ⟨q, hq, by omega, fun e => absurd e h⟩
    refine ⟨fun x => if x = x0 then v else if x = r then 1 - s else At.L x E, base r (1 - s) fun _ => r1, by simp, ?_⟩
    have hfv : (if flf c.x = x0 then v else if flf c.x = r then 1 - s else At.L (flf c.x) E) = 1 - s := by
      split
      · rename_i e; rw [← e] at h1 h2; omega
      · split
        · rfl
        · exact a1.1
    have hrv : (if r = x0 then v else if r = r then 1 - s else At.L r E) = 1 - s := by
      split
      · rename_i e; exact r2 e
      · simp
    refine ⟨fun h => ?_, fun h => ?_⟩
    · dsimp only at h; rw [hfv] at h; omega
    · have := h r hr; dsimp only at this; rw [hrv] at this; omega
  · rw [ope_iff] at a1 a3
    have bf := hb _ hf
    have br := hb r (hR r hr)
    by_cases hv : v = s
    · refine ⟨fun x => if x = x0 then v else s, fun x hx => ?_, by simp, ?_⟩
      · have := hb x hx
        dsimp only
        split
        · rename_i e; subst e; exact ⟨h1, h2⟩
        · rw [hsp] at hx
          rcases List.mem_append.1 hx with hx | hx
          · have a := List.any_eq_false.1 a2 x hx
            rw [isv_iff] at a
            omega
          · simp only [List.mem_singleton] at hx; subst hx; omega
      · have : ∀ y, (if y = x0 then v else s) = s := fun y => by split; exact hv; rfl
        exact ⟨fun _ y _ => this y, fun _ => this _⟩
    · by_cases e0 : x0 = flf c.x
      · refine ⟨fun x => if x = x0 then v else if x = r then 1 - s else At.L x E, base r (1 - s) fun _ => by omega, by simp, ?_⟩
        have hrx : ¬ r = x0 := fun e => hnd.2 r hr (e.trans e0)
        refine ⟨fun h => ?_, fun h => ?_⟩
        · dsimp only at h; rw [if_pos e0.symm] at h; exact absurd h hv
        · have := h r hr; dsimp only at this; rw [if_neg hrx, if_pos rfl] at this; omega
      · refine ⟨fun x => if x = x0 then v else if x = flf c.x then 1 - s else At.L x E, base (flf c.x) (1 - s) fun _ => by omega, by simp, ?_⟩
        have hx0R : x0 ∈ rst c.x := by
          have := hx0
          rw [hsp] at this
          rcases List.mem_append.1 this with h | h
          · exact h
          · simp only [List.mem_singleton] at h; exact absurd h e0
        refine ⟨fun h => ?_, fun h => ?_⟩
        · dsimp only at h; rw [if_neg (fun e => e0 e.symm), if_pos rfl] at h; omega
        · have := h x0 hx0R; dsimp only at this; rw [if_pos rfl] at this; exact absurd this hv
/-- an Xor -/
theorem xor_res {n : Nat} {x y z : Int} {D E : Ln.Ds} (h : Gd D) (hl : D.length = n) (hI : ∀ u ∈ [x, y, z], Inn n u) (hn : [x, y, z].Nodup) (hb : Bt2 [x, y, z] D) (he : xorS [x, y, z] D = some E) :
    ((∀ u ∈ [x, y, z], ope u E = false) ∧ (At.L x E + At.L y E + At.L z E) % 2 = 0) ∨ ∃ p q, p ∈ [x, y, z] ∧ q ∈ [x, y, z] ∧ p ≠ q ∧ ope p E = true ∧ ope q E = true := by
  have hod : odd [x, y, z] D = (((if isv x 1 D = true then 1 else 0) + ((if isv y 1 D = true then 1 else 0) + (if isv z 1 D = true then 1 else 0)) : Nat) : Int) % 2 := by
    unfold odd cnt1
    simp only [List.countP_cons, List.countP_nil]
    omega
  have i1 : ∀ u ∈ [x, y, z], ope u D = false → ((if isv u 1 D = true then 1 else 0 : Nat) : Int) = At.L u D := fun u hu ho => by
    have b := hb u hu
    rw [ope_no] at ho
    by_cases c : isv u 1 D = true
    · rw [if_pos c]; rw [isv_iff] at c; omega
    · rw [if_neg c]; rw [isv_iff] at c; omega
  have i0 : ∀ u ∈ [x, y, z], ope u D = true → ((if isv u 1 D = true then 1 else 0 : Nat) : Int) = 0 := fun u hu ho => by
    rw [ope_iff] at ho
    rw [if_neg (by rw [isv_iff]; omega)]; rfl
  have mx : x ∈ [x, y, z] := by simp
  have my : y ∈ [x, y, z] := by simp
  have mz : z ∈ [x, y, z] := by simp
  have he2 := he
  rw [xor_bit hb] at he2
  unfold xorW at he2
  cases hf : [x, y, z].filter (fun u => ope u D) with
  | nil =>
    left
    rw [hf] at he2
    dsimp only at he2
    have h2 : ∀ u ∈ [x, y, z], ope u D = false := fun p hp => by simpa using List.filter_eq_nil_iff.1 hf p hp
    split at he2
    · rename_i e0
      cases he2
      refine ⟨h2, ?_⟩
      have a := i1 x mx (h2 x mx)
      have b := i1 y my (h2 y my)
      have c := i1 z mz (h2 z mz)
      rw [hod] at e0
      omega
    · cases he2
  | cons p l =>
    cases l with
    | nil =>
      left
      rw [hf] at he2
      dsimp only at he2
      obtain ⟨l1, l2, e0, a, b, c⟩ := filt_one hf
      have hp : p ∈ [x, y, z] := by rw [e0]; simp
      obtain ⟨g1, s1, -⟩ := (set_okp (X := [x, y, z]) (hI p hp) hp _).ok D E h hl he2
      have hv := isv_iff.1 (set_isv h hl (hI p hp) he2)
      have oth : ∀ u ∈ [x, y, z], u ≠ p → ope u D = false := fun u hu hne => by
        rw [e0] at hu
        rcases List.mem_append.1 hu with hu | hu
        · exact a u hu
        · rcases List.mem_cons.1 hu with rfl | hu
          · exact absurd rfl hne
          · exact b u hu
      have keep : ∀ u ∈ [x, y, z], u ≠ p → At.L u E = At.L u D ∧ ope u E = false := fun u hu hne => by
        have := fix_mo h g1 hl s1 (hI u hu) (oth u hu hne)
        exact ⟨this.1, this.2.2⟩
      refine ⟨fun u hu => ?_, ?_⟩
      · by_cases e : u = p
        · subst e; rw [ope_no]; omega
        · exact (keep u hu e).2
      · simp only [List.nodup_cons, List.mem_cons, List.not_mem_nil, or_false, not_or, not_false_eq_true, List.nodup_nil, and_true] at hn
        obtain ⟨⟨n1, n2⟩, n3⟩ := hn
        rw [hod] at hv
        simp only [List.mem_cons, List.not_mem_nil, or_false] at hp
        rcases hp with rfl | rfl | rfl
        · have k1 := keep y my (Ne.symm n1)
          have k2 := keep z mz (Ne.symm n2)
          have j0 := i0 p mx c
          have j1 := i1 y my (oth y my (Ne.symm n1))
          have j2 := i1 z mz (oth z mz (Ne.symm n2))
          omega
        · have k1 := keep x mx n1
          have k2 := keep z mz (Ne.symm n3)
          have j0 := i0 p my c
          have j1 := i1 x mx (oth x mx n1)
          have j2 := i1 z mz (oth z mz (Ne.symm n3))
          omega
        · have k1 := keep x mx n2
          have k2 := keep y my n3
          have j0 := i0 p mz c
          have j1 := i1 x mx (oth x mx n2)
          have j2 := i1 y my (oth y my n3)
          omega
    | cons q l =>
      right
      rw [hf] at he2
      cases he2
      obtain ⟨a, b, c, d, e⟩ := two_open (f := fun u : Int => u) (by simpa using hn) hf
      exact ⟨p, q, a, b, c, d, e⟩
theorem xor_all {c : Cn} {ds E : Ln.Ds} (m3 : conOk ds c = true) (hk : Lk c.k) (k : c.k = 14) (m1 : Gd ds) (hn : c.x.Nodup) (g : Gd E) (hl : E.length = ds.length) (hb : Bt2 c.x E) (hbD : Bt2 c.x ds) (he : xorS c.x ds = some E)
    {x0 v : Int} (hx0 : x0 ∈ c.x) (h1 : At.L x0 E ≤ v) (h2 : v ≤ At.H x0 E) : ∃ a, Wi E a ∧ holds c a = true ∧ valAt a x0 = v := by
  obtain ⟨x, y, z, e⟩ := three14 m3 k
  have hI := inn_all (con_x m3).1
  have hr := xor_res (E := E) m1 rfl (by rw [← e]; exact hI) (by rw [← e]; exact hn) (by rw [← e]; exact hbD) (by rw [← e]; exact he)
  have key : (∃ σ : Int → Int, (∀ u ∈ c.x, At.L u E ≤ σ u ∧ σ u ≤ At.H u E) ∧ σ x0 = v ∧ (σ x + σ y + σ z) % 2 = 0) → ∃ a, Wi E a ∧ holds c a = true ∧ valAt a x0 = v := by
    rintro ⟨σ, s1, s2, s3⟩
    obtain ⟨a, w, hh, hv⟩ := sol m3 hk g hl hb σ s1 fun a ha h01 => by
      rw [hv14 k e h01, ha x (by rw [e]; simp), ha y (by rw [e]; simp), ha z (by rw [e]; simp)]
      exact s3
    exact ⟨a, w, hh, by rw [hv x0 hx0, s2]⟩
  apply key
  rcases hr with ⟨a1, a2⟩ | ⟨p, q, hp, hq, hpq, op, oq⟩
  · have o0 := a1 x0 (by rw [← e]; exact hx0)
    rw [ope_no] at o0
    exact ⟨fun u => At.L u E, fun u hu => by have := hb u hu; dsimp only; omega, by show At.L x0 E = v; omega, a2⟩
  · obtain ⟨r, hr, hne, ro⟩ : ∃ r, r ∈ [x, y, z] ∧ r ≠ x0 ∧ ope r E = true := by
      rcases other_of (x := x0) hpq with h | h
      · exact ⟨p, hp, h, op⟩
      · exact ⟨q, hq, h, oq⟩
    have br := hb r (by rw [e]; exact hr)
    rw [ope_iff] at ro
    obtain ⟨τ, hτ⟩ : ∃ τ : Int → Int, τ = fun u => if u = x0 then v else At.L u E := ⟨_, rfl⟩
    obtain ⟨t, ht⟩ : ∃ t : Int, t = ((if x = r then 0 else τ x) + (if y = r then 0 else τ y) + (if z = r then 0 else τ z)) % 2 := ⟨_, rfl⟩
    have ht01 : 0 ≤ t ∧ t ≤ 1 := by rw [ht]; omega
    refine ⟨fun u => if u = r then t else τ u, fun u hu => ?_, ?_, ?_⟩
    · have := hb u hu
      dsimp only
      split
      · rename_i e1; subst e1; omega
      · rw [hτ]; dsimp only
        split
        · rename_i e1; subst e1; exact ⟨h1, h2⟩
        · omega
    · dsimp only
      rw [if_neg (Ne.symm hne), hτ]; simp
    · have hn2 := hn
      rw [e] at hn2
      simp only [List.nodup_cons, List.mem_cons, List.not_mem_nil, or_false, not_or, not_false_eq_true, List.nodup_nil, and_true] at hn2
      obtain ⟨⟨n1, n2⟩, n3⟩ := hn2
      dsimp only
      simp only [List.mem_cons, List.not_mem_nil, or_false] at hr
      clear hτ
      rcases hr with rfl | rfl | rfl
      · rw [if_pos rfl, if_neg (Ne.symm n1), if_neg (Ne.symm n2)] at ht ⊢; omega
      · rw [if_neg n1, if_pos rfl, if_neg (Ne.symm n3)] at ht ⊢; omega
      · rw [if_neg n2, if_neg n3, if_pos rfl] at ht ⊢; omega
/-- whatever the kind -/
theorem log_all {c : Cn} {ds E : Ln.Ds} (hm : modOk ⟨ds, [c], 0, 0⟩ = true) (hk : Lk c.k) (hn : c.x.Nodup) (he : logL c.k c.x c.a ds = some E) {x0 v : Int} (hx0 : x0 ∈ c.x) (hv : mem (domAt E x0) v) : ∃ a, Wi E a ∧ holds c a = true ∧ valAt a x0 = v := by
  obtain ⟨m1, m2, m3⟩ := mod_parts hm
  have hI := inn_all (con_x m3).1
  obtain ⟨g, s, -⟩ := (log_ok m3 hk).ok ds E m1 rfl he
  have ht := tru_of m3 hk
  have bt : ∀ (D : Ln.Ds), Gd D → D.length = ds.length → (∀ x ∈ c.x, tru (domAt D x) = true) → Bt2 c.x D := fun D hD hl h x hx => by
    have t := h x hx
    have gx := hD.at_ (x := x) (by rw [hl]; exact (hI x hx).2)
    unfold tru at t
    simp only [Bool.and_eq_true, decide_eq_true_eq] at t
    exact ⟨t.2.1, lo_hi gx.1 gx.2, t.2.2⟩
  have hbD := bt ds m1 rfl ht
  have hb := bt E g s.1 fun x hx => tru_sub m1 g rfl s (hI x hx) (ht x hx)
  have gx := g.at_ (x := x0) (by rw [s.1]; exact (hI x0 hx0).2)
  have h1 : At.L x0 E ≤ v := mem_lo gx.1 hv
  have h2 : v ≤ At.H x0 E := mem_hi _ gx.1 hv
  rcases lk4 hk with k | k | k | k
  · rw [l11 _ _ _ k] at he
    have hla : c.a.length = c.x.length := by
      have h3 := (con_x m3).2.2
      unfold shp at h3; rw [if_pos (by omega)] at h3; exact (of_decide_eq_true h3).symm
    have hpx : ∀ p ∈ cluP c.x c.a, p.1 ∈ c.x ∧ (p.2 = 0 ∨ p.2 = 1) := fun p hp => by
      refine ⟨(List.of_mem_zip hp).1, ?_⟩
      obtain ⟨n, -, e⟩ := List.mem_map.1 (List.of_mem_zip hp).2
      rw [← e]; exact tr_two n
    obtain ⟨r, hr, r1, r2⟩ : ∃ r, r ∈ cluP c.x c.a ∧ (At.L r.1 E ≤ r.2 ∧ r.2 ≤ At.H r.1 E) ∧ (r.1 = x0 → v = r.2) := by
      have one : ∀ p ∈ cluP c.x c.a, isv p.1 p.2 E = true → ∃ r, r ∈ cluP c.x c.a ∧ (At.L r.1 E ≤ r.2 ∧ r.2 ≤ At.H r.1 E) ∧ (r.1 = x0 → v = r.2) := fun p hp hv => by
        rw [isv_iff] at hv
        exact ⟨p, hp, by omega, fun e => by rw [e] at hv; omega⟩
      rcases clu_ways (cluP c.x c.a) ds with ⟨⟨p, hp, hv2⟩, e⟩ | ⟨-, -, e⟩ | ⟨-, p, la, lb, e0, -, -, -, e⟩ | ⟨-, p, q, l, hf2, e⟩
      · rw [e] at he; cases he; exact one p hp hv2
      · rw [e] at he; cases he
      · rw [e] at he
        have hp : p ∈ cluP c.x c.a := by rw [e0]; simp
        exact one p hp (set_isv m1 rfl (hI _ (hpx p hp).1) he)
      · rw [e] at he; cases he
        obtain ⟨a, b, d, op, oq⟩ := two_open (f := Prod.fst) (by rw [cluP_fst hla]; exact hn) hf2
        rw [ope_iff] at op oq
        have bp := hb _ (hpx p a).1
        have bq := hb _ (hpx q b).1
        have tp := (hpx p a).2
        have tq := (hpx q b).2
        rcases other_of (x := x0) d with h | h
        · exact ⟨p, a, by omega, fun e => absurd e h⟩
        · exact ⟨q, b, by omega, fun e => absurd e h⟩
    obtain ⟨a, w, hh, ha⟩ := sol m3 hk g s.1 hb (fun x => if x = x0 then v else if x = r.1 then r.2 else At.L x E) (fun x hx => by
      have := hb x hx
      split
      · rename_i e; subst e; exact ⟨h1, h2⟩
      · split
        · rename_i e; subst e; exact r1
        · omega) fun a ha h01 => by
      rw [hv11 k]
      refine lits_of hr hla h01 ?_
      rw [ha _ (hpx r hr).1]
      split
      · rename_i e; exact r2 e
      · simp
    exact ⟨a, w, hh, by rw [ha x0 hx0]; simp⟩
  · rw [l12 _ _ _ k] at he
    exact and_all (.inr rfl) m3 hk (.inl ⟨k, rfl⟩) m1 hn g s.1 hb hbD he hx0 h1 h2
  · rw [l13 _ _ _ k] at he
    exact and_all (.inl rfl) m3 hk (.inr ⟨k, rfl⟩) m1 hn g s.1 hb hbD he hx0 h1 h2
  · rw [l14 _ _ _ k] at he
    exact xor_all m3 hk k m1 hn g s.1 hb hbD he hx0 h1 h2
end Go.Proofs.Ytilgmkhcpmegjaa.Lgc
