/- Layer 15 (logic): counts and states, pure; the landed set. -/
import Derived.Test.YtilgmkhcpmegjaaCc
namespace Go.Proofs.Ytilgmkhcpmegjaa.Lgc
open Go.RowKit
set_option linter.unusedVariables false
set_option linter.unusedSimpArgs false
open Go.Proofs.Ytilgmkhcpmegjaa.Dig Go.Proofs.Ytilgmkhcpmegjaa.Lx Go.Proofs.Ytilgmkhcpmegjaa.Tk Go.Proofs.Ytilgmkhcpmegjaa.Ti Go.Proofs.Ytilgmkhcpmegjaa.Zs Go.Proofs.Ytilgmkhcpmegjaa.Tr Go.Proofs.Ytilgmkhcpmegjaa.Sn Go.Proofs.Ytilgmkhcpmegjaa.Ln Go.Proofs.Ytilgmkhcpmegjaa.At
/-- truth values -/
def Bt2 (X : List Int) (D : Ln.Ds) : Prop := ∀ x ∈ X, 0 ≤ At.L x D ∧ At.L x D ≤ At.H x D ∧ At.H x D ≤ 1
theorem PL.bt {g n : Nat} {w0 w : World} {X : List Int} {D : Ln.Ds} {A : Option Addr} {m c : Nat} (h : PL g n w0 w X D A m c) : Bt2 X D := fun x hx => by
  obtain ⟨i, hi, e⟩ := List.mem_iff_getElem.1 hx
  obtain ⟨j, gx, ox, A2, c2, e1, -, -, -, -, -, -, -, b⟩ := h.val (i := i) (by rw [← h.len]; exact hi)
  have : X.getD i 0 = x := by simp [List.getD, hi, e]
  rw [this] at e1; rw [e1]; exact b
theorem PL.in_ {g n : Nat} {w0 w : World} {X : List Int} {D : Ln.Ds} {A : Option Addr} {m c : Nat} (h : PL g n w0 w X D A m c) : ∀ x ∈ X, Inn n x := inn_all h.inn
theorem PL.mem {g n : Nat} {w0 w : World} {X : List Int} {D : Ln.Ds} {A : Option Addr} {m c : Nat} (h : PL g n w0 w X D A m c) {i : Nat} (hi : i < m) : X.getD i 0 ∈ X := by
  have hl : i < X.length := by rw [h.len]; exact hi
  rw [show X.getD i 0 = X[i] by simp [List.getD, hl]]; exact List.getElem_mem hl
theorem tru_sub {n : Nat} {D E : Ln.Ds} (h : Gd D) (h' : Gd E) (hl : D.length = n) (hs : Sub E D) {x : Int} (hx : Inn n x) (ht : tru (domAt D x) = true) : tru (domAt E x) = true := by
  have e := ends_le h h' hl hs hx
  unfold tru at ht ⊢
  simp only [Bool.and_eq_true, decide_eq_true_eq] at ht ⊢
  have hne := (h'.at_ (x := x) (by rw [hs.1, hl]; exact hx.2)).2
  have hp := List.length_pos_iff.2 hne
  unfold At.L At.H lo hi at e
  omega
theorem PL.step {g n : Nat} {w0 w w' : World} {X : List Int} {D E : Ln.Ds} {A : Option Addr} {m c : Nat} (h : PL g n w0 w X D A m c) (hD : DAt g n w0 w' E) (k : Og g w w') (g1 : Gd E) (s1 : Sub E D) : PL g n w0 w' X E A m c :=
  ⟨by
    by_cases hm : 0 < m
    · exact k.sl (fun _ _ _ _ q => q) h.x (h.far hm)
    · obtain ⟨A', c', e1, e2, e3⟩ := h.x
      exact ⟨A', c', e1, e2, fun hp => absurd hp (by have := h.len; omega)⟩, h.far, hD, h.lo_, Nat.lt_of_lt_of_le h.hi_ k.size, g1, h.inn, fun x hx => tru_sub h.gd g1 h.at_.len s1 (h.in_ x hx) (h.tv x hx), h.len, h.le, Og.all h.ws k h.lo_⟩
/-! counts -/
theorem cnt_any {X : List Int} {k : Nat} {s : Int} {D : Ln.Ds} (hs : s = 0 ∨ s = 1) : cntK X k s D = 0 ↔ anyS (X.take k) s D = false := by
  unfold cntK anyS
  rw [List.countP_eq_zero, List.any_eq_false]
  simp only [stt_isv hs]
theorem cnt_all {X : List Int} {k : Nat} {s : Int} {D : Ln.Ds} (hs : s = 0 ∨ s = 1) (hk : k ≤ X.length) : cntK X k s D = k ↔ allS (X.take k) s D = true := by
  unfold cntK allS
  have e : (X.take k).length = k := by rw [List.length_take]; omega
  rw [List.all_eq_true]
  constructor
  · intro h x hx
    rw [← stt_isv hs]
    exact List.countP_eq_length.1 (h.trans e.symm) x hx
  · intro h
    rw [← e] 
    rw [show (X.take (X.take k).length) = X.take k by rw [e]]
    exact List.countP_eq_length.2 fun x hx => by rw [stt_isv hs]; exact h x hx
theorem cnt_ope {X : List Int} {k : Nat} {D : Ln.Ds} (hb : Bt2 X D) : cntK X k 2 D = ((X.take k).filter (fun x => ope x D)).length := by
  unfold cntK
  rw [← List.countP_eq_length_filter]
  exact List.countP_congr fun x hx => by rw [stt_ope (hb x (List.mem_of_mem_take hx))]
theorem fill_all {R : List Int} {s : Int} {D : Ln.Ds} (hs : s = 0 ∨ s = 1) (hb : Bt2 R D) (h1 : anyS R (1 - s) D = false) (h2 : R.filter (fun x => ope x D) = []) : allS R s D = true := by
  refine List.all_eq_true.2 fun x hx => ?_
  have a := List.any_eq_false.1 h1 x hx
  have b := List.filter_eq_nil_iff.1 h2 x hx
  have t := hb x hx
  rw [isv_iff] at a ⊢
  rw [ope_iff] at b
  omega
theorem set_isv {n : Nat} {D E : Ln.Ds} {x s : Int} (h : Gd D) (hl : D.length = n) (hx : Inn n x) (he : setS x s D = some E) : isv x s E = true := by
  have hm := cut_mem h hl hx he
  obtain ⟨h1, h2, -⟩ := (set_okp (X := [x]) hx (by simp) s).ok D E h hl he
  have g := h1.at_ (x := x) (by rw [h2.1, hl]; exact hx.2)
  have a := hm _ (lo_mem g.1 g.2)
  have b := hm _ (hi_mem _ g.1 g.2)
  rw [isv_iff]
  unfold At.L At.H
  omega
section
variable {n : Nat} {R : List Int} {f s : Int} {D E : Ln.Ds}
theorem isv_two {x : Int} (hs : s = 0 ∨ s = 1) (h : isv x s D = true) : isv x (1 - s) D = false := by rw [isv_iff] at h; rw [isv_no]; omega
theorem dec_any (hs : s = 0 ∨ s = 1) (h : Gd D) (hl : D.length = n) (hR : ∀ x ∈ R, Inn n x) (hf : Inn n f) (k : anyS R (1 - s) D = true) : decS R f s D = setS f (1 - s) D := by
  unfold decS thn
  rw [show ifS (anyS R (1 - s)) (setS f (1 - s)) D = setS f (1 - s) D from if_pos k]
  cases e : setS f (1 - s) D with
  | none => rfl
  | some E =>
    obtain ⟨g1, s1, -⟩ := (set_okp (X := [f]) hf (by simp) (1 - s)).ok D E h hl e
    obtain ⟨x, hx, hv⟩ := List.any_eq_true.1 (any_mo hR (1 - s) D E h g1 hl s1 k)
    refine if_neg fun ha => ?_
    have := isv_two hs (List.all_eq_true.1 ha x hx)
    rw [this] at hv; cases hv
theorem dec_all (h1 : anyS R (1 - s) D = false) (h2 : allS R s D = true) : decS R f s D = setS f s D := by
  unfold decS thn
  rw [show ifS (anyS R (1 - s)) (setS f (1 - s)) D = some D from if_neg (by rw [h1]; simp)]
  exact if_pos h2
theorem dec_none (h1 : anyS R (1 - s) D = false) (h2 : allS R s D = false) : decS R f s D = some D := by
  unfold decS thn
  rw [show ifS (anyS R (1 - s)) (setS f (1 - s)) D = some D from if_neg (by rw [h1]; simp)]
  exact if_neg (by rw [h2]; simp)
/-- behind decide all of the rest are not s beside a flag that is not -/
theorem dec_not (hs : s = 0 ∨ s = 1) (h : Gd D) (hl : D.length = n) (hR : ∀ x ∈ R, Inn n x) (hf : Inn n f) (he : decS R f s D = some E) (k : isv f (1 - s) E = true) : allS R s E = false := by
  obtain ⟨D0, e0, e1⟩ := thn_ex he
  have hO : Okp n [f] (ifS (anyS R (1 - s)) (setS f (1 - s))) := if_ok (any_mo hR _) (set_okp hf (by simp) _)
  obtain ⟨g0, s0, -⟩ := hO.ok D D0 h hl e0
  by_cases c : allS R s D0 = true
  · rw [show ifS (allS R s) (setS f s) D0 = setS f s D0 from if_pos c] at e1
    have := isv_two hs (set_isv g0 (s0.1.trans hl) hf e1)
    rw [k] at this; cases this
  · rw [show ifS (allS R s) (setS f s) D0 = some D0 from if_neg c] at e1
    cases e1
    simpa using c
theorem dem_yes (hs : s = 0 ∨ s = 1) (h : Gd D) (hl : D.length = n) (hR : ∀ x ∈ R, Inn n x) (hf : Inn n f) (k : isv f s D = true) : demS R f s D = setAll R s D := by
  unfold demS thn
  rw [show ifS (isv f s) (setAll R s) D = setAll R s D from if_pos k]
  cases e : setAll R s D with
  | none => rfl
  | some E =>
    obtain ⟨g1, s1, -⟩ := (setAll_ok (X := R) s fun x hx => ⟨hR x hx, hx⟩).ok D E h hl e
    refine if_neg fun ha => ?_
    have := isv_two hs (isv_mo h g1 hl s1 hf k)
    rw [this] at ha; cases ha
theorem dem_no (hs : s = 0 ∨ s = 1) (k : isv f (1 - s) D = true) : demS R f s D = cluS (notP R s) D := by
  unfold demS thn
  rw [show ifS (isv f s) (setAll R s) D = some D from if_neg (fun e => by have := isv_two hs e; rw [k] at this; cases this)]
  exact if_pos k
theorem dem_open (k1 : isv f s D = false) (k2 : isv f (1 - s) D = false) : demS R f s D = some D := by
  unfold demS thn
  rw [show ifS (isv f s) (setAll R s) D = some D from if_neg (by rw [k1]; simp)]
  exact if_neg (by rw [k2]; simp)
theorem no_any (k : anyS R (1 - s) D = true) : cluS (notP R s) D = some D := by
  obtain ⟨x, hx, e⟩ := List.any_eq_true.1 k
  exact clu_true (p := (x, 1 - s)) (List.mem_map.2 ⟨x, hx, rfl⟩) e
theorem no_all (k : anyS R (1 - s) D = false) : ∀ p ∈ notP R s, isv p.1 p.2 D = false := fun p hp => by
  obtain ⟨x, hx, rfl⟩ := List.mem_map.1 hp
  simpa using List.any_eq_false.1 k x hx
theorem no_one {l1 l2 : List Int} {x : Int} (k : anyS R (1 - s) D = false) (e : R = l1 ++ x :: l2) (h1 : ∀ q ∈ l1, ope q D = false) (h2 : ∀ q ∈ l2, ope q D = false) (h3 : ope x D = true) : cluS (notP R s) D = setS x (1 - s) D := by
  refine clu_one (p := (x, 1 - s)) (l1 := notP l1 s) (l2 := notP l2 s) (by rw [e]; simp [notP]) (no_all k) ?_ ?_ h3
  · intro q hq; obtain ⟨y, hy, rfl⟩ := List.mem_map.1 hq; exact h1 y hy
  · intro q hq; obtain ⟨y, hy, rfl⟩ := List.mem_map.1 hq; exact h2 y hy
theorem no_many (hs : s = 0 ∨ s = 1) (hb : Bt2 R D) (k : anyS R (1 - s) D = false) (k2 : allS R s D = false) (h : (R.filter (fun x => ope x D)).length ≠ 1) : cluS (notP R s) D = some D := by
  rcases clu_ways (notP R s) D with ⟨-, e⟩ | ⟨-, b, e⟩ | ⟨a, p, l1, l2, e0, b1, b2, b3, e⟩ | ⟨-, p, q, l, -, e⟩
  · exact e
  · have : allS R s D = true := fill_all hs hb k (List.filter_eq_nil_iff.2 fun x hx => by
      have := b (x, 1 - s) (List.mem_map.2 ⟨x, hx, rfl⟩)
      simpa using this)
    rw [this] at k2; cases k2
  · exfalso
    have hf : ((notP R s).filter (fun p => ope p.1 D)).length = 1 := by
      rw [filt_is (P := fun p : Int × Int => ope p.1 D) e0 b1 b2 b3]; rfl
    apply h
    rw [← hf]
    unfold notP
    rw [List.filter_map, List.length_map]
    rfl
  · exact e
theorem setAll_snoc (x : Int) : ∀ (R : List Int) (D : Ln.Ds), setAll (R ++ [x]) s D = (setAll R s D).bind (setS x s)
  | [], D => by
    show (setS x s D).bind some = setS x s D
    cases setS x s D <;> rfl
  | y :: R, D => by
    show (setS y s D).bind (setAll (R ++ [x]) s) = ((setS y s D).bind (setAll R s)).bind (setS x s)
    cases setS y s D with
    | none => rfl
    | some E => exact setAll_snoc x R E
end
/-! a step's end -/
def RetL (g n : Nat) (w0 w : World) (o : Option Ln.Ds) (e : Ending) (w' : World) : Prop :=
  e = .returned (.bool o.isSome) ∧ (∀ E, o = some E → DAt g n w0 w' E) ∧ Og g w w'
theorem RetL.some_ {g n : Nat} {w0 w w' : World} {E : Ln.Ds} (h : DAt g n w0 w' E) (k : Og g w w') : RetL g n w0 w (some E) (.returned (.bool true)) w' := ⟨rfl, fun _ e => (by cases e; exact h), k⟩
theorem RetL.none_ {g n : Nat} {w0 w w' : World} (k : Og g w w') : RetL g n w0 w none (.returned (.bool false)) w' := ⟨rfl, fun _ e => (by cases e), k⟩
theorem RetL.is_none {g n : Nat} {w0 w w' : World} {o : Option Ln.Ds} {e : Ending} (h : RetL g n w0 w o e w') (ho : o = none) : e = .returned (.bool false) ∧ Og g w w' := by subst ho; exact ⟨h.1, h.2.2⟩
theorem RetL.is_some {g n : Nat} {w0 w w' : World} {o : Option Ln.Ds} {e : Ending} {E : Ln.Ds} (h : RetL g n w0 w o e w') (ho : o = some E) : e = .returned (.bool true) ∧ DAt g n w0 w' E ∧ Og g w w' := by subst ho; exact ⟨h.1, h.2.1 E rfl, h.2.2⟩
theorem RetL.up {g n : Nat} {w0 w w1 w' : World} {o : Option Ln.Ds} {e : Ending} (h : RetL g n w0 w1 o e w') (k : Since w w1) : RetL g n w0 w o e w' := ⟨h.1, h.2.1, (Turn.of k _).trans h.2.2⟩
theorem put_retl {g n j : Nat} {w0 w W : World} {D : Ln.Ds} {s : Int} {d : List Rn} (hd : DAt g n w0 W (D.set j d)) (k : Og g w W) (hF : cut (domAt D (j : Int)) s s = d) :
    RetL g n w0 w (setS (j : Int) s D) (.returned (.bool (decide (d ≠ [])))) W := by
  subst hF
  unfold setS cutS putS
  by_cases c : cut (domAt D (j : Int)) s s = []
  · rw [if_pos c, show decide (cut (domAt D (j : Int)) s s ≠ []) = false by simp [c]]; exact .none_ k
  · rw [if_neg c, show decide (cut (domAt D (j : Int)) s s ≠ []) = true by simp [c]]; exact .some_ hd k
theorem pos_len {d : List Rn} : decide (d ≠ []) = decide (0 < d.length) := by cases d <;> simp
set_option maxRecDepth 20000 in
set_option maxHeartbeats 2000000 in
theorem set_any {g n : Nat} {w0 W : World} {X : List Int} {D : Ln.Ds} {A : Option Addr} {m c : Nat} (h : PL g n w0 W X D A m c) {i : Nat} (him : i < m) (s : Int) :
    Calls Try.prog 127 #[.agg #[.slice A m c, .slice (some ⟨g, 0, none⟩) n n], .int .i64 (i : Int), .int .i64 s] W (RetL g n w0 W (setS (X.getD i 0) s D)) := by
  obtain ⟨j, gx, ox, A3, c3, hj, hjn, rfl, e0, e1, hS, hr, hd, b1, b2, b3⟩ := h.val him
  rw [hj]
  have ka := Lib.hid (since_alloc W (.cells #[.slice (some ⟨gx, ox, none⟩) m c, .slice (some ⟨g, 0, none⟩) n n] 84))
  have BP := Lib.hid (Bx.fresh W #[.slice (some ⟨gx, ox, none⟩) m c, .slice (some ⟨g, 0, none⟩) n n] 84)
  have hgW : W.heap.size ≠ g := by have := h.hi_; omega
  obtain ⟨W1, hW1⟩ : ∃ W1, W1 = W.alloc (.cells #[.slice (some ⟨gx, ox, none⟩) m c, .slice (some ⟨g, 0, none⟩) n n] 84) := ⟨_, rfl⟩
  have GO_ := Lib.hid hW1
  rw [← hW1] at ka BP
  have XC := Lib.hid (fun w (k : Since W1 w) => show w.cell? ⟨gx, ox + i, none⟩ = some (.int .i64 (j : Int)) from ((ka.out.trans k).cell _ (World.block_lt_of_cell? _ _ e0)).trans e0)
  have CC := Lib.hid (fun w (k : Since W1 w) => show w.cell? ⟨g, j, none⟩ = some (.slice A3 (domAt D (j : Int)).length c3) from ((ka.out.trans k).cell _ (World.block_lt_of_cell? _ _ e1)).trans e1)
  have FZ := Lib.hid (fun w (k : Since W1 w) => (h.at_.since (ka.out.trans k)).no hjn)
  have PT := Lib.hid (fun w u d (k : Since W1 w) (hu : NewR W1 w u d) => (h.at_.since ka.out).put2 k hjn hu (Nat.le_trans h.lo_ (Nat.le_trans (Nat.le_of_lt h.hi_) ka.out.size)) (Nat.lt_of_lt_of_le h.hi_ ka.out.size))
  have CU := Lib.hid (fun w (k : Since W1 w) a b a' b' ha hb => cut_at (hS.since stR ka.out) hr w k a b a' b' ha hb)
  have CA := Lib.hid (fun w u (k : Since W1 w) => show (w.setCell ⟨g, j, none⟩ u).cell? ⟨g, j, none⟩ = some u from by
    obtain ⟨-, cs, b1, b2, -, -⟩ := h.at_.since (ka.out.trans k)
    have := (bxset b1 j u rfl).cell j
    rw [this]
    simp [b2, hjn])
  have OG := Lib.hid (fun w u (k : Since W1 w) => show Og g W (w.setCell ⟨g, j, none⟩ u) from Og.put (Turn.of (ka.out.trans k) _) j u)
  have BG := Lib.hid (fun w u (k : Since W1 w) => show Bx (w.setCell ⟨g, j, none⟩ u) W.heap.size #[.slice (some ⟨gx, ox, none⟩) m c, .slice (some ⟨g, 0, none⟩) n n] 84 from Og.bx (Og.put (Og.refl g w) j u) (BP.out.since k) hgW)
  have RS := Lib.hid (fun W' d (hd : DAt g n w0 W' (D.set j d)) (k : Og g W W') (hF : cut (domAt D (j : Int)) s s = d) => put_retl hd k hF)
  generalize (domAt D (j : Int)).length = dl at *
  clear hS hr hd e0 e1 h hj b1 b2 b3 hgW
  have y8 := XC.out _ (Since.refl W1)
  rw [GO_.out] at y8
  go_enter Try.func127, Try.ntmps127
  go_wp2
  clear y8
  rw [← GO_.out]
  have hr0 : Since W1 W1.drew := Since.drew (Since.refl W1)
  refine wp_region_noPanic ?_
  refine Reg.wp_region_G (S := fun _ => True) (fun j => [12].contains j) (by kernel_rfl) trivial ?_
  refine' Reg.tk3 (i := 0) (v := _) (some 13) [1, 11, 12] [12] rfl (Or.inl ⟨by rfl, Or.inl ?hy20⟩) ?rest20
  case hy20 => (intro w' kk ss; obtain ⟨x0, x1⟩ := (BP.out.since (hr0.trans kk)).two; have y0 := XC.out _ (hr0.trans kk); have y1 := CC.out _ (hr0.trans kk); go_simp; first | done | with_reducible rfl)
  try simp only [Act.put, List.setIfInBounds_toArray, List.set_cons_zero, List.set_cons_succ]
  refine' Reg.tk3 (i := 1) (v := _) (some 14) [11, 12] [12] rfl (Or.inl ⟨by rfl, Or.inl ?hy21⟩) ?rest21
  case hy21 => (intro w' kk ss; obtain ⟨x0, x1⟩ := (BP.out.since (hr0.trans kk)).two; have y0 := XC.out _ (hr0.trans kk); have y1 := CC.out _ (hr0.trans kk); go_simp; first | done | with_reducible rfl)
  try simp only [Act.put, List.setIfInBounds_toArray, List.set_cons_zero, List.set_cons_succ]
  refine' Reg.tk3 (i := 2) (v := _) (some 15) [11, 12] [12] rfl (Or.inl ⟨by rfl, Or.inl ?hy22⟩) ?rest22
  case hy22 => (intro w' kk ss; obtain ⟨x0, x1⟩ := (BP.out.since (hr0.trans kk)).two; have y0 := XC.out _ (hr0.trans kk); have y1 := CC.out _ (hr0.trans kk); go_simp; first | done | with_reducible rfl)
  try simp only [Act.put, List.setIfInBounds_toArray, List.set_cons_zero, List.set_cons_succ]
  refine' Reg.tk3 (i := 3) (v := _) (some 16) [4, 6, 7, 10, 11, 12] [12] rfl (Or.inl ⟨by rfl, Or.inl ?hy23⟩) ?rest23
  case hy23 => (intro w' kk ss; obtain ⟨x0, x1⟩ := (BP.out.since (hr0.trans kk)).two; have y0 := XC.out _ (hr0.trans kk); have y1 := CC.out _ (hr0.trans kk); go_simp; first | done | with_reducible rfl)
  try simp only [Act.put, List.setIfInBounds_toArray, List.set_cons_zero, List.set_cons_succ]
  refine' Reg.tk3 (i := 4) (v := _) (some 17) [6, 7, 10, 11, 12] [12] rfl (Or.inl ⟨by rfl, Or.inl ?hy24⟩) ?rest24
  case hy24 => (intro w' kk ss; obtain ⟨x0, x1⟩ := (BP.out.since (hr0.trans kk)).two; have y0 := XC.out _ (hr0.trans kk); have y1 := CC.out _ (hr0.trans kk); go_simp; first | done | with_reducible rfl)
  try simp only [Act.put, List.setIfInBounds_toArray, List.set_cons_zero, List.set_cons_succ]
  refine' Reg.tk3 (i := 5) (v := _) (some 18) [6, 7, 10, 11, 12] [12] rfl (Or.inl ⟨by rfl, Or.inl ?hy25⟩) ?rest25
  case hy25 => (intro w' kk ss; obtain ⟨x0, x1⟩ := (BP.out.since (hr0.trans kk)).two; have y0 := XC.out _ (hr0.trans kk); have y1 := CC.out _ (hr0.trans kk); go_simp; first | done | with_reducible rfl)
  try simp only [Act.put, List.setIfInBounds_toArray, List.set_cons_zero, List.set_cons_succ]
  refine' Reg.tk3 (i := 6) (v := _) (some 19) [7, 10, 11, 12] [12] rfl (Or.inl ⟨by rfl, Or.inl ?hy26⟩) ?rest26
  case hy26 => (intro w' kk ss; obtain ⟨x0, x1⟩ := (BP.out.since (hr0.trans kk)).two; have y0 := XC.out _ (hr0.trans kk); have y1 := CC.out _ (hr0.trans kk); go_simp; first | done | with_reducible rfl)
  try simp only [Act.put, List.setIfInBounds_toArray, List.set_cons_zero, List.set_cons_succ]
  refine' Reg.tk3 (i := 7) (v := _) (some 20) [10, 11, 12] [12] rfl (Or.inl ⟨by rfl, Or.inl ?hy27⟩) ?rest27
  case hy27 => (intro w' kk ss; obtain ⟨x0, x1⟩ := (BP.out.since (hr0.trans kk)).two; have y0 := XC.out _ (hr0.trans kk); have y1 := CC.out _ (hr0.trans kk); go_simp; first | done | with_reducible rfl)
  try simp only [Act.put, List.setIfInBounds_toArray, List.set_cons_zero, List.set_cons_succ]
  refine' Reg.tk3 (i := 8) (v := _) (some 21) [10, 11, 12] [12] rfl (Or.inl ⟨by rfl, Or.inl ?hy28⟩) ?rest28
  case hy28 => (intro w' kk ss; obtain ⟨x0, x1⟩ := (BP.out.since (hr0.trans kk)).two; have y0 := XC.out _ (hr0.trans kk); have y1 := CC.out _ (hr0.trans kk); go_simp; first | done | with_reducible rfl)
  try simp only [Act.put, List.setIfInBounds_toArray, List.set_cons_zero, List.set_cons_succ]
  refine' Reg.tk3 (i := 9) (v := _) (some 22) [10, 11, 12] [12] rfl (Or.inl ⟨by rfl, Or.inl ?hy29⟩) ?rest29
  case hy29 => (intro w' kk ss; obtain ⟨x0, x1⟩ := (BP.out.since (hr0.trans kk)).two; have y0 := XC.out _ (hr0.trans kk); have y1 := CC.out _ (hr0.trans kk); go_simp; first | done | with_reducible rfl)
  try simp only [Act.put, List.setIfInBounds_toArray, List.set_cons_zero, List.set_cons_succ]
  refine Reg.wpG_ready (rs := [10]) (by kernel_rfl) (by simp) (fun wq19001 k19001' sq19001 => ?_)
  have hr0 := hr0.trans k19001'
  refine Reg.AllG.first (o := { dst := some 23, op := Op.call { callee := Callee.value (Operand.func 186), args := #[Operand.tmp 20, Operand.tmp 21, Operand.tmp 22], argTypes := #[43, 2, 2] }, type := 43, pos := "places.go:51", after := #[{ on := 7, ground := Ground.data }, { on := 8, ground := Ground.data }, { on := 9, ground := Ground.data }], guard := none }) rfl (by rfl) (fun K hK => ?_) Reg.AllG.nil
  go_simp
  (with_reducible refine (CU.out wq19001 hr0 s s _ _ rfl rfl).mono ?_)
  rintro e y19001 ⟨A2, m2, c2, rfl, hm2, q1, hx⟩
  refine hK.out _ _ trivial hx ?_
  clear hK K
  have hr0 := hr0.trans hx
  clear hx
  try simp only [Act.put, List.setIfInBounds_toArray, List.set_cons_zero, List.set_cons_succ]
  refine' Reg.tk3 (i := 11) (v := _) (some 24) [12] [12] rfl (Or.inl ⟨by rfl, Or.inl ?hy30⟩) ?rest30
  case hy30 => (intro w' kk ss; obtain ⟨x0, x1⟩ := (BP.out.since (hr0.trans kk)).two; have y0 := XC.out _ (hr0.trans kk); have y1 := CC.out _ (hr0.trans kk); go_simp; first | done | with_reducible rfl)
  try simp only [Act.put, List.setIfInBounds_toArray, List.set_cons_zero, List.set_cons_succ]
  refine Reg.wpG_ready (rs := [12]) (by kernel_rfl) (by simp) (fun wq k19002' sq => ?_)
  have hr0 := hr0.trans k19002'
  have q1 := q1.since k19002'
  refine Reg.AllG.last (o := { dst := none, op := Op.store 43 (Operand.tmp 24) (Operand.tmp 23), type := 0, pos := "places.go:51", after := #[{ on := 11, ground := Ground.data }, { on := 10, ground := Ground.data }, { on := 10, ground := Ground.chain }, { on := 0, ground := Ground.phase }, { on := 1, ground := Ground.phase }, { on := 2, ground := Ground.phase }, { on := 3, ground := Ground.phase }, { on := 4, ground := Ground.phase }, { on := 5, ground := Ground.phase }, { on := 6, ground := Ground.phase }, { on := 7, ground := Ground.phase }, { on := 8, ground := Ground.phase }, { on := 9, ground := Ground.phase }, { on := 10, ground := Ground.phase }], guard := none }) rfl (by rfl) (fun K hK => ?_) Reg.AllG.nil
  have PU := Lib.hid (PT.out _ _ _ hr0 q1)
  have z0 := CC.out _ hr0
  have zf := FZ.out _ hr0
  obtain ⟨x0, x1⟩ := (BP.out.since hr0).two
  have zn := CA.out _ (.slice A2 m2 c2) hr0
  obtain ⟨z5, z6⟩ := (BG.out _ (.slice A2 m2 c2) hr0).two
  have KO := Lib.hid (OG.out _ (.slice A2 m2 c2) hr0)
  go_simp
  refine hK.out _ _ trivial (fun hHeld => ?_)
  clear hK K
  try simp only [Act.put, List.setIfInBounds_toArray, List.set_cons_zero, List.set_cons_succ]
  refine wpAnyH_done (by kernel_rfl) ?_ _
  refine NoPanic.normal ?_
  go_wp2
  go_ret
  have hh := RS.out _ _ PU.out KO.out rfl
  rw [pos_len] at hh
  first | exact hh | (rw [hm2] at hh; exact hh) | (rw [← hm2] at hh; exact hh)
end Go.Proofs.Ytilgmkhcpmegjaa.Lgc
