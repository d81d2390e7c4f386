/- Layer 15 (logic): the landed clause. -/
import Derived.Test.YtilgmkhcpmegjaaCe
import Derived.Test.YtilgmkhcpmegjaaCd
namespace Go.Proofs.Ytilgmkhcpmegjaa.Lgc
open Go.RowKit
set_option linter.unusedVariables false
set_option linter.unusedSimpArgs false
open Go.Proofs.Ytilgmkhcpmegjaa.Dig Go.Proofs.Ytilgmkhcpmegjaa.Lx Go.Proofs.Ytilgmkhcpmegjaa.Tk Go.Proofs.Ytilgmkhcpmegjaa.Ti Go.Proofs.Ytilgmkhcpmegjaa.Zs Go.Proofs.Ytilgmkhcpmegjaa.Tr Go.Proofs.Ytilgmkhcpmegjaa.Sn Go.Proofs.Ytilgmkhcpmegjaa.Ln Go.Proofs.Ytilgmkhcpmegjaa.At
theorem tr_two (n : Int) : tr n = 0 ∨ tr n = 1 := by unfold tr; split <;> omega
section
variable {X a : List Int} {D : Ln.Ds}
theorem cluP_len (hl : a.length = X.length) : (cluP X a).length = X.length := by simp [cluP, hl]
theorem cluP_at (hl : a.length = X.length) {i : Nat} (hi : i < X.length) : (cluP X a)[i]? = some (X.getD i 0, tr (a.getD i 0)) := by
  have hi2 : i < a.length := by omega
  simp [cluP, List.getElem?_zip_eq_some, List.getD, hi, hi2, List.zip, List.getElem?_zipWith]
theorem cluP_fst (hl : a.length = X.length) : (cluP X a).map Prod.fst = X := by
  unfold cluP
  exact List.map_fst_zip (by simp [hl])
theorem clu_hit (hl : a.length = X.length) {i : Nat} (hi : i < X.length) (h : stt (X.getD i 0) D = tr (a.getD i 0)) : cluS (cluP X a) D = some D := by
  refine clu_true (List.mem_of_getElem? (cluP_at hl hi)) ?_
  rw [← stt_isv (tr_two _)]
  exact decide_eq_true h
theorem clu_miss (hl : a.length = X.length) (h : ∀ i, i < X.length → stt (X.getD i 0) D ≠ tr (a.getD i 0)) : ∀ p ∈ cluP X a, isv p.1 p.2 D = false := fun p hp => by
  obtain ⟨i, hi, e⟩ := List.mem_iff_getElem.1 hp
  rw [cluP_len hl] at hi
  have e2 := cluP_at (a := a) hl hi
  rw [List.getElem?_eq_getElem (by rw [cluP_len hl]; exact hi), e] at e2
  injection e2 with e2
  rw [e2, ← stt_isv (tr_two _)]
  exact decide_eq_false (h i hi)
theorem clu_filt (hl : a.length = X.length) : ((cluP X a).filter (fun p => ope p.1 D)).length = (X.filter (fun x => ope x D)).length := by
  conv => rhs; rw [← cluP_fst (a := a) hl]
  rw [List.filter_map, List.length_map]
  rfl
theorem clu_set (hl : a.length = X.length) (h : ∀ i, i < X.length → stt (X.getD i 0) D ≠ tr (a.getD i 0)) {l1 l2 : List Int} {x : Int} (e : X = l1 ++ x :: l2) (h1 : ∀ q ∈ l1, ope q D = false) (h2 : ∀ q ∈ l2, ope q D = false) (h3 : ope x D = true) :
    cluS (cluP X a) D = setS x (tr (a.getD l1.length 0)) D := by
  have hp : l1.length < X.length := by rw [e]; simp
  have hp2 : l1.length < (cluP X a).length := by rw [cluP_len hl]; exact hp
  have hx : X.getD l1.length 0 = x := by rw [e]; simp [List.getD]
  have e2 := cluP_at (a := a) hl hp
  rw [List.getElem?_eq_getElem hp2, hx] at e2
  injection e2 with e2
  have e3 : cluP X a = (cluP X a).take l1.length ++ (x, tr (a.getD l1.length 0)) :: (cluP X a).drop (l1.length + 1) := by
    rw [← e2, ← List.drop_eq_getElem_cons hp2, List.take_append_drop]
  have m1 : ∀ q ∈ (cluP X a).take l1.length, q.1 ∈ l1 := fun q hq => by
    have := List.mem_map_of_mem (f := Prod.fst) hq
    rw [List.map_take, cluP_fst hl] at this
    rw [e] at this; simpa using this
  have m2 : ∀ q ∈ (cluP X a).drop (l1.length + 1), q.1 ∈ l2 := fun q hq => by
    have := List.mem_map_of_mem (f := Prod.fst) hq
    rw [List.map_drop, cluP_fst hl] at this
    rw [e] at this; simpa using this
  exact clu_one (p := (x, tr (a.getD l1.length 0))) e3 (clu_miss hl h) (fun q hq => h1 _ (m1 q hq)) (fun q hq => h2 _ (m2 q hq)) h3
theorem clu_zero (hl : a.length = X.length) (h : ∀ i, i < X.length → stt (X.getD i 0) D ≠ tr (a.getD i 0)) (h0 : (X.filter (fun x => ope x D)).length = 0) : cluS (cluP X a) D = none := by
  rw [← clu_filt (a := a) hl, List.length_eq_zero_iff] at h0
  exact clu_none (clu_miss hl h) fun p hp => by simpa using List.filter_eq_nil_iff.1 h0 p hp
theorem clu_more (hl : a.length = X.length) (h : ∀ i, i < X.length → stt (X.getD i 0) D ≠ tr (a.getD i 0)) (h0 : (X.filter (fun x => ope x D)).length ≠ 0) (h1 : (X.filter (fun x => ope x D)).length ≠ 1) : cluS (cluP X a) D = some D := by
  rw [← clu_filt (a := a) hl] at h0 h1
  rcases clu_ways (cluP X a) D with ⟨-, e⟩ | ⟨-, b, -⟩ | ⟨-, p, l1, l2, e0, b1, b2, b3, -⟩ | ⟨-, p, q, l, -, e⟩
  · exact e
  · exact absurd (by rw [List.length_eq_zero_iff]; exact List.filter_eq_nil_iff.2 fun p hp k => by rw [b p hp] at k; cases k) h0
  · exact absurd (by rw [filt_is (P := fun p : Int × Int => ope p.1 D) e0 b1 b2 b3]; rfl) h1
  · exact e
end
set_option maxRecDepth 20000 in
set_option maxHeartbeats 8000000 in
theorem clause_any {g n : Nat} {w0 W : World} {X : List Int} {D : Ln.Ds} {A : Option Addr} {m c : Nat} (h : PL g n w0 W X D A m c) {a : List Int} {Y : Option Addr} {yc : Nat} (ha : Sl 1 QI W (.slice Y m yc) a) (hal : a.length = m) :
    Calls Try.prog 67 #[.agg #[.slice A m c, .slice (some ⟨g, 0, none⟩) n n], .slice Y m yc] W (RetL g n w0 W (cluS (cluP X a) D)) := by
  have SS := Lib.hid (fun w (k : Since W w) i (hi : i < m) s => (set_any (h.since k) hi s).mono fun e w' hh => RetL.up hh k)
  have IS := Lib.hid (fun w (k : Since W w) i (hi : i < m) => is_any (h.since k) hi)
  have YS := Lib.hid (fun w (k : Since W w) => RetL.some_ (h.at_.since k) (Turn.of k (but g)))
  have NS := Lib.hid (fun w (k : Since W w) => RetL.none_ (g := g) (n := n) (w0 := w0) (Turn.of k (but g)))
  have hlX : a.length = X.length := by rw [h.len]; exact hal
  have HL := Lib.hid hlX
  have HX := Lib.hid h.len
  have HB := Lib.hid h.bt
  have HP := Lib.hid h
  have HA := Lib.hid (fun i (hi : i < m) => show ∃ gy oy, Y = some ⟨gy, oy, none⟩ ∧ W.cell? ⟨gy, oy + i, none⟩ = some (.int .i64 (a.getD i 0)) from (by
    obtain ⟨gy, oy, e1, e2⟩ := elI ha (i := i) (by omega)
    exact ⟨gy, oy, e1, by rw [show a.getD i 0 = a[i] by simp [List.getD, show i < a.length by omega]]; exact e2⟩))
  have hm32 : m ≤ 32 := h.le
  have ka := Lib.hid (since_alloc W (.cells #[.slice A m c, .slice (some ⟨g, 0, none⟩) n n] 84))
  have BP := Lib.hid (Bx.fresh W #[.slice A m c, .slice (some ⟨g, 0, none⟩) n n] 84)
  have hgW : W.heap.size ≠ g := by have := h.hi_; omega
  obtain ⟨x0, x1⟩ := BP.out.two
  clear h ha hlX hal
  go_enter Try.func67, Try.ntmps67
  go_wp2
  clear x0 x1
  go_loopw [13] (fun i wr => ∃ (q : Nat), i = .int .i64 (q : Int) ∧ q ≤ m ∧ Hid (Since (W.alloc (.cells #[.slice A m c, .slice (some ⟨g, 0, none⟩) n n] 84)) wr) ∧ Hid (∀ i, i < q → stt (X.getD i 0) D ≠ tr (a.getD i 0))) (fun i _ => m - (intOf i).toNat)
  case atStart => exact ⟨0, rfl, Nat.zero_le _, Lib.hid (Since.refl _), Lib.hid fun i hi => absurd hi (Nat.not_lt_zero _)⟩
  case round =>
    obtain ⟨q, rfl, hq, HW, HN⟩ := hrel
    by_cases hqm : q < m
    · obtain ⟨gy, oy, rfl, e0⟩ := HA.out q hqm
      have YC := Lib.hid (fun w (k : Since wr w) => show w.cell? ⟨gy, oy + q, none⟩ = some (.int .i64 (a.getD q 0)) from (((ka.out.trans HW.out).trans k).cell _ (World.block_lt_of_cell? _ _ e0)).trans e0)
      have I1 := Lib.hid (fun w (k : Since wr w) => IS.out w ((ka.out.trans HW.out).trans k) q hqm)
      have HIT := Lib.hid (clu_hit (D := D) HL.out (i := q) (by rw [HX.out]; exact hqm))
      have MISS := Lib.hid (fun (hne : stt (X.getD q 0) D ≠ tr (a.getD q 0)) i (hi : i < q + 1) => show stt (X.getD i 0) D ≠ tr (a.getD i 0) from (by
        by_cases e : i = q
        · subst e; exact hne
        · exact HN.out i (by omega)))
      obtain ⟨x0, x1⟩ := (BP.out.since HW.out).two
      generalize stt (X.getD q 0) D = z at *
      generalize a.getD q 0 = y at *
      clear e0
      by_cases c1 : z = tr y
      · rw [HIT.out c1]
        go_wp2
        have hr0 : Since wr wr.drew := Since.drew (Since.refl wr)
        refine wp_region_noPanic ?_
        refine Reg.wp_region_G (S := fun _ => True) (fun j => [].contains j) (by kernel_rfl) trivial ?_
        refine' Reg.tk3 (i := 0) (v := _) (some 16) [2, 7, 8] [] rfl (Or.inl ⟨by rfl, Or.inl ?hy90⟩) ?rest90
        case hy90 => (intro w' kk ss; obtain ⟨x0, x1⟩ := (BP.out.since (HW.out.trans (hr0.trans kk))).two; have y0 := YC.out _ (hr0.trans kk); go_simp; first | done | with_reducible rfl)
        try simp only [Act.put, List.setIfInBounds_toArray, List.set_cons_zero, List.set_cons_succ]
        refine' Reg.tk3 (i := 1) (v := _) (some 17) [2, 7, 8] [] rfl (Or.inl ⟨by rfl, Or.inl ?hy91⟩) ?rest91
        case hy91 => (intro w' kk ss; obtain ⟨x0, x1⟩ := (BP.out.since (HW.out.trans (hr0.trans kk))).two; have y0 := YC.out _ (hr0.trans kk); go_simp; first | done | with_reducible rfl)
        try simp only [Act.put, List.setIfInBounds_toArray, List.set_cons_zero, List.set_cons_succ]
        refine Reg.tk3 (i := 2) (v := .int .i64 z) (some 18) [7, 8] [] rfl (Or.inl ⟨by rfl, Or.inr ⟨124, #[.agg #[.slice A m c, .slice (some ⟨g, 0, none⟩) n n], .int .i64 (q : Int)], fun w' kk ss => ⟨?_, ?_⟩⟩⟩) ?_
        · (try dsimp only at ss); go_simp
        · exact I1.out _ (hr0.trans kk)
        try simp only [Act.put, List.setIfInBounds_toArray, List.set_cons_zero, List.set_cons_succ]
        refine' Reg.tk3 (i := 3) (v := _) (some 19) [5, 6, 7, 8] [] rfl (Or.inl ⟨by rfl, Or.inl ?hy92⟩) ?rest92
        case hy92 => (intro w' kk ss; obtain ⟨x0, x1⟩ := (BP.out.since (HW.out.trans (hr0.trans kk))).two; have y0 := YC.out _ (hr0.trans kk); go_simp; first | done | with_reducible rfl)
        try simp only [Act.put, List.setIfInBounds_toArray, List.set_cons_zero, List.set_cons_succ]
        refine' Reg.tk3 (i := 4) (v := _) (some 20) [5, 6, 7, 8] [] rfl (Or.inl ⟨by rfl, Or.inl ?hy93⟩) ?rest93
        case hy93 => (intro w' kk ss; obtain ⟨x0, x1⟩ := (BP.out.since (HW.out.trans (hr0.trans kk))).two; have y0 := YC.out _ (hr0.trans kk); go_simp; first | done | with_reducible rfl)
        try simp only [Act.put, List.setIfInBounds_toArray, List.set_cons_zero, List.set_cons_succ]
        refine' Reg.tk3 (i := 5) (v := _) (some 21) [6, 7, 8] [] rfl (Or.inl ⟨by rfl, Or.inl ?hy94⟩) ?rest94
        case hy94 => (intro w' kk ss; obtain ⟨x0, x1⟩ := (BP.out.since (HW.out.trans (hr0.trans kk))).two; have y0 := YC.out _ (hr0.trans kk); go_simp; first | done | with_reducible rfl)
        try simp only [Act.put, List.setIfInBounds_toArray, List.set_cons_zero, List.set_cons_succ]
        refine' Reg.tk3 (i := 6) (v := _) (some 22) [7, 8] [] rfl (Or.inl ⟨by rfl, Or.inl ?hy95⟩) ?rest95
        case hy95 => (intro w' kk ss; obtain ⟨x0, x1⟩ := (BP.out.since (HW.out.trans (hr0.trans kk))).two; have y0 := YC.out _ (hr0.trans kk); go_simp; first | done | with_reducible rfl)
        try simp only [Act.put, List.setIfInBounds_toArray, List.set_cons_zero, List.set_cons_succ]
        refine Reg.tk3 (i := 7) (v := .int .i64 (tr y)) (some 23) [8] [] rfl (Or.inl ⟨by rfl, Or.inr ⟨125, #[.int .i64 y], fun w' kk ss => ⟨?_, ?_⟩⟩⟩) ?_
        · (try dsimp only at ss); go_simp
        · exact truth_any y _
        try simp only [Act.put, List.setIfInBounds_toArray, List.set_cons_zero, List.set_cons_succ]
        refine' Reg.tk3 (i := 8) (v := _) (some 24) [] [] rfl (Or.inl ⟨by rfl, Or.inl ?hy96⟩) ?rest96
        case hy96 => (intro w' kk ss; obtain ⟨x0, x1⟩ := (BP.out.since (HW.out.trans (hr0.trans kk))).two; have y0 := YC.out _ (hr0.trans kk); go_simp; first | done | with_reducible rfl)
        try simp only [Act.put, List.setIfInBounds_toArray, List.set_cons_zero, List.set_cons_succ]
        refine Reg.wpG_done (by kernel_rfl) (fun we ke se => ?_) _
        refine NoPanic.normal ?_
        have hr0 := hr0.trans ke
        clear ke
        have KB := Lib.hid (ka.out.trans (HW.out.trans hr0))
        go_wp2
        go_ret
        exact YS.out _ KB.out
      · have MI := Lib.hid (MISS.out c1)
        clear HIT MISS
        go_wp2
        have hr0 : Since wr wr.drew := Since.drew (Since.refl wr)
        refine wp_region_noPanic ?_
        refine Reg.wp_region_G (S := fun _ => True) (fun j => [].contains j) (by kernel_rfl) trivial ?_
        refine' Reg.tk3 (i := 0) (v := _) (some 16) [2, 7, 8] [] rfl (Or.inl ⟨by rfl, Or.inl ?hy97⟩) ?rest97
        case hy97 => (intro w' kk ss; obtain ⟨x0, x1⟩ := (BP.out.since (HW.out.trans (hr0.trans kk))).two; have y0 := YC.out _ (hr0.trans kk); go_simp; first | done | with_reducible rfl)
        try simp only [Act.put, List.setIfInBounds_toArray, List.set_cons_zero, List.set_cons_succ]
        refine' Reg.tk3 (i := 1) (v := _) (some 17) [2, 7, 8] [] rfl (Or.inl ⟨by rfl, Or.inl ?hy98⟩) ?rest98
        case hy98 => (intro w' kk ss; obtain ⟨x0, x1⟩ := (BP.out.since (HW.out.trans (hr0.trans kk))).two; have y0 := YC.out _ (hr0.trans kk); go_simp; first | done | with_reducible rfl)
        try simp only [Act.put, List.setIfInBounds_toArray, List.set_cons_zero, List.set_cons_succ]
        refine Reg.tk3 (i := 2) (v := .int .i64 z) (some 18) [7, 8] [] rfl (Or.inl ⟨by rfl, Or.inr ⟨124, #[.agg #[.slice A m c, .slice (some ⟨g, 0, none⟩) n n], .int .i64 (q : Int)], fun w' kk ss => ⟨?_, ?_⟩⟩⟩) ?_
        · (try dsimp only at ss); go_simp
        · exact I1.out _ (hr0.trans kk)
        try simp only [Act.put, List.setIfInBounds_toArray, List.set_cons_zero, List.set_cons_succ]
        refine' Reg.tk3 (i := 3) (v := _) (some 19) [5, 6, 7, 8] [] rfl (Or.inl ⟨by rfl, Or.inl ?hy99⟩) ?rest99
        case hy99 => (intro w' kk ss; obtain ⟨x0, x1⟩ := (BP.out.since (HW.out.trans (hr0.trans kk))).two; have y0 := YC.out _ (hr0.trans kk); go_simp; first | done | with_reducible rfl)
        try simp only [Act.put, List.setIfInBounds_toArray, List.set_cons_zero, List.set_cons_succ]
        refine' Reg.tk3 (i := 4) (v := _) (some 20) [5, 6, 7, 8] [] rfl (Or.inl ⟨by rfl, Or.inl ?hy100⟩) ?rest100
        case hy100 => (intro w' kk ss; obtain ⟨x0, x1⟩ := (BP.out.since (HW.out.trans (hr0.trans kk))).two; have y0 := YC.out _ (hr0.trans kk); go_simp; first | done | with_reducible rfl)
        try simp only [Act.put, List.setIfInBounds_toArray, List.set_cons_zero, List.set_cons_succ]
        refine' Reg.tk3 (i := 5) (v := _) (some 21) [6, 7, 8] [] rfl (Or.inl ⟨by rfl, Or.inl ?hy101⟩) ?rest101
        case hy101 => (intro w' kk ss; obtain ⟨x0, x1⟩ := (BP.out.since (HW.out.trans (hr0.trans kk))).two; have y0 := YC.out _ (hr0.trans kk); go_simp; first | done | with_reducible rfl)
        try simp only [Act.put, List.setIfInBounds_toArray, List.set_cons_zero, List.set_cons_succ]
        refine' Reg.tk3 (i := 6) (v := _) (some 22) [7, 8] [] rfl (Or.inl ⟨by rfl, Or.inl ?hy102⟩) ?rest102
        case hy102 => (intro w' kk ss; obtain ⟨x0, x1⟩ := (BP.out.since (HW.out.trans (hr0.trans kk))).two; have y0 := YC.out _ (hr0.trans kk); go_simp; first | done | with_reducible rfl)
        try simp only [Act.put, List.setIfInBounds_toArray, List.set_cons_zero, List.set_cons_succ]
        refine Reg.tk3 (i := 7) (v := .int .i64 (tr y)) (some 23) [8] [] rfl (Or.inl ⟨by rfl, Or.inr ⟨125, #[.int .i64 y], fun w' kk ss => ⟨?_, ?_⟩⟩⟩) ?_
        · (try dsimp only at ss); go_simp
        · exact truth_any y _
        try simp only [Act.put, List.setIfInBounds_toArray, List.set_cons_zero, List.set_cons_succ]
        refine' Reg.tk3 (i := 8) (v := _) (some 24) [] [] rfl (Or.inl ⟨by rfl, Or.inl ?hy103⟩) ?rest103
        case hy103 => (intro w' kk ss; obtain ⟨x0, x1⟩ := (BP.out.since (HW.out.trans (hr0.trans kk))).two; have y0 := YC.out _ (hr0.trans kk); go_simp; first | done | with_reducible rfl)
        try simp only [Act.put, List.setIfInBounds_toArray, List.set_cons_zero, List.set_cons_succ]
        refine Reg.wpG_done (by kernel_rfl) (fun we ke se => ?_) _
        refine NoPanic.normal ?_
        have hr0 := hr0.trans ke
        clear ke
        have KB := Lib.hid (HW.out.trans hr0)
        go_wp2
        go_roundw
        case rel => exact ⟨q + 1, by go_num, by omega, KB, MI⟩
        case measure => simp [intOf]; omega
    · obtain rfl : q = m := by omega
      have hmi : ∀ i, i < X.length → stt (X.getD i 0) D ≠ tr (a.getD i 0) := fun i hi => HN.out i (by rw [HX.out] at hi; exact hi)
      have hb := HB.out
      have tkX : X.take q = X := List.take_of_length_le (by rw [HX.out]; exact Nat.le_refl _)
      have KE := Lib.hid (ka.out.trans HW.out)
      obtain ⟨x0, x1⟩ := (BP.out.since HW.out).two
      have hco := cnt_ope (k := q) hb
      rw [tkX] at hco
      by_cases c4 : cntK X q 2 D = 1
      · obtain ⟨l1, x, l2, e1, e2, e3, e4⟩ := first_of (P := fun x => decide (stt x D = 2)) (l := X.take q) c4
        have hl1 : ∀ q ∈ l1, stt q D ≠ 2 := fun q hq => by simpa using e2 q hq
        have hxx : stt x D = 2 := by simpa using e4
        have ON := Lib.hid (fun w (k : Since W w) => only_yes (HP.out.since k) (Nat.le_refl _) c4 e1 hl1 hxx)
        rw [tkX] at e1
        have hlk : l1.length < q := by rw [← HX.out, e1]; simp
        have hat : X.getD l1.length 0 = x := by rw [e1]; simp [List.getD]
        have S1 := Lib.hid (fun w (k : Since W w) => SS.out w k l1.length hlk (tr (a.getD l1.length 0)))
        rw [hat] at S1
        have mem1 : ∀ q ∈ l1, q ∈ X := fun q hq => by rw [e1]; simp [hq]
        have mem2 : ∀ q ∈ l2, q ∈ X := fun q hq => by rw [e1]; simp [hq]
        have mem3 : x ∈ X := by rw [e1]; simp
        have EQ := Lib.hid (clu_set HL.out hmi e1 (fun q hq => by rw [← stt_ope (hb q (mem1 q hq))]; exact e2 q hq) (fun q hq => by rw [← stt_ope (hb q (mem2 q hq))]; exact e3 q hq) (by rw [← stt_ope (hb x mem3)]; exact e4))
        obtain ⟨gy, oy, rfl, e0⟩ := HA.out l1.length hlk
        have YP := Lib.hid (fun w (k : Since W w) => show w.cell? ⟨gy, oy + l1.length, none⟩ = some (.int .i64 (a.getD l1.length 0)) from (k.cell _ (World.block_lt_of_cell? _ _ e0)).trans e0)
        generalize a.getD l1.length 0 = y at *
        generalize setS x (tr y) D = o at *
        generalize l1.length = p at *
        clear e0 e1 e2 e3 e4 hl1 hxx hat mem1 mem2 mem3 c4 hco tkX hmi SS IS YS NS HA
        go_wp2_with (go_at_call 126; (with_reducible refine (ON.out _ KE.out).mono ?_); rintro e w2 ⟨rfl, k2, -⟩; have KB2 := Lib.hid (HW.out.trans k2); have KE2 := Lib.hid (KE.out.trans k2); obtain ⟨x0, x1⟩ := (BP.out.since (HW.out.trans k2)).two; clear k2)
        have hr0 : Since w2 w2.drew := Since.drew (Since.refl w2)
        refine wp_region_noPanic ?_
        refine Reg.wp_region_G (S := fun _ => True) (fun j => [7, 8].contains j) (by kernel_rfl) trivial ?_
        refine' Reg.tk3 (i := 0) (v := _) (some 33) [7, 8] [7, 8] rfl (Or.inl ⟨by rfl, Or.inl ?hy104⟩) ?rest104
        case hy104 => (intro w' kk ss; obtain ⟨x0, x1⟩ := (BP.out.since (KB2.out.trans (hr0.trans kk))).two; have y0 := YP.out _ (KE2.out.trans (hr0.trans kk)); go_simp; first | done | with_reducible rfl)
        try simp only [Act.put, List.setIfInBounds_toArray, List.set_cons_zero, List.set_cons_succ]
        refine' Reg.tk3 (i := 1) (v := _) (some 34) [7, 8] [7, 8] rfl (Or.inl ⟨by rfl, Or.inl ?hy105⟩) ?rest105
        case hy105 => (intro w' kk ss; obtain ⟨x0, x1⟩ := (BP.out.since (KB2.out.trans (hr0.trans kk))).two; have y0 := YP.out _ (KE2.out.trans (hr0.trans kk)); go_simp; first | done | with_reducible rfl)
        try simp only [Act.put, List.setIfInBounds_toArray, List.set_cons_zero, List.set_cons_succ]
        refine' Reg.tk3 (i := 2) (v := _) (some 35) [4, 5, 6, 7, 8] [7, 8] rfl (Or.inl ⟨by rfl, Or.inl ?hy106⟩) ?rest106
        case hy106 => (intro w' kk ss; obtain ⟨x0, x1⟩ := (BP.out.since (KB2.out.trans (hr0.trans kk))).two; have y0 := YP.out _ (KE2.out.trans (hr0.trans kk)); go_simp; first | done | with_reducible rfl)
        try simp only [Act.put, List.setIfInBounds_toArray, List.set_cons_zero, List.set_cons_succ]
        refine' Reg.tk3 (i := 3) (v := _) (some 36) [4, 5, 6, 7, 8] [7, 8] rfl (Or.inl ⟨by rfl, Or.inl ?hy107⟩) ?rest107
        case hy107 => (intro w' kk ss; obtain ⟨x0, x1⟩ := (BP.out.since (KB2.out.trans (hr0.trans kk))).two; have y0 := YP.out _ (KE2.out.trans (hr0.trans kk)); go_simp; first | done | with_reducible rfl)
        try simp only [Act.put, List.setIfInBounds_toArray, List.set_cons_zero, List.set_cons_succ]
        refine' Reg.tk3 (i := 4) (v := _) (some 37) [5, 6, 7, 8] [7, 8] rfl (Or.inl ⟨by rfl, Or.inl ?hy108⟩) ?rest108
        case hy108 => (intro w' kk ss; obtain ⟨x0, x1⟩ := (BP.out.since (KB2.out.trans (hr0.trans kk))).two; have y0 := YP.out _ (KE2.out.trans (hr0.trans kk)); go_simp; first | done | with_reducible rfl)
        try simp only [Act.put, List.setIfInBounds_toArray, List.set_cons_zero, List.set_cons_succ]
        refine' Reg.tk3 (i := 5) (v := _) (some 38) [6, 7, 8] [7, 8] rfl (Or.inl ⟨by rfl, Or.inl ?hy109⟩) ?rest109
        case hy109 => (intro w' kk ss; obtain ⟨x0, x1⟩ := (BP.out.since (KB2.out.trans (hr0.trans kk))).two; have y0 := YP.out _ (KE2.out.trans (hr0.trans kk)); go_simp; first | done | with_reducible rfl)
        try simp only [Act.put, List.setIfInBounds_toArray, List.set_cons_zero, List.set_cons_succ]
        refine Reg.tk3 (i := 6) (v := .int .i64 (tr y)) (some 39) [7, 8] [7, 8] rfl (Or.inl ⟨by rfl, Or.inr ⟨125, #[.int .i64 y], fun w' kk ss => ⟨?_, ?_⟩⟩⟩) ?_
        · (try dsimp only at ss); go_simp
        · exact truth_any y _
        try simp only [Act.put, List.setIfInBounds_toArray, List.set_cons_zero, List.set_cons_succ]
        refine Reg.wpG_ready (rs := [7]) (by kernel_rfl) (by simp) (fun wq kq sq => ?_)
        have hr0 := hr0.trans kq
        refine Reg.AllG.last (o := { dst := some 40, op := Op.call { callee := Callee.value (Operand.func 127), args := #[Operand.tmp 33, Operand.tmp 34, Operand.tmp 39], argTypes := #[84, 3, 88] }, type := 4, pos := "kinds.go:14", after := #[{ on := 0, ground := Ground.data }, { on := 1, ground := Ground.data }, { on := 6, ground := Ground.data }, { on := 6, ground := Ground.chain }], guard := none }) rfl (by rfl) (fun K hK => ?_) Reg.AllG.nil
        go_simp
        (with_reducible refine (S1.out wq (KE2.out.trans hr0)).mono ?_)
        rintro e yw ⟨rfl, k3, k4⟩
        refine hK.out _ _ trivial (fun hHeld => ?_)
        clear hK K
        try simp only [Act.put, List.setIfInBounds_toArray, List.set_cons_zero, List.set_cons_succ]
        refine' Reg.ah3 (i := 8) (v := _) (some 4) rfl (by kernel_rfl) (by kernel_rfl) (by kernel_rfl) (fun _ _ _ h => h) (Or.inl ⟨by rfl, ?hy110⟩) (by assumption) ?rest110
        case hy110 => (intro w' ss; (try dsimp only at ss); go_simp; first | done | with_reducible rfl)
        try simp only [Act.put, List.setIfInBounds_toArray, List.set_cons_zero, List.set_cons_succ]
        refine wpAnyH_done (by kernel_rfl) ?_ _
        refine NoPanic.normal ?_
        go_wp2
        go_ret
        rw [EQ.out]
        exact ⟨rfl, k3, k4⟩
      · have ON := Lib.hid (fun w (k : Since W w) => only_no (HP.out.since k) (Nat.le_refl _) c4)
        have CO := Lib.hid (fun w (k : Since W w) => count_any (HP.out.since k) (Nat.le_refl _) 2)
        by_cases c5 : cntK X q 2 D = 0
        · have EQ := Lib.hid (clu_zero HL.out hmi (by rw [← hco]; exact c5))
          obtain ⟨q2, hq2⟩ : ∃ q2, q2 = cntK X q 2 D := ⟨_, rfl⟩
          rw [← hq2] at CO
          have c6 : ¬ 0 < q2 := by omega
          clear hco hmi hq2 c5 c4
          go_wp2_with (first | (go_at_call 126; (with_reducible refine (ON.out _ KE.out).mono ?_); rintro e w2 ⟨rfl, k2, -⟩; have KB2 := Lib.hid (HW.out.trans k2); have KE2 := Lib.hid (KE.out.trans k2); obtain ⟨x0, x1⟩ := (BP.out.since (HW.out.trans k2)).two; clear k2) | (go_at_call 128; (with_reducible refine (CO.out _ KE2.out).mono ?_); rintro e w3 ⟨rfl, k3, -⟩; have K3 := Lib.hid (KE2.out.trans k3); clear k3))
          go_ret
          rw [EQ.out]
          exact NS.out _ K3.out
        · have EQ := Lib.hid (clu_more HL.out hmi (by rw [← hco]; exact c5) (by rw [← hco]; exact c4))
          clear hco hmi
          generalize cntK X q 2 D = q2 at *
          have c6 : 0 < q2 := by omega
          go_wp2_with (first | (go_at_call 126; (with_reducible refine (ON.out _ KE.out).mono ?_); rintro e w2 ⟨rfl, k2, -⟩; have KB2 := Lib.hid (HW.out.trans k2); have KE2 := Lib.hid (KE.out.trans k2); obtain ⟨x0, x1⟩ := (BP.out.since (HW.out.trans k2)).two; clear k2) | (go_at_call 128; (with_reducible refine (CO.out _ KE2.out).mono ?_); rintro e w3 ⟨rfl, k3, -⟩; have K3 := Lib.hid (KE2.out.trans k3); clear k3))
          go_ret
          rw [EQ.out]
          exact YS.out _ K3.out
end Go.Proofs.Ytilgmkhcpmegjaa.Lgc
