/- Layer 15 (logic): the landed demand. -/
import Derived.Test.YtilgmkhcpmegjaaQax
namespace Go.Proofs.Ytilgmkhcpmegjaa.Lgc
open Go.RowKit
set_option linter.unusedVariables false
set_option linter.unusedSimpArgs false
open Go.Proofs.Ytilgmkhcpmegjaa.Dig Go.Proofs.Ytilgmkhcpmegjaa.Lx Go.Proofs.Ytilgmkhcpmegjaa.Tk Go.Proofs.Ytilgmkhcpmegjaa.Ti Go.Proofs.Ytilgmkhcpmegjaa.Zs Go.Proofs.Ytilgmkhcpmegjaa.Tr Go.Proofs.Ytilgmkhcpmegjaa.Sn Go.Proofs.Ytilgmkhcpmegjaa.Ln Go.Proofs.Ytilgmkhcpmegjaa.At
theorem and_dec {n : Nat} {R : List Int} {f s : Int} (hR : ∀ x ∈ R, Inn n x) (hf : Inn n f) : Okp n (f :: R) (decS R f s) :=
  thn_ok (if_ok (any_mo hR _) (set_okp hf (by simp) _)) (if_ok (all_mo hR _) (set_okp hf (by simp) _))
set_option maxRecDepth 20000 in
set_option maxHeartbeats 16000000 in
theorem demand_any {g n : Nat} {w0 W : World} {X : List Int} {D : Ln.Ds} {A : Option Addr} {m c : Nat} (h : PL g n w0 W X D A m c) {f : Nat} (hf : f < m) {s : Int} (hs : s = 0 ∨ s = 1) (hno : isv (X.getD f 0) (1 - s) D = true → allS (X.take f) s D = false) :
    Calls Try.prog 130 #[.agg #[.slice A m c, .slice (some ⟨g, 0, none⟩) n n], .int .i64 (f : Int), .int .i64 s] W (RetL g n w0 W (demS (X.take f) (X.getD f 0) s D)) := by
  have SS := Lib.hid (fun w (k : Since W w) i (hi : i < m) => (set_any (h.since k) hi (1 - s)).mono fun e w' hh => RetL.up hh k)
  have SF := Lib.hid (fun w (k : Since W w) => (setFirst_any (h.since k) (Nat.le_of_lt hf) s).mono fun e w' hh => RetL.up hh k)
  have C1 := Lib.hid (fun w (k : Since W w) => count_any (h.since k) (Nat.le_of_lt hf) (1 - s))
  have I1 := Lib.hid (fun w (k : Since W w) => is_any (h.since k) hf)
  have YS := Lib.hid (fun w (k : Since W w) => RetL.some_ (h.at_.since k) (Turn.of k (but g)))
  have hR : ∀ x ∈ X.take f, Inn n x := fun x hx => h.in_ x (List.mem_of_mem_take hx)
  have hF := h.in_ _ (h.mem hf)
  have hb := h.bt
  have hbR : Bt2 (X.take f) D := fun x hx => hb x (List.mem_of_mem_take hx)
  have fl : f ≤ X.length := by rw [h.len]; omega
  have hs' : 1 - s = 0 ∨ 1 - s = 1 := by omega
  have iz : ∀ t, t = 0 ∨ t = 1 → (stt (X.getD f 0) D = t ↔ isv (X.getD f 0) t D = true) := fun t ht => by rw [← stt_isv ht]; simp
  have D1 : stt (X.getD f 0) D = s → demS (X.take f) (X.getD f 0) s D = setAll (X.take f) s D := fun e => dem_yes hs h.gd h.at_.len hR hF ((iz s hs).1 e)
  have D5 : ¬ stt (X.getD f 0) D = s → ¬ stt (X.getD f 0) D = 1 - s → demS (X.take f) (X.getD f 0) s D = some D := fun e e2 => dem_open ((Bool.not_eq_true _).mp (mt (iz s hs).2 e)) ((Bool.not_eq_true _).mp (mt (iz (1 - s) hs').2 e2))
  have D2 : stt (X.getD f 0) D = 1 - s → demS (X.take f) (X.getD f 0) s D = cluS (notP (X.take f) s) D := fun e => dem_no hs ((iz (1 - s) hs').1 e)
  have D4 : ¬ cntK X f (1 - s) D = 0 → cluS (notP (X.take f) s) D = some D := fun e => no_any ((Bool.not_eq_false _).mp (mt (cnt_any hs').2 e))
  have D3 : stt (X.getD f 0) D = 1 - s → cntK X f (1 - s) D = 0 → ¬ cntK X f 2 D = 1 → cluS (notP (X.take f) s) D = some D := fun e e2 e3 =>
    no_many hs hbR ((cnt_any hs').1 e2) (hno ((iz (1 - s) hs').1 e)) (by rw [← cnt_ope hb]; exact e3)
  have ka := Lib.hid (since_alloc W (.cells #[.slice A m c, .slice (some ⟨g, 0, none⟩) n n] 84))
  have BP := Lib.hid (Bx.fresh W #[.slice A m c, .slice (some ⟨g, 0, none⟩) n n] 84)
  have hgW : W.heap.size ≠ g := by have := h.hi_; omega
  have b1 := cntK_le X f (1 - s) D
  have hm32 : m ≤ 32 := h.le
  by_cases c1 : stt (X.getD f 0) D = s
  · rw [D1 c1]
    rw [c1] at I1
    generalize setAll (X.take f) s D = o at *
    clear D1 D2 D3 D4 D5 YS SS C1 b1 c1 hno iz hR hF hb hbR fl h
    go_enter Try.func130, Try.ntmps130
    go_wp2_with (first | (go_at_call 124; (with_reducible refine (I1.out _ ka.out).mono ?_); rintro e w1 ⟨rfl, k1, -⟩; have KB := Lib.hid k1; have KE := Lib.hid (ka.out.trans k1); obtain ⟨x0, x1⟩ := (BP.out.since k1).two; clear k1) | (go_at_call 188; (with_reducible refine (SF.out _ KE.out).mono ?_); rintro e w3 ⟨rfl, k3, k4⟩))
    go_ret
    exact ⟨rfl, k3, k4⟩
  · by_cases c2 : stt (X.getD f 0) D = 1 - s
    · rw [D2 c2]
      have c6 : ¬ (1 - s) = s := by omega
      by_cases c3 : cntK X f (1 - s) D = 0
      · by_cases c4 : cntK X f 2 D = 1
        · obtain ⟨l1, x, l2, e1, e2, e3, e4⟩ := first_of (P := fun x => decide (stt x D = 2)) (l := X.take f) c4
          have hl1 : ∀ q ∈ l1, stt q D ≠ 2 := fun q hq => by simpa using e2 q hq
          have hxx : stt x D = 2 := by simpa using e4
          have ON := Lib.hid (fun w (k : Since W w) => only_yes (h.since k) (Nat.le_of_lt hf) c4 e1 hl1 hxx)
          have hlk : l1.length < f := by
            have e := congrArg List.length e1
            rw [List.length_take, List.length_append, List.length_cons] at e
            omega
          have hat : X.getD l1.length 0 = x := by
            have e5 : (X.take f).getD l1.length 0 = x := by rw [e1]; simp [List.getD]
            rw [← e5]; simp [List.getD, List.getElem?_take, hlk]
          have S1 := Lib.hid (fun w (k : Since W w) => SS.out w k l1.length (by omega))
          rw [hat] at S1
          have mem1 : ∀ q ∈ l1, q ∈ X := fun q hq => List.mem_of_mem_take (i := f) (by rw [e1]; simp [hq])
          have mem2 : ∀ q ∈ l2, q ∈ X := fun q hq => List.mem_of_mem_take (i := f) (by rw [e1]; simp [hq])
          have mem3 : x ∈ X := List.mem_of_mem_take (i := f) (by rw [e1]; simp)
          rw [no_one ((cnt_any hs').1 c3) e1 (fun q hq => by rw [← stt_ope (hb q (mem1 q hq))]; exact e2 q hq) (fun q hq => by rw [← stt_ope (hb q (mem2 q hq))]; exact e3 q hq) (by rw [← stt_ope (hb x mem3)]; exact e4)]
          generalize setS x (1 - s) D = o at *
          rw [c2] at I1
          generalize l1.length = p at *
          obtain ⟨z, hz⟩ : ∃ z, z = 1 - s := ⟨_, rfl⟩
          rw [← hz] at I1
          obtain ⟨q1, hq1⟩ : ∃ q1 : Nat, q1 = cntK X f (1 - s) D := ⟨_, rfl⟩
          rw [← hq1] at C1
          have c7 : ¬ z = s := by omega
          have hm2 : p < m := by omega
          have c8 : (q1 : Int) = 0 := by omega
          clear D1 D2 D3 D4 D5 YS SS SF b1 c1 c2 c3 c4 c6 hno iz hR hF hb hbR fl h e1 e2 e3 e4 hl1 hxx hat mem1 mem2 mem3 hq1
          go_enter Try.func130, Try.ntmps130
          go_wp2_with (go_at_call 124; (with_reducible refine (I1.out _ ka.out).mono ?_); rintro e w1 ⟨rfl, k1, -⟩; have KB := Lib.hid k1; have KE := Lib.hid (ka.out.trans k1); obtain ⟨x0, x1⟩ := (BP.out.since k1).two; clear k1)
          have hr0 : Since w1 w1.drew := Since.drew (Since.refl w1)
          refine wp_region_noPanic ?_
          refine Reg.wp_region_G (S := fun _ => True) (fun j => [].contains j) (by kernel_rfl) trivial ?_
          refine' Reg.tk3 (i := 0) (v := _) (some 18) [2, 4, 5, 6, 7, 8, 9, 10, 11, 12, 13] [] rfl (Or.inl ⟨by rfl, Or.inl ?hy50⟩) ?rest50
          case hy50 => (intro w' kk ss; obtain ⟨x0, x1⟩ := (BP.out.since (KB.out.trans (hr0.trans kk))).two; go_simp; first | done | with_reducible rfl)
          try simp only [Act.put, List.setIfInBounds_toArray, List.set_cons_zero, List.set_cons_succ]
          refine' Reg.tk3 (i := 1) (v := _) (some 19) [2, 4, 5, 6, 7, 8, 9, 10, 11, 12, 13] [] rfl (Or.inl ⟨by rfl, Or.inl ?hy51⟩) ?rest51
          case hy51 => (intro w' kk ss; obtain ⟨x0, x1⟩ := (BP.out.since (KB.out.trans (hr0.trans kk))).two; go_simp; first | done | with_reducible rfl)
          try simp only [Act.put, List.setIfInBounds_toArray, List.set_cons_zero, List.set_cons_succ]
          refine Reg.tk3 (i := 2) (v := .int .i64 z) (some 20) [4, 5, 6, 7, 8, 9, 10, 11, 12, 13] [] rfl (Or.inl ⟨by rfl, Or.inr ⟨124, #[.agg #[.slice A m c, .slice (some ⟨g, 0, none⟩) n n], .int .i64 (f : Int)], fun w' kk ss => ⟨?_, ?_⟩⟩⟩) ?_
          · (try dsimp only at ss); go_simp
          · exact I1.out _ (KE.out.trans (hr0.trans kk))
          try simp only [Act.put, List.setIfInBounds_toArray, List.set_cons_zero, List.set_cons_succ]
          refine' Reg.tk3 (i := 3) (v := _) (some 21) [4, 5, 6, 7, 8, 9, 10, 11, 12, 13] [] rfl (Or.inl ⟨by rfl, Or.inl ?hy52⟩) ?rest52
          case hy52 => (intro w' kk ss; obtain ⟨x0, x1⟩ := (BP.out.since (KB.out.trans (hr0.trans kk))).two; go_simp; first | done | with_reducible rfl)
          try simp only [Act.put, List.setIfInBounds_toArray, List.set_cons_zero, List.set_cons_succ]
          refine Reg.tk3 (i := 4) (v := .int .i64 (1 - s)) (some 22) [5, 6, 7, 8, 9, 10, 11, 12, 13] [] rfl (Or.inl ⟨by rfl, Or.inr ⟨187, #[.int .i64 s], fun w' kk ss => ⟨?_, ?_⟩⟩⟩) ?_
          · (try dsimp only at ss); go_simp
          · exact not_any s _ hs
          try simp only [Act.put, List.setIfInBounds_toArray, List.set_cons_zero, List.set_cons_succ]
          refine' Reg.tk3 (i := 5) (v := _) (some 23) [6, 7, 8, 9, 10, 11, 12, 13] [] rfl (Or.inl ⟨by rfl, Or.inl ?hy53⟩) ?rest53
          case hy53 => (intro w' kk ss; obtain ⟨x0, x1⟩ := (BP.out.since (KB.out.trans (hr0.trans kk))).two; go_simp; first | done | with_reducible rfl)
          try simp only [Act.put, List.setIfInBounds_toArray, List.set_cons_zero, List.set_cons_succ]
          refine' Reg.tk3 (i := 6) (v := _) (some 24) [7, 8, 9, 10, 11, 12, 13] [] rfl (Or.inl ⟨by rfl, Or.inl ?hy54⟩) ?rest54
          case hy54 => (intro w' kk ss; obtain ⟨x0, x1⟩ := (BP.out.since (KB.out.trans (hr0.trans kk))).two; go_simp; first | done | with_reducible rfl)
          try simp only [Act.put, List.setIfInBounds_toArray, List.set_cons_zero, List.set_cons_succ]
          refine' Reg.tk3 (i := 7) (v := _) (some 25) [11, 12, 13] [] rfl (Or.inl ⟨by rfl, Or.inl ?hy55⟩) ?rest55
          case hy55 => (intro w' kk ss; obtain ⟨x0, x1⟩ := (BP.out.since (KB.out.trans (hr0.trans kk))).two; go_simp; first | done | with_reducible rfl)
          try simp only [Act.put, List.setIfInBounds_toArray, List.set_cons_zero, List.set_cons_succ]
          refine' Reg.tk3 (i := 8) (v := _) (some 26) [11, 12, 13] [] rfl (Or.inl ⟨by rfl, Or.inl ?hy56⟩) ?rest56
          case hy56 => (intro w' kk ss; obtain ⟨x0, x1⟩ := (BP.out.since (KB.out.trans (hr0.trans kk))).two; go_simp; first | done | with_reducible rfl)
          try simp only [Act.put, List.setIfInBounds_toArray, List.set_cons_zero, List.set_cons_succ]
          refine' Reg.tk3 (i := 9) (v := _) (some 27) [10, 11, 12, 13] [] rfl (Or.inl ⟨by rfl, Or.inl ?hy57⟩) ?rest57
          case hy57 => (intro w' kk ss; obtain ⟨x0, x1⟩ := (BP.out.since (KB.out.trans (hr0.trans kk))).two; go_simp; first | done | with_reducible rfl)
          try simp only [Act.put, List.setIfInBounds_toArray, List.set_cons_zero, List.set_cons_succ]
          refine Reg.tk3 (i := 10) (v := .int .i64 (1 - s)) (some 28) [11, 12, 13] [] rfl (Or.inl ⟨by rfl, Or.inr ⟨187, #[.int .i64 s], fun w' kk ss => ⟨?_, ?_⟩⟩⟩) ?_
          · (try dsimp only at ss); go_simp
          · exact not_any s _ hs
          try simp only [Act.put, List.setIfInBounds_toArray, List.set_cons_zero, List.set_cons_succ]
          refine Reg.tk3 (i := 11) (v := .int .i64 (q1 : Int)) (some 29) [12, 13] [] rfl (Or.inl ⟨by rfl, Or.inr ⟨128, #[.agg #[.slice A m c, .slice (some ⟨g, 0, none⟩) n n], .int .i64 (f : Int), .int .i64 (1 - s)], fun w' kk ss => ⟨?_, ?_⟩⟩⟩) ?_
          · (try dsimp only at ss); go_simp
          · exact C1.out _ (KE.out.trans (hr0.trans kk))
          try simp only [Act.put, List.setIfInBounds_toArray, List.set_cons_zero, List.set_cons_succ]
          refine' Reg.tk3 (i := 12) (v := _) (some 30) [13] [] rfl (Or.inl ⟨by rfl, Or.inl ?hy58⟩) ?rest58
          case hy58 => (intro w' kk ss; obtain ⟨x0, x1⟩ := (BP.out.since (KB.out.trans (hr0.trans kk))).two; go_simp; first | done | with_reducible rfl)
          try simp only [Act.put, List.setIfInBounds_toArray, List.set_cons_zero, List.set_cons_succ]
          refine' Reg.tk3 (i := 13) (v := _) (some 31) [] [] rfl (Or.inl ⟨by rfl, Or.inl ?hy59⟩) ?rest59
          case hy59 => (intro w' kk ss; obtain ⟨x0, x1⟩ := (BP.out.since (KB.out.trans (hr0.trans kk))).two; go_simp; first | done | with_reducible rfl)
          try simp only [Act.put, List.setIfInBounds_toArray, List.set_cons_zero, List.set_cons_succ]
          refine Reg.wpG_done (by kernel_rfl) (fun we ke se => ?_) _
          refine NoPanic.normal ?_
          have hr0 := hr0.trans ke
          clear ke
          have KB3 := Lib.hid (KB.out.trans hr0)
          have KE3 := Lib.hid (KE.out.trans hr0)
          obtain ⟨x0, x1⟩ := (BP.out.since KB3.out).two
          clear hr0 se KB KE
          have KB := KB3
          have KE := KE3
          clear KB3 KE3
          go_wp2_with (go_at_call 126; (with_reducible refine (ON.out _ KE.out).mono ?_); rintro e w2 ⟨rfl, k2, -⟩; have KB2 := Lib.hid (KB.out.trans k2); have KE2 := Lib.hid (KE.out.trans k2); obtain ⟨x0, x1⟩ := (BP.out.since (KB.out.trans k2)).two; clear k2)
          have hr0 : Since w2 w2.drew := Since.drew (Since.refl w2)
          refine wp_region_noPanic ?_
          refine Reg.wp_region_G (S := fun _ => True) (fun j => [4, 5].contains j) (by kernel_rfl) trivial ?_
          refine' Reg.tk3 (i := 0) (v := _) (some 39) [4, 5] [4, 5] rfl (Or.inl ⟨by rfl, Or.inl ?hy86⟩) ?rest86
          case hy86 => (intro w' kk ss; obtain ⟨x0, x1⟩ := (BP.out.since (KB2.out.trans (hr0.trans kk))).two; go_simp; first | done | with_reducible rfl)
          try simp only [Act.put, List.setIfInBounds_toArray, List.set_cons_zero, List.set_cons_succ]
          refine' Reg.tk3 (i := 1) (v := _) (some 40) [4, 5] [4, 5] rfl (Or.inl ⟨by rfl, Or.inl ?hy87⟩) ?rest87
          case hy87 => (intro w' kk ss; obtain ⟨x0, x1⟩ := (BP.out.since (KB2.out.trans (hr0.trans kk))).two; go_simp; first | done | with_reducible rfl)
          try simp only [Act.put, List.setIfInBounds_toArray, List.set_cons_zero, List.set_cons_succ]
          refine' Reg.tk3 (i := 2) (v := _) (some 41) [3, 4, 5] [4, 5] rfl (Or.inl ⟨by rfl, Or.inl ?hy88⟩) ?rest88
          case hy88 => (intro w' kk ss; obtain ⟨x0, x1⟩ := (BP.out.since (KB2.out.trans (hr0.trans kk))).two; go_simp; first | done | with_reducible rfl)
          try simp only [Act.put, List.setIfInBounds_toArray, List.set_cons_zero, List.set_cons_succ]
          refine Reg.tk3 (i := 3) (v := .int .i64 (1 - s)) (some 42) [4, 5] [4, 5] rfl (Or.inl ⟨by rfl, Or.inr ⟨187, #[.int .i64 s], fun w' kk ss => ⟨?_, ?_⟩⟩⟩) ?_
          · (try dsimp only at ss); go_simp
          · exact not_any s _ hs
          try simp only [Act.put, List.setIfInBounds_toArray, List.set_cons_zero, List.set_cons_succ]
          refine Reg.wpG_ready (rs := [4]) (by kernel_rfl) (by simp) (fun wq kq sq => ?_)
          have hr0 := hr0.trans kq
          refine Reg.AllG.last (o := { dst := some 43, op := Op.call { callee := Callee.value (Operand.func 127), args := #[Operand.tmp 39, Operand.tmp 40, Operand.tmp 42], argTypes := #[84, 3, 88] }, type := 4, pos := "kinds.go:53", after := #[{ on := 0, ground := Ground.data }, { on := 1, ground := Ground.data }, { on := 3, ground := Ground.data }, { on := 3, ground := Ground.chain }], guard := none }) rfl (by rfl) (fun K hK => ?_) Reg.AllG.nil
          go_simp
          (with_reducible refine (S1.out wq (KE2.out.trans hr0)).mono ?_)
          rintro e yw ⟨rfl, k3, k4⟩
          refine hK.out _ _ trivial (fun hHeld => ?_)
          clear hK K
          try simp only [Act.put, List.setIfInBounds_toArray, List.set_cons_zero, List.set_cons_succ]
          refine' Reg.ah3 (i := 5) (v := _) (some 6) rfl (by kernel_rfl) (by kernel_rfl) (by kernel_rfl) (fun _ _ _ h => h) (Or.inl ⟨by rfl, ?hy89⟩) (by assumption) ?rest89
          case hy89 => (intro w' ss; (try dsimp only at ss); go_simp; first | done | with_reducible rfl)
          try simp only [Act.put, List.setIfInBounds_toArray, List.set_cons_zero, List.set_cons_succ]
          refine wpAnyH_done (by kernel_rfl) ?_ _
          refine NoPanic.normal ?_
          go_wp2
          go_ret
          exact ⟨rfl, k3, k4⟩
        · rw [D3 c2 c3 c4]
          have ON := Lib.hid (fun w (k : Since W w) => only_no (h.since k) (Nat.le_of_lt hf) c4)
          rw [c2] at I1
          obtain ⟨z, hz⟩ : ∃ z, z = 1 - s := ⟨_, rfl⟩
          rw [← hz] at I1
          obtain ⟨q1, hq1⟩ : ∃ q1 : Nat, q1 = cntK X f (1 - s) D := ⟨_, rfl⟩
          rw [← hq1] at C1
          have c7 : ¬ z = s := by omega
          have c8 : (q1 : Int) = 0 := by omega
          clear D1 D2 D3 D4 D5 SS SF b1 c1 c2 c3 c4 c6 hno iz hR hF hb hbR fl h hq1
          go_enter Try.func130, Try.ntmps130
          go_wp2_with (go_at_call 124; (with_reducible refine (I1.out _ ka.out).mono ?_); rintro e w1 ⟨rfl, k1, -⟩; have KB := Lib.hid k1; have KE := Lib.hid (ka.out.trans k1); obtain ⟨x0, x1⟩ := (BP.out.since k1).two; clear k1)
          have hr0 : Since w1 w1.drew := Since.drew (Since.refl w1)
          refine wp_region_noPanic ?_
          refine Reg.wp_region_G (S := fun _ => True) (fun j => [].contains j) (by kernel_rfl) trivial ?_
          refine' Reg.tk3 (i := 0) (v := _) (some 18) [2, 4, 5, 6, 7, 8, 9, 10, 11, 12, 13] [] rfl (Or.inl ⟨by rfl, Or.inl ?hy60⟩) ?rest60
          case hy60 => (intro w' kk ss; obtain ⟨x0, x1⟩ := (BP.out.since (KB.out.trans (hr0.trans kk))).two; go_simp; first | done | with_reducible rfl)
          try simp only [Act.put, List.setIfInBounds_toArray, List.set_cons_zero, List.set_cons_succ]
          refine' Reg.tk3 (i := 1) (v := _) (some 19) [2, 4, 5, 6, 7, 8, 9, 10, 11, 12, 13] [] rfl (Or.inl ⟨by rfl, Or.inl ?hy61⟩) ?rest61
          case hy61 => (intro w' kk ss; obtain ⟨x0, x1⟩ := (BP.out.since (KB.out.trans (hr0.trans kk))).two; go_simp; first | done | with_reducible rfl)
          try simp only [Act.put, List.setIfInBounds_toArray, List.set_cons_zero, List.set_cons_succ]
          refine Reg.tk3 (i := 2) (v := .int .i64 z) (some 20) [4, 5, 6, 7, 8, 9, 10, 11, 12, 13] [] rfl (Or.inl ⟨by rfl, Or.inr ⟨124, #[.agg #[.slice A m c, .slice (some ⟨g, 0, none⟩) n n], .int .i64 (f : Int)], fun w' kk ss => ⟨?_, ?_⟩⟩⟩) ?_
          · (try dsimp only at ss); go_simp
          · exact I1.out _ (KE.out.trans (hr0.trans kk))
          try simp only [Act.put, List.setIfInBounds_toArray, List.set_cons_zero, List.set_cons_succ]
          refine' Reg.tk3 (i := 3) (v := _) (some 21) [4, 5, 6, 7, 8, 9, 10, 11, 12, 13] [] rfl (Or.inl ⟨by rfl, Or.inl ?hy62⟩) ?rest62
          case hy62 => (intro w' kk ss; obtain ⟨x0, x1⟩ := (BP.out.since (KB.out.trans (hr0.trans kk))).two; go_simp; first | done | with_reducible rfl)
          try simp only [Act.put, List.setIfInBounds_toArray, List.set_cons_zero, List.set_cons_succ]
          refine Reg.tk3 (i := 4) (v := .int .i64 (1 - s)) (some 22) [5, 6, 7, 8, 9, 10, 11, 12, 13] [] rfl (Or.inl ⟨by rfl, Or.inr ⟨187, #[.int .i64 s], fun w' kk ss => ⟨?_, ?_⟩⟩⟩) ?_
          · (try dsimp only at ss); go_simp
          · exact not_any s _ hs
          try simp only [Act.put, List.setIfInBounds_toArray, List.set_cons_zero, List.set_cons_succ]
          refine' Reg.tk3 (i := 5) (v := _) (some 23) [6, 7, 8, 9, 10, 11, 12, 13] [] rfl (Or.inl ⟨by rfl, Or.inl ?hy63⟩) ?rest63
          case hy63 => (intro w' kk ss; obtain ⟨x0, x1⟩ := (BP.out.since (KB.out.trans (hr0.trans kk))).two; go_simp; first | done | with_reducible rfl)
          try simp only [Act.put, List.setIfInBounds_toArray, List.set_cons_zero, List.set_cons_succ]
          refine' Reg.tk3 (i := 6) (v := _) (some 24) [7, 8, 9, 10, 11, 12, 13] [] rfl (Or.inl ⟨by rfl, Or.inl ?hy64⟩) ?rest64
          case hy64 => (intro w' kk ss; obtain ⟨x0, x1⟩ := (BP.out.since (KB.out.trans (hr0.trans kk))).two; go_simp; first | done | with_reducible rfl)
          try simp only [Act.put, List.setIfInBounds_toArray, List.set_cons_zero, List.set_cons_succ]
          refine' Reg.tk3 (i := 7) (v := _) (some 25) [11, 12, 13] [] rfl (Or.inl ⟨by rfl, Or.inl ?hy65⟩) ?rest65
          case hy65 => (intro w' kk ss; obtain ⟨x0, x1⟩ := (BP.out.since (KB.out.trans (hr0.trans kk))).two; go_simp; first | done | with_reducible rfl)
          try simp only [Act.put, List.setIfInBounds_toArray, List.set_cons_zero, List.set_cons_succ]
          refine' Reg.tk3 (i := 8) (v := _) (some 26) [11, 12, 13] [] rfl (Or.inl ⟨by rfl, Or.inl ?hy66⟩) ?rest66
          case hy66 => (intro w' kk ss; obtain ⟨x0, x1⟩ := (BP.out.since (KB.out.trans (hr0.trans kk))).two; go_simp; first | done | with_reducible rfl)
          try simp only [Act.put, List.setIfInBounds_toArray, List.set_cons_zero, List.set_cons_succ]
          refine' Reg.tk3 (i := 9) (v := _) (some 27) [10, 11, 12, 13] [] rfl (Or.inl ⟨by rfl, Or.inl ?hy67⟩) ?rest67
          case hy67 => (intro w' kk ss; obtain ⟨x0, x1⟩ := (BP.out.since (KB.out.trans (hr0.trans kk))).two; go_simp; first | done | with_reducible rfl)
          try simp only [Act.put, List.setIfInBounds_toArray, List.set_cons_zero, List.set_cons_succ]
          refine Reg.tk3 (i := 10) (v := .int .i64 (1 - s)) (some 28) [11, 12, 13] [] rfl (Or.inl ⟨by rfl, Or.inr ⟨187, #[.int .i64 s], fun w' kk ss => ⟨?_, ?_⟩⟩⟩) ?_
          · (try dsimp only at ss); go_simp
          · exact not_any s _ hs
          try simp only [Act.put, List.setIfInBounds_toArray, List.set_cons_zero, List.set_cons_succ]
          refine Reg.tk3 (i := 11) (v := .int .i64 (q1 : Int)) (some 29) [12, 13] [] rfl (Or.inl ⟨by rfl, Or.inr ⟨128, #[.agg #[.slice A m c, .slice (some ⟨g, 0, none⟩) n n], .int .i64 (f : Int), .int .i64 (1 - s)], fun w' kk ss => ⟨?_, ?_⟩⟩⟩) ?_
          · (try dsimp only at ss); go_simp
          · exact C1.out _ (KE.out.trans (hr0.trans kk))
          try simp only [Act.put, List.setIfInBounds_toArray, List.set_cons_zero, List.set_cons_succ]
          refine' Reg.tk3 (i := 12) (v := _) (some 30) [13] [] rfl (Or.inl ⟨by rfl, Or.inl ?hy68⟩) ?rest68
          case hy68 => (intro w' kk ss; obtain ⟨x0, x1⟩ := (BP.out.since (KB.out.trans (hr0.trans kk))).two; go_simp; first | done | with_reducible rfl)
          try simp only [Act.put, List.setIfInBounds_toArray, List.set_cons_zero, List.set_cons_succ]
          refine' Reg.tk3 (i := 13) (v := _) (some 31) [] [] rfl (Or.inl ⟨by rfl, Or.inl ?hy69⟩) ?rest69
          case hy69 => (intro w' kk ss; obtain ⟨x0, x1⟩ := (BP.out.since (KB.out.trans (hr0.trans kk))).two; go_simp; first | done | with_reducible rfl)
          try simp only [Act.put, List.setIfInBounds_toArray, List.set_cons_zero, List.set_cons_succ]
          refine Reg.wpG_done (by kernel_rfl) (fun we ke se => ?_) _
          refine NoPanic.normal ?_
          have hr0 := hr0.trans ke
          clear ke
          have KB3 := Lib.hid (KB.out.trans hr0)
          have KE3 := Lib.hid (KE.out.trans hr0)
          obtain ⟨x0, x1⟩ := (BP.out.since KB3.out).two
          clear hr0 se KB KE
          have KB := KB3
          have KE := KE3
          clear KB3 KE3
          go_wp2_with (go_at_call 126; (with_reducible refine (ON.out _ KE.out).mono ?_); rintro e w2 ⟨rfl, k2, -⟩; have KB2 := Lib.hid (KB.out.trans k2); have KE2 := Lib.hid (KE.out.trans k2); obtain ⟨x0, x1⟩ := (BP.out.since (KB.out.trans k2)).two; clear k2)
          go_ret
          exact YS.out _ KE2.out
      · rw [D4 c3]
        rw [c2] at I1
        generalize cntK X f (1 - s) D = q1 at *
        obtain ⟨z, hz⟩ : ∃ z, z = 1 - s := ⟨_, rfl⟩
        rw [← hz] at I1
        have c7 : ¬ z = s := by omega
        have c8 : ¬ (q1 : Int) = 0 := by omega
        clear D1 D2 D3 D4 D5 SS SF c1 c2 c3 c6 hno iz hR hF hb hbR fl h
        go_enter Try.func130, Try.ntmps130
        go_wp2_with (go_at_call 124; (with_reducible refine (I1.out _ ka.out).mono ?_); rintro e w1 ⟨rfl, k1, -⟩; have KB := Lib.hid k1; have KE := Lib.hid (ka.out.trans k1); obtain ⟨x0, x1⟩ := (BP.out.since k1).two; clear k1)
        have hr0 : Since w1 w1.drew := Since.drew (Since.refl w1)
        refine wp_region_noPanic ?_
        refine Reg.wp_region_G (S := fun _ => True) (fun j => [].contains j) (by kernel_rfl) trivial ?_
        refine' Reg.tk3 (i := 0) (v := _) (some 18) [2, 4, 5, 6, 7, 8, 9, 10, 11, 12, 13] [] rfl (Or.inl ⟨by rfl, Or.inl ?hy70⟩) ?rest70
        case hy70 => (intro w' kk ss; obtain ⟨x0, x1⟩ := (BP.out.since (KB.out.trans (hr0.trans kk))).two; go_simp; first | done | with_reducible rfl)
        try simp only [Act.put, List.setIfInBounds_toArray, List.set_cons_zero, List.set_cons_succ]
        refine' Reg.tk3 (i := 1) (v := _) (some 19) [2, 4, 5, 6, 7, 8, 9, 10, 11, 12, 13] [] rfl (Or.inl ⟨by rfl, Or.inl ?hy71⟩) ?rest71
        case hy71 => (intro w' kk ss; obtain ⟨x0, x1⟩ := (BP.out.since (KB.out.trans (hr0.trans kk))).two; go_simp; first | done | with_reducible rfl)
        try simp only [Act.put, List.setIfInBounds_toArray, List.set_cons_zero, List.set_cons_succ]
        refine Reg.tk3 (i := 2) (v := .int .i64 z) (some 20) [4, 5, 6, 7, 8, 9, 10, 11, 12, 13] [] rfl (Or.inl ⟨by rfl, Or.inr ⟨124, #[.agg #[.slice A m c, .slice (some ⟨g, 0, none⟩) n n], .int .i64 (f : Int)], fun w' kk ss => ⟨?_, ?_⟩⟩⟩) ?_
        · (try dsimp only at ss); go_simp
        · exact I1.out _ (KE.out.trans (hr0.trans kk))
        try simp only [Act.put, List.setIfInBounds_toArray, List.set_cons_zero, List.set_cons_succ]
        refine' Reg.tk3 (i := 3) (v := _) (some 21) [4, 5, 6, 7, 8, 9, 10, 11, 12, 13] [] rfl (Or.inl ⟨by rfl, Or.inl ?hy72⟩) ?rest72
        case hy72 => (intro w' kk ss; obtain ⟨x0, x1⟩ := (BP.out.since (KB.out.trans (hr0.trans kk))).two; go_simp; first | done | with_reducible rfl)
        try simp only [Act.put, List.setIfInBounds_toArray, List.set_cons_zero, List.set_cons_succ]
        refine Reg.tk3 (i := 4) (v := .int .i64 (1 - s)) (some 22) [5, 6, 7, 8, 9, 10, 11, 12, 13] [] rfl (Or.inl ⟨by rfl, Or.inr ⟨187, #[.int .i64 s], fun w' kk ss => ⟨?_, ?_⟩⟩⟩) ?_
        · (try dsimp only at ss); go_simp
        · exact not_any s _ hs
        try simp only [Act.put, List.setIfInBounds_toArray, List.set_cons_zero, List.set_cons_succ]
        refine' Reg.tk3 (i := 5) (v := _) (some 23) [6, 7, 8, 9, 10, 11, 12, 13] [] rfl (Or.inl ⟨by rfl, Or.inl ?hy73⟩) ?rest73
        case hy73 => (intro w' kk ss; obtain ⟨x0, x1⟩ := (BP.out.since (KB.out.trans (hr0.trans kk))).two; go_simp; first | done | with_reducible rfl)
        try simp only [Act.put, List.setIfInBounds_toArray, List.set_cons_zero, List.set_cons_succ]
        refine' Reg.tk3 (i := 6) (v := _) (some 24) [7, 8, 9, 10, 11, 12, 13] [] rfl (Or.inl ⟨by rfl, Or.inl ?hy74⟩) ?rest74
        case hy74 => (intro w' kk ss; obtain ⟨x0, x1⟩ := (BP.out.since (KB.out.trans (hr0.trans kk))).two; go_simp; first | done | with_reducible rfl)
        try simp only [Act.put, List.setIfInBounds_toArray, List.set_cons_zero, List.set_cons_succ]
        refine' Reg.tk3 (i := 7) (v := _) (some 25) [11, 12, 13] [] rfl (Or.inl ⟨by rfl, Or.inl ?hy75⟩) ?rest75
        case hy75 => (intro w' kk ss; obtain ⟨x0, x1⟩ := (BP.out.since (KB.out.trans (hr0.trans kk))).two; go_simp; first | done | with_reducible rfl)
        try simp only [Act.put, List.setIfInBounds_toArray, List.set_cons_zero, List.set_cons_succ]
        refine' Reg.tk3 (i := 8) (v := _) (some 26) [11, 12, 13] [] rfl (Or.inl ⟨by rfl, Or.inl ?hy76⟩) ?rest76
        case hy76 => (intro w' kk ss; obtain ⟨x0, x1⟩ := (BP.out.since (KB.out.trans (hr0.trans kk))).two; go_simp; first | done | with_reducible rfl)
        try simp only [Act.put, List.setIfInBounds_toArray, List.set_cons_zero, List.set_cons_succ]
        refine' Reg.tk3 (i := 9) (v := _) (some 27) [10, 11, 12, 13] [] rfl (Or.inl ⟨by rfl, Or.inl ?hy77⟩) ?rest77
        case hy77 => (intro w' kk ss; obtain ⟨x0, x1⟩ := (BP.out.since (KB.out.trans (hr0.trans kk))).two; go_simp; first | done | with_reducible rfl)
        try simp only [Act.put, List.setIfInBounds_toArray, List.set_cons_zero, List.set_cons_succ]
        refine Reg.tk3 (i := 10) (v := .int .i64 (1 - s)) (some 28) [11, 12, 13] [] rfl (Or.inl ⟨by rfl, Or.inr ⟨187, #[.int .i64 s], fun w' kk ss => ⟨?_, ?_⟩⟩⟩) ?_
        · (try dsimp only at ss); go_simp
        · exact not_any s _ hs
        try simp only [Act.put, List.setIfInBounds_toArray, List.set_cons_zero, List.set_cons_succ]
        refine Reg.tk3 (i := 11) (v := .int .i64 (q1 : Int)) (some 29) [12, 13] [] rfl (Or.inl ⟨by rfl, Or.inr ⟨128, #[.agg #[.slice A m c, .slice (some ⟨g, 0, none⟩) n n], .int .i64 (f : Int), .int .i64 (1 - s)], fun w' kk ss => ⟨?_, ?_⟩⟩⟩) ?_
        · (try dsimp only at ss); go_simp
        · exact C1.out _ (KE.out.trans (hr0.trans kk))
        try simp only [Act.put, List.setIfInBounds_toArray, List.set_cons_zero, List.set_cons_succ]
        refine' Reg.tk3 (i := 12) (v := _) (some 30) [13] [] rfl (Or.inl ⟨by rfl, Or.inl ?hy78⟩) ?rest78
        case hy78 => (intro w' kk ss; obtain ⟨x0, x1⟩ := (BP.out.since (KB.out.trans (hr0.trans kk))).two; go_simp; first | done | with_reducible rfl)
        try simp only [Act.put, List.setIfInBounds_toArray, List.set_cons_zero, List.set_cons_succ]
        refine' Reg.tk3 (i := 13) (v := _) (some 31) [] [] rfl (Or.inl ⟨by rfl, Or.inl ?hy79⟩) ?rest79
        case hy79 => (intro w' kk ss; obtain ⟨x0, x1⟩ := (BP.out.since (KB.out.trans (hr0.trans kk))).two; go_simp; first | done | with_reducible rfl)
        try simp only [Act.put, List.setIfInBounds_toArray, List.set_cons_zero, List.set_cons_succ]
        refine Reg.wpG_done (by kernel_rfl) (fun we ke se => ?_) _
        refine NoPanic.normal ?_
        have hr0 := hr0.trans ke
        clear ke
        have KB3 := Lib.hid (KB.out.trans hr0)
        have KE3 := Lib.hid (KE.out.trans hr0)
        obtain ⟨x0, x1⟩ := (BP.out.since KB3.out).two
        clear hr0 se KB KE
        have KB := KB3
        have KE := KE3
        clear KB3 KE3
        go_wp2
        go_ret
        exact YS.out _ KE.out
    · rw [D5 c1 c2]
      clear D1 D2 D3 D4 D5 SS SF C1 b1 hno iz hR hF hb hbR fl h
      generalize stt (X.getD f 0) D = z at *
      go_enter Try.func130, Try.ntmps130
      go_wp2_with (go_at_call 124; (with_reducible refine (I1.out _ ka.out).mono ?_); rintro e w1 ⟨rfl, k1, -⟩; have KB := Lib.hid k1; have KE := Lib.hid (ka.out.trans k1); obtain ⟨x0, x1⟩ := (BP.out.since k1).two; clear k1)
      have hr0 : Since w1 w1.drew := Since.drew (Since.refl w1)
      refine wp_region_noPanic ?_
      refine Reg.wp_region_G (S := fun _ => True) (fun j => [].contains j) (by kernel_rfl) trivial ?_
      refine' Reg.tk3 (i := 0) (v := _) (some 18) [2, 4, 5, 6, 7, 8, 9, 10, 11, 12, 13] [] rfl (Or.inl ⟨by rfl, Or.inl ?hy80⟩) ?rest80
      case hy80 => (intro w' kk ss; obtain ⟨x0, x1⟩ := (BP.out.since (KB.out.trans (hr0.trans kk))).two; go_simp; first | done | with_reducible rfl)
      try simp only [Act.put, List.setIfInBounds_toArray, List.set_cons_zero, List.set_cons_succ]
      refine' Reg.tk3 (i := 1) (v := _) (some 19) [2, 4, 5, 6, 7, 8, 9, 10, 11, 12, 13] [] rfl (Or.inl ⟨by rfl, Or.inl ?hy81⟩) ?rest81
      case hy81 => (intro w' kk ss; obtain ⟨x0, x1⟩ := (BP.out.since (KB.out.trans (hr0.trans kk))).two; go_simp; first | done | with_reducible rfl)
      try simp only [Act.put, List.setIfInBounds_toArray, List.set_cons_zero, List.set_cons_succ]
      refine Reg.tk3 (i := 2) (v := .int .i64 z) (some 20) [4, 5, 6, 7, 8, 9, 10, 11, 12, 13] [] rfl (Or.inl ⟨by rfl, Or.inr ⟨124, #[.agg #[.slice A m c, .slice (some ⟨g, 0, none⟩) n n], .int .i64 (f : Int)], fun w' kk ss => ⟨?_, ?_⟩⟩⟩) ?_
      · (try dsimp only at ss); go_simp
      · exact I1.out _ (KE.out.trans (hr0.trans kk))
      try simp only [Act.put, List.setIfInBounds_toArray, List.set_cons_zero, List.set_cons_succ]
      refine' Reg.tk3 (i := 3) (v := _) (some 21) [4, 5, 6, 7, 8, 9, 10, 11, 12, 13] [] rfl (Or.inl ⟨by rfl, Or.inl ?hy82⟩) ?rest82
      case hy82 => (intro w' kk ss; obtain ⟨x0, x1⟩ := (BP.out.since (KB.out.trans (hr0.trans kk))).two; go_simp; first | done | with_reducible rfl)
      try simp only [Act.put, List.setIfInBounds_toArray, List.set_cons_zero, List.set_cons_succ]
      refine Reg.tk3 (i := 4) (v := .int .i64 (1 - s)) (some 22) [5, 6, 7, 8, 9, 10, 11, 12, 13] [] rfl (Or.inl ⟨by rfl, Or.inr ⟨187, #[.int .i64 s], fun w' kk ss => ⟨?_, ?_⟩⟩⟩) ?_
      · (try dsimp only at ss); go_simp
      · exact not_any s _ hs
      try simp only [Act.put, List.setIfInBounds_toArray, List.set_cons_zero, List.set_cons_succ]
      refine' Reg.tk3 (i := 5) (v := _) (some 23) [6, 7, 8, 9, 10, 11, 12, 13] [] rfl (Or.inl ⟨by rfl, Or.inl ?hy83⟩) ?rest83
      case hy83 => (intro w' kk ss; obtain ⟨x0, x1⟩ := (BP.out.since (KB.out.trans (hr0.trans kk))).two; go_simp; first | done | with_reducible rfl)
      try simp only [Act.put, List.setIfInBounds_toArray, List.set_cons_zero, List.set_cons_succ]
      refine' Reg.tk3 (i := 6) (v := _) (some 24) [7, 8, 9, 10, 11, 12, 13] [] rfl (Or.inl ⟨by rfl, Or.inl ?hy84⟩) ?rest84
      case hy84 => (intro w' kk ss; obtain ⟨x0, x1⟩ := (BP.out.since (KB.out.trans (hr0.trans kk))).two; go_simp; first | done | with_reducible rfl)
      try simp only [Act.put, List.setIfInBounds_toArray, List.set_cons_zero, List.set_cons_succ]
      rw [show (z == 1 - s) = false from beq_eq_false_iff_ne.2 c2]
      refine Reg.tk3 (i := 7) (v := undef) (some 25) [11, 12, 13] [] rfl (Or.inr ⟨by rfl, rfl⟩) ?_
      try simp only [Act.put, List.setIfInBounds_toArray, List.set_cons_zero, List.set_cons_succ]
      refine Reg.tk3 (i := 8) (v := undef) (some 26) [11, 12, 13] [] rfl (Or.inr ⟨by rfl, rfl⟩) ?_
      try simp only [Act.put, List.setIfInBounds_toArray, List.set_cons_zero, List.set_cons_succ]
      refine Reg.tk3 (i := 9) (v := undef) (some 27) [10, 11, 12, 13] [] rfl (Or.inr ⟨by rfl, rfl⟩) ?_
      try simp only [Act.put, List.setIfInBounds_toArray, List.set_cons_zero, List.set_cons_succ]
      refine Reg.tk3 (i := 10) (v := undef) (some 28) [11, 12, 13] [] rfl (Or.inr ⟨by rfl, rfl⟩) ?_
      try simp only [Act.put, List.setIfInBounds_toArray, List.set_cons_zero, List.set_cons_succ]
      refine Reg.tk3 (i := 11) (v := undef) (some 29) [12, 13] [] rfl (Or.inr ⟨by rfl, rfl⟩) ?_
      try simp only [Act.put, List.setIfInBounds_toArray, List.set_cons_zero, List.set_cons_succ]
      refine Reg.tk3 (i := 12) (v := undef) (some 30) [13] [] rfl (Or.inr ⟨by rfl, rfl⟩) ?_
      try simp only [Act.put, List.setIfInBounds_toArray, List.set_cons_zero, List.set_cons_succ]
      refine' Reg.tk3 (i := 13) (v := _) (some 31) [] [] rfl (Or.inl ⟨by rfl, Or.inl ?hy85⟩) ?rest85
      case hy85 => (intro w' kk ss; obtain ⟨x0, x1⟩ := (BP.out.since (KB.out.trans (hr0.trans kk))).two; go_simp; first | done | with_reducible rfl)
      try simp only [Act.put, List.setIfInBounds_toArray, List.set_cons_zero, List.set_cons_succ]
      refine Reg.wpG_done (by kernel_rfl) (fun we ke se => ?_) _
      refine NoPanic.normal ?_
      have hr0 := hr0.trans ke
      clear ke
      have KB3 := Lib.hid (KB.out.trans hr0)
      have KE3 := Lib.hid (KE.out.trans hr0)
      obtain ⟨x0, x1⟩ := (BP.out.since KB3.out).two
      clear hr0 se KB KE
      have KB := KB3
      have KE := KE3
      clear KB3 KE3
      go_wp2
      go_ret
      exact YS.out _ KE.out
end Go.Proofs.Ytilgmkhcpmegjaa.Lgc
