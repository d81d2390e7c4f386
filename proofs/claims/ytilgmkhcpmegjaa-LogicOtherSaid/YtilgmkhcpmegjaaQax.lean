/- Layer 15 (logic): the landed setFirst. Layer 15 (logic): the landed decide. -/
import Derived.Test.YtilgmkhcpmegjaaCe
import Derived.Test.YtilgmkhcpmegjaaCd
set_option linter.unusedVariables false
set_option linter.unusedSimpArgs false
section
namespace Go.Proofs.Ytilgmkhcpmegjaa.Lgc
open Go.RowKit
open Go.Proofs.Ytilgmkhcpmegjaa.Dig Go.Proofs.Ytilgmkhcpmegjaa.Lx Go.Proofs.Ytilgmkhcpmegjaa.Tk Go.Proofs.Ytilgmkhcpmegjaa.Ti Go.Proofs.Ytilgmkhcpmegjaa.Zs Go.Proofs.Ytilgmkhcpmegjaa.Tr Go.Proofs.Ytilgmkhcpmegjaa.Sn Go.Proofs.Ytilgmkhcpmegjaa.Ln Go.Proofs.Ytilgmkhcpmegjaa.At
set_option maxRecDepth 20000 in
set_option maxHeartbeats 2000000 in
theorem setFirst_any {g n : Nat} {w0 W : World} {X : List Int} {D : Ln.Ds} {A : Option Addr} {m c : Nat} (h : PL g n w0 W X D A m c) {k : Nat} (hk : k ≤ m) (s : Int) :
    Calls Try.prog 188 #[.agg #[.slice A m c, .slice (some ⟨g, 0, none⟩) n n], .int .i64 (k : Int), .int .i64 s] W (RetL g n w0 W (setAll (X.take k) s D)) := by
  have ST := Lib.hid (fun w E i (hE : PL g n w0 w X E A m c) (hi : i < m) => set_any hE hi s)
  have NX := Lib.hid (fun w w' E E' i (hE : PL g n w0 w X E A m c) (hi : i < m) (he : setS (X.getD i 0) s E = some E') (hd : DAt g n w0 w' E') (ko : Og g w w') => show PL g n w0 w' X E' A m c from (by
    obtain ⟨g1, s1, -⟩ := (set_okp (X := X) (hE.in_ _ (hE.mem hi)) (hE.mem hi) s).ok E E' hE.gd hE.at_.len he
    exact hE.step hd ko g1 s1))
  have TK := Lib.hid (fun i (hi : i < m) => show setAll (X.take (i + 1)) s D = (setAll (X.take i) s D).bind (setS (X.getD i 0) s) from (by
    have hl : i < X.length := by rw [h.len]; exact hi
    rw [List.take_succ_eq_append_getElem hl, setAll_snoc, show X.getD i 0 = X[i] by simp [List.getD, hl]]))
  have ka := Lib.hid (since_alloc W (.cells #[.slice A m c, .slice (some ⟨g, 0, none⟩) n n] 84))
  have BP := Lib.hid (Bx.fresh W #[.slice A m c, .slice (some ⟨g, 0, none⟩) n n] 84)
  have hgW : W.heap.size ≠ g := by have := h.hi_; omega
  have H0 := Lib.hid (h.since ka.out)
  have HM : m ≤ 32 := h.le
  clear h
  go_enter Try.func188, Try.ntmps188
  go_wp2
  go_loopw [7, 10] (fun a i wr => ∃ (q : Nat) (b : Bool), a = .bool b ∧ i = .int .i64 (q : Int) ∧ q ≤ k ∧ Hid ((setAll (X.take q) s D).isSome = b ∧ (∀ E, setAll (X.take q) s D = some E → PL g n w0 wr X E A m c) ∧ Og g (W.alloc (.cells #[.slice A m c, .slice (some ⟨g, 0, none⟩) n n] 84)) wr)) (fun _ i _ => k - (intOf i).toNat)
  case atStart => exact ⟨0, true, rfl, rfl, Nat.zero_le _, Lib.hid ⟨rfl, fun E e => (by cases e; exact H0.out), Og.refl _ _⟩⟩
  case round =>
    obtain ⟨q, b, rfl, rfl, hq, HH⟩ := hrel
    by_cases hqk : q < k
    · have hqm : q < m := by omega
      have TQ := TK.out q hqm
      obtain ⟨x0, x1⟩ := (Og.bx HH.out.2.2 BP.out hgW).two
      cases ho : setAll (X.take q) s D with
      | none =>
        rw [ho] at TQ HH
        obtain rfl : b = false := HH.out.1.symm
        go_wp2
        go_roundw
        case rel => exact ⟨q + 1, false, rfl, by go_num, by omega, Lib.hid ⟨by rw [TQ]; rfl, fun E e => (by rw [TQ] at e; cases e), HH.out.2.2⟩⟩
        case measure => simp [intOf]; omega
      | some E =>
        rw [ho] at TQ HH
        obtain rfl : b = true := HH.out.1.symm
        have TQ2 : setAll (X.take (q + 1)) s D = setS (X.getD q 0) s E := TQ
        have HE := Lib.hid (HH.out.2.1 E rfl)
        have S1 := Lib.hid (ST.out _ E q HE.out hqm)
        cases hs : setS (X.getD q 0) s E with
        | none =>
          have TQ3 := Lib.hid (TQ2.trans hs)
          have S2 := Lib.hid (Calls.mono S1.out fun e w' hh => RetL.is_none hh hs)
          clear TQ TQ2 S1
          go_wp2_with (go_at_call 127; (with_reducible refine (S2.out).mono ?_); rintro e w2 ⟨rfl, k2⟩; have K2 := Lib.hid (HH.out.2.2.trans k2); clear k2)
          go_roundw
          case rel => exact ⟨q + 1, false, rfl, by go_num, by omega, Lib.hid ⟨by rw [TQ3.out]; rfl, fun E e => (by rw [TQ3.out] at e; cases e), K2.out⟩⟩
          case measure => simp [intOf]; omega
        | some E' =>
          have TQ3 := Lib.hid (TQ2.trans hs)
          have S2 := Lib.hid (Calls.mono S1.out fun e w' hh => RetL.is_some hh hs)
          have N2 := Lib.hid (fun w' hd ko => NX.out wr w' E E' q HE.out hqm hs hd ko)
          clear TQ TQ2 S1
          go_wp2_with (go_at_call 127; (with_reducible refine (S2.out).mono ?_); rintro e w2 ⟨rfl, d2, k2⟩; have K2 := Lib.hid (HH.out.2.2.trans k2); have D2 := Lib.hid (N2.out _ d2 k2); clear k2 d2)
          go_roundw
          case rel => exact ⟨q + 1, true, rfl, by go_num, by omega, Lib.hid ⟨by rw [TQ3.out]; rfl, fun E e => (by rw [TQ3.out] at e; cases e; exact D2.out), K2.out⟩⟩
          case measure => simp [intOf]; omega
    · obtain rfl : q = k := by omega
      go_wp2
      go_ret
      exact ⟨by rw [HH.out.1]; rfl, fun E e => (HH.out.2.1 E e).at_, (Turn.of ka.out _).trans HH.out.2.2⟩
end Go.Proofs.Ytilgmkhcpmegjaa.Lgc
end
section
namespace Go.Proofs.Ytilgmkhcpmegjaa.Lgc
open Go.RowKit
open Go.Proofs.Ytilgmkhcpmegjaa.Dig Go.Proofs.Ytilgmkhcpmegjaa.Lx Go.Proofs.Ytilgmkhcpmegjaa.Tk Go.Proofs.Ytilgmkhcpmegjaa.Ti Go.Proofs.Ytilgmkhcpmegjaa.Zs Go.Proofs.Ytilgmkhcpmegjaa.Tr Go.Proofs.Ytilgmkhcpmegjaa.Sn Go.Proofs.Ytilgmkhcpmegjaa.Ln Go.Proofs.Ytilgmkhcpmegjaa.At
set_option maxRecDepth 20000 in
set_option maxHeartbeats 2000000 in
theorem decide_any {g n : Nat} {w0 W : World} {X : List Int} {D : Ln.Ds} {A : Option Addr} {m c : Nat} (h : PL g n w0 W X D A m c) {f : Nat} (hf : f < m) {s : Int} (hs : s = 0 ∨ s = 1) :
    Calls Try.prog 129 #[.agg #[.slice A m c, .slice (some ⟨g, 0, none⟩) n n], .int .i64 (f : Int), .int .i64 s] W (RetL g n w0 W (decS (X.take f) (X.getD f 0) s D)) := by
  have S1 := Lib.hid (fun w (k : Since W w) => (set_any (h.since k) hf (1 - s)).mono fun e w' hh => RetL.up hh k)
  have S2 := Lib.hid (fun w (k : Since W w) => (set_any (h.since k) hf s).mono fun e w' hh => RetL.up hh k)
  have C1 := Lib.hid (fun w (k : Since W w) => count_any (h.since k) (Nat.le_of_lt hf) (1 - s))
  have C2 := Lib.hid (fun w (k : Since W w) => count_any (h.since k) (Nat.le_of_lt hf) s)
  have YS := Lib.hid (fun w (k : Since W w) => RetL.some_ (h.at_.since k) (Turn.of k (but g)))
  have hR : ∀ x ∈ X.take f, Inn n x := fun x hx => h.in_ x (List.mem_of_mem_take hx)
  have hF := h.in_ _ (h.mem hf)
  have fl : f ≤ X.length := by rw [h.len]; omega
  have D1 := fun e => dec_any (f := X.getD f 0) hs h.gd h.at_.len hR hF ((Bool.not_eq_false _).mp (mt (cnt_any (X := X) (k := f) (s := 1 - s) (D := D) (by omega)).2 e))
  have D2 := fun (e : cntK X f (1 - s) D = 0) (e2 : cntK X f s D = f) => dec_all (f := X.getD f 0) ((cnt_any (by omega)).1 e) ((cnt_all hs fl).1 e2)
  have D3 := fun (e : cntK X f (1 - s) D = 0) (e2 : ¬ cntK X f s D = f) => dec_none (f := X.getD f 0) ((cnt_any (by omega)).1 e) ((Bool.not_eq_true _).mp (mt (cnt_all hs fl).2 e2))
  have ka := Lib.hid (since_alloc W (.cells #[.slice A m c, .slice (some ⟨g, 0, none⟩) n n] 84))
  have BP := Lib.hid (Bx.fresh W #[.slice A m c, .slice (some ⟨g, 0, none⟩) n n] 84)
  have hgW : W.heap.size ≠ g := by have := h.hi_; omega
  have b1 := cntK_le X f (1 - s) D
  have b2 := cntK_le X f s D
  have hm32 : m ≤ 32 := h.le
  clear h hR hF fl
  generalize hq1 : cntK X f (1 - s) D = q1 at *
  generalize cntK X f s D = q2 at *
  by_cases c1 : q1 = 0
  · by_cases c2 : q2 = f
    · rw [D2 c1 c2]
      clear D1 D2 D3 S1 YS
      have c4 : ¬ 0 < q1 := by omega
      have c3 : (q2 : Int) = (f : Int) := by omega
      clear c1 c2
      generalize setS (X.getD f 0) s D = o at *
      go_enter Try.func129, Try.ntmps129
      go_wp2
      have hr0 : Since (W.alloc (.cells #[.slice A m c, .slice (some ⟨g, 0, none⟩) n n] 84)) (W.alloc (.cells #[.slice A m c, .slice (some ⟨g, 0, none⟩) n n] 84)).drew := Since.drew (Since.refl (W.alloc (.cells #[.slice A m c, .slice (some ⟨g, 0, none⟩) n n] 84)))
      refine wp_region_noPanic ?_
      refine Reg.wp_region_G (S := fun _ => True) (fun j => [].contains j) (by kernel_rfl) trivial ?_
      refine' Reg.tk3 (i := 0) (v := _) (some 8) [4, 5, 6] [] rfl (Or.inl ⟨by rfl, Or.inl ?hy31⟩) ?rest31
      case hy31 => (intro w' kk ss; obtain ⟨x0, x1⟩ := (BP.out.since (hr0.trans kk)).two; go_simp; first | done | with_reducible rfl)
      try simp only [Act.put, List.setIfInBounds_toArray, List.set_cons_zero, List.set_cons_succ]
      refine' Reg.tk3 (i := 1) (v := _) (some 9) [4, 5, 6] [] rfl (Or.inl ⟨by rfl, Or.inl ?hy32⟩) ?rest32
      case hy32 => (intro w' kk ss; obtain ⟨x0, x1⟩ := (BP.out.since (hr0.trans kk)).two; go_simp; first | done | with_reducible rfl)
      try simp only [Act.put, List.setIfInBounds_toArray, List.set_cons_zero, List.set_cons_succ]
      refine' Reg.tk3 (i := 2) (v := _) (some 10) [3, 4, 5, 6] [] rfl (Or.inl ⟨by rfl, Or.inl ?hy33⟩) ?rest33
      case hy33 => (intro w' kk ss; obtain ⟨x0, x1⟩ := (BP.out.since (hr0.trans kk)).two; go_simp; first | done | with_reducible rfl)
      try simp only [Act.put, List.setIfInBounds_toArray, List.set_cons_zero, List.set_cons_succ]
      refine Reg.tk3 (i := 3) (v := .int .i64 (1 - s)) (some 11) [4, 5, 6] [] rfl (Or.inl ⟨by rfl, Or.inr ⟨187, #[.int .i64 s], fun w' kk ss => ⟨?_, ?_⟩⟩⟩) ?_
      · (try dsimp only at ss); go_simp
      · exact not_any s _ hs
      try simp only [Act.put, List.setIfInBounds_toArray, List.set_cons_zero, List.set_cons_succ]
      refine Reg.tk3 (i := 4) (v := .int .i64 (q1 : Int)) (some 12) [5, 6] [] rfl (Or.inl ⟨by rfl, Or.inr ⟨128, #[.agg #[.slice A m c, .slice (some ⟨g, 0, none⟩) n n], .int .i64 (f : Int), .int .i64 (1 - s)], fun w' kk ss => ⟨?_, ?_⟩⟩⟩) ?_
      · (try dsimp only at ss); go_simp
      · exact C1.out _ (ka.out.trans (hr0.trans kk))
      try simp only [Act.put, List.setIfInBounds_toArray, List.set_cons_zero, List.set_cons_succ]
      refine' Reg.tk3 (i := 5) (v := _) (some 13) [6] [] rfl (Or.inl ⟨by rfl, Or.inl ?hy34⟩) ?rest34
      case hy34 => (intro w' kk ss; obtain ⟨x0, x1⟩ := (BP.out.since (hr0.trans kk)).two; go_simp; first | done | with_reducible rfl)
      try simp only [Act.put, List.setIfInBounds_toArray, List.set_cons_zero, List.set_cons_succ]
      refine' Reg.tk3 (i := 6) (v := _) (some 7) [] [] rfl (Or.inl ⟨by rfl, Or.inl ?hy35⟩) ?rest35
      case hy35 => (intro w' kk ss; obtain ⟨x0, x1⟩ := (BP.out.since (hr0.trans kk)).two; go_simp; first | done | with_reducible rfl)
      try simp only [Act.put, List.setIfInBounds_toArray, List.set_cons_zero, List.set_cons_succ]
      refine Reg.wpG_done (by kernel_rfl) (fun we ke se => ?_) _
      refine NoPanic.normal ?_
      have hr0 := hr0.trans ke
      clear ke
      have KB := Lib.hid hr0
      have KE := Lib.hid (ka.out.trans hr0)
      obtain ⟨x0, x1⟩ := (BP.out.since KB.out).two
      clear hr0 se
      go_wp2_with (first | (go_at_call 128; (with_reducible refine (C2.out _ KE.out).mono ?_); rintro e w2 ⟨rfl, k2, -⟩; have K2 := Lib.hid (KE.out.trans k2); obtain ⟨x0, x1⟩ := (BP.out.since (KB.out.trans k2)).two; clear k2) | (go_at_call 127; (with_reducible refine (S2.out _ K2.out).mono ?_); rintro e w3 ⟨rfl, k3, k4⟩))
      go_ret
      exact ⟨rfl, k3, k4⟩
    · rw [D3 c1 c2]
      clear D1 D2 D3 S1 S2
      have c4 : ¬ 0 < q1 := by omega
      have c3 : ¬ (q2 : Int) = (f : Int) := by omega
      clear c1 c2
      go_enter Try.func129, Try.ntmps129
      go_wp2
      have hr0 : Since (W.alloc (.cells #[.slice A m c, .slice (some ⟨g, 0, none⟩) n n] 84)) (W.alloc (.cells #[.slice A m c, .slice (some ⟨g, 0, none⟩) n n] 84)).drew := Since.drew (Since.refl (W.alloc (.cells #[.slice A m c, .slice (some ⟨g, 0, none⟩) n n] 84)))
      refine wp_region_noPanic ?_
      refine Reg.wp_region_G (S := fun _ => True) (fun j => [].contains j) (by kernel_rfl) trivial ?_
      refine' Reg.tk3 (i := 0) (v := _) (some 8) [4, 5, 6] [] rfl (Or.inl ⟨by rfl, Or.inl ?hy36⟩) ?rest36
      case hy36 => (intro w' kk ss; obtain ⟨x0, x1⟩ := (BP.out.since (hr0.trans kk)).two; go_simp; first | done | with_reducible rfl)
      try simp only [Act.put, List.setIfInBounds_toArray, List.set_cons_zero, List.set_cons_succ]
      refine' Reg.tk3 (i := 1) (v := _) (some 9) [4, 5, 6] [] rfl (Or.inl ⟨by rfl, Or.inl ?hy37⟩) ?rest37
      case hy37 => (intro w' kk ss; obtain ⟨x0, x1⟩ := (BP.out.since (hr0.trans kk)).two; go_simp; first | done | with_reducible rfl)
      try simp only [Act.put, List.setIfInBounds_toArray, List.set_cons_zero, List.set_cons_succ]
      refine' Reg.tk3 (i := 2) (v := _) (some 10) [3, 4, 5, 6] [] rfl (Or.inl ⟨by rfl, Or.inl ?hy38⟩) ?rest38
      case hy38 => (intro w' kk ss; obtain ⟨x0, x1⟩ := (BP.out.since (hr0.trans kk)).two; go_simp; first | done | with_reducible rfl)
      try simp only [Act.put, List.setIfInBounds_toArray, List.set_cons_zero, List.set_cons_succ]
      refine Reg.tk3 (i := 3) (v := .int .i64 (1 - s)) (some 11) [4, 5, 6] [] rfl (Or.inl ⟨by rfl, Or.inr ⟨187, #[.int .i64 s], fun w' kk ss => ⟨?_, ?_⟩⟩⟩) ?_
      · (try dsimp only at ss); go_simp
      · exact not_any s _ hs
      try simp only [Act.put, List.setIfInBounds_toArray, List.set_cons_zero, List.set_cons_succ]
      refine Reg.tk3 (i := 4) (v := .int .i64 (q1 : Int)) (some 12) [5, 6] [] rfl (Or.inl ⟨by rfl, Or.inr ⟨128, #[.agg #[.slice A m c, .slice (some ⟨g, 0, none⟩) n n], .int .i64 (f : Int), .int .i64 (1 - s)], fun w' kk ss => ⟨?_, ?_⟩⟩⟩) ?_
      · (try dsimp only at ss); go_simp
      · exact C1.out _ (ka.out.trans (hr0.trans kk))
      try simp only [Act.put, List.setIfInBounds_toArray, List.set_cons_zero, List.set_cons_succ]
      refine' Reg.tk3 (i := 5) (v := _) (some 13) [6] [] rfl (Or.inl ⟨by rfl, Or.inl ?hy39⟩) ?rest39
      case hy39 => (intro w' kk ss; obtain ⟨x0, x1⟩ := (BP.out.since (hr0.trans kk)).two; go_simp; first | done | with_reducible rfl)
      try simp only [Act.put, List.setIfInBounds_toArray, List.set_cons_zero, List.set_cons_succ]
      refine' Reg.tk3 (i := 6) (v := _) (some 7) [] [] rfl (Or.inl ⟨by rfl, Or.inl ?hy40⟩) ?rest40
      case hy40 => (intro w' kk ss; obtain ⟨x0, x1⟩ := (BP.out.since (hr0.trans kk)).two; go_simp; first | done | with_reducible rfl)
      try simp only [Act.put, List.setIfInBounds_toArray, List.set_cons_zero, List.set_cons_succ]
      refine Reg.wpG_done (by kernel_rfl) (fun we ke se => ?_) _
      refine NoPanic.normal ?_
      have hr0 := hr0.trans ke
      clear ke
      have KB := Lib.hid hr0
      have KE := Lib.hid (ka.out.trans hr0)
      obtain ⟨x0, x1⟩ := (BP.out.since KB.out).two
      clear hr0 se
      go_wp2_with (go_at_call 128; (with_reducible refine (C2.out _ KE.out).mono ?_); rintro e w2 ⟨rfl, k2, -⟩; have K2 := Lib.hid (KE.out.trans k2); obtain ⟨x0, x1⟩ := (BP.out.since (KB.out.trans k2)).two; clear k2)
      go_ret
      exact YS.out _ K2.out
  · rw [D1 c1]
    clear D1 D2 D3 S2 C2 YS
    have c3 : 0 < q1 := by omega
    generalize setS (X.getD f 0) (1 - s) D = o at *
    go_enter Try.func129, Try.ntmps129
    go_wp2
    have hr0 : Since (W.alloc (.cells #[.slice A m c, .slice (some ⟨g, 0, none⟩) n n] 84)) (W.alloc (.cells #[.slice A m c, .slice (some ⟨g, 0, none⟩) n n] 84)).drew := Since.drew (Since.refl (W.alloc (.cells #[.slice A m c, .slice (some ⟨g, 0, none⟩) n n] 84)))
    refine wp_region_noPanic ?_
    refine Reg.wp_region_G (S := fun _ => True) (fun j => [].contains j) (by kernel_rfl) trivial ?_
    refine' Reg.tk3 (i := 0) (v := _) (some 8) [4, 5, 6] [] rfl (Or.inl ⟨by rfl, Or.inl ?hy41⟩) ?rest41
    case hy41 => (intro w' kk ss; obtain ⟨x0, x1⟩ := (BP.out.since (hr0.trans kk)).two; go_simp; first | done | with_reducible rfl)
    try simp only [Act.put, List.setIfInBounds_toArray, List.set_cons_zero, List.set_cons_succ]
    refine' Reg.tk3 (i := 1) (v := _) (some 9) [4, 5, 6] [] rfl (Or.inl ⟨by rfl, Or.inl ?hy42⟩) ?rest42
    case hy42 => (intro w' kk ss; obtain ⟨x0, x1⟩ := (BP.out.since (hr0.trans kk)).two; go_simp; first | done | with_reducible rfl)
    try simp only [Act.put, List.setIfInBounds_toArray, List.set_cons_zero, List.set_cons_succ]
    refine' Reg.tk3 (i := 2) (v := _) (some 10) [3, 4, 5, 6] [] rfl (Or.inl ⟨by rfl, Or.inl ?hy43⟩) ?rest43
    case hy43 => (intro w' kk ss; obtain ⟨x0, x1⟩ := (BP.out.since (hr0.trans kk)).two; go_simp; first | done | with_reducible rfl)
    try simp only [Act.put, List.setIfInBounds_toArray, List.set_cons_zero, List.set_cons_succ]
    refine Reg.tk3 (i := 3) (v := .int .i64 (1 - s)) (some 11) [4, 5, 6] [] rfl (Or.inl ⟨by rfl, Or.inr ⟨187, #[.int .i64 s], fun w' kk ss => ⟨?_, ?_⟩⟩⟩) ?_
    · (try dsimp only at ss); go_simp
    · exact not_any s _ hs
    try simp only [Act.put, List.setIfInBounds_toArray, List.set_cons_zero, List.set_cons_succ]
    refine Reg.tk3 (i := 4) (v := .int .i64 (q1 : Int)) (some 12) [5, 6] [] rfl (Or.inl ⟨by rfl, Or.inr ⟨128, #[.agg #[.slice A m c, .slice (some ⟨g, 0, none⟩) n n], .int .i64 (f : Int), .int .i64 (1 - s)], fun w' kk ss => ⟨?_, ?_⟩⟩⟩) ?_
    · (try dsimp only at ss); go_simp
    · exact C1.out _ (ka.out.trans (hr0.trans kk))
    try simp only [Act.put, List.setIfInBounds_toArray, List.set_cons_zero, List.set_cons_succ]
    refine' Reg.tk3 (i := 5) (v := _) (some 13) [6] [] rfl (Or.inl ⟨by rfl, Or.inl ?hy44⟩) ?rest44
    case hy44 => (intro w' kk ss; obtain ⟨x0, x1⟩ := (BP.out.since (hr0.trans kk)).two; go_simp; first | done | with_reducible rfl)
    try simp only [Act.put, List.setIfInBounds_toArray, List.set_cons_zero, List.set_cons_succ]
    refine' Reg.tk3 (i := 6) (v := _) (some 7) [] [] rfl (Or.inl ⟨by rfl, Or.inl ?hy45⟩) ?rest45
    case hy45 => (intro w' kk ss; obtain ⟨x0, x1⟩ := (BP.out.since (hr0.trans kk)).two; go_simp; first | done | with_reducible rfl)
    try simp only [Act.put, List.setIfInBounds_toArray, List.set_cons_zero, List.set_cons_succ]
    refine Reg.wpG_done (by kernel_rfl) (fun we ke se => ?_) _
    refine NoPanic.normal ?_
    have hr0 := hr0.trans ke
    clear ke
    have KB := Lib.hid hr0
    have KE := Lib.hid (ka.out.trans hr0)
    obtain ⟨x0, x1⟩ := (BP.out.since KB.out).two
    clear hr0 se
    go_wp2
    have hr0 : Since we we.drew := Since.drew (Since.refl we)
    refine wp_region_noPanic ?_
    refine Reg.wp_region_G (S := fun _ => True) (fun j => [4, 5].contains j) (by kernel_rfl) trivial ?_
    refine' Reg.tk3 (i := 0) (v := _) (some 14) [4, 5] [4, 5] rfl (Or.inl ⟨by rfl, Or.inl ?hy46⟩) ?rest46
    case hy46 => (intro w' kk ss; obtain ⟨x0, x1⟩ := (BP.out.since (KB.out.trans (hr0.trans kk))).two; go_simp; first | done | with_reducible rfl)
    try simp only [Act.put, List.setIfInBounds_toArray, List.set_cons_zero, List.set_cons_succ]
    refine' Reg.tk3 (i := 1) (v := _) (some 15) [4, 5] [4, 5] rfl (Or.inl ⟨by rfl, Or.inl ?hy47⟩) ?rest47
    case hy47 => (intro w' kk ss; obtain ⟨x0, x1⟩ := (BP.out.since (KB.out.trans (hr0.trans kk))).two; go_simp; first | done | with_reducible rfl)
    try simp only [Act.put, List.setIfInBounds_toArray, List.set_cons_zero, List.set_cons_succ]
    refine' Reg.tk3 (i := 2) (v := _) (some 16) [3, 4, 5] [4, 5] rfl (Or.inl ⟨by rfl, Or.inl ?hy48⟩) ?rest48
    case hy48 => (intro w' kk ss; obtain ⟨x0, x1⟩ := (BP.out.since (KB.out.trans (hr0.trans kk))).two; go_simp; first | done | with_reducible rfl)
    try simp only [Act.put, List.setIfInBounds_toArray, List.set_cons_zero, List.set_cons_succ]
    refine Reg.tk3 (i := 3) (v := .int .i64 (1 - s)) (some 17) [4, 5] [4, 5] rfl (Or.inl ⟨by rfl, Or.inr ⟨187, #[.int .i64 s], fun w' kk ss => ⟨?_, ?_⟩⟩⟩) ?_
    · (try dsimp only at ss); go_simp
    · exact not_any s _ hs
    try simp only [Act.put, List.setIfInBounds_toArray, List.set_cons_zero, List.set_cons_succ]
    refine Reg.wpG_ready (rs := [4]) (by kernel_rfl) (by simp) (fun wq kq sq => ?_)
    have hr0 := hr0.trans kq
    refine Reg.AllG.last (o := { dst := some 18, op := Op.call { callee := Callee.value (Operand.func 127), args := #[Operand.tmp 14, Operand.tmp 15, Operand.tmp 17], argTypes := #[84, 3, 88] }, type := 4, pos := "kinds.go:38", after := #[{ on := 0, ground := Ground.data }, { on := 1, ground := Ground.data }, { on := 3, ground := Ground.data }, { on := 3, ground := Ground.chain }], guard := none }) rfl (by rfl) (fun K hK => ?_) Reg.AllG.nil
    go_simp
    (with_reducible refine (S1.out wq (KE.out.trans hr0)).mono ?_)
    rintro e yw ⟨rfl, k3, k4⟩
    refine hK.out _ _ trivial (fun hHeld => ?_)
    clear hK K
    try simp only [Act.put, List.setIfInBounds_toArray, List.set_cons_zero, List.set_cons_succ]
    refine' Reg.ah3 (i := 5) (v := _) (some 6) rfl (by kernel_rfl) (by kernel_rfl) (by kernel_rfl) (fun _ _ _ h => h) (Or.inl ⟨by rfl, ?hy49⟩) (by assumption) ?rest49
    case hy49 => (intro w' ss; (try dsimp only at ss); go_simp; first | done | with_reducible rfl)
    try simp only [Act.put, List.setIfInBounds_toArray, List.set_cons_zero, List.set_cons_succ]
    refine wpAnyH_done (by kernel_rfl) ?_ _
    refine NoPanic.normal ?_
    go_wp2
    go_ret
    exact ⟨rfl, k3, k4⟩
end Go.Proofs.Ytilgmkhcpmegjaa.Lgc
end
