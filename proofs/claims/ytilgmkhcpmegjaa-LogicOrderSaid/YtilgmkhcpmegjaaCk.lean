/- Layer 15 (logic): the landed xor. -/
import Derived.Test.YtilgmkhcpmegjaaCe
import Derived.Test.YtilgmkhcpmegjaaCd
namespace Go.Proofs.Ytilgmkhcpmegjaa.Lgc
open Go.RowKit
set_option linter.unusedVariables false
set_option linter.unusedSimpArgs false
open Go.Proofs.Ytilgmkhcpmegjaa.Dig Go.Proofs.Ytilgmkhcpmegjaa.Lx Go.Proofs.Ytilgmkhcpmegjaa.Tk Go.Proofs.Ytilgmkhcpmegjaa.Ti Go.Proofs.Ytilgmkhcpmegjaa.Zs Go.Proofs.Ytilgmkhcpmegjaa.Tr Go.Proofs.Ytilgmkhcpmegjaa.Sn Go.Proofs.Ytilgmkhcpmegjaa.Ln Go.Proofs.Ytilgmkhcpmegjaa.At
section
variable {X : List Int} {D : Ln.Ds}
theorem xor_bit (hb : Bt2 X D) : xorS X D = xorW X D := by
  unfold xorS
  rw [if_pos]
  unfold bitS
  rw [List.all_eq_true]
  intro x hx
  have := hb x hx
  cases ho : ope x D with
  | true => simp
  | false =>
    rw [ope_no] at ho
    simp only [Bool.false_or, Bool.or_eq_true, decide_eq_true_eq]
    omega
theorem odd_cnt (X : List Int) (D : Ln.Ds) : odd X D = ((cntK X X.length 1 D % 2 : Nat) : Int) := by
  unfold odd cnt1 cntK
  rw [List.take_length]
  congr 2
  exact List.countP_congr fun x hx => by rw [stt_isv (.inr rfl)]
theorem xor_set {l1 l2 : List Int} {x : Int} (hb : Bt2 X D) (e : X = l1 ++ x :: l2) (h1 : ∀ q ∈ l1, ope q D = false) (h2 : ∀ q ∈ l2, ope q D = false) (h3 : ope x D = true) : xorS X D = setS x (odd X D) D := by
  rw [xor_bit hb]
  unfold xorW
  rw [filt_is (P := fun x : Int => ope x D) e h1 h2 h3]
theorem xor_zero (hb : Bt2 X D) (h : (X.filter (fun x => ope x D)).length = 0) : xorS X D = if odd X D = 0 then some D else none := by
  rw [xor_bit hb]
  unfold xorW
  rw [List.length_eq_zero_iff.1 h]
theorem xor_more (hb : Bt2 X D) (h : (X.filter (fun x => ope x D)).length ≠ 0) (h1 : (X.filter (fun x => ope x D)).length ≠ 1) : xorS X D = some D := by
  rw [xor_bit hb]
  unfold xorW
  match hf : X.filter (fun x => ope x D) with
  | [] => rw [hf] at h; simp at h
  | [p] => rw [hf] at h1; simp at h1
  | p :: q :: l => rfl
end
set_option maxRecDepth 20000 in
set_option maxHeartbeats 8000000 in
theorem xor_any {g n : Nat} {w0 W : World} {X : List Int} {D : Ln.Ds} {A : Option Addr} {m c : Nat} (h : PL g n w0 W X D A m c) : Calls Try.prog 69 #[.agg #[.slice A m c, .slice (some ⟨g, 0, none⟩) n n]] W (RetL g n w0 W (xorS X D)) := by
  have SS := Lib.hid (fun w (k : Since W w) i (hi : i < m) s => (set_any (h.since k) hi s).mono fun e w' hh => RetL.up hh k)
  have C1 := Lib.hid (fun w (k : Since W w) => count_any (h.since k) (Nat.le_refl m) 1)
  have CO := Lib.hid (fun w (k : Since W w) => count_any (h.since k) (Nat.le_refl m) 2)
  have YS := Lib.hid (fun w (k : Since W w) => RetL.some_ (h.at_.since k) (Turn.of k (but g)))
  have NS := Lib.hid (fun w (k : Since W w) => RetL.none_ (g := g) (n := n) (w0 := w0) (Turn.of k (but g)))
  have hm32 : m ≤ 32 := h.le
  have hb := h.bt
  have tkX : X.take m = X := List.take_of_length_le (by rw [h.len]; exact Nat.le_refl _)
  have hco := cnt_ope (k := m) hb
  rw [tkX] at hco
  have hod := odd_cnt X D
  rw [h.len] at hod
  have b1 := cntK_le X m 1 D
  have ka := Lib.hid (since_alloc W (.cells #[.slice A m c, .slice (some ⟨g, 0, none⟩) n n] 84))
  have BP := Lib.hid (Bx.fresh W #[.slice A m c, .slice (some ⟨g, 0, none⟩) n n] 84)
  have hgW : W.heap.size ≠ g := by have := h.hi_; omega
  obtain ⟨x0, x1⟩ := BP.out.two
  obtain ⟨q1, hq1⟩ : ∃ q1, q1 = cntK X m 1 D := ⟨_, rfl⟩
  rw [← hq1] at C1 hod b1
  have hwr2 : IntKind.i64.wrap ((q1 : Int) % 2) = (q1 : Int) % 2 := wrap_id' (by omega) (by omega)
  replace hod : odd X D = (q1 : Int) % 2 := by rw [hod]; omega
  clear hq1
  by_cases c4 : cntK X m 2 D = 1
  · obtain ⟨l1, x, l2, e1, e2, e3, e4⟩ := first_of (P := fun x => decide (stt x D = 2)) (l := X.take m) c4
    have hl1 : ∀ q ∈ l1, stt q D ≠ 2 := fun q hq => by simpa using e2 q hq
    have hxx : stt x D = 2 := by simpa using e4
    have ON := Lib.hid (fun w (k : Since W w) => only_yes (h.since k) (Nat.le_refl _) c4 e1 hl1 hxx)
    rw [tkX] at e1
    have hlk : l1.length < m := by rw [← h.len, e1]; simp
    have hat : X.getD l1.length 0 = x := by rw [e1]; simp [List.getD]
    have S1 := Lib.hid (fun w (k : Since W w) => SS.out w k l1.length hlk ((q1 : Int) % 2))
    rw [hat] at S1
    have mem1 : ∀ q ∈ l1, q ∈ X := fun q hq => by rw [e1]; simp [hq]
    have mem2 : ∀ q ∈ l2, q ∈ X := fun q hq => by rw [e1]; simp [hq]
    have mem3 : x ∈ X := by rw [e1]; simp
    rw [xor_set hb e1 (fun q hq => by rw [← stt_ope (hb q (mem1 q hq))]; exact e2 q hq) (fun q hq => by rw [← stt_ope (hb q (mem2 q hq))]; exact e3 q hq) (by rw [← stt_ope (hb x mem3)]; exact e4), hod]
    generalize setS x ((q1 : Int) % 2) D = o at *
    generalize l1.length = p at *
    clear e1 e2 e3 e4 hl1 hxx hat mem1 mem2 mem3 c4 hco tkX SS CO YS NS hb hod h
    go_enter Try.func69, Try.ntmps69
    go_wp2_with (first | (go_at_call 128; (with_reducible refine (C1.out _ ka.out).mono ?_); rintro e w1 ⟨rfl, k1, -⟩; have KB := Lib.hid k1; have KE := Lib.hid (ka.out.trans k1); obtain ⟨x0, x1⟩ := (BP.out.since k1).two; clear k1) | (go_at_call 126; (with_reducible refine (ON.out _ KE.out).mono ?_); rintro e w2 ⟨rfl, k2, -⟩; have KB2 := Lib.hid (KB.out.trans k2); have KE2 := Lib.hid (KE.out.trans k2); obtain ⟨x0, x1⟩ := (BP.out.since (KB.out.trans k2)).two; clear k2) | (go_at_call 127; (with_reducible refine (S1.out _ KE2.out).mono ?_); rintro e w3 ⟨rfl, k3, k4⟩))
    go_ret
    exact ⟨rfl, k3, k4⟩
  · have ON := Lib.hid (fun w (k : Since W w) => only_no (h.since k) (Nat.le_refl _) c4)
    by_cases c5 : cntK X m 2 D = 0
    · rw [xor_zero hb (by rw [← hco]; exact c5)]
      obtain ⟨q2, hq2⟩ : ∃ q2, q2 = cntK X m 2 D := ⟨_, rfl⟩
      rw [← hq2] at CO
      rw [hod]
      by_cases c6 : ((q1 : Int) % 2) = 0
      · rw [if_pos c6]
        clear hco tkX SS NS hb hod h c4 c5
        go_enter Try.func69, Try.ntmps69
        go_wp2_with (first | (go_at_call 128; (with_reducible refine (C1.out _ ka.out).mono ?_); rintro e w1 ⟨rfl, k1, -⟩; have KB := Lib.hid k1; have KE := Lib.hid (ka.out.trans k1); obtain ⟨x0, x1⟩ := (BP.out.since k1).two; clear k1) | (go_at_call 126; (with_reducible refine (ON.out _ KE.out).mono ?_); rintro e w2 ⟨rfl, k2, -⟩; have KB2 := Lib.hid (KB.out.trans k2); have KE2 := Lib.hid (KE.out.trans k2); obtain ⟨x0, x1⟩ := (BP.out.since (KB.out.trans k2)).two; clear k2))
        go_ret
        exact YS.out _ KE2.out
      · rw [if_neg c6]
        have c7 : ¬ 0 < q2 := by omega
        clear hco tkX SS YS hb hod h c4 c5 hq2
        go_enter Try.func69, Try.ntmps69
        go_wp2_with (first | (go_at_call 128; (with_reducible refine (C1.out _ ka.out).mono ?_); rintro e w1 ⟨rfl, k1, -⟩; have KB := Lib.hid k1; have KE := Lib.hid (ka.out.trans k1); obtain ⟨x0, x1⟩ := (BP.out.since k1).two; clear k1) | (go_at_call 126; (with_reducible refine (ON.out _ KE.out).mono ?_); rintro e w2 ⟨rfl, k2, -⟩; have KB2 := Lib.hid (KB.out.trans k2); have KE2 := Lib.hid (KE.out.trans k2); obtain ⟨x0, x1⟩ := (BP.out.since (KB.out.trans k2)).two; clear k2) | (go_at_call 128; (with_reducible refine (CO.out _ KE2.out).mono ?_); rintro e w3 ⟨rfl, k3, -⟩; have K3 := Lib.hid (KE2.out.trans k3); clear k3))
        go_ret
        show RetL g n w0 W none (.returned (.bool ((q1 : Int) % 2 == 0))) w3
        rw [show ((q1 : Int) % 2 == 0) = false from beq_eq_false_iff_ne.2 c6]
        exact NS.out _ K3.out
    · rw [xor_more hb (by rw [← hco]; exact c5) (by rw [← hco]; exact c4)]
      obtain ⟨q2, hq2⟩ : ∃ q2, q2 = cntK X m 2 D := ⟨_, rfl⟩
      rw [← hq2] at CO
      have c7 : 0 < q2 := by omega
      by_cases c6 : ((q1 : Int) % 2) = 0
      · skip
        clear hco tkX SS NS hb hod h c4 c5 hq2
        go_enter Try.func69, Try.ntmps69
        go_wp2_with (first | (go_at_call 128; (with_reducible refine (C1.out _ ka.out).mono ?_); rintro e w1 ⟨rfl, k1, -⟩; have KB := Lib.hid k1; have KE := Lib.hid (ka.out.trans k1); obtain ⟨x0, x1⟩ := (BP.out.since k1).two; clear k1) | (go_at_call 126; (with_reducible refine (ON.out _ KE.out).mono ?_); rintro e w2 ⟨rfl, k2, -⟩; have KB2 := Lib.hid (KB.out.trans k2); have KE2 := Lib.hid (KE.out.trans k2); obtain ⟨x0, x1⟩ := (BP.out.since (KB.out.trans k2)).two; clear k2))
        go_ret
        exact YS.out _ KE2.out
      · skip
        clear hco tkX SS NS hb hod h c4 c5 hq2
        go_enter Try.func69, Try.ntmps69
        go_wp2_with (first | (go_at_call 128; (with_reducible refine (C1.out _ ka.out).mono ?_); rintro e w1 ⟨rfl, k1, -⟩; have KB := Lib.hid k1; have KE := Lib.hid (ka.out.trans k1); obtain ⟨x0, x1⟩ := (BP.out.since k1).two; clear k1) | (go_at_call 126; (with_reducible refine (ON.out _ KE.out).mono ?_); rintro e w2 ⟨rfl, k2, -⟩; have KB2 := Lib.hid (KB.out.trans k2); have KE2 := Lib.hid (KE.out.trans k2); obtain ⟨x0, x1⟩ := (BP.out.since (KB.out.trans k2)).two; clear k2) | (go_at_call 128; (with_reducible refine (CO.out _ KE2.out).mono ?_); rintro e w3 ⟨rfl, k3, -⟩; have K3 := Lib.hid (KE2.out.trans k3); clear k3))
        go_ret
        exact YS.out _ K3.out
end Go.Proofs.Ytilgmkhcpmegjaa.Lgc
