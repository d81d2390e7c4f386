/- Layer 15 (logic): the landed count, onlyOpen. -/
import Derived.Test.YtilgmkhcpmegjaaCc
namespace Go.Proofs.Ytilgmkhcpmegjaa.Lgc
open Go.RowKit
set_option linter.unusedVariables false
set_option linter.unusedSimpArgs false
open Go.Proofs.Ytilgmkhcpmegjaa.Dig Go.Proofs.Ytilgmkhcpmegjaa.Lx Go.Proofs.Ytilgmkhcpmegjaa.Tk Go.Proofs.Ytilgmkhcpmegjaa.Ti Go.Proofs.Ytilgmkhcpmegjaa.Zs Go.Proofs.Ytilgmkhcpmegjaa.Tr Go.Proofs.Ytilgmkhcpmegjaa.Sn Go.Proofs.Ytilgmkhcpmegjaa.Ln Go.Proofs.Ytilgmkhcpmegjaa.At
set_option maxRecDepth 20000 in
set_option maxHeartbeats 2000000 in
theorem count_any {g n : Nat} {w0 W : World} {X : List Int} {D : Ln.Ds} {A : Option Addr} {m c : Nat} (h : PL g n w0 W X D A m c) {k : Nat} (hk : k ≤ m) (s : Int) :
    Calls Try.prog 128 #[.agg #[.slice A m c, .slice (some ⟨g, 0, none⟩) n n], .int .i64 (k : Int), .int .i64 s] W (fun e w' => e = .returned (.int .i64 ((cntK X k s D : Nat) : Int)) ∧ Since W w' ∧ True) := by
  have IS := Lib.hid (fun w (k : Since W w) i (hi : i < m) => is_any (h.since k) hi)
  have HL := Lib.hid h.len
  have HM : m ≤ 32 := h.le
  have ka := Lib.hid (since_alloc W (.cells #[.slice A m c, .slice (some ⟨g, 0, none⟩) n n] 84))
  have BP := Lib.hid (Bx.fresh W #[.slice A m c, .slice (some ⟨g, 0, none⟩) n n] 84)
  clear h
  go_enter Try.func128, Try.ntmps128
  go_wp2
  go_loopw [7, 10] (fun a i wr => ∃ (q : Nat), a = .int .i64 ((cntK X q s D : Nat) : Int) ∧ i = .int .i64 (q : Int) ∧ q ≤ k ∧ Hid (Since (W.alloc (.cells #[.slice A m c, .slice (some ⟨g, 0, none⟩) n n] 84)) wr)) (fun _ i _ => k - (intOf i).toNat)
  case atStart => exact ⟨0, by first | rfl | simp [cntK], rfl, Nat.zero_le _, Lib.hid (Since.refl _)⟩
  case round =>
    obtain ⟨q, rfl, rfl, hq, HW⟩ := hrel
    by_cases hqk : q < k
    · have hqm : q < m := by omega
      have CS := Lib.hid (cntK_succ (X := X) (k := q) s D (by rw [HL.out]; exact hqm))
      have CB := cntK_le X q s D
      have I1 := Lib.hid (IS.out wr (ka.out.trans HW.out) q hqm)
      obtain ⟨x0, x1⟩ := (BP.out.since HW.out).two
      generalize stt (X.getD q 0) D = z at *
      generalize cntK X q s D = cq at *
      by_cases c1 : z = s
      all_goals
        go_wp2_with (go_at_call 124; (with_reducible refine (I1.out).mono ?_); rintro e w2 ⟨rfl, k2, -⟩; have K2 := Lib.hid (HW.out.trans k2); clear k2)
        go_roundw
        case rel => exact ⟨q + 1, by rw [CS.out]; simp only [c1, if_true, if_false]; go_num, by go_num, by omega, K2⟩
        case measure => simp [intOf]; omega
    · obtain rfl : q = k := by omega
      go_wp2
      go_ret
      exact ⟨rfl, ka.out.trans HW.out, trivial⟩
theorem first_of {P : Int → Bool} {l : List Int} (h : l.countP P = 1) : ∃ l1 x l2, l = l1 ++ x :: l2 ∧ (∀ q ∈ l1, P q = false) ∧ (∀ q ∈ l2, P q = false) ∧ P x = true := by
  rw [List.countP_eq_length_filter] at h
  obtain ⟨x, hx⟩ := List.length_eq_one_iff.1 h
  obtain ⟨l1, l2, h1, h2, h3, h4⟩ := filt_one hx
  exact ⟨l1, x, l2, h1, h2, h3, h4⟩
set_option maxRecDepth 20000 in
set_option maxHeartbeats 2000000 in
theorem only_no {g n : Nat} {w0 W : World} {X : List Int} {D : Ln.Ds} {A : Option Addr} {m c : Nat} (h : PL g n w0 W X D A m c) {k : Nat} (hk : k ≤ m) (h1 : cntK X k 2 D ≠ 1) :
    Calls Try.prog 126 #[.agg #[.slice A m c, .slice (some ⟨g, 0, none⟩) n n], .int .i64 (k : Int)] W (fun e w' => e = .returned (.tuple #[.int .i64 0, .bool false]) ∧ Since W w' ∧ True) := by
  have CO := Lib.hid (fun w (kk : Since W w) => count_any (h.since kk) hk 2)
  have ka := Lib.hid (since_alloc W (.cells #[.slice A m c, .slice (some ⟨g, 0, none⟩) n n] 84))
  have BP := Lib.hid (Bx.fresh W #[.slice A m c, .slice (some ⟨g, 0, none⟩) n n] 84)
  obtain ⟨x0, x1⟩ := BP.out.two
  generalize cntK X k 2 D = q at *
  have hq : ¬ ((q : Nat) : Int) = 1 := by omega
  clear h
  go_enter Try.func126, Try.ntmps126
  go_wp2_with (go_at_call 128; (with_reducible refine (CO.out _ ka.out).mono ?_); rintro e w2 ⟨rfl, k2, -⟩; have K2 := Lib.hid (ka.out.trans k2); clear k2)
  go_ret2
  exact ⟨rfl, K2.out, trivial⟩
set_option maxRecDepth 20000 in
set_option maxHeartbeats 2000000 in
theorem only_yes {g n : Nat} {w0 W : World} {X : List Int} {D : Ln.Ds} {A : Option Addr} {m c : Nat} (h : PL g n w0 W X D A m c) {k : Nat} (hk : k ≤ m) (h1 : cntK X k 2 D = 1) {l1 l2 : List Int} {x : Int} (he : X.take k = l1 ++ x :: l2) (hl1 : ∀ q ∈ l1, stt q D ≠ 2) (hx : stt x D = 2) :
    Calls Try.prog 126 #[.agg #[.slice A m c, .slice (some ⟨g, 0, none⟩) n n], .int .i64 (k : Int)] W (fun e w' => e = .returned (.tuple #[.int .i64 (l1.length : Int), .bool true]) ∧ Since W w' ∧ True) := by
  have CO := Lib.hid (fun w (kk : Since W w) => count_any (h.since kk) hk 2)
  have IS := Lib.hid (fun w (k : Since W w) i (hi : i < m) => is_any (h.since k) hi)
  have hlk : l1.length < k := by
    have e := congrArg List.length he
    rw [List.length_take, List.length_append, List.length_cons] at e
    omega
  have hat : ∀ i, i < k → X.getD i 0 = (l1 ++ x :: l2).getD i 0 := fun i hi => by
    rw [← he]; simp [List.getD, List.getElem?_take, hi]
  have A1 := Lib.hid (fun i (hi : i < l1.length) => show stt (X.getD i 0) D ≠ 2 from by
    rw [hat i (by omega)]
    have : (l1 ++ x :: l2).getD i 0 = l1[i] := by simp [List.getD, hi, List.getElem?_append]
    rw [this]; exact hl1 _ (List.getElem_mem hi))
  have A2 := Lib.hid (show stt (X.getD l1.length 0) D = 2 from by
    rw [hat _ hlk]
    have : (l1 ++ x :: l2).getD l1.length 0 = x := by simp [List.getD]
    rw [this]; exact hx)
  rw [h1] at CO
  have HM : m ≤ 32 := h.le
  generalize l1.length = p at *
  have ka := Lib.hid (since_alloc W (.cells #[.slice A m c, .slice (some ⟨g, 0, none⟩) n n] 84))
  have BP := Lib.hid (Bx.fresh W #[.slice A m c, .slice (some ⟨g, 0, none⟩) n n] 84)
  obtain ⟨x0, x1⟩ := BP.out.two
  clear h h1 he hl1 hx hat
  go_enter Try.func126, Try.ntmps126
  go_wp2_with (go_at_call 128; (with_reducible refine (CO.out _ ka.out).mono ?_); rintro e w2 ⟨rfl, k2, -⟩; have K2 := Lib.hid k2; clear k2)
  clear x0 x1
  go_loopw [6] (fun i wr => ∃ (q : Nat), i = .int .i64 (q : Int) ∧ q ≤ p ∧ Hid (Since (W.alloc (.cells #[.slice A m c, .slice (some ⟨g, 0, none⟩) n n] 84)) wr)) (fun i _ => k - (intOf i).toNat)
  case atStart => exact ⟨0, rfl, Nat.zero_le _, K2⟩
  case round =>
    obtain ⟨q, rfl, hq, HW⟩ := hrel
    have hqm : q < m := by omega
    have I1 := Lib.hid (IS.out wr (ka.out.trans HW.out) q hqm)
    obtain ⟨x0, x1⟩ := (BP.out.since HW.out).two
    by_cases hqp : q < p
    · have c1 := A1.out q hqp
      generalize stt (X.getD q 0) D = z at *
      go_wp2_with (go_at_call 124; (with_reducible refine (I1.out).mono ?_); rintro e w2 ⟨rfl, k2, -⟩; have K2 := Lib.hid (HW.out.trans k2); clear k2)
      go_roundw
      case rel => exact ⟨q + 1, by go_num, by omega, K2⟩
      case measure => simp [intOf]; omega
    · obtain rfl : q = p := by omega
      rw [A2.out] at I1
      go_wp2_with (go_at_call 124; (with_reducible refine (I1.out).mono ?_); rintro e w2 ⟨rfl, k2, -⟩; have K2 := Lib.hid (HW.out.trans k2); clear k2)
      go_ret2
      exact ⟨rfl, ka.out.trans K2.out, trivial⟩
end Go.Proofs.Ytilgmkhcpmegjaa.Lgc
