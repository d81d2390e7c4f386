/- ParsePlaces, if Text says what the document says. -/
import Derived.Test.YtgcfemnigpjadaaDoorL6s
namespace Go.Proofs.YtgcfemnigpjadaaDoor.Law06
open Go.RowKit
set_option linter.unusedVariables false
set_option linter.unusedSimpArgs false
open Go.Proofs.YtgcfemnigpjadaaDoor.Dig Go.Proofs.YtgcfemnigpjadaaDoor.Lx Go.Proofs.YtgcfemnigpjadaaDoor.Tk Go.Proofs.YtgcfemnigpjadaaDoor.Ps Go.Proofs.YtgcfemnigpjadaaDoor.Ti
open Go.Proofs.YtgcfemnigpjadaaDoor.Lex (ErrIn)

set_option maxRecDepth 100000 in
set_option maxHeartbeats 4000000 in
theorem places_any {Ok : World → Prop} (T : TextSays Ok) (a0 : ByteArray) (w : World) (ok : Ok w) (he : ErrIn w) : Calls Tryd.prog 3 #[.string a0] w fun e w' => e = .returned (.bool true) ∧ Since w w' := by
  have AL := Lib.hid (alive T w ok)
  have OK := Lib.hid (fun W (h : Since w W) => T.1 w W ok h)
  have EI := Lib.hid he
  clear he
  by_cases hbig : 9000 < a0.size
  · have hz : decide ((9000 : Int) < (a0.size : Int)) = true := by rw [decide_eq_true_iff]; omega
    go_enter Tryd.func3, Tryd.ntmps3
    go_wp2_with (go_at_call 7; (with_reducible refine AL.out.mono ?_); rintro e w1 ⟨rfl, h1⟩)
    go_ret
    exact ⟨rfl, h1⟩
  have hz : decide ((9000 : Int) < (a0.size : Int)) = false := by rw [decide_eq_false_iff_not]; omega
  obtain ⟨⟨l, p, er⟩, hr⟩ : ∃ r, textD a0 = r := ⟨_, rfl⟩
  obtain ⟨⟨o, q, f⟩, hs⟩ : ∃ r, splitD (L a0) = r := ⟨_, rfl⟩
  obtain ⟨n, hn⟩ : ∃ n, l.length = n := ⟨_, rfl⟩
  obtain ⟨k, hk⟩ : ∃ k, o.length = k := ⟨_, rfl⟩
  have S1 := Lib.hid (fun W (h : Ok W) => text_at T a0 (by omega) hr hn W h)
  have S2 := Lib.hid (fun W (h : ErrIn W) => split_at a0 (by omega) hs hk W h)
  obtain ⟨g1, g2⟩ := text_places hs hr
  by_cases her : er = 0
  · subst her
    obtain ⟨rfl, rfl, g3, g4⟩ := g2 rfl
    rw [hn, hk] at g3
    rw [hn] at g4
    clear hr hs hn hk g1 g2 T
    have hz5 : decide ((n : Int) ≤ 512) = true := by rw [decide_eq_true_iff]; omega
    by_cases h0 : 0 < n
    · have h0' := g3.1 h0
      have hz3 : decide ((0 : Int) < (n : Int)) = true := by rw [decide_eq_true_iff]; omega
      have hz4 : decide ((0 : Int) < (k : Int)) = true := by rw [decide_eq_true_iff]; omega
      clear g3
      go_enter Tryd.func3, Tryd.ntmps3
      go_wp2_with (first
        | (go_at_call 7; (with_reducible refine AL.out.mono ?_); rintro e w1 ⟨rfl, h1⟩)
        | (go_at_call 8; (with_reducible refine (S1.out _ (OK.out _ h1)).mono ?_); rintro e w2 ⟨A1, c1, rfl, t1, h2⟩)
        | (go_at_call 9; (with_reducible refine (S2.out _ (EI.out.since (h1.trans h2))).mono ?_); rintro e w3 ⟨A2, c2, rfl, t2, h3⟩))
      go_ret
      exact ⟨rfl, (h1.trans h2).trans h3⟩
    · have h0' : ¬ 0 < k := fun h => h0 (g3.2 h)
      obtain rfl : n = 0 := by omega
      obtain rfl : k = 0 := by omega
      clear g3
      go_enter Tryd.func3, Tryd.ntmps3
      go_wp2_with (first
        | (go_at_call 7; (with_reducible refine AL.out.mono ?_); rintro e w1 ⟨rfl, h1⟩)
        | (go_at_call 8; (with_reducible refine (S1.out _ (OK.out _ h1)).mono ?_); rintro e w2 ⟨A1, c1, rfl, t1, h2⟩)
        | (go_at_call 9; (with_reducible refine (S2.out _ (EI.out.since (h1.trans h2))).mono ?_); rintro e w3 ⟨A2, c2, rfl, t2, h3⟩))
      go_ret
      exact ⟨rfl, (h1.trans h2).trans h3⟩
  · obtain ⟨g3, g4, g5, g6⟩ := g1 her
    subst g5
    simp only [List.length_nil] at hn
    subst hn
    have ne : (er != 0) = true := by rw [bne_iff_ne]; exact her
    have hz3 : decide ((0 : Int) ≤ p) = true := by rw [decide_eq_true_iff]; exact g3
    have hz4 : decide (p ≤ (a0.size : Int)) = true := by rw [decide_eq_true_iff]; exact g4
    clear hr hs hk g1 g2 T
    by_cases hf : f = 0
    · subst hf
      clear g6
      go_enter Tryd.func3, Tryd.ntmps3
      go_wp2_with (first
        | (go_at_call 7; (with_reducible refine AL.out.mono ?_); rintro e w1 ⟨rfl, h1⟩)
        | (go_at_call 8; (with_reducible refine (S1.out _ (OK.out _ h1)).mono ?_); rintro e w2 ⟨A1, c1, rfl, t1, h2⟩)
        | (go_at_call 9; (with_reducible refine (S2.out _ (EI.out.since (h1.trans h2))).mono ?_); rintro e w3 ⟨A2, c2, rfl, t2, h3⟩))
      go_ret
      exact ⟨rfl, (h1.trans h2).trans h3⟩
    · obtain rfl : f = er := by omega
      have nf : (f == 0) = false := by rw [beq_eq_false_iff_ne]; exact hf
      clear g6
      go_enter Tryd.func3, Tryd.ntmps3
      go_wp2_with (first
        | (go_at_call 7; (with_reducible refine AL.out.mono ?_); rintro e w1 ⟨rfl, h1⟩)
        | (go_at_call 8; (with_reducible refine (S1.out _ (OK.out _ h1)).mono ?_); rintro e w2 ⟨A1, c1, rfl, t1, h2⟩)
        | (go_at_call 9; (with_reducible refine (S2.out _ (EI.out.since (h1.trans h2))).mono ?_); rintro e w3 ⟨A2, c2, rfl, t2, h3⟩))
      go_ret
      exact ⟨rfl, (h1.trans h2).trans h3⟩
end Go.Proofs.YtgcfemnigpjadaaDoor.Law06
