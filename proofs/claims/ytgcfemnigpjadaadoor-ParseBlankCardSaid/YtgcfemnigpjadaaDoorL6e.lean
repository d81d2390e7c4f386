/- ParseBlank, if Text says what the document says. -/
import Derived.Test.YtgcfemnigpjadaaDoorL6o
import Derived.Test.YtgcfemnigpjadaaDoorL6s
import Derived.Test.YtgcfemnigpjadaaDoorVp
import Derived.Test.YtgcfemnigpjadaaDoorLxj
namespace Go.Proofs.YtgcfemnigpjadaaDoor.Law06
open Go.RowKit
set_option linter.unusedVariables false
set_option linter.unusedSimpArgs false
open Go.Proofs.YtgcfemnigpjadaaDoor.Dig Go.Proofs.YtgcfemnigpjadaaDoor.Lx Go.Proofs.YtgcfemnigpjadaaDoor.Tk Go.Proofs.YtgcfemnigpjadaaDoor.Ps Go.Proofs.YtgcfemnigpjadaaDoor.Ti
open Go.Proofs.YtgcfemnigpjadaaDoor.Lex (ErrIn)

set_option maxRecDepth 100000 in
set_option maxHeartbeats 4000000 in
theorem blank_any {Ok : World → Prop} (T : TextSays Ok) (a0 : ByteArray) (w : World) (ok : Ok w) (he : ErrIn w) : Calls Tryd.prog 5 #[.string a0] w fun e w' => e = .returned (.bool true) ∧ Since w w' := by
  have AL := Lib.hid (alive T w ok)
  have OK := Lib.hid (fun W (h : Since w W) => T.1 w W ok h)
  have EI := Lib.hid he
  clear he
  by_cases hbig : 1800 < a0.size
  · have hz : decide ((1800 : Int) < (a0.size : Int)) = true := by rw [decide_eq_true_iff]; omega
    go_enter Tryd.func5, Tryd.ntmps5
    go_wp2_with (go_at_call 7; (with_reducible refine AL.out.mono ?_); rintro e w1 ⟨rfl, h1⟩)
    go_ret
    exact ⟨rfl, h1⟩
  have hz : decide ((1800 : Int) < (a0.size : Int)) = false := by rw [decide_eq_false_iff_not]; omega
  obtain ⟨⟨l, p, er⟩, hr⟩ : ∃ r, textD a0 = r := ⟨_, rfl⟩
  obtain ⟨⟨o, q, f⟩, hs⟩ : ∃ r, splitD (L a0) = r := ⟨_, rfl⟩
  obtain ⟨n, hn⟩ : ∃ n, l.length = n := ⟨_, rfl⟩
  obtain ⟨k, hk⟩ : ∃ k, o.length = k := ⟨_, rfl⟩
  have S1 := Lib.hid (fun W (h : Ok W) => text_at T a0 (by omega) hr hn W h)
  have S2 := Lib.hid (fun W (h : ErrIn W) => split_at a0 (by omega) hs hk W h)
  by_cases hf : f = 0
  rotate_left
  · have e1 := text_bad hs hf
    rw [hr] at e1
    simp only [Prod.mk.injEq] at e1
    obtain ⟨-, -, rfl⟩ := e1
    have ne : (er != 0) = true := by rw [bne_iff_ne]; exact hf
    clear hr hs hn hk hf T
    go_enter Tryd.func5, Tryd.ntmps5
    go_wp2_with (first
      | (go_at_call 7; (with_reducible refine AL.out.mono ?_); rintro e w1 ⟨rfl, h1⟩)
      | (go_at_call 8; (with_reducible refine (S1.out _ (OK.out _ h1)).mono ?_); rintro e w2 ⟨A1, c1, rfl, t1, h2⟩)
      | (go_at_call 9; (with_reducible refine (S2.out _ (EI.out.since (h1.trans h2))).mono ?_); rintro e w3 ⟨A2, c2, rfl, t2, h3⟩))
    go_ret
    exact ⟨rfl, (h1.trans h2).trans h3⟩
  subst hf
  obtain ⟨z1, z2, p', hr2⟩ := text_blank (by omega) hs hr
  have hx := (split_lexes hs).2
  have hsz := tok_sizes (s := L a0) (by rw [L_len]; omega) (by rw [List.length_drop]; omega) hx
  have S3 := Lib.hid (fun W (h : Ok W) => text_at T (joinB (o.map tv)) (by omega) hr2 hn W h)
  have HJ := Lib.hid (fun W A c (h : Toks W (.slice A k c) (o.map tv)) => Lex.join_any (.slice A k c) (o.map tv) W h (by rw [List.length_map]; omega) hsz)
  obtain ⟨lb, hb⟩ := bd_text hr
  rw [hn] at lb
  have HB := Lib.hid hb
  have L1 := Lib.hid hn
  clear hr hs hr2 hn hk hx hsz z1 z2 hb T
  generalize joinB (o.map tv) = J at *
  generalize o.map tv = ts at *
  go_enter Tryd.func5, Tryd.ntmps5
  go_wp2_with (first
    | (go_at_call 7; (with_reducible refine AL.out.mono ?_); rintro e w1 ⟨rfl, h1⟩)
    | (go_at_call 8; (with_reducible refine (S1.out _ (OK.out _ h1)).mono ?_); rintro e w2 ⟨A1, c1, rfl, t1, h2⟩)
    | (go_at_call 9; (with_reducible refine (S2.out _ (EI.out.since (h1.trans h2))).mono ?_); rintro e w3 ⟨A2, c2, rfl, t2, h3⟩)
    | (go_at_call 12; (with_reducible refine (HJ.out _ A2 c2 t2).mono ?_); rintro e w4 ⟨rfl, h4⟩)
    | (go_at_call 8; (with_reducible refine (S3.out _ (OK.out _ (((h1.trans h2).trans h3).trans h4))).mono ?_); rintro e w5 ⟨A3, c3, rfl, t3, h5⟩)
    | (go_at_call 11; (with_reducible refine (ours_at A1 c1 n l _ noG (t1.since (stI _) ((h3.trans h4).trans h5)) (fun b hb => hb.elim) L1.out (by omega) HB.out).mono ?_); rintro e w6 ⟨B1, d1, cs1, rfl, q1, r1, h6⟩; have y1 := Sl.mono (fun x u => QI.none) (Sl.own q1 r1 L1.out.symm))
    | (go_at_call 11; (with_reducible refine (ours_at A3 c3 n l _ noG (t3.since (stI _) h6) (fun b hb => hb.elim) L1.out (by omega) HB.out).mono ?_); rintro e w7 ⟨B2, d2, cs2, rfl, q2, r2, h7⟩; have y2 := Sl.mono (fun x u => QI.none) (Sl.own q2 r2 L1.out.symm))
    | (go_at_call 10; (with_reducible refine (same_at B1 B2 n d1 d2 l _ (y1.since (stI _) h7) y2 (by omega) HB.out).mono ?_); rintro e w8 ⟨rfl, h8⟩))
  go_ret
  exact ⟨rfl, ((((((h1.trans h2).trans h3).trans h4).trans h5).trans h6).trans h7).trans h8⟩
end Go.Proofs.YtgcfemnigpjadaaDoor.Law06
