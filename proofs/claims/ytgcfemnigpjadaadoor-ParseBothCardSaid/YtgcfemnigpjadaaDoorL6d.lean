/- ParseBoth, if Text says what the document says. -/
import Derived.Test.YtgcfemnigpjadaaDoorL6o
namespace Go.Proofs.YtgcfemnigpjadaaDoor.Law06
open Go.RowKit
set_option linter.unusedVariables false
set_option linter.unusedSimpArgs false
open Go.Proofs.YtgcfemnigpjadaaDoor.Dig Go.Proofs.YtgcfemnigpjadaaDoor.Lx Go.Proofs.YtgcfemnigpjadaaDoor.Tk Go.Proofs.YtgcfemnigpjadaaDoor.Ps Go.Proofs.YtgcfemnigpjadaaDoor.Ti

set_option maxRecDepth 100000 in
set_option maxHeartbeats 4000000 in
theorem both_any {Ok : World → Prop} (T : TextSays Ok) (a0 a1 : ByteArray) (w : World) (ok : Ok w) : Calls Tryd.prog 4 #[.string a0, .string a1] w fun e w' => e = .returned (.bool true) ∧ Since w w' := by
  have AL := Lib.hid (alive T w ok)
  have OK := Lib.hid (fun W (h : Since w W) => T.1 w W ok h)
  by_cases hbig : 1800 < a0.size
  · have hz : decide ((1800 : Int) < (a0.size : Int)) = true := by rw [decide_eq_true_iff]; omega
    go_enter Tryd.func4, Tryd.ntmps4
    go_wp2_with (go_at_call 7; (with_reducible refine AL.out.mono ?_); rintro e w1 ⟨rfl, h1⟩)
    go_ret
    exact ⟨rfl, h1⟩
  have hz : decide ((1800 : Int) < (a0.size : Int)) = false := by rw [decide_eq_false_iff_not]; omega
  by_cases hbig2 : 1800 < a1.size
  · have hz2 : decide ((1800 : Int) < (a1.size : Int)) = true := by rw [decide_eq_true_iff]; omega
    go_enter Tryd.func4, Tryd.ntmps4
    go_wp2_with (go_at_call 7; (with_reducible refine AL.out.mono ?_); rintro e w1 ⟨rfl, h1⟩)
    go_ret
    exact ⟨rfl, h1⟩
  have hz2 : decide ((1800 : Int) < (a1.size : Int)) = false := by rw [decide_eq_false_iff_not]; omega
  have gg1 : ¬ (9223372036854775807 < a0.size + 1) := by omega
  have gg2 : ¬ (9223372036854775807 < a0.size + 1 + a1.size) := by omega
  obtain ⟨⟨l1, p1, e1⟩, hr1⟩ : ∃ r, textD a0 = r := ⟨_, rfl⟩
  obtain ⟨⟨l2, p2, e2⟩, hr2⟩ : ∃ r, textD a1 = r := ⟨_, rfl⟩
  obtain ⟨n1, hn1⟩ : ∃ n, l1.length = n := ⟨_, rfl⟩
  obtain ⟨n2, hn2⟩ : ∃ n, l2.length = n := ⟨_, rfl⟩
  have S1 := Lib.hid (fun W (h : Ok W) => text_at T a0 (by omega) hr1 hn1 W h)
  have S2 := Lib.hid (fun W (h : Ok W) => text_at T a1 (by omega) hr2 hn2 W h)
  by_cases hb : e1 ≠ 0 ∨ e2 ≠ 0
  · clear hr1 hr2 hn1 hn2 T
    by_cases h1 : e1 = 0
    · have ne1 : (e1 != 0) = false := by rw [bne_eq_false_iff_eq]; exact h1
      have ne2 : (e2 != 0) = true := by rw [bne_iff_ne]; omega
      clear hb h1
      go_enter Tryd.func4, Tryd.ntmps4
      go_wp2_with (first
        | (go_at_call 7; (with_reducible refine AL.out.mono ?_); rintro e w1 ⟨rfl, h1⟩)
        | (go_at_call 8; (with_reducible refine (S1.out _ (OK.out _ h1)).mono ?_); rintro e w2 ⟨A1, c1, rfl, t1, h2⟩)
        | (go_at_call 8; (with_reducible refine (S2.out _ (OK.out _ (h1.trans h2))).mono ?_); rintro e w3 ⟨A2, c2, rfl, t2, h3⟩))
      go_ret
      exact ⟨rfl, (h1.trans h2).trans h3⟩
    · have ne1 : (e1 != 0) = true := by rw [bne_iff_ne]; exact h1
      clear hb h1
      go_enter Tryd.func4, Tryd.ntmps4
      go_wp2_with (first
        | (go_at_call 7; (with_reducible refine AL.out.mono ?_); rintro e w1 ⟨rfl, h1⟩)
        | (go_at_call 8; (with_reducible refine (S1.out _ (OK.out _ h1)).mono ?_); rintro e w2 ⟨A1, c1, rfl, t1, h2⟩)
        | (go_at_call 8; (with_reducible refine (S2.out _ (OK.out _ (h1.trans h2))).mono ?_); rintro e w3 ⟨A2, c2, rfl, t2, h3⟩))
      go_ret
      exact ⟨rfl, (h1.trans h2).trans h3⟩
  obtain ⟨rfl, rfl⟩ : e1 = 0 ∧ e2 = 0 := by omega
  have hr3 := text_both (by omega) (by omega) hr1 hr2
  have S3 := Lib.hid (fun W (h : Ok W) => text_at T (a0 ++ ⟨#[10]⟩ ++ a1) (by rw [ByteArray.size_append, ByteArray.size_append]; have : ByteArray.size ⟨#[10]⟩ = 1 := rfl; omega) hr3 (n := n1 + n2) (by rw [List.length_append, hn1, hn2]) W h)
  obtain ⟨lb1, b1⟩ := bd_text hr1
  obtain ⟨lb2, b2⟩ := bd_text hr2
  obtain ⟨-, b3⟩ := bd_text hr3
  rw [hn1] at lb1
  rw [hn2] at lb2
  have L1 := Lib.hid hn1
  have L2 := Lib.hid hn2
  have L3 := Lib.hid (show (l1 ++ l2).length = n1 + n2 by rw [List.length_append, hn1, hn2])
  have HB1 := Lib.hid b1
  have HB2 := Lib.hid b2
  have HB3 := Lib.hid b3
  clear hr1 hr2 hr3 hn1 hn2 hb b1 b2 b3 T
  obtain ⟨i0, hi, hz0, hz1', hz2'⟩ := info_parts info_ritem
  go_enter Tryd.func4, Tryd.ntmps4
  go_wp2_with (first
    | (go_at_call 7; (with_reducible refine AL.out.mono ?_); rintro e w1 ⟨rfl, h1⟩)
    | (go_at_call 8; (with_reducible refine (S1.out _ (OK.out _ h1)).mono ?_); rintro e w2 ⟨A1, c1, rfl, t1, h2⟩)
    | (go_at_call 8; (with_reducible refine (S2.out _ (OK.out _ (h1.trans h2))).mono ?_); rintro e w3 ⟨A2, c2, rfl, t2, h3⟩)
    | (go_at_call 8; (with_reducible refine (S3.out _ (OK.out _ ((h1.trans h2).trans h3))).mono ?_); rintro e w4 ⟨A3, c3, rfl, t3, h4⟩)
    | (go_at_call 11; (with_reducible refine (ours_at A3 c3 (n1 + n2) (l1 ++ l2) _ noG t3 (fun b hb => hb.elim) L3.out (by omega) HB3.out).mono ?_); rintro e w5 ⟨B3, d3, cs3, rfl, q3, r3, h5⟩; have y3 := Sl.mono (fun x u => QI.none) (Sl.own q3 r3 L3.out.symm))
    | (go_at_call 11; (with_reducible refine (ours_at A1 c1 n1 l1 _ noG (t1.since (stI _) ((h3.trans h4).trans h5)) (fun b hb => hb.elim) L1.out (by omega) HB1.out).mono ?_); rintro e w6 ⟨B1, d1, cs1, rfl, q1, r1, h6⟩; have gsz := (h4.trans h5).size; have y2 : Sl 8 (QI (fun b => (Value.slice B1 n1 d1).ownBlock = some b)) w6 (.slice A2 n2 c2) l2 := (t2.mono (fun x u => QI.less (fun b hb => .inr (Nat.le_trans gsz (q1.lt b hb).1)))).since (stI _) ((h4.trans h5).trans h6))
    | (go_at_call 11; (with_reducible refine (ours_at A2 c2 n2 l2 _ (fun b => (Value.slice B1 n1 d1).ownBlock = some b) y2 (fun b hb => (q1.lt b hb).2) L2.out (by omega) HB2.out).mono ?_); rintro e w7 ⟨B2, d2, cs2, rfl, q2, r2, h7⟩)
    | (at_builtin; refine wpList_append_rows (by rfl) _ _ 32 rfl w5.heap.size 51 i0 (.agg #[.int .i64 0, .string ⟨#[]⟩, .bool false, .slice none 0 0, .int .i64 0, .bool false, .slice none 0 0, .int .i64 0]) 8 104 Tryd.underlying32 hi hz0 hz1' hz2' rfl (by decide) (.slice B1 n1 d1) n1 cs1 rfl (owns_since q1 h7) w6.heap.size 51 (.slice B2 n2 d2) n2 cs2 rfl q2 (Rws.one (fun x u h => QI.one h) r2) ?c1 ?c2 ?c3 ?_))
  case c1 => unfold maxLen; omega
  case c2 => omega
  case c3 => exact (h6.trans h7).size
  intro v' w8 ho8 hg8 hat
  have h8 : Since w5 w8 := Below.grown (h6.trans h7) hg8 (h6.trans h7).size (fun g hg => (q1.lt g hg).1)
  have rr : Rws 8 (QI noG w8) (l1 ++ l2) (cs1 ++ cs2) :=
    (((r1.since (stI _) h7).mono (fun x u => QI.less (G' := fun b => (Value.slice B1 n1 d1).ownBlock = some b) (fun b hb => .inl (.inr hb)))).append (r2.mono (fun x u => QI.less (fun b hb => .inl (.inl hb))))).mono (fun x u h => QI.grow hg8 (fun b hb => hb) (fun b hb => hb.elim) h)
  have y4 := Sl.own ho8 rr L3.out.symm
  obtain ⟨B4, d4, rfl⟩ := owns_slice ho8
  clear ho8 hg8 hat rr r1 r2 r3
  go_wp2_with (go_at_call 10; (with_reducible refine (same_at B3 B4 (n1 + n2) d3 d4 (l1 ++ l2) _ (y3.since (stI _) h8) y4 (by omega) HB3.out).mono ?_); rintro e w9 ⟨rfl, h9⟩)
  go_ret
  exact ⟨rfl, (((((h1.trans h2).trans h3).trans h4).trans h5).trans h8).trans h9⟩
end Go.Proofs.YtgcfemnigpjadaaDoor.Law06
